import PyProof.Rows.All
import Wide.All
import OpenK.AllK
import Wide.FinOn
import Lean
import PyProof.EqAt
import PyProof.EqKinds
import PyProof.TupleCall
import PyProof.AttrMissHeap
import KE.KDictOf
import PySem.Challenge.RW_enoughsaid_k05_plain_wishes_hold
set_option Elab.async false
set_option linter.all false
set_option maxRecDepth 100000
set_option maxHeartbeats 4000000
set_option synthInstance.maxHeartbeats 0
set_option synthInstance.maxSize 1000000
namespace L2
open PySem PySem.Spec PyProof.Rows
abbrev yF := Sum Int Str
def VW : yF -> Value -> Bool
  | .inl k, v => Value.isInt k v
  | .inr x, v => Value.isStrOf x v
def zo3 (w : World) : yF -> Int
  | .inl k => hashInt k
  | .inr x => hashStr w x
theorem yT : ∀ {k : yF} {v : Value}, VW k v = true -> (∃ i t, k = Sum.inl i /\ v = Value.int i t) \/ (∃ x t, k = Sum.inr x /\ v = Value.str x t)
  | .inl i, v, h => by
    obtain ⟨t, e⟩ := Value.isInt_shape (k := i) (v := v) h
    exact .inl ⟨i, t, rfl, e⟩
  | .inr x, v, h => by
    obtain ⟨t, e⟩ := Value.isStrOf_shape (x := x) (v := v) h
    exact .inr ⟨x, t, rfl, e⟩
theorem zbb (x : Str) (t : Tok) : VW (.inr x) (.str x t) = true := by simp [VW, Value.isStrOf]
theorem zl3 (a b : Int) : decide ((Sum.inl a : yF) = Sum.inl b) = (a == b) := by
  by_cases e : a = b
  · subst e; simp
  · have h : ¬ (Sum.inl a : yF) = Sum.inl b := fun q => e (Sum.inl.inj q)
    rw [decide_eq_false h]
    exact (beq_eq_false_iff_ne.mpr e).symm
theorem zl4 (a b : Str) : decide ((Sum.inr a : yF) = Sum.inr b) = decide (a = b) := by
  by_cases e : a = b
  · subst e; simp
  · have h : ¬ (Sum.inr a : yF) = Sum.inr b := fun q => e (Sum.inr.inj q)
    rw [decide_eq_false h, decide_eq_false e]
theorem zl5 (a : Int) (b : Str) : decide ((Sum.inl a : yF) = Sum.inr b) = false := decide_eq_false (fun q => nomatch q)
theorem zl6 (a : Str) (b : Int) : decide ((Sum.inr a : yF) = Sum.inl b) = false := decide_eq_false (fun q => nomatch q)
def yd (prog : Program) (w : World) : PySem.KeyKind prog w yF where
  is := VW
  hash := zo3 w
  inj := fun v a b ha hb => by
    rcases yT ha with ⟨i, t, rfl, rfl⟩ | ⟨x, t, rfl, rfl⟩
    · rcases yT hb with ⟨j, u, rfl, e⟩ | ⟨y, u, rfl, e⟩
      · injection e with e1 _; rw [e1]
      · exact nomatch e
    · rcases yT hb with ⟨j, u, rfl, e⟩ | ⟨y, u, rfl, e⟩
      · exact nomatch e
      · injection e with e1 _; rw [e1]
  byValue := fun k v h => by
    rcases yT h with ⟨i, t, rfl, rfl⟩ | ⟨x, t, rfl, rfl⟩ <;> rfl
  pyHash := fun hv h => by
    rcases yT hv with ⟨i, t, rfl, rfl⟩ | ⟨x, t, rfl, rfl⟩
    · exact wpAny_pyHash_int h
    · exact wpAny_pyHash_str h
  eqBool := fun hu hv h => by
    rcases yT hu with ⟨i, t, rfl, rfl⟩ | ⟨x, t, rfl, rfl⟩
    · rcases yT hv with ⟨j, u, rfl, rfl⟩ | ⟨y, u, rfl, rfl⟩
      · rw [zl3] at h; exact wpAny_eqBool_int h
      · rw [zl5] at h; exact SeqAt.EqAt.int_str i t y u _ _ _ _ h
    · rcases yT hv with ⟨j, u, rfl, rfl⟩ | ⟨y, u, rfl, rfl⟩
      · rw [zl6] at h; exact SeqAt.EqAt.str_int x t j u _ _ _ _ h
      · rw [zl4] at h; exact wpAny_eqBool_str h
  «strs» := fun k x t v h => by
    rcases yT h with ⟨i, u, rfl, e⟩ | ⟨y, u, rfl, e⟩
    · exact nomatch e
    · injection e with e1 _
      subst e1
      cases v <;> rfl
end L2
namespace L2
open PySem PySem.Spec PyProof.Rows
inductive V where
  | non | bl (b : Bool) | int (i : Int) | str (x : Str) | byt (b : Array UInt8) | flt (b : UInt64) | ref (a : Addr) | ty (n : String)
  deriving DecidableEq
def RelV : V -> Value -> Prop
  | .non, u => u = Value.none
  | .bl b, u => u = Value.bool b
  | .int i, u => ∃ t, u = Value.int i t
  | .str x, u => ∃ t, u = Value.str x t
  | .byt b, u => ∃ t, u = Value.bytes b t
  | .flt b, u => ∃ t, u = Value.float b t
  | .ref a, u => u = Value.ref a
  | .ty n, u => u = Value.type n
abbrev Vals : List V -> List Value -> Prop := Paired RelV
theorem Vals.length {xs : List V} {us : List Value} (r : Vals xs us) : xs.length = us.length := Paired.length r
theorem Vals.get : ∀ {xs : List V} {us : List Value} {i : Nat} {x : V}, Vals xs us -> xs[i]? = some x -> ∃ u, us[i]? = some u /\ RelV x u
  | _, _, _, _, .nil, e => by simp at e
  | _, _, 0, _, .cons r _, e => by simp at e; subst e; exact ⟨_, rfl, r⟩
  | _, _, i + 1, x, .cons _ t, e => by
    obtain ⟨u, h1, h2⟩ := Vals.get (i := i) (x := x) t (by simpa using e)
    exact ⟨u, by simpa using h1, h2⟩
theorem Vals.set {x : V} {u : Value} (r : RelV x u) : ∀ {xs : List V} {us : List Value} (i : Nat), Vals xs us -> Vals (xs.set i x) (us.set i u)
  | _, _, _, .nil => .nil
  | _, _, 0, .cons _ t => .cons r t
  | _, _, i + 1, .cons q t => .cons q (Vals.set r i t)
theorem Vals.append : ∀ {xs ys : List V} {us ws : List Value}, Vals xs us -> Vals ys ws -> Vals (xs ++ ys) (us ++ ws)
  | _, _, _, _, .nil, s => s
  | _, _, _, _, .cons r t, s => .cons r (Vals.append t s)
theorem Vals.take : ∀ {xs : List V} {us : List Value} (n : Nat), Vals xs us -> Vals (xs.take n) (us.take n)
  | _, _, 0, _ => .nil
  | _, _, _ + 1, .nil => .nil
  | _, _, n + 1, .cons r t => .cons r (Vals.take n t)
theorem Vals.drop : ∀ {xs : List V} {us : List Value} (n : Nat), Vals xs us -> Vals (xs.drop n) (us.drop n)
  | _, _, 0, r => r
  | _, _, _ + 1, .nil => .nil
  | _, _, n + 1, .cons _ t => Vals.drop n t
def RelO : Option V -> Option Value -> Prop
  | some v, some u => RelV v u
  | none, none => True
  | _, _ => False
def KV {κ : Type} : List (κ × V) -> List (κ × Value) -> Prop := Paired fun (p : κ × V) (q : κ × Value) => p.1 = q.1 /\ RelV p.2 q.2
def kV : yF -> V
  | .inl i => .int i
  | .inr x => .str x
inductive HO where
  | lst (xs : List V)
  | tup (xs : List V)
  | dK (kvs : List (yF × V)) | dT (kvs : List (List yF × V))
  | set (S : Int -> Bool) (n : Nat)
  | ins (C dx : Addr) (fs : List (Str × V))
  | own (x : Addr)
  | xd (fs : List (Str × V))
  | met (f x : Addr)
  | rng (lo hi : Int)
  | frz (o : Obj) (u : HO)
  | tbl (ps : Array Value)
  | ext (φ : Heap -> Prop)
abbrev Hp := Addr -> Option HO
def zX (H : Hp) (a : Addr) (o : HO) : Hp := fun b => if b = a then some o else H b
theorem je {H : Hp} {a : Addr} {o : HO} : zX H a o a = some o := by unfold zX; rw [if_pos rfl]
theorem zM {H : Hp} {a b : Addr} {o : HO} (h : b ≠ a) : zX H a o b = H b := by unfold zX; rw [if_neg h]
theorem zV {H : Hp} {a b : Addr} {o : HO} (h : H a = some o) (h' : H b = none) : a ≠ b := by
  intro e; subst e; rw [h] at h'; cases h'
section
variable (P : Program) (w : World)
def ObjOk (H : Hp) (h : Heap) (a : Addr) : HO -> Prop
  | .lst xs => xs.length <= sizeLine /\ ∃ (its : List Value) (n : Nat), Vals xs its /\ h.get? a = some { cls := .type "list", data := .seq its.toArray n }
  | .tup xs => xs.length <= sizeLine /\ ∃ its : List Value, Vals xs its /\ IsTup h a its.toArray
  | .dK kvs => kvs.length <= sizeLine /\ (a == sysModules) = false /\ ∃ vs, KV kvs vs /\ h.DictOf (yd P w) a vs
  | .dT kvs => kvs.length <= sizeLine /\ (a == sysModules) = false /\ ∃ xs : List (List yF × Addr × Value),
      Paired (fun (p : List yF × V) (q : List yF × Addr × Value) => p.1 = q.1 /\ H q.2.1 = some (.tup (p.1.map kV)) /\ RelV p.2 q.2.2) kvs xs /\
      ∃ o es ep, h.get? a = some o /\ o.ExactDict /\ o.data = .dict es ep /\ es.toList = xs.map (entryOfKey (tupleKind (yd P w))) /\ (xs.map (·.1)).Nodup
  | .set S n => h.SetOf (intKind P w) a S n
  | .ins C dx fs => H dx = some (.own a) /\ fs.length <= 1000 /\ dx ≠ a /\ h.get? a = some (PySem.W.instObj C dx) /\
      ∃ mA, h.Ns1 dx mA /\ (∀ f, RelO (fs.lookup f) (mA f)) /\ PySem.Within mA (fs.map (·.1))
  | .own _ => ∃ o, h.get? a = some o
  | .xd fs => ∃ mA, h.Ns1 a mA /\ ∀ f, RelO (fs.lookup f) (mA f)
  | .rng lo hi => ∃ t u v, h.get? a = some { cls := .type "range", data := .fields #[.int lo t, .int hi u, .int 1 v] }
  | .frz o u => h.get? a = some o /\ ObjOk H h a u
  | .tbl ps => h.get? a = some { cls := .none, data := .fields ps }
  | .met f x => h.get? a = some (PySem.W.methodObj (.ref f) (.ref x))
  | .ext φ => φ h /\ (∃ o, h.get? a = some o) /\ ∀ h1 h2 : Heap, φ h1 -> (∀ o, h1.get? a = some o -> h2.get? a = some o) -> φ h2
def HOk (H : Hp) (h : Heap) : Prop := ∀ a o, H a = some o -> ObjOk P w H h a o
end
section
variable {P : Program} {w : World} {H H' : Hp} {h h' : Heap} {a : Addr} {o : HO}
theorem ObjOk.lt (x : ObjOk P w H h a o) : a < h.objs.size := by
  cases o with
  | lst xs => obtain ⟨_, _, _, _, e⟩ := x; exact Heap.lt_size e
  | tup xs => obtain ⟨_, _, _, p⟩ := x; exact p.lt
  | dK kvs => obtain ⟨_, _, _, _, o, _, _, e, _⟩ := x; exact Heap.lt_size e
  | dT kvs => obtain ⟨_, _, _, _, o, _, _, e, _⟩ := x; exact Heap.lt_size e
  | set S n => obtain ⟨o, _, _, _, e, _⟩ := x; exact Heap.lt_size e
  | ins C dx fs => obtain ⟨_, _, _, e, _⟩ := x; exact Heap.lt_size e
  | own y => obtain ⟨_, e⟩ := x; exact Heap.lt_size e
  | xd fs => obtain ⟨_, ⟨_, _, _, e, _⟩, _⟩ := x; exact Heap.lt_size e
  | rng lo hi => obtain ⟨_, _, _, e⟩ := x; exact Heap.lt_size e
  | frz ob u => obtain ⟨e, _⟩ := x; exact Heap.lt_size e
  | tbl ps => exact Heap.lt_size (show h.get? a = some _ from x)
  | met f y => exact Heap.lt_size (show h.get? a = some _ from x)
  | ext φ => obtain ⟨_, ⟨_, e⟩, _⟩ := x; exact Heap.lt_size e
theorem Paired.mapP {α β : Type} {F G : α -> β -> Prop} : ∀ {l₁ : List α} {l₂ : List β}, Paired F l₁ l₂ -> (∀ a b, F a b -> G a b) -> Paired G l₁ l₂
  | _, _, .nil, _ => .nil
  | _, _, .cons r t, f => .cons (f _ _ r) (Paired.mapP t f)
theorem ObjOk.stay (x : ObjOk P w H h a o) (k : ∀ b u, (b = a \/ H b = some (.own a)) -> h.get? b = some u -> h'.get? b = some u)
    (ho : ∀ b, H b = some (.own a) -> H' b = some (.own a)) (ht : ∀ b xs, H b = some (.tup xs) -> H' b = some (.tup xs)) : ObjOk P w H' h' a o := by
  induction o with
  | lst xs => obtain ⟨z, its, n, r, e⟩ := x; exact ⟨z, its, n, r, k _ _ (.inl rfl) e⟩
  | tup xs => obtain ⟨z, its, r, ob, e, c⟩ := x; exact ⟨z, its, r, ob, k _ _ (.inl rfl) e, c⟩
  | dK kvs => obtain ⟨z, y, vs, r, ob, es, ep, e, c⟩ := x; exact ⟨z, y, vs, r, ob, es, ep, k _ _ (.inl rfl) e, c⟩
  | dT kvs =>
    obtain ⟨z, y, xs, r, ob, es, ep, e, c⟩ := x
    exact ⟨z, y, xs, Paired.mapP r fun p q z => ⟨z.1, ht _ _ z.2.1, z.2.2⟩, ob, es, ep, k _ _ (.inl rfl) e, c⟩
  | set S n => obtain ⟨ob, es, ep, t, e, c⟩ := x; exact ⟨ob, es, ep, t, k _ _ (.inl rfl) e, c⟩
  | ins C dx fs =>
    obtain ⟨d, z, ne, e, mA, ⟨od, es, ep, e2, c⟩, r⟩ := x
    exact ⟨ho _ d, z, ne, k _ _ (.inl rfl) e, mA, ⟨od, es, ep, k _ _ (.inr d) e2, c⟩, r⟩
  | own y => obtain ⟨ob, e⟩ := x; exact ⟨ob, k _ _ (.inl rfl) e⟩
  | xd fs => obtain ⟨mA, ⟨od, es, ep, e, c⟩, r⟩ := x; exact ⟨mA, ⟨od, es, ep, k _ _ (.inl rfl) e, c⟩, r⟩
  | rng lo hi => obtain ⟨t, u, v, e⟩ := x; exact ⟨t, u, v, k _ _ (.inl rfl) e⟩
  | frz ob u ih => obtain ⟨e, q⟩ := x; exact ⟨k _ _ (.inl rfl) e, ih q⟩
  | tbl ps =>
    have e : h.get? a = some { cls := .none, data := .fields ps } := x
    show h'.get? a = some { cls := .none, data := .fields ps }
    exact k a _ (.inl rfl) e
  | met f y =>
    have e : h.get? a = some (PySem.W.methodObj (.ref f) (.ref y)) := x
    show h'.get? a = some (PySem.W.methodObj (.ref f) (.ref y))
    exact k a _ (.inl rfl) e
  | ext φ => obtain ⟨p, ⟨o, e⟩, st⟩ := x; exact ⟨st _ _ p fun o q => k _ _ (.inl rfl) q, ⟨o, k _ _ (.inl rfl) e⟩, st⟩
theorem HOk.lt (x : HOk P w H h) (e : H a = some o) : a < h.objs.size := (x a o e).lt
theorem HOk.fresh (x : HOk P w H h) (e : h.objs.size <= a) : H a = none := by
  cases q : H a with
  | none => rfl
  | some u => exact absurd (Nat.lt_of_lt_of_le (x.lt q) e) (Nat.lt_irrefl _)
theorem HOk.kept (x : HOk P w H h) (k : ∀ b u, h.get? b = some u -> h'.get? b = some u) : HOk P w H h' := fun a o e =>
  (x a o e).stay (fun b u _ q => k b u q) (fun _ q => q) fun _ _ q => q
theorem HOk.laid (x : HOk P w H h) (k : ∀ b u, h.get? b = some u -> h'.get? b = some u) (hp : h.objs.size <= a) (new : ObjOk P w (zX H a o) h' a o) : HOk P w (zX H a o) h' := fun b u e => by
  have hn := x.fresh hp
  by_cases hb : b = a
  · subst hb; rw [je] at e; cases e; exact new
  · rw [zM hb] at e
    exact (x b u e).stay (fun c v _ q => k c v q) (fun c q => by rw [zM (zV q hn)]; exact q) fun c xs q => by rw [zM (zV q hn)]; exact q
end
def Rd (H : Hp) (a : Addr) (u : HO) : Prop := H a = some u \/ ∃ o, H a = some (.frz o u)
theorem Rd.ok {P : Program} {w : World} {H : Hp} {h : Heap} {a : Addr} {u : HO} (r : Rd H a u) (x : HOk P w H h) : ObjOk P w H h a u := by
  rcases r with r | ⟨o, r⟩
  · exact x a u r
  · obtain ⟨_, q⟩ := x a _ r
    exact q
def Mut : Option HO -> Prop
  | some (.lst _) => True
  | some (.dK _) => True
  | some (.dT _) => True
  | some (.set _ _) => True
  | some (.ins _ _ _) => True
  | some (.ext _) => True
  | _ => False
section
variable {P : Program} {w : World} {H : Hp} {h h' : Heap} {x e : Addr} {o' : HO}
theorem HOk.write (ok : HOk P w H h) (mu : Mut (H x)) (he : e = x \/ H e = some (.own x)) (k : ∀ b u, b ≠ e -> h.get? b = some u -> h'.get? b = some u) (heo : ∃ u, h'.get? e = some u)
    (new : ObjOk P w (zX H x o') h' x o') : HOk P w (zX H x o') h' := fun b u q => by
  have nown : ∀ c y, H c = some (.own y) -> c ≠ x := fun c y r z => by subst z; rw [r] at mu; exact mu
  have ntup : ∀ c xs, H c = some (.tup xs) -> c ≠ x := fun c xs r z => by subst z; rw [r] at mu; exact mu
  by_cases hb : b = x
  · subst hb; rw [je] at q; cases q; exact new
  · rw [zM hb] at q
    by_cases hbe : b = e
    · have q' : H b = some (.own x) := by
        rcases he with z | z
        · exact absurd (hbe.trans z) hb
        · rw [hbe]; exact z
      rw [q] at q'; cases q'
      obtain ⟨v, hv⟩ := heo
      exact ⟨v, by rw [hbe]; exact hv⟩
    · refine (ok b u q).stay (fun c v hc r => k c v ?_ r) (fun c r => by rw [zM (nown c b r)]; exact r) fun c xs r => by rw [zM (ntup c xs r)]; exact r
      rcases hc with rfl | hc
      · exact hbe
      · rintro rfl
        rcases he with z | z
        · exact nown c b hc z
        · rw [hc] at z; cases z; exact hb rfl
end
structure Un (fs ex : List Addr) (H H' : Hp) (h h' : Heap) : Prop where
  keep : ∀ b o, h.get? b = some o -> H b = none -> b ∉ fs -> b ∉ ex -> h'.get? b = some o
  slot : ∀ b o, h.get? b = some o -> H b = none -> b ∈ fs -> b ∉ ex -> ∃ sl, h'.get? b = some { o with slots := sl }
  free : ∀ b o, h.get? b = some o -> H b = none -> b ∉ ex -> H' b = none
  there : ∀ b o, h.get? b = some o -> b ∉ ex -> ∃ o', h'.get? b = some o'
  tups : ∀ b xs, H b = some (.tup xs) -> H' b = some (.tup xs)
  frzs : ∀ b o u, H b = some (.frz o u) -> H' b = some (.frz o u)
  tbls : ∀ b ps, H b = some (.tbl ps) -> ∃ more, H' b = some (.tbl (ps ++ more))
section
variable {fs fs' ex ex' : List Addr} {H H1 H2 : Hp} {h h1 h2 h' : Heap} {a x e : Addr} {o : HO}
theorem Un.any (u : Un fs ex H H1 h h1) {b : Addr} {ob : Obj} (q : h.get? b = some ob) (n : H b = none) (hx : b ∉ ex) : ∃ sl, h1.get? b = some { ob with slots := sl } := by
  by_cases hb : b ∈ fs
  · exact u.slot b ob q n hb hx
  · exact ⟨ob.slots, u.keep b ob q n hb hx⟩
theorem Un.kept (k : ∀ b u, h.get? b = some u -> h'.get? b = some u) : Un fs ex H H h h' :=
  ⟨fun b ob q _ _ _ => k b ob q, fun b ob q _ _ _ => ⟨ob.slots, k b ob q⟩, fun _ _ _ n _ => n, fun b ob q _ => ⟨ob, k b ob q⟩, fun _ _ q => q, fun _ _ _ q => q, fun _ ps q => ⟨#[], by rw [q]; simp⟩⟩
theorem Un.refl : Un fs ex H H h h := Un.kept fun _ _ q => q
theorem Un.laid (k : ∀ b u, h.get? b = some u -> h'.get? b = some u) (hp : h.objs.size <= a) (hn : H a = none) : Un fs ex H (zX H a o) h h' where
  keep := fun b u q _ _ _ => k b u q
  slot := fun b u q _ _ _ => ⟨u.slots, k b u q⟩
  free := fun b u q n _ => by rw [zM (Nat.ne_of_lt (Nat.lt_of_lt_of_le (Heap.lt_size q) hp))]; exact n
  there := fun b u q _ => ⟨u, k b u q⟩
  tups := fun b xs q => by rw [zM (zV q hn)]; exact q
  frzs := fun b u xs q => by rw [zM (zV q hn)]; exact q
  tbls := fun b ps q => ⟨#[], by rw [zM (zV q hn), q]; simp⟩
theorem Un.write (mu : Mut (H x)) (he : e = x \/ H e = some (.own x)) (k : ∀ b u, b ≠ e -> h.get? b = some u -> h'.get? b = some u) (heo : ∃ u, h'.get? e = some u) : Un fs ex H (zX H x o) h h' := by
  have hx : ∀ b, H b = none -> b ≠ x := fun b n z => by subst z; rw [n] at mu; exact mu
  have hb : ∀ b, H b = none -> b ≠ e := fun b n z => by
    subst z
    rcases he with r | r
    · exact hx b n r
    · rw [n] at r; cases r
  have hm : ∀ b u, H b = some u -> ¬ Mut (some u) -> b ≠ x := fun b u q nm z => by subst z; rw [q] at mu; exact nm mu
  refine ⟨fun b u q n _ _ => k b u (hb b n) q, fun b u q n _ _ => ⟨u.slots, k b u (hb b n) q⟩, fun b u q n _ => by rw [zM (hx b n)]; exact n, fun b u q _ => ?_,
    fun b xs q => by rw [zM (hm b _ q fun z => z)]; exact q, fun b u xs q => by rw [zM (hm b _ q fun z => z)]; exact q, fun b ps q => ⟨#[], by rw [zM (hm b _ q fun z => z), q]; simp⟩⟩
  by_cases hbe : b = e
  · subst hbe; exact heo
  · exact ⟨u, k b u hbe q⟩
end
def trk (h : Heap) (H : Hp) : List Addr := (List.range h.objs.size).filter fun a => (H a).isSome
def Uc (h : Heap) (H : Hp) : Heap := PySem.W.hideAll h (trk h H)
theorem zgM (h : Heap) (H : Hp) : (Uc h H).objs.size = h.objs.size := PySem.W.hideAll_size _ _
theorem zit {h : Heap} {H : Hp} {b : Addr} {o : Obj} (e : h.get? b = some o) (n : H b = none) : (Uc h H).get? b = some o :=
  PySem.W.hideAll_get _ e fun hm => by
    have q : (H b).isSome = true := (List.mem_filter.mp hm).2
    rw [n] at q; simp at q
theorem zkM {h : Heap} {H : Hp} {b : Addr} {o : Obj} (e : (Uc h H).get? b = some o) : h.get? b = some o /\ H b = none := by
  have e' : h.get? b = some o := PySem.W.of_hideAll (trk h H) e
  refine ⟨e', ?_⟩
  cases q : H b with
  | none => rfl
  | some x =>
    have hm : b ∈ trk h H := List.mem_filter.mpr ⟨List.mem_range.mpr (Heap.lt_size e'), by simp [q]⟩
    have z : (Uc h H).get? b = none := PySem.W.hideAll_none (trk h H) hm
    rw [z] at e; cases e
def zkN (g h : Heap) (L : Addr) : List (Addr × Obj) := (List.range h.objs.size).filterMap fun a => if a = L \/ (g.get? a).isSome = true then none else (h.get? a).map fun o => (a, o)
def rest (g h : Heap) (L d : Addr) : List (Addr × Obj) := (zkN g h L).filter fun p => decide (p.1 ≠ d)
end L2
namespace L2
open PySem PySem.Spec PyProof.Rows
structure Mod (K : PySem.W.Frag) (mg : Str -> Option Value) (base : Heap) : Prop where
  kin : K.In base
  glob : base.Ns mainGlobals mg
  blt : ∃ mb, base.Ns builtinsNs mb /\ ∀ x : Str, x ≠ "__name__" -> mb x = bootBuiltins x
  nolimit : base.NoLimit
structure Cx where
  prog : Program
  w : World
  K : PySem.W.Frag
  mg : Str -> Option Value
  base : Heap
  A : Around
  N : List Str
  s₀ : Shared
  H₀ : Hp
  env : Env
  outer : List Env
  stack : List Env
  ex : List Addr
  fn : Str -> Bool
  calm : Bool
  pn : List (Addr × Obj)
  xe : Value -> Shared -> Prop
def U5 (l : List Env) : List Addr := l.filterMap (·.frame)
abbrev Cx.fs (X : Cx) : List Addr := U5 X.outer
def ZN (sc : Scope) (x : Str) : Prop := sc.names.lookup x = some .local \/ sc.names.lookup x = some .cell \/ sc.names.lookup x = some .free
def Loc (sc : Scope) (x : Str) : Prop := sc.names.lookup x = some .local \/ sc.names.lookup x = some .cell
def zo4 (env : Env) (h : Heap) (m : Str -> Option Value) (x : Str) (u : Value) : Prop :=
  (env.kindOf x = some .local /\ m x = some u) \/ ((env.kindOf x = some .cell \/ env.kindOf x = some .free) /\ ∃ c, env.cells.lookup x = some c /\ h.IsCell c (some u))
structure Cx.Ok (X : Cx) : Prop where
  mod : Mod X.K X.mg X.base
  kind : X.env.scope.kind = .function
  glob : X.env.globals = mainGlobals
  blt : X.env.builtins = builtinsNs
  above : X.s₀.heap.objs.size <= X.env.locals
  inj : ∀ x y c, X.env.cells.lookup x = some c -> X.env.cells.lookup y = some c -> x = y
  has : ∀ x, (X.env.kindOf x = some .cell \/ X.env.kindOf x = some .free) -> ∃ c, X.env.cells.lookup x = some c
  cab : ∀ x c, X.fn x = true -> X.env.cells.lookup x = some c -> X.s₀.heap.objs.size <= c
  hd : X.calm = true -> X.A.handled = none
  frames : X.A.frames = some X.stack
  stk : X.stack = X.outer \/ (X.stack = X.env :: X.outer /\ X.env.frame = some X.env.locals)
  exf : ∀ b ∈ X.ex, b ≠ X.env.locals /\ ∀ x c, X.env.cells.lookup x = some c -> c ≠ b
  bs : ∀ b o, X.base.get? b = some o -> X.s₀.heap.get? b = some o /\ X.H₀ b = none
  bsz : X.base.objs.size <= X.s₀.heap.objs.size
  noex : ∀ b o, X.base.get? b = some o -> b ∉ X.ex
  exfs : ∀ b ∈ X.ex, b ∉ X.fs
  funs : X.s₀.heap.FunFrames X.base X.outer
  frf : ∀ b ∈ X.fs, X.H₀ b = none
structure Inv (X : Cx) (pins : List (Addr × Obj)) (σ : List (Option V)) (H : Hp) (s : Shared) : Prop where
  ok : X.Ok
  os : s.os = X.s₀.os
  bare : AllBare s.gens
  base : Un X.fs X.ex X.H₀ H X.s₀.heap s.heap
  loc : ∃ m, s.heap.Ns X.env.locals m /\ ∀ (i : Nat) (x : Str) (v : V), X.N[i]? = some x -> σ[i]? = some (some v) -> ZN X.env.scope x -> ∃ u, RelV v u /\ zo4 X.env s.heap m x u
  cell : ∀ x c, X.env.cells.lookup x = some c -> ∃ v, s.heap.IsCell c v
  free : H X.env.locals = none
  freeC : ∀ x c, X.env.cells.lookup x = some c -> H c = none
  pin : ∀ p ∈ X.pn ++ pins, s.heap.get? p.1 = some p.2 /\ H p.1 = none /\ p.1 ≠ X.env.locals /\ p.1 ∉ X.fs /\ ∀ v, p.2.data ≠ .cell v
  hok : HOk X.prog X.w H s.heap
  len : σ.length = X.N.length
section
variable {X : Cx} {pins : List (Addr × Obj)} {σ : List (Option V)} {H H' : Hp} {s : Shared} {h' : Heap}
theorem Cx.Ok.nofr (ok : X.Ok) {b : Addr} {o : Obj} (e : X.base.get? b = some o) : b ∉ X.fs := fun hb => by
  have := (ok.funs.mem hb).1
  rw [e] at this; cases this
theorem Inv.bs (I : Inv X pins σ H s) : ∀ b o, X.base.get? b = some o -> s.heap.get? b = some o /\ H b = none := fun b o e =>
  ⟨I.base.keep b o (I.ok.bs b o e).1 (I.ok.bs b o e).2 (I.ok.nofr e) (I.ok.noex b o e), I.base.free b o (I.ok.bs b o e).1 (I.ok.bs b o e).2 (I.ok.noex b o e)⟩
theorem Inv.bk (I : Inv X pins σ H s) : ∀ b o, X.base.get? b = some o -> s.heap.get? b = some o := fun b o e => (I.bs b o e).1
theorem Inv.mod (I : Inv X pins σ H s) : Mod X.K X.mg X.base := I.ok.mod
theorem Inv.kIn (I : Inv X pins σ H s) : X.K.In s.heap := I.ok.mod.kin.keeps I.bk
theorem Inv.lt (I : Inv X pins σ H s) : X.env.locals < s.heap.objs.size := let ⟨_, hn, _⟩ := I.loc; hn.lt
theorem Inv.sz (I : Inv X pins σ H s) : X.s₀.heap.objs.size <= s.heap.objs.size := Nat.le_trans I.ok.above (Nat.le_of_lt I.lt)
theorem Inv.nofs (I : Inv X pins σ H s) {a : Addr} (h : s.heap.objs.size <= a) : a ∉ X.fs := fun hb => by
  obtain ⟨_, o, ho, _⟩ := I.ok.funs.mem hb
  exact absurd (Nat.lt_of_lt_of_le (Heap.lt_size ho) (Nat.le_trans I.sz h)) (Nat.lt_irrefl _)
theorem Inv.cne (I : Inv X pins σ H s) : ∀ x c, X.env.cells.lookup x = some c -> c ≠ X.env.locals := fun x c e z => by
  obtain ⟨v, o, ho, hd⟩ := I.cell x c e
  obtain ⟨m, ⟨o', es, ep, ho', hd', _⟩, _⟩ := I.loc
  rw [z, ho'] at ho; cases ho; rw [hd'] at hd; cases hd
theorem Inv.funs (I : Inv X pins σ H s) : s.heap.FunFrames X.base X.outer := by
  have all : ∀ (l : List Env), (∀ b ∈ U5 l, b ∈ X.fs) -> X.s₀.heap.FunFrames X.base l -> s.heap.FunFrames X.base l := by
    intro l
    induction l with
    | nil => intro _ _; trivial
    | cons env r ih =>
      intro hs hl
      obtain ⟨hk, ⟨L, o, hf, hn, ho, hd⟩, hr⟩ := hl
      have hL : L ∈ X.fs := hs L (by unfold U5; rw [List.filterMap_cons, hf]; exact List.mem_cons_self)
      obtain ⟨sl, e⟩ := I.base.slot L o ho (I.ok.frf L hL) hL fun z => I.ok.exfs L z hL
      exact ⟨hk, ⟨L, _, hf, hn, e, hd⟩, ih (fun b hb => hs b (by unfold U5; rw [List.filterMap_cons, hf]; exact List.mem_cons_of_mem _ hb)) hr⟩
  exact all X.outer (fun _ hb => hb) I.ok.funs
theorem Inv.stack (I : Inv X pins σ H s) : s.heap.FunFrames X.base X.stack := by
  rcases I.ok.stk with e | ⟨e, hf⟩
  · rw [e]; exact I.funs
  · rw [e]
    obtain ⟨m, hn, _⟩ := I.loc
    refine .cons (by rw [I.ok.kind]; decide) hf hn ?_ I.funs
    exact Heap.get?_none_of_le (Nat.le_trans I.ok.bsz I.ok.above)
theorem Inv.stkSub (I : Inv X pins σ H s) : ∀ b ∈ U5 X.stack, b ∈ X.env.locals :: X.fs := fun b hb => by
  rcases I.ok.stk with e | ⟨e, hf⟩
  · rw [e] at hb; exact List.mem_cons_of_mem _ hb
  · rw [e] at hb
    unfold U5 at hb
    rw [List.filterMap_cons, hf] at hb
    exact hb
theorem Inv.stkFree (I : Inv X pins σ H s) : ∀ b ∈ U5 X.stack, H b = none := fun b hb => by
  rcases List.mem_cons.mp (I.stkSub b hb) with e | hb
  · rw [e]; exact I.free
  · obtain ⟨_, o, ho, _⟩ := I.ok.funs.mem hb
    exact I.base.free b o ho (I.ok.frf b hb) fun z => I.ok.exfs b z hb
theorem Inv.step {g' : Array GenState} {t' : Nat} {d' : Drawn} {ch : List Addr} (I : Inv X pins σ H s)
    (hch : ∀ b ∈ ch, (b ∈ X.ex \/ X.s₀.heap.objs.size <= b) /\ b ≠ X.env.locals /\ (∀ x c, X.env.cells.lookup x = some c -> c ≠ b) /\ ∀ p ∈ X.pn ++ pins, p.1 ≠ b)
    (keep : ∀ b o, b ≠ X.env.locals -> b ∉ X.fs -> b ∉ ch -> s.heap.get? b = some o -> H b = none -> h'.get? b = some o)
    (slot : ∀ b o, b ≠ X.env.locals -> b ∈ X.fs -> b ∉ ch -> s.heap.get? b = some o -> H b = none -> ∃ sl, h'.get? b = some { o with slots := sl }) (free : ∀ b o, b ∉ ch -> s.heap.get? b = some o -> H b = none -> H' b = none)
    (there : ∀ b o, b ∉ ch -> s.heap.get? b = some o -> ∃ o', h'.get? b = some o')
    (tups : ∀ b xs, H b = some (.tup xs) -> H' b = some (.tup xs)) (frzs : ∀ b o u, H b = some (.frz o u) -> H' b = some (.frz o u)) (tbls : ∀ b ps, H b = some (.tbl ps) -> ∃ more, H' b = some (.tbl (ps ++ more)))
    (ns : ∀ m, s.heap.Ns X.env.locals m -> h'.Ns X.env.locals m) (hok : HOk X.prog X.w H' h') (hg : AllBare g') :
    Inv X pins σ H' { s with heap := h', gens := g', drawn := d', toks := t' } := by
  have neL : ∀ b o, X.s₀.heap.get? b = some o -> b ≠ X.env.locals := fun b o e => Nat.ne_of_lt (Nat.lt_of_lt_of_le (Heap.lt_size e) I.ok.above)
  have neC : ∀ b o, X.s₀.heap.get? b = some o -> b ∉ X.ex -> b ∉ ch := fun b o e hx hb => by
    rcases (hch b hb).1 with z | z
    · exact hx z
    · exact absurd (Nat.lt_of_lt_of_le (Heap.lt_size e) z) (Nat.lt_irrefl _)
  have cellK : ∀ x c, X.env.cells.lookup x = some c -> ∀ v, s.heap.IsCell c v -> h'.IsCell c v := fun x c e v ⟨o, ho, hd⟩ => by
    have nch : c ∉ ch := fun z => (hch c z).2.2.1 x c e rfl
    by_cases hc : c ∈ X.fs
    · obtain ⟨sl, q⟩ := slot c o (I.cne x c e) hc nch ho (I.freeC x c e)
      exact ⟨_, q, hd⟩
    · exact ⟨o, keep c o (I.cne x c e) hc nch ho (I.freeC x c e), hd⟩
  refine ⟨I.ok, I.os, hg, ⟨fun b o e n hb hx => ?_, fun b o e n hb hx => ?_, fun b o e n hx => ?_, fun b o e hx => ?_, fun b xs e => tups b xs (I.base.tups b xs e), fun b o xs e => frzs b o xs (I.base.frzs b o xs e), fun b ps e => ?_⟩, ?_, fun x c e => ?_, ?_, fun x c e => ?_, fun p hp => ?_, hok, I.len⟩
  · exact keep b o (neL b o e) hb (neC b o e hx) (I.base.keep b o e n hb hx) (I.base.free b o e n hx)
  · obtain ⟨sl, e1⟩ := I.base.slot b o e n hb hx
    obtain ⟨sl', e2⟩ := slot b _ (neL b o e) hb (neC b o e hx) e1 (I.base.free b o e n hx)
    exact ⟨sl', e2⟩
  · obtain ⟨o', e1⟩ := I.base.there b o e hx
    exact free b o' (neC b o e hx) e1 (I.base.free b o e n hx)
  · obtain ⟨o', e1⟩ := I.base.there b o e hx
    exact there b o' (neC b o e hx) e1
  · obtain ⟨m1, e1⟩ := I.base.tbls b ps e
    obtain ⟨m2, e2⟩ := tbls b _ e1
    exact ⟨m1 ++ m2, by rw [e2, Array.append_assoc]⟩
  · obtain ⟨m, hn, hl⟩ := I.loc
    refine ⟨m, ns m hn, fun i x v e1 e2 e3 => ?_⟩
    obtain ⟨u, r, l⟩ := hl i x v e1 e2 e3
    refine ⟨u, r, ?_⟩
    rcases l with l | ⟨k, c, e, z⟩
    · exact .inl l
    · exact .inr ⟨k, c, e, cellK x c e _ z⟩
  · obtain ⟨v, z⟩ := I.cell x c e
    exact ⟨v, cellK x c e v z⟩
  · obtain ⟨m, ⟨o, _, _, ho, _⟩, _⟩ := I.loc
    exact free _ o (fun z => (hch _ z).2.1 rfl) ho I.free
  · obtain ⟨v, o, ho, hd⟩ := I.cell x c e
    exact free c o (fun z => (hch c z).2.2.1 x c e rfl) ho (I.freeC x c e)
  · obtain ⟨e, n, ne, nf, d⟩ := I.pin p hp
    have nch : p.1 ∉ ch := fun z => (hch p.1 z).2.2.2 p hp rfl
    exact ⟨keep p.1 p.2 ne nf nch e n, free p.1 p.2 nch e n, ne, nf, d⟩
theorem Inv.un {t' : Nat} (I : Inv X pins σ H s) (u : Un X.fs [] H H' s.heap h') (hok : HOk X.prog X.w H' h') : Inv X pins σ H' { s with heap := h', toks := t' } := by
  obtain ⟨m, ⟨o, es, ep, ho, r⟩, _⟩ := id I.loc
  obtain ⟨sl, hL⟩ := u.any ho I.free (by simp)
  exact I.step (g' := s.gens) (d' := s.drawn) (ch := []) (fun _ z => nomatch z) (fun b o _ hb _ e n => u.keep b o e n hb (by simp)) (fun b o _ hb _ e n => u.slot b o e n hb (by simp)) (fun b o _ e n => u.free b o e n (by simp)) (fun b o _ e => u.there b o e (by simp)) u.tups u.frzs u.tbls (fun m' hm => by
    obtain ⟨o', es', ep', ho', r'⟩ := hm
    rw [ho] at ho'; cases ho'
    exact ⟨_, es', ep', hL, r'⟩) hok I.bare
theorem Inv.call {g' : Array GenState} {t' : Nat} {d' : Drawn} {ch : List Addr} (I : Inv X pins σ H s) (u : Un (U5 X.stack) ch H H' s.heap h') (hok : HOk X.prog X.w H' h') (hg : AllBare g')
    (hch : ∀ b ∈ ch, (b ∈ X.ex \/ X.s₀.heap.objs.size <= b) /\ b ≠ X.env.locals /\ (∀ x c, X.env.cells.lookup x = some c -> c ≠ b) /\ ∀ p ∈ X.pn ++ pins, p.1 ≠ b) :
    Inv X pins σ H' { s with heap := h', gens := g', drawn := d', toks := t' } := by
  obtain ⟨m, ⟨o, es, ep, ho, r⟩, _⟩ := id I.loc
  obtain ⟨sl, hL⟩ := u.any ho I.free fun z => (hch _ z).2.1 rfl
  exact I.step (ch := ch) hch (fun b o hL hb hc e n => u.keep b o e n (fun z => (List.mem_cons.mp (I.stkSub b z)).elim hL hb) hc) (fun b o _ _ hc e n => u.any e n hc) (fun b o hc e n => u.free b o e n hc) (fun b o hc e => u.there b o e hc) u.tups u.frzs u.tbls (fun m' hm => by
    obtain ⟨o', es', ep', ho', r'⟩ := hm
    rw [ho] at ho'; cases ho'
    exact ⟨_, es', ep', hL, r'⟩) hok hg
theorem Inv.turned {t' : Nat} {it : Addr} (I : Inv X pins σ H s) (k : ∀ b o, b ≠ it -> s.heap.get? b = some o -> h'.get? b = some o) (hn : H it = none) (hL : it ≠ X.env.locals)
    (h1 : it ∈ X.ex \/ X.s₀.heap.objs.size <= it) (h2 : ∀ x c, X.env.cells.lookup x = some c -> c ≠ it) (h3 : ∀ p ∈ X.pn ++ pins, p.1 ≠ it) : Inv X pins σ H { s with heap := h', toks := t' } := by
  have nit : ∀ b u, H b = some u -> b ≠ it := fun b u e z => by rw [z, hn] at e; cases e
  refine I.step (g' := s.gens) (d' := s.drawn) (ch := [it]) (fun b hb => ?_) (fun b o _ _ hc e _ => k b o (fun z => hc (by simp [z])) e) (fun b o _ _ hc e _ => ⟨o.slots, k b o (fun z => hc (by simp [z])) e⟩) (fun _ _ _ _ n => n)
    (fun b o hc e => ⟨o, k b o (fun z => hc (by simp [z])) e⟩) (fun _ _ e => e) (fun _ _ _ e => e) (fun b ps e => ⟨#[], by rw [e]; simp⟩) (fun m hm => ?_) (fun b u e => ?_) I.bare
  · have e : b = it := by simpa using hb
    subst e
    exact ⟨h1, hL, h2, h3⟩
  · obtain ⟨o, es, ep, ho, r⟩ := hm
    exact ⟨o, es, ep, k _ o (Ne.symm hL) ho, r⟩
  · refine (I.hok b u e).stay (fun c v hc q => k c v ?_ q) (fun _ q => q) fun _ _ q => q
    rcases hc with z | z
    · rw [z]; exact nit b u e
    · exact nit c _ z
theorem Inv.tok (I : Inv X pins σ H s) (t : Nat) : Inv X pins σ H { s with toks := t } := I.un (h' := s.heap) (t' := t) Un.refl I.hok
theorem Inv.kept {t' : Nat} (I : Inv X pins σ H s) (k : ∀ b u, s.heap.get? b = some u -> h'.get? b = some u) : Inv X pins σ H { s with heap := h', toks := t' } := I.un (Un.kept k) (I.hok.kept k)
theorem Inv.laid {a : Addr} {o : HO} {t' : Nat} (I : Inv X pins σ H s) (k : ∀ b u, s.heap.get? b = some u -> h'.get? b = some u) (hp : s.heap.objs.size <= a) (new : ObjOk X.prog X.w (zX H a o) h' a o) :
    Inv X pins σ (zX H a o) { s with heap := h', toks := t' } := I.un (Un.laid k hp (I.hok.fresh hp)) (I.hok.laid k hp new)
theorem Inv.write {x e : Addr} {o : HO} {t' : Nat} (I : Inv X pins σ H s) (mu : Mut (H x)) (he : e = x \/ H e = some (.own x)) (k : ∀ b u, b ≠ e -> s.heap.get? b = some u -> h'.get? b = some u) (heo : ∃ u, h'.get? e = some u)
    (new : ObjOk X.prog X.w (zX H x o) h' x o) : Inv X pins σ (zX H x o) { s with heap := h', toks := t' } := I.un (Un.write mu he k heo) (I.hok.write mu he k heo new)
theorem Inv.pins_of {pins' : List (Addr × Obj)} (I : Inv X pins σ H s) (h : ∀ p ∈ pins', s.heap.get? p.1 = some p.2 /\ H p.1 = none /\ p.1 ≠ X.env.locals /\ p.1 ∉ X.fs /\ ∀ v, p.2.data ≠ .cell v) : Inv X pins' σ H s :=
  ⟨I.ok, I.os, I.bare, I.base, I.loc, I.cell, I.free, I.freeC, fun p hp => (List.mem_append.mp hp).elim (fun z => I.pin p (List.mem_append_left _ z)) (h p), I.hok, I.len⟩
theorem zcv {N : List Str} (hN : N.Nodup) {i j : Nat} {x : Str} (a : N[i]? = some x) (b : N[j]? = some x) : i = j := by
  obtain ⟨h1, e1⟩ := List.getElem?_eq_some_iff.mp a
  obtain ⟨h2, e2⟩ := List.getElem?_eq_some_iff.mp b
  exact (List.getElem_inj hN).mp (e1.trans e2.symm)
theorem zbc {M : Model} {A : Around} {E : Value -> Shared -> Prop} {i : Nat} {x : Str} {v : V} {u : Value} {Q : Unit -> Shared -> Prop} (I : Inv X pins σ H s) (hN : X.N.Nodup) (hi : X.N[i]? = some x) (hx : Loc X.env.scope x) (r : RelV v u)
    (h : ∀ s', Inv X pins (σ.set i (some v)) H s' -> (∃ a, Heap.SameBut a s.heap s'.heap /\ (a = X.env.locals \/ X.env.cells.lookup x = some a)) -> Q () s') (hf : X.fn x = true \/ X.env.scope.names.lookup x = some .local := by first | exact .inl rfl | exact .inr rfl | assumption) : wpAny M A (storeName X.env x u) Q E s := by
  obtain ⟨m, hn, hl⟩ := id I.loc
  have hcls : (X.env.scope.kind == .class || (X.env.scope.kind == .module && X.env.locals != X.env.globals)) = false := by rw [I.ok.kind]; rfl
  have hiσ : i < σ.length := by rw [I.len]; exact (List.getElem?_eq_some_iff.mp hi).1
  have cne := I.cne
  have tracked : ∀ {a : Addr} {h' : Heap}, (∃ o, s.heap.get? a = some o /\ H a = none) -> Heap.SameBut a s.heap h' -> HOk X.prog X.w H h' := fun {a h'} ha hs b ob e => by
    obtain ⟨_, _, hfree⟩ := ha
    refine (I.hok b ob e).stay (fun c w' hc q => (hs.2 c ?_).trans q) (fun _ q => q) fun _ _ q => q
    rintro rfl
    rcases hc with rfl | hc
    · rw [hfree] at e; cases e
    · rw [hfree] at hc; cases hc
  rcases hx with hk | hk
  · refine wpAny_storeName_local hk hn (fun h' hn' hs => ?_) hcls
    obtain ⟨oL, _, _, hoL, _⟩ := id hn
    refine h _ ⟨I.ok, I.os, I.bare, ⟨fun b o e n hb hx => ?_, fun b o e n hb hx => ?_, I.base.free, fun b o e hx => ?_, I.base.tups, I.base.frzs, I.base.tbls⟩, ⟨_, hn', fun j y v' e1 e2 e3 => ?_⟩, fun y c e => ?_, I.free, I.freeC, fun p hp => ?_, tracked ⟨oL, hoL, I.free⟩ hs, by simpa using I.len⟩ ⟨_, hs, .inl rfl⟩
    · exact (hs.2 b (Nat.ne_of_lt (Nat.lt_of_lt_of_le (Heap.lt_size e) I.ok.above))).trans (I.base.keep b o e n hb hx)
    · obtain ⟨sl, e1⟩ := I.base.slot b o e n hb hx
      exact ⟨sl, (hs.2 b (Nat.ne_of_lt (Nat.lt_of_lt_of_le (Heap.lt_size e) I.ok.above))).trans e1⟩
    · obtain ⟨o', e1⟩ := I.base.there b o e hx
      exact ⟨o', (hs.2 b (Nat.ne_of_lt (Nat.lt_of_lt_of_le (Heap.lt_size e) I.ok.above))).trans e1⟩
    · by_cases hj : j = i
      · subst hj
        rw [hi] at e1; cases e1
        rw [List.getElem?_set_self hiσ] at e2
        cases e2
        exact ⟨u, r, .inl ⟨hk, by simp⟩⟩
      · rw [List.getElem?_set_ne (Ne.symm hj)] at e2
        obtain ⟨u', r', q⟩ := hl j y v' e1 e2 e3
        refine ⟨u', r', ?_⟩
        rcases q with ⟨k, e⟩ | ⟨k, c, e, z⟩
        · refine .inl ⟨k, ?_⟩
          have : y ≠ x := fun e => hj (zcv hN e1 (e ▸ hi))
          simp [this, e]
        · exact .inr ⟨k, c, e, z.sameBut hs (cne y c e)⟩
    · obtain ⟨w', z⟩ := I.cell y c e
      exact ⟨w', z.sameBut hs (cne y c e)⟩
    · obtain ⟨e, n, ne, nf, d⟩ := I.pin p hp
      exact ⟨(hs.2 p.1 ne).trans e, n, ne, nf, d⟩
  · have hfn : X.fn x = true := by
      rcases hf with z | z
      · exact z
      · rw [z] at hk; cases hk
    obtain ⟨c, hc⟩ := I.ok.has x (.inl hk)
    obtain ⟨w', z⟩ := I.cell x c hc
    refine wpAny_storeName_cell I.ok.kind hk hc z (fun h' hc' hs => ?_)
    obtain ⟨oc, hoc, hocd⟩ := id z
    refine h { s with heap := h' } ⟨I.ok, I.os, I.bare, ⟨fun b o e n hb hx => ?_, fun b o e n hb hx => ?_, I.base.free, fun b o e hx => ?_, I.base.tups, I.base.frzs, I.base.tbls⟩, ⟨m, hn.sameBut hs (Ne.symm (cne x c hc)), fun j y v' e1 e2 e3 => ?_⟩, fun y c' e => ?_, I.free, I.freeC, fun p hp => ?_, tracked ⟨oc, hoc, I.freeC x c hc⟩ hs, by simpa using I.len⟩ ⟨c, hs, .inr hc⟩
    · exact (hs.2 b (Nat.ne_of_lt (Nat.lt_of_lt_of_le (Heap.lt_size e) (I.ok.cab x c hfn hc)))).trans (I.base.keep b o e n hb hx)
    · obtain ⟨sl, e1⟩ := I.base.slot b o e n hb hx
      exact ⟨sl, (hs.2 b (Nat.ne_of_lt (Nat.lt_of_lt_of_le (Heap.lt_size e) (I.ok.cab x c hfn hc)))).trans e1⟩
    · obtain ⟨o', e1⟩ := I.base.there b o e hx
      exact ⟨o', (hs.2 b (Nat.ne_of_lt (Nat.lt_of_lt_of_le (Heap.lt_size e) (I.ok.cab x c hfn hc)))).trans e1⟩
    · by_cases hj : j = i
      · subst hj
        rw [hi] at e1; cases e1
        rw [List.getElem?_set_self hiσ] at e2
        cases e2
        exact ⟨u, r, .inr ⟨.inl hk, c, hc, hc'⟩⟩
      · rw [List.getElem?_set_ne (Ne.symm hj)] at e2
        obtain ⟨u', r', q⟩ := hl j y v' e1 e2 e3
        refine ⟨u', r', ?_⟩
        rcases q with q | ⟨k, c', e, z'⟩
        · exact .inl q
        · refine .inr ⟨k, c', e, z'.sameBut hs ?_⟩
          rintro rfl
          exact hj (zcv hN e1 (I.ok.inj _ _ _ e hc ▸ hi))
    · by_cases hcc : c' = c
      · subst hcc; exact ⟨_, hc'⟩
      · obtain ⟨w2, z2⟩ := I.cell y c' e
        exact ⟨w2, z2.sameBut hs hcc⟩
    · obtain ⟨e, n, ne, nf, d⟩ := I.pin p hp
      refine ⟨(hs.2 p.1 ?_).trans e, n, ne, nf, d⟩
      intro q
      rw [q, hoc] at e
      have q' : oc = p.2 := Option.some.inj e
      exact d w' (by rw [← q']; exact hocd)
theorem zcw {M : Model} {A : Around} {E : Value -> Shared -> Prop} {i : Nat} {x : Str} {v : V} {u : Value} {Q : Unit -> Shared -> Prop} (I : Inv X pins σ H s) (hN : X.N.Nodup) (hi : X.N[i]? = some x) (hx : Loc X.env.scope x) (r : RelV v u)
    (h : ∀ s', Inv X pins (σ.set i (some v)) H s' -> Q () s') (hf : X.fn x = true \/ X.env.scope.names.lookup x = some .local := by first | exact .inl rfl | exact .inr rfl | assumption) : wpAny M A (storeName X.env x u) Q E s :=
  zbc I hN hi hx r (fun s' I' _ => h s' I') hf
theorem Inv.call' {s' : Shared} {ch : List Addr} (I : Inv X pins σ H s) (ho : s'.os = s.os) (u : Un (U5 X.stack) ch H H' s.heap s'.heap) (hok : HOk X.prog X.w H' s'.heap) (hg : AllBare s'.gens)
    (hch : ∀ b ∈ ch, (b ∈ X.ex \/ X.s₀.heap.objs.size <= b) /\ b ≠ X.env.locals /\ (∀ x c, X.env.cells.lookup x = some c -> c ≠ b) /\ ∀ p ∈ X.pn ++ pins, p.1 ≠ b) : Inv X pins σ H' s' := by
  obtain ⟨h', g', d', t', o'⟩ := s'
  have e : o' = s.os := ho
  subst e
  exact I.call (g' := g') (t' := t') (d' := d') u hok hg hch
end
abbrev XK := Value -> Option Addr -> Hp -> Prop
abbrev St := List (Option V)
abbrev VK := V -> Hp -> Prop
abbrev TE := St -> Hp -> VK -> Prop
abbrev TT := St -> Hp -> (Bool -> Hp -> Prop) -> Prop
abbrev TA := St -> Hp -> (List V -> Hp -> Prop) -> Prop
structure zaC where
  nx : St -> Hp -> Prop
  rt : VK
  bk : St -> Hp -> Prop := fun _ _ => False
  ct : St -> Hp -> Prop := fun _ _ => False
abbrev TS := zaC -> St -> Hp -> Prop
def EP (X : Cx) (pins : List (Addr × Obj)) (σ : St) (Q : VK) (u : Value) (s' : Shared) : Prop := ∃ v H', Inv X pins σ H' s' /\ RelV v u /\ Q v H'
def TP (X : Cx) (pins : List (Addr × Obj)) (σ : St) (Q : Bool -> Hp -> Prop) (b : Bool) (s' : Shared) : Prop := ∃ H', Inv X pins σ H' s' /\ Q b H'
def AP (X : Cx) (pins : List (Addr × Obj)) (σ : St) (Q : List V -> Hp -> Prop) (us : List Value) (s' : Shared) : Prop := ∃ vs H', Inv X pins σ H' s' /\ Vals vs us /\ Q vs H'
def SP (X : Cx) (pins : List (Addr × Obj)) (D : zaC) (f : Flow) (s' : Shared) : Prop :=
  match f with
  | .next => ∃ σ' H', Inv X pins σ' H' s' /\ D.nx σ' H'
  | .brk => ∃ σ' H', Inv X pins σ' H' s' /\ D.bk σ' H'
  | .cont => ∃ σ' H', Inv X pins σ' H' s' /\ D.ct σ' H'
  | .ret u => ∃ v σ' H', Inv X pins σ' H' s' /\ RelV v u /\ D.rt v H'
def PE (X : Cx) (e : Expr) (t : TE) : Prop :=
  ∀ (pins : List (Addr × Obj)) (s : Shared) (σ : St) (H : Hp) (Q : VK), Inv X pins σ H s -> t σ H Q -> wpAny (model X.prog X.w) X.A (eval e X.env) (EP X pins σ Q) X.xe s
def PT (X : Cx) (e : Expr) (t : TT) : Prop :=
  ∀ (pins : List (Addr × Obj)) (s : Shared) (σ : St) (H : Hp) (Q : Bool -> Hp -> Prop), Inv X pins σ H s -> t σ H Q -> wpAny (model X.prog X.w) X.A (isTrue e X.env (eval e X.env)) (TP X pins σ Q) X.xe s
def PW (X : Cx) (e : Expr) (t : TT) : Prop :=
  ∀ (whole : Sem Value) (pins : List (Addr × Obj)) (s : Shared) (σ : St) (H : Hp) (Q : Bool -> Hp -> Prop), Inv X pins σ H s -> t σ H Q -> wpAny (model X.prog X.w) X.A (isTrue e X.env whole) (TP X pins σ Q) X.xe s
theorem PW.pt {X : Cx} {e : Expr} {t : TT} (h : PW X e t) : PT X e t := h _
def PA (X : Cx) (es : List Expr) (t : TA) : Prop :=
  ∀ (pos : Pos) (pins : List (Addr × Obj)) (s : Shared) (σ : St) (H : Hp) (Q : List V -> Hp -> Prop), Inv X pins σ H s -> t σ H Q -> wpAny (model X.prog X.w) X.A (spliced (backTo pos (starEach es X.env))) (AP X pins σ Q) X.xe s
def PS (X : Cx) (st : Stmt) (t : TS) : Prop :=
  ∀ (pins : List (Addr × Obj)) (s : Shared) (σ : St) (H : Hp) (D : zaC), Inv X pins σ H s -> t D σ H -> wpAny (model X.prog X.w) X.A (exec st X.env) (SP X pins D) X.xe s
def PSs (X : Cx) (st : List Stmt) (t : TS) : Prop :=
  ∀ (pins : List (Addr × Obj)) (s : Shared) (σ : St) (H : Hp) (D : zaC), Inv X pins σ H s -> t D σ H -> wpAny (model X.prog X.w) X.A (execs st X.env) (SP X pins D) X.xe s
theorem zO {α : Type} {t : Sem α} {Q Q' : α -> Shared -> Prop} {M : Model} {A : Around} {E : Value -> Shared -> Prop} {s : Shared} (h : wpAny M A t Q E s) (hQ : ∀ a s, Q a s -> Q' a s) : wpAny M A t Q' E s := wpAny_mono h hQ fun _ _ x => x
end L2
namespace L2
open PySem PySem.Spec PyProof.Rows
section
variable {X : Cx}
def Qn (i : Nat) : TE := fun σ H Q => ∃ v, σ[i]? = some (some v) /\ Q v H
def tC (v : V) : TE := fun _ H Q => Q v H
theorem Qo {i : Nat} {x : Str} {pos : Pos} (hN : X.N[i]? = some x) (hv : ZN X.env.scope x) (hd : (x == ("__debug__" : Str)) = false := by decide) (hcd : (x == ("__classdict__" : Str)) = false := by decide) : PE X (.Name x pos) (Qn i) := by
  intro pins s σ H Q I h
  obtain ⟨v, e, h⟩ := h
  obtain ⟨m, hn, hl⟩ := I.loc
  obtain ⟨u, r, l⟩ := hl i x v hN e hv
  have fin : EP X pins σ Q u s := ⟨v, H, I, r, h⟩
  rcases l with ⟨hk, hm⟩ | ⟨hk, c, hc, hcell⟩
  · exact wpAny_Name (wpAny_loadName_local I.ok.kind hk hn hm fin) hd
  · rcases hk with hk | hk
    · exact wpAny_Name (wpAny_loadName_cell I.ok.kind hk hc hcell fin) hd
    · exact wpAny_Name (wpAny_loadName_free I.ok.kind hk hc hcell fin hcd) hd
theorem zl7 {i j pos} : PE X (.Constant (.int i) j pos) (tC (.int i)) := fun _ _ _ H _ I h => wpAny_Constant_int ⟨.int i, H, I.tok _, ⟨_, rfl⟩, h⟩
theorem zn0 {b j pos} : PE X (.Constant (.bool b) j pos) (tC (.bl b)) := fun _ _ _ H _ I h => Constant_bool ⟨.bl b, H, I, rfl, h⟩
theorem zl8 {j pos} : PE X (.Constant .none j pos) (tC .non) := fun _ _ _ H _ I h => Constant_none ⟨.non, H, I, rfl, h⟩
theorem zgN {x j pos} : PE X (.Constant (.str x) j pos) (tC (.str x)) := fun _ _ _ H _ I h => Calls.Constant_str ⟨.str x, H, I.tok _, ⟨_, rfl⟩, h⟩
def Gl (X : Cx) (x : Str) : Prop := X.env.kindOf x = some .globalImplicit
theorem zaD {E : Value -> Shared -> Prop} {pins : List (Addr × Obj)} {s : Shared} {σ : St} {H : Hp} {x : Str} {u : Value} {pos : Pos} {Q : Value -> Shared -> Prop} (I : Inv X pins σ H s) (hg : Gl X x) (hm : X.mg x = some u) (h : Q u s)
    (hd : (x == ("__debug__" : Str)) = false := by decide) : wpAny (model X.prog X.w) X.A (eval (.Name x pos) X.env) Q E s :=
  Calls.Name_function_global I.ok.kind hg (Calls.loadGlobal_global (by rw [I.ok.glob]; exact I.mod.glob.keeps I.bk) hm h) hd
theorem ZO {E : Value -> Shared -> Prop} {pins : List (Addr × Obj)} {s : Shared} {σ : St} {H : Hp} {x : Str} {u : Value} {pos : Pos} {Q : Value -> Shared -> Prop} (I : Inv X pins σ H s) (hg : Gl X x) (hm : X.mg x = none) (hv : bootBuiltins x = some u) (h : Q u s)
    (hn : x ≠ "__name__" := by decide) (hd : (x == ("__debug__" : Str)) = false := by decide) : wpAny (model X.prog X.w) X.A (eval (.Name x pos) X.env) Q E s := by
  obtain ⟨mb, h1, h2⟩ := I.mod.blt
  exact Calls.Name_function_global I.ok.kind hg (Calls.loadGlobal_builtin (by rw [I.ok.glob]; exact I.mod.glob.keeps I.bk) hm (by rw [I.ok.blt]; exact h1.keeps I.bk) ((h2 x hn).trans hv) h) hd
theorem zkO {x : Str} {v : V} {u : Value} {pos : Pos} (hg : Gl X x) (hm : X.mg x = some u) (r : RelV v u) (hd : (x == ("__debug__" : Str)) = false := by decide) : PE X (.Name x pos) (tC v) :=
  fun _ _ _ H _ I h => zaD I hg hm ⟨v, H, I, r, h⟩ hd
theorem zkP {x : Str} {v : V} {u : Value} {pos : Pos} (hg : Gl X x) (hm : X.mg x = none) (hv : bootBuiltins x = some u) (r : RelV v u) (hn : x ≠ "__name__" := by decide) (hd : (x == ("__debug__" : Str)) = false := by decide) : PE X (.Name x pos) (tC v) :=
  fun _ _ _ H _ I h => ZO I hg hm hv ⟨v, H, I, r, h⟩ hn hd
variable {a b : Expr} {ta tb : TE} {pos : Pos}
def tB (t : TE) : TT := fun σ H Q => t σ H fun x H1 => ∃ c, x = .bl c /\ Q c H1
theorem zl9 {e : Expr} {t : TE} (h : PE X e t) (he : ∀ whole, isTrue e X.env whole = (do let v ← whole; standAt e.pos; holding [v] (truthy v)) := by intro _; rfl) : PT X e (tB t) := by
  intro pins s σ H Q I hw
  refine isTrue_plain (zO (h pins s σ H _ I hw) fun v s1 ⟨x, H1, I1, r1, q1⟩ => ?_) (he _)
  obtain ⟨d, rfl, q⟩ := q1
  cases r1
  exact wpAny_truthy_bool ⟨H1, I1, q⟩
variable {tA tB' : TT} {rest : List Expr}
def zl_ (t u : TT) : TT := fun σ H Q => t σ H fun c H1 => if c = true then u σ H1 Q else Q false H1
def tOr (t u : TT) : TT := fun σ H Q => t σ H fun c H1 => if c = true then Q true H1 else u σ H1 Q
def zma (t : TT) : TT := fun σ H Q => t σ H fun c H1 => Q (!c) H1
theorem zkQ (ha : PT X a tA) : PW X (.BoolOp .And [a] pos) tA := by
  intro wh pins s σ H Q I h
  refine isTrue_and (zO (ha pins s σ H Q I h) fun c s1 e => ?_)
  cases c with
  | true => exact isTrue_and_nil e
  | false => exact e
theorem zmb (ha : PT X a tA) : PW X (.BoolOp .Or [a] pos) tA := by
  intro wh pins s σ H Q I h
  refine isTrue_or (zO (ha pins s σ H Q I h) fun c s1 e => ?_)
  cases c with
  | false => exact isTrue_or_nil e
  | true => exact e
theorem zmc (ha : PT X a tA) (hb : PW X (.BoolOp .And (b :: rest) pos) tB') : PW X (.BoolOp .And (a :: b :: rest) pos) (zl_ tA tB') := by
  intro wh pins s σ H Q I h
  refine isTrue_and (zO (ha pins s σ H _ I h) fun c s1 ⟨H1, I1, q1⟩ => ?_)
  cases c with
  | true => exact hb wh pins s1 σ H1 Q I1 q1
  | false => exact ⟨H1, I1, q1⟩
theorem zn1 (ha : PT X a tA) (hb : PW X (.BoolOp .Or (b :: rest) pos) tB') : PW X (.BoolOp .Or (a :: b :: rest) pos) (tOr tA tB') := by
  intro wh pins s σ H Q I h
  refine isTrue_or (zO (ha pins s σ H _ I h) fun c s1 ⟨H1, I1, q1⟩ => ?_)
  cases c with
  | true => exact ⟨H1, I1, q1⟩
  | false => exact hb wh pins s1 σ H1 Q I1 q1
theorem zmd (ha : PT X a tA) : PT X (.UnaryOp .Not a pos) (zma tA) := by
  intro pins s σ H Q I h
  exact isTrue_not (ha pins s σ H (fun c H1 => Q (!c) H1) I h)
def zj5 (ta tb : TE) : TE := fun σ H Q => ta σ H fun x H1 => ∃ c, x = .bl c /\ if c = true then tb σ H1 Q else Q (.bl false) H1
def zj6 (ta : TE) : TE := fun σ H Q => ta σ H fun x H1 => ∃ c, x = .bl c /\ Q (.bl (!c)) H1
theorem zme {op} {t : TE} (h : PE X a t) : PE X (.BoolOp op [a] pos) t := fun pins s σ H Q I hw => BoolOp_one (h pins s σ H Q I hw)
theorem zmf (ha : PE X a ta) (hb : PE X (.BoolOp .And (b :: rest) pos) tb) : PE X (.BoolOp .And (a :: b :: rest) pos) (zj5 ta tb) := by
  intro pins s σ H Q I h
  refine BoolOp_and (zO (ha pins s σ H _ I h) fun v s1 ⟨x, H1, I1, r1, q1⟩ => ?_)
  obtain ⟨c, rfl, q1⟩ := q1
  cases r1
  refine wpAny_truthy_bool ?_
  cases c with
  | true => exact hb pins s1 σ H1 Q I1 q1
  | false => exact ⟨.bl false, H1, I1, rfl, q1⟩
theorem zmg (ha : PE X a ta) : PE X (.UnaryOp .Not a pos) (zj6 ta) := by
  intro pins s σ H Q I h
  refine UnaryOp_ (zO (ha pins s σ H _ I h) fun v s1 ⟨x, H1, I1, r1, q1⟩ => ?_)
  obtain ⟨c, rfl, q1⟩ := q1
  cases r1
  exact not_of (wpAny_truthy_bool ⟨.bl (!c), H1, I1, rfl, q1⟩)
def tIf (t : TT) (ta tb : TE) : TE := fun σ H Q => t σ H fun c H1 => if c = true then ta σ H1 Q else tb σ H1 Q
theorem ziu {c : Expr} (hc : PT X c tA) (ha : PE X a ta) (hb : PE X b tb) : PE X (.IfExp c a b pos) (tIf tA ta tb) := by
  intro pins s σ H Q I h
  refine wpAny_IfExp (zO (hc pins s σ H _ I h) fun d s1 ⟨H1, I1, q1⟩ => ?_)
  cases d with
  | true => exact ha pins s1 σ H1 Q I1 q1
  | false => exact hb pins s1 σ H1 Q I1 q1
end
end L2
namespace L2
open PySem PySem.Spec PyProof.Rows
def jf (K : PySem.W.Frag) (H : Hp) (a : Addr) (xs : List V) : Prop :=
  Rd H a (.lst xs) \/
    ∃ (o : Obj) (its : Array Value) (n : Nat), K.lookup a = some o /\ o.cls = .type "list" /\ o.dict = none /\ o.data = .seq its n /\ its.size <= sizeLine /\ Vals xs its.toList
def SqT (K : PySem.W.Frag) (H : Hp) (a : Addr) (xs : List V) : Prop :=
  Rd H a (.tup xs) \/
    ∃ (o : Obj) (its : Array Value) (n : Nat), K.lookup a = some o /\ o.cls = .type "tuple" /\ o.data = .seq its n /\ its.size <= sizeLine /\ Vals xs its.toList
def zo5 : Value -> Option V
  | .none => some .non
  | .bool b => some (.bl b)
  | .int i _ => some (.int i)
  | .str x _ => some (.str x)
  | .bytes b _ => some (.byt b)
  | .float b _ => some (.flt b)
  | .ref a => some (.ref a)
  | .type n => some (.ty n)
  | _ => none
theorem RelV.abs {x : V} {u : Value} (r : RelV x u) : zo5 u = some x := by
  cases x with
  | non => cases r; rfl
  | bl _ => cases r; rfl
  | int _ => obtain ⟨t, rfl⟩ := r; rfl
  | str _ => obtain ⟨t, rfl⟩ := r; rfl
  | byt _ => obtain ⟨t, rfl⟩ := r; rfl
  | flt _ => obtain ⟨t, rfl⟩ := r; rfl
  | ref _ => cases r; rfl
  | ty _ => cases r; rfl
theorem RelV.inj {x y : V} {u : Value} (r : RelV x u) (q : RelV y u) : x = y := Option.some.inj (r.abs.symm.trans q.abs)
theorem Vals.inj : ∀ {xs ys : List V} {us : List Value}, Vals xs us -> Vals ys us -> xs = ys
  | _, _, _, .nil, .nil => rfl
  | _, _, _, .cons r t, .cons r' t' => by rw [r.inj r', Vals.inj t t']
section
variable {X : Cx} {pins : List (Addr × Obj)} {σ : St} {H : Hp} {s : Shared} {a : Addr} {xs ys : List V}
theorem SqT.of {K : PySem.W.Frag} (h : H a = some (.tup xs)) : SqT K H a xs := .inl (.inl h)
theorem Inv.list (I : Inv X pins σ H s) (h : jf X.K H a xs) : ∃ its : List Value, Vals xs its /\ PlainL s.heap a its.toArray /\ xs.length <= sizeLine := by
  rcases h with h | ⟨o, its, n, hk, hc, hd, hs, hz, r⟩
  · obtain ⟨z, its, n, r, e⟩ := h.ok I.hok
    exact ⟨its, r, ⟨_, n, e, rfl, rfl, rfl⟩, z⟩
  · refine ⟨its.toList, r, ⟨o, n, I.kIn a o hk, hc, hd, by simpa using hs⟩, ?_⟩
    have e := r.length
    simp only [Array.length_toList] at e
    omega
theorem Inv.tuple (I : Inv X pins σ H s) (h : SqT X.K H a xs) : ∃ its : List Value, Vals xs its /\ IsTup s.heap a its.toArray /\ xs.length <= sizeLine := by
  rcases h with h | ⟨o, its, n, hk, hc, hs, hz, r⟩
  · obtain ⟨z, its, r, p⟩ := h.ok I.hok
    exact ⟨its, r, p, z⟩
  · refine ⟨its.toList, r, ⟨o, I.kIn a o hk, hc, n, by simpa using hs⟩, ?_⟩
    have e := r.length
    simp only [Array.length_toList] at e
    omega
theorem Inv.list_inj (I : Inv X pins σ H s) (h : jf X.K H a xs) (h' : jf X.K H a ys) : xs = ys := by
  obtain ⟨its, r, ⟨o, n, e, _, _, d⟩, _⟩ := I.list h
  obtain ⟨its', r', ⟨o', n', e', _, _, d'⟩, _⟩ := I.list h'
  rw [e] at e'; cases e'
  rw [d] at d'
  injection d' with d1 _
  have : its = its' := by simpa using congrArg Array.toList d1
  subst this
  exact r.inj r'
end
abbrev Cx.wish (X : Cx) (E : Value -> Shared -> Prop) : Cx := { X with xe := E }
abbrev Cx.nox (X : Cx) : Cx := X.wish fun _ _ => False
theorem Cx.Ok.wish {X : Cx} (ok : X.Ok) (E : Value -> Shared -> Prop) : (X.wish E).Ok :=
  ⟨ok.mod, ok.kind, ok.glob, ok.blt, ok.above, ok.inj, ok.has, ok.cab, ok.hd, ok.frames, ok.stk, ok.exf, ok.bs, ok.bsz, ok.noex, ok.exfs, ok.funs, ok.frf⟩
theorem Cx.Ok.unwish {X : Cx} {E : Value -> Shared -> Prop} (ok : (X.wish E).Ok) : X.Ok :=
  ⟨ok.mod, ok.kind, ok.glob, ok.blt, ok.above, ok.inj, ok.has, ok.cab, ok.hd, ok.frames, ok.stk, ok.exf, ok.bs, ok.bsz, ok.noex, ok.exfs, ok.funs, ok.frf⟩
section
variable {X : Cx} {pins : List (Addr × Obj)} {σ : St} {H : Hp} {s : Shared} {E : Value -> Shared -> Prop}
theorem Inv.wish (I : Inv X pins σ H s) (E : Value -> Shared -> Prop) : Inv (X.wish E) pins σ H s := ⟨I.ok.wish E, I.os, I.bare, I.base, I.loc, I.cell, I.free, I.freeC, I.pin, I.hok, I.len⟩
theorem Inv.unwish (I : Inv (X.wish E) pins σ H s) : Inv X pins σ H s := ⟨I.ok.unwish, I.os, I.bare, I.base, I.loc, I.cell, I.free, I.freeC, I.pin, I.hok, I.len⟩
theorem SP.unwish {D : zaC} {f : Flow} {s' : Shared} (h : SP (X.wish E) pins D f s') : SP X pins D f s' := by
  cases f with
  | next => obtain ⟨σ', H', I, q⟩ := h; exact ⟨σ', H', I.unwish, q⟩
  | brk => obtain ⟨σ', H', I, q⟩ := h; exact ⟨σ', H', I.unwish, q⟩
  | cont => obtain ⟨σ', H', I, q⟩ := h; exact ⟨σ', H', I.unwish, q⟩
  | ret u => obtain ⟨v, σ', H', I, r, q⟩ := h; exact ⟨v, σ', H', I.unwish, r, q⟩
theorem PSs.nox {st : List Stmt} {t : TS} (h : PSs X.nox st t) : PSs X st t := fun pins s σ H D I hw =>
  wpAny_mono (h pins s σ H D (I.wish _) hw) (fun _ _ q => q.unwish) fun _ _ z => False.elim z
end
section
variable {X : Cx} {st : Stmt} {rest : List Stmt} {t u : TS} {e : Expr} {te : TE} {pos : Pos}
def zj7 : TS := fun D σ H => D.nx σ H
def zmh (t u : TS) : TS := fun D σ H => t { D with nx := u D } σ H
theorem zkR : PSs X [] zj7 := fun _ _ σ H _ I h => wpAny_execs_nil ⟨σ, H, I, h⟩
theorem ziv (h1 : PS X st t) (h2 : PSs X rest u) : PSs X (st :: rest) (zmh t u) := by
  intro pins s σ H D I h
  refine wpAny_execs_cons (zO (h1 pins s σ H { D with nx := u D } I h) fun f s1 q => ?_)
  cases f with
  | next =>
    obtain ⟨σ', H', I', q⟩ := q
    exact h2 pins s1 σ' H' D I' q
  | ret v => exact q
  | brk => exact q
  | cont => exact q
theorem zkS (h1 : PS X st t) : PSs X [st] t := by
  intro pins s σ H D I h
  refine wpAny_execs_cons (zO (h1 pins s σ H D I h) fun f s1 q => ?_)
  cases f with
  | next => exact wpAny_execs_nil q
  | ret v => exact q
  | brk => exact q
  | cont => exact q
theorem Inv.quiet {pins : List (Addr × Obj)} {σ : St} {H : Hp} {s : Shared} (I : Inv X pins σ H s) : interactive X.env = false := by simp [interactive, I.ok.kind]
def zj8 (te : TE) : TS := fun D σ H => te σ H fun _ H1 => D.nx σ H1
theorem zkT (he : PE X e te) (hs : swapsWith e none pos.line X.env = pure false := by rfl) : PS X (.Expr e pos) (zj8 te) := by
  intro pins s σ H D I h
  exact wpAny_Expr_any (zO (he pins s σ H _ I h) fun v s1 ⟨x, H1, I1, r1, q1⟩ => ⟨σ, H1, I1, q1⟩) I.quiet hs
def ziw (te : TE) : TS := fun D σ H => te σ H D.rt
theorem zgO (he : PE X e te) : PS X (.Return (some e) pos) (ziw te) := by
  intro pins s σ H D I h
  exact wpAny_Return_some (zO (he pins s σ H _ I h) fun v s1 ⟨x, H1, I1, r1, q1⟩ => ⟨x, σ, H1, I1, r1, q1⟩)
def zmi (c : TT) (t u : TS) : TS := fun D σ H => c σ H fun b H1 => if b = true then t D σ H1 else u D σ H1
theorem zn2 {c : Expr} {a b : List Stmt} {tc : TT} (hc : PT X c tc) (ha : PSs X a t) (hb : PSs X b u) : PS X (.If c a b pos) (zmi tc t u) := by
  intro pins s σ H D I h
  refine wpAny_If (zO (hc pins s σ H _ I h) fun d s1 ⟨H1, I1, q1⟩ => ?_)
  cases d with
  | true => exact ha pins s1 σ H1 D I1 q1
  | false => exact hb pins s1 σ H1 D I1 q1
def zmj : TS := fun _ _ _ => False
theorem zix : PS X st zmj := fun _ _ _ _ _ _ h => h.elim
end
abbrev TG := V -> St -> Hp -> (St -> Hp -> Prop) -> Prop
abbrev Ws := List V -> St -> Hp -> (St -> Hp -> Prop) -> Prop
def PG (X : Cx) (target : Expr) (t : TG) : Prop :=
  ∀ (pins : List (Addr × Obj)) (s : Shared) (σ : St) (H : Hp) (v : V) (u : Value) (Q : St -> Hp -> Prop), Inv X pins σ H s -> RelV v u -> t v σ H Q ->
    wpAny (model X.prog X.w) X.A (assign target X.env u) (fun _ s' => ∃ σ' H', Inv X pins σ' H' s' /\ Q σ' H') X.xe s
def PGs (X : Cx) (ts : List Expr) (t : Ws) : Prop :=
  ∀ (pins : List (Addr × Obj)) (s : Shared) (σ : St) (H : Hp) (vs : List V) (us : List Value) (Q : St -> Hp -> Prop), Inv X pins σ H s -> Vals vs us -> t vs σ H Q ->
    wpAny (model X.prog X.w) X.A (assignInOrder ((assignEach ts X.env).map (·.2)) us) (fun _ s' => ∃ σ' H', Inv X pins σ' H' s' /\ Q σ' H') X.xe s
abbrev ziy := V -> V -> V -> Hp -> (Hp -> Prop) -> Prop
def zmk (X : Cx) (t : ziy) : Prop :=
  ∀ (pins : List (Addr × Obj)) (s : Shared) (σ : St) (H : Hp) (o i v : V) (ov iv u : Value) (Q : Hp -> Prop), Inv X pins σ H s -> RelV o ov -> RelV i iv -> RelV v u -> t o i v H Q ->
    wpAny (model X.prog X.w) X.A (setItem ov iv u) (fun _ s' => ∃ H', Inv X pins σ H' s' /\ Q H') X.xe s
section
variable {X : Cx} {pos : Pos}
def VX (i : Nat) : TG := fun v σ H Q => Q (σ.set i (some v)) H
theorem zkU {i : Nat} {x : Str} (hN : X.N.Nodup) (hi : X.N[i]? = some x) (hx : Loc X.env.scope x) (hf : X.fn x = true \/ X.env.scope.names.lookup x = some .local := by first | exact .inl rfl | exact .inr rfl | assumption) : PG X (.Name x pos) (VX i) := by
  intro pins s σ H v u Q I r h
  exact wpAny_assign_Name (zcw I hN hi hx r (fun s' I' => ⟨_, H, I', h⟩) hf)
def gNil : Ws := fun vs σ H Q => vs = [] /\ Q σ H
def gCons (t : TG) (u : Ws) : Ws := fun vs σ H Q => ∃ v r, vs = v :: r /\ t v σ H fun σ' H' => u r σ' H' Q
theorem zkV : PGs X [] gNil := by
  intro pins s σ H vs us Q I r h
  obtain ⟨e, h⟩ := h
  subst e
  cases r
  exact assignInOrder_nil ⟨σ, H, I, h⟩
theorem ziz {e : Expr} {es : List Expr} {t : TG} {u : Ws} (h1 : PG X e t) (h2 : PGs X es u)
    (hs : (assignEach (e :: es) X.env).map (·.2) = assign e X.env :: (assignEach es X.env).map (·.2) := by rfl) : PGs X (e :: es) (gCons t u) := by
  intro pins s σ H vs us Q I r h
  obtain ⟨v, vr, e1, h⟩ := h
  subst e1
  cases r with
  | cons r rr =>
    rw [hs]
    refine assignInOrder_cons (zO (h1 pins s σ H _ _ _ I r h) fun _ s1 ⟨σ1, H1, I1, q1⟩ => ?_)
    exact h2 pins s1 σ1 H1 _ _ Q I1 rr q1
def gTup (K : PySem.W.Frag) (n : Nat) (t : Ws) : TG := fun v σ H Q => ∃ a xs, v = .ref a /\ SqT K H a xs /\ xs.length = n /\ t xs σ H Q
theorem zml {es : List Expr} {k : Nat} {t : Ws} {n : Nat} (hc : X.calm = true) (h : PGs X es t)
    (hn : (assignEach es X.env).length = n := by rfl) (hst : (assignEach es X.env).findIdx? (·.1) = none := by rfl) : PG X (.Tuple es k pos) (gTup X.K n t) := by
  intro pins s σ H v u Q I r hw
  obtain ⟨a, xs, e1, hq, hl, hw⟩ := hw
  subst e1
  cases r
  obtain ⟨its, rv, ht, hz⟩ := I.tuple hq
  refine assign_Tuple_tuple (I.ok.hd hc) ht (by simp [hn, ← hl, rv.length]) hst fun h' hx => ?_
  have I1 : Inv X pins σ H { s with heap := h' } := I.kept (t' := s.toks) fun b o e => hx b o (Nat.ne_of_lt (Heap.lt_size e)) e
  exact h pins _ σ H xs _ Q I1 (by simpa using rv) hw
def zmm (to ti : TE) (t : ziy) : TG := fun v σ H Q => to σ H fun o H1 => ti σ H1 fun i H2 => t o i v H2 fun H3 => Q σ H3
theorem zmn {o i : Expr} {to ti : TE} {t : ziy} (ho : PE X o to) (hi : PE X i ti) (hs : zmk X t)
    (ha : ∀ v, assign (.Subscript o i pos) X.env v = (do
      let ov ← holding [v] (eval o X.env)
      let iv ← holding [v, ov] (eval i X.env)
      standAt pos
      holding [v, ov, iv] (setItem ov iv v)
      release [v, ov, iv] []) := by intro _; rfl) : PG X (.Subscript o i pos) (zmm to ti t) := by
  intro pins s σ H v u Q I r h
  rw [ha]
  refine wpAny_bind (wpAny_holding (zO (ho pins s σ H _ I h) fun ov s1 ⟨x, H1, I1, r1, q1⟩ => ?_))
  refine wpAny_bind (wpAny_holding (zO (hi pins s1 σ H1 _ I1 q1) fun iv s2 ⟨y, H2, I2, r2, q2⟩ => ?_))
  refine wpAny_bind (wpAny_standAt (wpAny_bind (wpAny_holding (zO (hs pins s2 σ H2 x y v ov iv u _ I2 r1 r2 r q2) fun _ s3 ⟨H3, I3, q3⟩ => ?_))))
  exact wpAny_release ⟨σ, H3, I3, q3⟩
def zaE (te : TE) (g : TG) : TS := fun D σ H => te σ H fun x H1 => g x σ H1 D.nx
theorem zmo {tg e : Expr} {te : TE} {g : TG} (he : PE X e te) (hg : PG X tg g) (hs : swapsWithSole [tg] e pos.line X.env = pure false := by rfl) (hw : swappedStores [tg] e X.env = pure none := by rfl)
    (h1 : (assignEach [tg] X.env).map (·.2) = [assign tg X.env] := by rfl) : PS X (.Assign [tg] e pos) (zaE te g) := by
  intro pins s σ H D I h
  refine wpAny_Assign_stores (zO (he pins s σ H _ I h) fun v s1 ⟨x, H1, I1, r1, q1⟩ => ?_) hs hw
  rw [h1]
  exact zO (hg pins s1 σ H1 x v _ I1 r1 q1) fun _ s2 q => q
theorem zgQ {i : Nat} {x : Str} {e : Expr} {te : TE} {pos' : Pos} (hN : X.N.Nodup) (hi : X.N[i]? = some x) (hx : Loc X.env.scope x) (he : PE X e te) (hs : swapsWith e (some (.Name x pos')) pos.line X.env = pure false := by rfl) (hf : X.fn x = true \/ X.env.scope.names.lookup x = some .local := by first | exact .inl rfl | exact .inr rfl | assumption) :
    PS X (.Assign [.Name x pos'] e pos) (zaE te (VX i)) := by
  intro pins s σ H D I h
  refine wpAny_Assign_Name (zO (he pins s σ H _ I h) fun v s1 ⟨y, H1, I1, r1, q1⟩ => ?_) hs
  exact zcw I1 hN hi hx r1 (fun s2 I2 => ⟨_, H1, I2, q1⟩) hf
end
section
variable {X : Cx} {pos : Pos}
def zgR (c : TT) (tb : TS) : TS := fun D σ H => ∃ W : Nat -> St -> Hp -> Prop, (∃ m, W m σ H) /\ ∀ m σ H, W m σ H ->
  c σ H fun b H1 => if b = true then ∃ N : St -> Hp -> Prop, (∀ σ' H', N σ' H' -> ∃ m', m' < m /\ W m' σ' H') /\ tb { D with nx := N, ct := N, bk := D.nx } σ H1 else D.nx σ H1
theorem ziA {c : Expr} {body : List Stmt} {tc : TT} {tb : TS} (hp : PassesOwn (model X.prog X.w) X.A X.env X.xe) (hc : PT X c tc) (hb : PSs X body tb) : PS X (.While c body [] pos) (zgR tc tb) := by
  intro pins s σ H D I h
  obtain ⟨W, ⟨m0, w0⟩, turn⟩ := h
  refine wpAny_While (codeAny_whileLoop (fun n s' => ∃ σ' H', Inv X pins σ' H' s' /\ W n σ' H') ?_ m0 ⟨σ, H, I, w0⟩)
  rintro n s1 ⟨σ1, H1, I1, w1⟩
  refine wpAny_passesOwn hp (zO (hc pins s1 σ1 H1 _ I1 (turn n σ1 H1 w1)) fun b s2 ⟨H2, I2, q2⟩ => ?_)
  cases b with
  | true =>
    obtain ⟨N, hN, q2⟩ := q2
    rw [if_pos rfl]
    refine wpAny_passesOwn hp (zO (hb pins s2 σ1 H2 _ I2 q2) fun f s3 q3 => ?_)
    cases f with
    | next =>
      obtain ⟨σ3, H3, I3, n3⟩ := q3
      obtain ⟨m', hm, w3⟩ := hN σ3 H3 n3
      exact ⟨m', hm, σ3, H3, I3, w3⟩
    | cont =>
      obtain ⟨σ3, H3, I3, n3⟩ := q3
      obtain ⟨m', hm, w3⟩ := hN σ3 H3 n3
      exact ⟨m', hm, σ3, H3, I3, w3⟩
    | brk => exact q3
    | ret v => exact q3
  | false =>
    rw [if_neg Bool.false_ne_true]
    exact wpAny_execs_nil ⟨σ1, H2, I2, q2⟩
end
structure It where
  go : Nat -> Hp -> Prop
  yld : Nat -> Hp -> V -> Hp -> Prop
  stop : Nat -> Hp -> Prop
def FpOk (X : Cx) (pins : List (Addr × Obj)) (H : Hp) (b : Addr) : Prop :=
  H b = none /\ b ≠ X.env.locals /\ b ∉ X.fs /\ (b ∈ X.ex \/ X.s₀.heap.objs.size <= b) /\ (∀ x c, X.env.cells.lookup x = some c -> c ≠ b) /\ ∀ p ∈ X.pn ++ pins, p.1 ≠ b
theorem Inv.fpOk {X : Cx} {pins : List (Addr × Obj)} {σ : St} {H H' : Hp} {s : Shared} {b : Addr} (I : Inv X pins σ H s) (hb : s.heap.objs.size <= b) (hn : H' b = none) : FpOk X pins H' b := by
  refine ⟨hn, Nat.ne_of_gt (Nat.lt_of_lt_of_le I.lt hb), I.nofs hb, .inr (Nat.le_trans I.sz hb), fun x c e z => ?_, fun p hp z => ?_⟩
  · obtain ⟨v, q⟩ := I.cell x c e
    exact absurd (Nat.lt_of_lt_of_le q.lt (by rw [z]; exact hb)) (Nat.lt_irrefl _)
  · exact absurd (Nat.lt_of_lt_of_le (Heap.lt_size (I.pin p hp).1) (by rw [z]; exact hb)) (Nat.lt_irrefl _)
structure zaF (P : Program) (w : World) (K : PySem.W.Frag) (tg : Expr) (J : It) (fp : List Addr) (it : Addr) (tn : Nat -> Heap -> Prop) : Prop where
  mem : it ∈ fp
  obj : ∀ i h, tn i h -> ∀ b ∈ fp, ∃ o, h.get? b = some o /\ ∀ v, o.data ≠ .cell v
  keep : ∀ i h h', tn i h -> (∀ b ∈ fp, ∀ o, h.get? b = some o -> h'.get? b = some o) -> tn i h'
  item : ∀ (X : Cx), X.prog = P -> X.w = w -> X.K = K -> X.calm = true -> ∀ (i : Nat) (pins : List (Addr × Obj)) (s : Shared) (σ : St) (H : Hp) (E : Value -> Shared -> Prop), Inv X pins σ H s -> (∀ b ∈ fp, FpOk X pins H b) -> tn i s.heap -> J.go i H ->
    wpAny (model P w) X.A (pyNext (.ref it)) (fun r s1 => ∃ u, r = some u /\
      wpAny (model P w) X.A (letOwnedTupleGo tg (.ref it) u) (fun _ s2 => ∃ x H', Inv X pins σ H' s2 /\ RelV x u /\ J.yld i H x H' /\ tn (i + 1) s2.heap /\ ∀ b ∈ fp, H' b = none) E s1) E s
  done : ∀ (X : Cx), X.prog = P -> X.w = w -> X.K = K -> X.calm = true -> ∀ (i : Nat) (pins : List (Addr × Obj)) (s : Shared) (σ : St) (H : Hp) (E : Value -> Shared -> Prop), Inv X pins σ H s -> (∀ b ∈ fp, FpOk X pins H b) -> tn i s.heap -> J.stop i H ->
    wpAny (model P w) X.A (pyNext (.ref it)) (fun r s1 => r = none /\ Inv X pins σ H s1) E s
  self : ∀ (A : Around) (i : Nat) (s : Shared) (Q : Value -> Shared -> Prop) (E : Value -> Shared -> Prop), tn i s.heap -> Q (.ref it) s -> wpAny (model P w) A (pyIter (.ref it)) Q E s
abbrev TI := St -> Hp -> (It -> Hp -> Prop) -> Prop
def PIE (X : Cx) (pins : List (Addr × Obj)) (σ : St) (tg : Expr) (R : It -> Hp -> Prop) (itv : Value) (s2 : Shared) : Prop :=
  ∃ (it : Addr) (fp : List Addr) (tn : Nat -> Heap -> Prop) (J : It) (H' : Hp), itv = .ref it /\ Inv X pins σ H' s2 /\ zaF X.prog X.w X.K tg J fp it tn /\ tn 0 s2.heap /\ (∀ b ∈ fp, FpOk X pins H' b) /\ R J H'
def PI (X : Cx) (tg iter : Expr) (wi : TI) : Prop :=
  ∀ (pins : List (Addr × Obj)) (s : Shared) (σ : St) (H : Hp) (R : It -> Hp -> Prop), Inv X pins σ H s -> wi σ H R ->
    wpAny (model X.prog X.w) X.A (eval iter X.env) (fun v s1 => wpAny (model X.prog X.w) X.A (pyIter v) (PIE X pins σ tg R) X.xe s1) X.xe s
theorem zfv {M : Model} {A : Around} {E : Value -> Shared -> Prop} {s : Shared} {tg : Expr} {it : Addr} {u : Value} {o : Obj} {n : String} {vs : Array Value} {Q : Unit -> Shared -> Prop} (ho : s.heap.get? it = some o) (hc : o.cls = .type n) (hd : o.data = .fields vs)
    (hn : ["enumerate", "zip", "dict_itemiterator", "dict_reverseitemiterator", "odict_iterator", "itertools.zip_longest", "itertools.pairwise"].contains n = false) (hQ : Q () s) : wpAny M A (letOwnedTupleGo tg (.ref it) u) Q E s := by
  unfold letOwnedTupleGo
  cases tg <;> first
    | exact wpAny_pure hQ
    | (cases u <;> first
        | exact wpAny_pure hQ
        | (refine wpAny_bind (wpAny_load ho ?_)
           rw [hc, hd]
           show wpAny M A (if (["enumerate", "zip", "dict_itemiterator", "dict_reverseitemiterator", "odict_iterator", "itertools.zip_longest", "itertools.pairwise"].contains n && vs[0]? == some (rawInt _)) = true then _ else _) Q E s
           rw [if_neg (by intro h; rw [hn, Bool.false_and] at h; cases h)]
           exact wpAny_pure hQ))
def Itl (K : PySem.W.Frag) (a : Addr) : It :=
  ⟨fun i H => ∃ xs x, jf K H a xs /\ xs[i]? = some x, fun i H x H' => H' = H /\ ∀ xs, jf K H a xs -> xs[i]? = some x, fun i H => ∃ xs, jf K H a xs /\ xs.length <= i⟩
def Itr (lo : Int) (n : Nat) : It := ⟨fun i _ => i < n, fun i H x H' => H' = H /\ x = .int (lo + i), fun i _ => n <= i⟩
theorem zgT {P : Program} {w : World} {K : PySem.W.Frag} {tg : Expr} (a it : Addr) : zaF P w K tg (Itl K a) [it] it (fun i h => h.IsListIter it a i) where
  mem := by simp
  obj := fun i h st b hb => by
    have e : b = it := by simpa using hb
    subst e
    obtain ⟨o, e, c, d⟩ := st
    exact ⟨o, e, fun v z => by rw [d] at z; cases z⟩
  keep := fun i h h' st k => st.at fun o e => k it (by simp) o e
  item := by
    intro X hP hw hK hc i pins s σ H E I hf st hg
    subst hP hw hK
    obtain ⟨xs, x, hq, hx⟩ := hg
    obtain ⟨its, rv, p, hz⟩ := I.list hq
    obtain ⟨u, hu, ru⟩ := rv.get hx
    obtain ⟨f0, f1, f2, f3, f4, f5⟩ := hf it (by simp)
    refine wpAny_pyNext_list_item st p.isList (x := u) (by simpa using hu) fun h' st' sb => ?_
    have I1 : Inv X pins σ H { s with heap := h' } := I.turned (t' := s.toks) (fun b o hb e => (sb.2 b hb).trans e) f0 f1 f3 f4 f5
    obtain ⟨o, e, c, d⟩ := id st'
    exact ⟨u, rfl, zfv (s := { s with heap := h' }) e c d (by decide) ⟨x, H, I1, ru, ⟨rfl, fun ys hy => by rw [I.list_inj hy hq]; exact hx⟩, st', fun b hb => (hf b hb).1⟩⟩
  done := by
    intro X hP hw hK hc i pins s σ H E I hf st hg
    subst hP hw hK
    obtain ⟨xs, hq, hx⟩ := hg
    obtain ⟨its, rv, p, hz⟩ := I.list hq
    obtain ⟨f0, f1, f2, f3, f4, f5⟩ := hf it (by simp)
    have hl := rv.length
    exact wpAny_pyNext_list_end (I.ok.hd hc) st p.isList (by simp; omega) fun h' eb => ⟨rfl, I.turned (t' := s.toks) (fun b o hb e => eb b o hb e) f0 f1 f3 f4 f5⟩
  self := fun _ _ _ _ _ st h => wpAny_pyIter_listiter st h
theorem zfw {P : Program} {w : World} {K : PySem.W.Frag} {tg : Expr} (it : Addr) (lo : Int) (n : Nat) : zaF P w K tg (Itr lo n) [it] it (fun i h => IsRangeIter h it (lo + (i : Nat) * 1) ((n : Int) - (i : Nat)) 1) where
  mem := by simp
  obj := fun i h st b hb => by
    have e : b = it := by simpa using hb
    subst e
    exact ⟨_, st, fun v z => by
      have z' : Data.fields _ = Data.cell v := z
      cases z'⟩
  keep := fun i h h' st k => k it (by simp) _ st
  item := by
    intro X hP hw hK hc i pins s σ H E I hf st hg
    subst hP hw hK
    obtain ⟨f0, f1, f2, f3, f4, f5⟩ := hf it (by simp)
    have W := Walks.range (prog := X.prog) (w := X.w) (I.ok.hd hc) it lo 1 n
    refine W.item i s _ _ hg st fun v h' tk hv st' kk => ?_
    obtain ⟨t, rfl⟩ := hv
    have I1 : Inv X pins σ H { s with heap := h', toks := tk } := I.turned (fun b o hb e => kk b o (by simpa using hb) e) f0 f1 f3 f4 f5
    refine ⟨_, rfl, zfv (s := { s with heap := h', toks := tk }) (n := "range_iterator") st' rfl rfl (by decide) ⟨.int (lo + i), H, I1, ⟨t, ?_⟩, ⟨rfl, rfl⟩, st', fun b hb => (hf b hb).1⟩⟩
    rw [Int.mul_one]
  done := by
    intro X hP hw hK hc i pins s σ H E I hf st hg
    subst hP hw hK
    obtain ⟨f0, f1, f2, f3, f4, f5⟩ := hf it (by simp)
    exact wpAny_pyNext_range_end (I.ok.hd hc) st (by have : n <= i := hg; omega) fun h' eb => ⟨rfl, I.turned (t' := s.toks) (fun b o hb e => eb b o hb e) f0 f1 f3 f4 f5⟩
  self := fun _ _ _ _ _ st h => wpAny_pyIter_rangeiter st h
end L2
namespace L2
open PySem PySem.Spec PyProof.Rows
section
variable {X : Cx} {tg : Expr}
def zj9 (K : PySem.W.Frag) (tl : TE) : TI := fun σ H R => tl σ H fun x H1 => ∃ a, x = .ref a /\ (∃ xs, jf K H1 a xs) /\ R (Itl K a) H1
theorem zkW {l : Expr} {tl : TE} (hl : PE X l tl) : PI X tg l (zj9 X.K tl) := by
  intro pins s σ H R I h
  refine zO (hl pins s σ H _ I h) fun v s1 ⟨x, H1, I1, r1, q1⟩ => ?_
  obtain ⟨a, e, ⟨xs, hq⟩, q⟩ := q1
  subst e
  cases r1
  obtain ⟨its, rv, p, hz⟩ := I1.list hq
  refine wpAny_pyIter_list p.isList ?_
  refine ⟨s1.heap.objs.size, [s1.heap.objs.size], _, _, H1, rfl, I1.kept (t' := s1.toks) fun b o e => Heap.get?_push_of_some _ e, zgT a _, ⟨_, Heap.get?_push_size _ rfl, rfl, rfl⟩, fun b hb => ?_, q⟩
  have e : b = s1.heap.objs.size := by simpa using hb
  subst e
  exact I1.fpOk (Nat.le_refl _) (I1.hok.fresh (Nat.le_refl _))
theorem zcx {pins : List (Addr × Obj)} {σ : St} {H : Hp} {s : Shared} {R : It -> Hp -> Prop} {E : Value -> Shared -> Prop} {lo hi : Int} {t u v : Tok} {tk : Nat} (I : Inv X pins σ H s) (h1 : -(2 ^ 62) <= lo) (h2 : lo < 2 ^ 62) (h3 : -(2 ^ 62) <= hi) (h4 : hi < 2 ^ 62)
    (q : R (Itr lo (hi - lo).toNat) H) : wpAny (model X.prog X.w) X.A (pyIter (.ref s.heap.objs.size)) (PIE X pins σ tg R) E { s with heap := s.heap.push { cls := .type "range", data := .fields #[.int lo t, .int hi u, .int 1 v] }, toks := tk } := by
  refine wpAny_pyIter_range (IsRange.new ..) (small_one h1 h2 h3 h4) ?_
  have I1 : Inv X pins σ H { s with heap := s.heap.push { cls := .type "range", data := .fields #[.int lo t, .int hi u, .int 1 v] }, toks := tk } := I.kept fun b o e => Heap.get?_push_of_some _ e
  refine ⟨(s.heap.push { cls := .type "range", data := .fields #[.int lo t, .int hi u, .int 1 v] }).objs.size, [(s.heap.push { cls := .type "range", data := .fields #[.int lo t, .int hi u, .int 1 v] }).objs.size], _, _, H, rfl,
    I1.kept (t' := tk) fun b o e => Heap.get?_push_of_some _ e, zfw _ lo (hi - lo).toNat, ?_, fun b hb => ?_, q⟩
  · have e1 : lo + ((0 : Nat) : Int) * 1 = lo := by simp
    have e2 : (((hi - lo).toNat : Nat) : Int) - ((0 : Nat) : Int) = Builtin.Range.rangeSize lo hi 1 := by rw [rangeSize_one]; split <;> omega
    show IsRangeIter _ _ (lo + ((0 : Nat) : Int) * 1) ((((hi - lo).toNat : Nat) : Int) - ((0 : Nat) : Int)) 1
    rw [e1, e2]
    exact Heap.get?_push_size _ rfl
  · have e : b = (s.heap.push { cls := .type "range", data := .fields #[.int lo t, .int hi u, .int 1 v] }).objs.size := by simpa using hb
    subst e
    exact I1.fpOk (Nat.le_refl _) (I1.hok.fresh (Nat.le_refl _))
def zj_ (ta : TA) : TI := fun σ H R => ta σ H fun vs H1 => ∃ j : Int, vs = [.int j] /\ -(2 ^ 62) <= j /\ j < 2 ^ 62 /\ R (Itr 0 j.toNat) H1
def zka (ta : TA) : TI := fun σ H R => ta σ H fun vs H1 => ∃ i j : Int, vs = [.int i, .int j] /\ (-(2 ^ 62) <= i /\ i < 2 ^ 62 /\ -(2 ^ 62) <= j /\ j < 2 ^ 62) /\ R (Itr i (j - i).toNat) H1
theorem zgU {a : Expr} {ta : TA} {p pos : Pos} (hg : Gl X "range") (hm : X.mg "range" = none) (ha : PA X [a] ta) (hs : starEach [a] X.env = [(false, eval a X.env)] := by rfl) : PI X tg (.Call (.Name "range" p) [a] [] pos) (zj_ ta) := by
  intro pins s σ H R I h
  refine Call_ (ZO I hg hm boot_range (PyProof.Rows.callWith_type1 (zO (ha pos pins s σ H _ I h) fun us s1 ⟨vs, H1, I1, r1, q1⟩ => ?_) hs rfl))
  obtain ⟨j, e, q1, q2, q⟩ := q1
  subst e
  cases r1 with
  | cons r rr =>
    cases rr
    obtain ⟨t, rfl⟩ := r
    exact call_range_1 (zcx I1 (by omega) (by omega) q1 q2 (by simpa using q))
theorem zgV {a b : Expr} {ta : TA} {p pos : Pos} (hg : Gl X "range") (hm : X.mg "range" = none) (ha : PA X [a, b] ta) (hs : starEach [a, b] X.env = [(false, eval a X.env), (false, eval b X.env)] := by rfl) (hs2 : starEach [b] X.env = [(false, eval b X.env)] := by rfl) :
    PI X tg (.Call (.Name "range" p) [a, b] [] pos) (zka ta) := by
  intro pins s σ H R I h
  refine Call_ (ZO I hg hm boot_range (PyProof.Rows.callWith_type1 (zO (ha pos pins s σ H _ I h) fun us s1 ⟨vs, H1, I1, r1, q1⟩ => ?_) (by rw [hs, hs2]) (by rw [hs2]; rfl)))
  obtain ⟨i, j, e, ⟨q1, q2, q3, q4⟩, q⟩ := q1
  subst e
  cases r1 with
  | cons r rr =>
    cases rr with
    | cons r' rr =>
      cases rr
      obtain ⟨t, rfl⟩ := r
      obtain ⟨t', rfl⟩ := r'
      exact call_range_2 (zcx I1 q1 q2 q3 q4 q)
def zmq (wi : TI) (g : TG) (tb : TS) : TS := fun D σ H => wi σ H fun J H1 => ∃ W : Nat -> Nat -> St -> Hp -> Prop, (∃ m, W 0 m σ H1) /\ ∀ i m σ H, W i m σ H ->
  (J.stop i H /\ D.nx σ H) \/ (J.go i H /\ ∃ N : St -> Hp -> Prop, (∀ σ' H', N σ' H' -> ∃ m', m' < m /\ W (i + 1) m' σ' H') /\ ∀ x H', J.yld i H x H' -> g x σ H' fun σ2 H2 => tb { D with nx := N, ct := N, bk := D.nx } σ2 H2)
def U6 (fp : List Addr) (h : Heap) : List (Addr × Obj) := fp.filterMap fun b => (h.get? b).map fun o => (b, o)
theorem ZB {fp : List Addr} {h : Heap} {b : Addr} {o : Obj} (hb : b ∈ fp) (e : h.get? b = some o) : (b, o) ∈ U6 fp h := List.mem_filterMap.mpr ⟨b, hb, by rw [e]; rfl⟩
theorem zgW {fp : List Addr} {h : Heap} {p : Addr × Obj} (hp : p ∈ U6 fp h) : p.1 ∈ fp /\ h.get? p.1 = some p.2 := by
  obtain ⟨b, hb, e⟩ := List.mem_filterMap.mp hp
  cases q : h.get? b with
  | none => rw [q] at e; cases e
  | some o =>
    rw [q] at e
    have e' : (b, o) = p := Option.some.inj e
    subst e'
    exact ⟨hb, q⟩
theorem Inv.pinned {pins : List (Addr × Obj)} {σ : St} {H : Hp} {s : Shared} {fp : List Addr} (I : Inv X pins σ H s) (hf : ∀ b ∈ fp, FpOk X pins H b) (ho : ∀ b ∈ fp, ∃ o, s.heap.get? b = some o /\ ∀ v, o.data ≠ .cell v) : Inv X (pins ++ U6 fp s.heap) σ H s :=
  I.pins_of fun p hp => (List.mem_append.mp hp).elim (fun z => I.pin p (List.mem_append_right _ z)) fun z => by
    obtain ⟨hb, e⟩ := zgW z
    obtain ⟨f0, f1, f2, _⟩ := hf p.1 hb
    obtain ⟨o, e', d⟩ := ho p.1 hb
    rw [e] at e'; cases e'
    exact ⟨e, f0, f1, f2, d⟩
theorem Inv.unpinned {pins pl : List (Addr × Obj)} {σ : St} {H : Hp} {s : Shared} (I : Inv X (pins ++ pl) σ H s) : Inv X pins σ H s := I.pins_of fun p hp => I.pin p (List.mem_append_right _ (List.mem_append_left _ hp))
theorem zmr {iter : Expr} {body : List Stmt} {wi : TI} {g : TG} {tb : TS} {pos : Pos} (hp : PassesOwn (model X.prog X.w) X.A X.env X.xe) (hc : X.calm = true) (hi : PI X tg iter wi) (hg : PG X tg g) (hb : PSs X body tb)
    (hs : ∀ x, foldedSetIterable iter X.env x = pure x := by intro _; rfl) : PS X (.For tg iter body [] pos) (zmq wi g tb) := by
  intro pins s σ H D I h
  refine wpAny_For (zO (hi pins s σ H _ I h) fun v s1 h1 => zO h1 fun itv s2 h2 => ?_) hs
  obtain ⟨it, fp, tn, J, H2, e, I2, T, st2, f2, W, ⟨m0, w0⟩, turn⟩ := h2
  subst e
  have stat : ∀ {H' : Hp}, (∀ b ∈ fp, H' b = none) -> ∀ b ∈ fp, FpOk X pins H' b := fun hn b hb => ⟨hn b hb, (f2 b hb).2⟩
  refine codeAny_forLoop_any (fun n s' => ∃ i σ' H', Inv X pins σ' H' s' /\ tn i s'.heap /\ (∀ b ∈ fp, H' b = none) /\ W i n σ' H') ?_ m0 ⟨0, σ, H2, I2, st2, fun b hb => (f2 b hb).1, w0⟩
  rintro n s3 ⟨i, σ3, H3, I3, st3, fr3, w3⟩
  rcases turn i n σ3 H3 w3 with ⟨stop, qn⟩ | ⟨go, N, hN, step⟩
  · refine wpAny_passesOwn hp (zO (T.done X rfl rfl rfl hc i pins s3 σ3 H3 X.xe I3 (stat fr3) st3 stop) fun r s4 ⟨hr, I4⟩ => ?_)
    subst hr
    exact wpAny_execs_nil ⟨σ3, H3, I4, qn⟩
  · refine wpAny_passesOwn hp (zO (T.item X rfl rfl rfl hc i pins s3 σ3 H3 X.xe I3 (stat fr3) st3 go) fun r s4 ⟨u, hr, h4⟩ => ?_)
    subst hr
    refine wpAny_passesOwn hp (zO h4 fun _ s5 ⟨x, H5, I5, r5, y5, st5, fr5⟩ => ?_)
    have I5' := I5.pinned (stat fr5) (T.obj _ _ st5)
    refine wpAny_passesOwn hp (zO (hg _ s5 σ3 H5 x u _ I5' r5 (step x H5 y5)) fun _ s6 ⟨σ6, H6, I6, q6⟩ => ?_)
    refine wpAny_passesOwn hp (zO (hb _ s6 σ6 H6 _ I6 q6) fun f s7 q7 => ?_)
    have again : ∀ {σ7 : St} {H7 : Hp}, Inv X (pins ++ U6 fp s5.heap) σ7 H7 s7 -> N σ7 H7 -> ∃ m, m < n /\ ∃ i σ' H', Inv X pins σ' H' s7 /\ tn i s7.heap /\ (∀ b ∈ fp, H' b = none) /\ W i m σ' H' := fun {σ7 H7} I7 n7 => by
      obtain ⟨m', hm, w7⟩ := hN σ7 H7 n7
      refine ⟨m', hm, i + 1, σ7, H7, I7.unpinned, T.keep _ _ _ st5 fun b hb o e => (I7.pin (b, o) (List.mem_append_right _ (List.mem_append_right _ (ZB hb e)))).1, fun b hb => ?_, w7⟩
      obtain ⟨o, e, d⟩ := T.obj _ _ st5 b hb
      exact (I7.pin (b, o) (List.mem_append_right _ (List.mem_append_right _ (ZB hb e)))).2.1
    cases f with
    | next => obtain ⟨σ7, H7, I7, n7⟩ := q7; exact again I7 n7
    | cont => obtain ⟨σ7, H7, I7, n7⟩ := q7; exact again I7 n7
    | brk => obtain ⟨σ7, H7, I7, q7⟩ := q7; exact ⟨σ7, H7, I7.unpinned, q7⟩
    | ret v => obtain ⟨x7, σ7, H7, I7, r7, q7⟩ := q7; exact ⟨x7, σ7, H7, I7.unpinned, r7, q7⟩
end
end L2
namespace L2
open PySem PySem.Spec PyProof.Rows
abbrev R2 := V -> V -> Hp -> VK -> Prop
def y6 (X : Cx) (f : Value -> Value -> Sem Value) (r : R2) : Prop :=
  ∀ (pins : List (Addr × Obj)) (s : Shared) (σ : St) (H : Hp) (x y : V) (v u : Value) (Q : VK), Inv X pins σ H s -> RelV x v -> RelV y u -> r x y H Q ->
    wpAny (model X.prog X.w) X.A (f v u) (EP X pins σ Q) X.xe s
def jL (X : Cx) (f : Value) (r : List V -> Hp -> VK -> Prop) : Prop :=
  ∀ (pins : List (Addr × Obj)) (s : Shared) (σ : St) (H : Hp) (xs : List V) (us : List Value) (Q : VK), Inv X pins σ H s -> Vals xs us -> r xs H Q ->
    wpAny (model X.prog X.w) X.A (call f us) (EP X pins σ Q) X.xe s
def zo6 (X : Cx) (r : V -> Hp -> (Bool -> Hp -> Prop) -> Prop) : Prop :=
  ∀ (pins : List (Addr × Obj)) (s : Shared) (σ : St) (H : Hp) (x : V) (v : Value) (Q : Bool -> Hp -> Prop), Inv X pins σ H s -> RelV x v -> r x H Q ->
    wpAny (model X.prog X.w) X.A (truthy v) (TP X pins σ Q) X.xe s
def tOp (r : R2) (ta tb : TE) : TE := fun σ H Q => ta σ H fun x H1 => tb σ H1 fun y H2 => r x y H2 Q
def rI (C : Int -> Int -> Prop) (g : Int -> Int -> V) : R2 := fun x y H Q => ∃ i j, x = .int i /\ y = .int j /\ C i j /\ Q (g i j) H
def Yf (g : Int -> Int -> V) : R2 := fun x y H Q => ∃ i j, x = .int i /\ y = .int j /\ Q (g i j) H
section
variable {X : Cx} {a b c : Expr} {ta tb tc : TE} {pos : Pos}
theorem ziB (ha : PE X a ta) (hb : PE X b tb) {pins : List (Addr × Obj)} {s : Shared} {σ : St} {H : Hp} {R : V -> V -> Hp -> Prop} (I : Inv X pins σ H s)
    (h : ta σ H fun x H1 => tb σ H1 fun y H2 => R x y H2) {Q : Value -> Shared -> Prop} {f : Value -> Value -> Sem Value}
    (hf : ∀ v u s2 x y H2, Inv X pins σ H2 s2 -> RelV x v -> RelV y u -> R x y H2 -> wpAny (model X.prog X.w) X.A (f v u) Q X.xe s2) :
    wpAny (model X.prog X.w) X.A (eval a X.env) (fun v s₁ => wpAny (model X.prog X.w) X.A (eval b X.env) (fun u s₂ => wpAny (model X.prog X.w) X.A (f v u) Q X.xe s₂) X.xe s₁) X.xe s := by
  refine zO (ha pins s σ H _ I h) fun v s1 ⟨x, H1, I1, r1, q1⟩ => ?_
  refine zO (hb pins s1 σ H1 _ I1 q1) fun u s2 ⟨y, H2, I2, r2, q2⟩ => ?_
  exact hf v u s2 x y H2 I2 r1 r2 q2
theorem zkb {op : Operator} {r : R2} (ho : y6 X (binaryOp op) r) (ha : PE X a ta) (hb : PE X b tb) : PE X (.BinOp a op b pos) (tOp r ta tb) := by
  intro pins s σ H Q I h
  exact wpAny_BinOp (ziB ha hb I h fun v u s2 x y H2 I2 rx ry q => ho pins s2 σ H2 x y v u Q I2 rx ry q)
theorem opI {f : Value -> Value -> Sem Value} {C : Int -> Int -> Prop} {g : Int -> Int -> Int}
    (rule : ∀ (i j : Int) (t u : Tok) (s : Shared) (Q : Value -> Shared -> Prop) (E : Value -> Shared -> Prop), C i j -> Q (.int (g i j) s.toks) { s with toks := s.toks + 1 } -> wpAny (model X.prog X.w) X.A (f (.int i t) (.int j u)) Q E s) :
    y6 X f (rI C fun i j => .int (g i j)) := by
  intro pins s σ H x y v u Q I rx ry h
  obtain ⟨i, j, rfl, rfl, hc, q⟩ := h
  obtain ⟨t, rfl⟩ := rx
  obtain ⟨t', rfl⟩ := ry
  exact rule i j t t' s _ _ hc ⟨.int (g i j), H, I.tok _, ⟨_, rfl⟩, q⟩
theorem ziC {f : Value -> Value -> Sem Value} {g : Int -> Int -> Int}
    (rule : ∀ (i j : Int) (t u : Tok) (s : Shared) (Q : Value -> Shared -> Prop) (E : Value -> Shared -> Prop), Q (.int (g i j) s.toks) { s with toks := s.toks + 1 } -> wpAny (model X.prog X.w) X.A (f (.int i t) (.int j u)) Q E s) :
    y6 X f (Yf fun i j => .int (g i j)) := by
  intro pins s σ H x y v u Q I rx ry h
  obtain ⟨i, j, rfl, rfl, q⟩ := h
  obtain ⟨t, rfl⟩ := rx
  obtain ⟨t', rfl⟩ := ry
  exact rule i j t t' s _ _ ⟨.int (g i j), H, I.tok _, ⟨_, rfl⟩, q⟩
theorem zfx {f : Value -> Value -> Sem Value} {g : Int -> Int -> Bool}
    (rule : ∀ (i j : Int) (t u : Tok) (s : Shared) (Q : Value -> Shared -> Prop) (E : Value -> Shared -> Prop), Q (.bool (g i j)) s -> wpAny (model X.prog X.w) X.A (f (.int i t) (.int j u)) Q E s) :
    y6 X f (Yf fun i j => .bl (g i j)) := by
  intro pins s σ H x y v u Q I rx ry h
  obtain ⟨i, j, rfl, rfl, q⟩ := h
  obtain ⟨t, rfl⟩ := rx
  obtain ⟨t', rfl⟩ := ry
  exact rule i j t t' s _ _ ⟨.bl (g i j), H, I, rfl, q⟩
def ZP (i j : Int) : Prop := 0 <= j /\ j <= 1000000 /\ i.natAbs < 2 ^ 64
def CMul (i j : Int) : Prop := (-(2 ^ 64) < i /\ i < 2 ^ 64) \/ (-(2 ^ 64) < j /\ j < 2 ^ 64)
theorem CMul.ok {i j : Int} (h : CMul i j) : IntMulOk i j := by
  rcases h with ⟨h1, h2⟩ | ⟨h1, h2⟩
  · exact .of_left (intBits_le_64 h1 h2)
  · exact .of_right (intBits_le_64 h1 h2)
theorem zfy (k : Nat) : (0 : Int) <= 2 ^ k := by
  rw [two_pow_cast]
  exact Int.natCast_nonneg _
theorem zms : y6 X (binaryOp .Add) (Yf fun i j => .int (i + j)) := ziC fun _ _ _ _ _ _ _ q => add_int q
theorem zmt : y6 X (binaryOp .Sub) (Yf fun i j => .int (i - j)) := ziC fun _ _ _ _ _ _ _ q => sub_int q
theorem zmu : y6 X (binaryOp .Mult) (rI CMul fun i j => .int (i * j)) := opI fun _ _ _ _ _ _ _ hc q => mul_int q hc.ok
theorem zmv : y6 X (binaryOp .Mod) (rI (fun _ j => 0 < j) fun i j => .int (i % j)) := opI fun i j _ _ _ _ _ hc q => by
  have h1 : (0 : Int) < j := hc
  exact mod_int' (by omega) (by rw [Int.fmod_eq_emod_of_nonneg i (by omega)]; exact q)
theorem zmw : y6 X (binaryOp .Pow) (rI ZP fun i j => .int (i ^ j.toNat)) := opI fun _ _ _ _ _ _ _ hc q => pow_int_small hc.1 hc.2.1 hc.2.2 q
theorem zmx : y6 X (binaryOp .LShift) (rI ZP fun i j => .int (i * 2 ^ j.toNat)) := opI fun _ _ _ _ _ _ _ hc q => lshift_int_small hc.1 hc.2.1 hc.2.2 q
theorem zmy : y6 X (binaryOp .RShift) (rI (fun _ j => 0 <= j) fun i j => .int (i / 2 ^ j.toNat)) := opI fun i j _ _ _ _ _ hc q =>
  rshift_int hc (by rw [Int.fdiv_eq_ediv_of_nonneg i (zfy _)]; exact q)
theorem zmz : y6 X (binaryOp .BitAnd) (Yf fun i j => .int (Builtin.bitAnd i j)) := ziC fun _ _ _ _ _ _ _ q => and_int q
end
def ziD : V -> V -> Bool
  | .non, .non => true | .non, .int _ => true | .int _, .non => true | .non, .bl _ => true | .bl _, .non => true | .non, .str _ => true | .str _, .non => true
  | .int _, .int _ => true | .bl _, .bl _ => true | .str _, .str _ => true | .byt _, .byt _ => true
  | .int _, .str _ => true | .str _, .int _ => true | .bl _, .str _ => true | .str _, .bl _ => true
  | _, _ => false
def rEq : R2 := fun x y H Q => ziD x y = true /\ Q (.bl (decide (x = y))) H
def rNe : R2 := fun x y H Q => ziD x y = true /\ Q (.bl (!decide (x = y))) H
theorem zen {i j : Int} : decide (V.int i = V.int j) = (i == j) := by
  rw [Bool.eq_iff_iff]
  simp
theorem zgX {i j : Bool} : decide (V.bl i = V.bl j) = (i == j) := by
  rw [Bool.eq_iff_iff]
  simp
theorem zeo {i j : Str} : decide (V.str i = V.str j) = (i == j) := by
  rw [Bool.eq_iff_iff]
  simp
theorem zep {i j : Array UInt8} : decide (V.byt i = V.byt j) = (i.toList == j.toList) := by
  rw [Bool.eq_iff_iff]
  cases i
  cases j
  simp
section
variable {X : Cx} {a b c : Expr} {ta tb tc : TE} {pos : Pos}
theorem zL {pins : List (Addr × Obj)} {σ : St} {H : Hp} {s : Shared} {Q : VK} {k k' : Bool} (I : Inv X pins σ H s) (q : Q (.bl k) H) (e : k = k') : EP X pins σ Q (.bool k') s := by
  subst e
  exact ⟨.bl k, H, I, rfl, q⟩
theorem JZ : y6 X (compareOp .Eq) rEq := by
  intro pins s σ H x y v u Q I rx ry h
  obtain ⟨hs, q⟩ := h
  cases x with
  | non =>
    cases rx
    cases y with
    | non => cases ry; exact PySem.EqNone.eq_none_none (zL I q (by simp))
    | bl j => cases ry; exact PySem.EqNone.eq_none_bool (zL I q (by simp))
    | int j => obtain ⟨t', rfl⟩ := ry; exact PySem.EqNone.eq_none_int (zL I q (by simp))
    | str j => obtain ⟨t', rfl⟩ := ry; exact PySem.EqNone.eq_none_str (zL I q (by simp))
    | _ => exact absurd (show false = true from hs) Bool.false_ne_true
  | bl i =>
    cases rx
    cases y with
    | non => cases ry; exact PySem.EqNone.eq_bool_none (zL I q (by simp))
    | bl j => cases ry; exact eq_bool (zL I q zgX)
    | str j => obtain ⟨t', rfl⟩ := ry; exact PySem.EqMixed.eq_bool_str (zL I q (by simp))
    | _ => exact absurd (show false = true from hs) Bool.false_ne_true
  | int i =>
    obtain ⟨t, rfl⟩ := rx
    cases y with
    | non => cases ry; exact PySem.EqNone.eq_int_none (zL I q (by simp))
    | int j => obtain ⟨t', rfl⟩ := ry; exact eq_int (zL I q zen)
    | str j => obtain ⟨t', rfl⟩ := ry; exact PySem.EqMixed.eq_int_str (zL I q (by simp))
    | _ => exact absurd (show false = true from hs) Bool.false_ne_true
  | str i =>
    obtain ⟨t, rfl⟩ := rx
    cases y with
    | non => cases ry; exact PySem.EqNone.eq_str_none (zL I q (by simp))
    | bl j => cases ry; exact PySem.EqMixed.eq_str_bool (zL I q (by simp))
    | int j => obtain ⟨t', rfl⟩ := ry; exact PySem.EqMixed.eq_str_int (zL I q (by simp))
    | str j => obtain ⟨t', rfl⟩ := ry; exact eq_str (zL I q zeo)
    | _ => exact absurd (show false = true from hs) Bool.false_ne_true
  | byt i =>
    obtain ⟨t, rfl⟩ := rx
    cases y with
    | byt j => obtain ⟨t', rfl⟩ := ry; exact PySem.W.eq_bytes (zL I q zep)
    | _ => exact absurd (show false = true from hs) Bool.false_ne_true
  | _ => cases y <;> exact absurd (show false = true from hs) Bool.false_ne_true
theorem zn3 : y6 X (compareOp .NotEq) rNe := by
  intro pins s σ H x y v u Q I rx ry h
  obtain ⟨hs, q⟩ := h
  cases x with
  | non =>
    cases rx
    cases y with
    | non => cases ry; exact PySem.EqNone.ne_none_none (zL I q (by simp))
    | bl j => cases ry; exact PySem.EqNone.ne_none_bool (zL I q (by simp))
    | int j => obtain ⟨t', rfl⟩ := ry; exact PySem.EqNone.ne_none_int (zL I q (by simp))
    | str j => obtain ⟨t', rfl⟩ := ry; exact PySem.EqNone.ne_none_str (zL I q (by simp))
    | _ => exact absurd (show false = true from hs) Bool.false_ne_true
  | bl i =>
    cases rx
    cases y with
    | non => cases ry; exact PySem.EqNone.ne_bool_none (zL I q (by simp))
    | bl j => cases ry; exact ne_bool (zL I q (congrArg not zgX))
    | str j => obtain ⟨t', rfl⟩ := ry; exact PySem.EqMixed.ne_bool_str (zL I q (by simp))
    | _ => exact absurd (show false = true from hs) Bool.false_ne_true
  | int i =>
    obtain ⟨t, rfl⟩ := rx
    cases y with
    | non => cases ry; exact PySem.EqNone.ne_int_none (zL I q (by simp))
    | int j => obtain ⟨t', rfl⟩ := ry; exact ne_int (zL I q (congrArg not zen))
    | str j => obtain ⟨t', rfl⟩ := ry; exact PySem.EqMixed.ne_int_str (zL I q (by simp))
    | _ => exact absurd (show false = true from hs) Bool.false_ne_true
  | str i =>
    obtain ⟨t, rfl⟩ := rx
    cases y with
    | non => cases ry; exact PySem.EqNone.ne_str_none (zL I q (by simp))
    | bl j => cases ry; exact PySem.EqMixed.ne_str_bool (zL I q (by simp))
    | int j => obtain ⟨t', rfl⟩ := ry; exact PySem.EqMixed.ne_str_int (zL I q (by simp))
    | str j => obtain ⟨t', rfl⟩ := ry; exact ne_str (zL I q (congrArg not zeo))
    | _ => exact absurd (show false = true from hs) Bool.false_ne_true
  | byt i =>
    obtain ⟨t, rfl⟩ := rx
    cases y with
    | byt j => obtain ⟨t', rfl⟩ := ry; exact PySem.W.ne_bytes (zL I q (congrArg not zep))
    | _ => exact absurd (show false = true from hs) Bool.false_ne_true
  | _ => cases y <;> exact absurd (show false = true from hs) Bool.false_ne_true
theorem zn4 : y6 X (compareOp .Lt) (Yf fun i j => .bl (decide (i < j))) := zfx fun _ _ _ _ _ _ _ q => lt_int q
theorem ZC : y6 X (compareOp .LtE) (Yf fun i j => .bl (decide (i <= j))) := zfx fun _ _ _ _ _ _ _ q => le_int q
theorem zn5 : y6 X (compareOp .Gt) (Yf fun i j => .bl (decide (j < i))) := zfx fun _ _ _ _ _ _ _ q => gt_int q
theorem VY : y6 X (compareOp .GtE) (Yf fun i j => .bl (decide (j <= i))) := zfx fun _ _ _ _ _ _ _ q => ge_int q
theorem zgY : y6 X (compareOp .Is) (fun x y H Q => y = .non /\ Q (.bl (decide (x = .non))) H) := by
  intro pins s σ H x y v u Q I rx ry h
  obtain ⟨rfl, q⟩ := h
  cases ry
  refine is_none_gen (zL I q ?_)
  cases x <;> first
    | (cases rx; rfl)
    | (obtain ⟨t, rfl⟩ := rx; rfl)
theorem zeq : y6 X (compareOp .IsNot) (fun x y H Q => y = .non /\ Q (.bl (!decide (x = .non))) H) := by
  intro pins s σ H x y v u Q I rx ry h
  obtain ⟨rfl, q⟩ := h
  cases ry
  refine isnot_none_gen (zL I q ?_)
  cases x <;> first
    | (cases rx; rfl)
    | (obtain ⟨t, rfl⟩ := rx; rfl)
theorem z8 (b : Expr) {op : CmpOp} (h : op ≠ .In := by decide) (h2 : op ≠ .NotIn := by decide) : behindInMarks op b = false := by
  have e1 : (op == CmpOp.In) = false := by cases op <;> first | rfl | exact absurd rfl h
  have e2 : (op == CmpOp.NotIn) = false := by cases op <;> first | rfl | exact absurd rfl h2
  cases b <;> simp [behindInMarks, e1, e2]
theorem zkX {op : CmpOp} {r : R2} (ho : y6 X (compareOp op) r) (ha : PE X a ta) (hb : PE X b tb) (hm : behindInMarks op b = false) : PE X (.Compare a [op] [b] pos) (tOp r ta tb) := by
  intro pins s σ H Q I h
  exact wpAny_Compare1 (ziB ha hb I h fun v u s2 x y H2 I2 rx ry q => ho pins s2 σ H2 x y v u Q I2 rx ry q) hm
def zfz (t : TE) : TT := fun σ H Q => t σ H fun x H' => ∃ k, x = .bl k /\ Q k H'
theorem zkY {op : CmpOp} {r : R2} (ho : y6 X (compareOp op) r) (ha : PE X a ta) (hb : PE X b tb) (hm : behindInMarks op b = false) : PT X (.Compare a [op] [b] pos) (zfz (tOp r ta tb)) := by
  intro pins s σ H Q I h
  refine wpAny_isTrue_Compare1 (zO (ha pins s σ H _ I h) fun v s1 ⟨x, H1, I1, r1, q1⟩ => zO (hb pins s1 σ H1 _ I1 q1) fun u s2 ⟨y, H2, I2, r2, q2⟩ =>
    zO (ho pins s2 σ H2 x y v u _ I2 r1 r2 q2) fun c s3 ⟨z, H3, I3, r3, k, e, q3⟩ => ?_) hm
  subst e
  cases r3
  exact wpAny_truthy_bool ⟨H3, I3, q3⟩
def zcy (r r' : R2) (ta tb tc : TE) : TE := fun σ H Q => ta σ H fun x H1 => tb σ H1 fun y H2 => r x y H2 fun z H3 => ∃ k, z = .bl k /\
  (if k = true then tc σ H3 fun w' H4 => r' y w' H4 Q else Q (.bl false) H3)
theorem ziE {op op' : CmpOp} {r r' : R2} (ho : y6 X (compareOp op) r) (ho' : y6 X (compareOp op') r') (ha : PE X a ta) (hb : PE X b tb) (hc : PE X c tc)
    (hm : lastMarks [op, op'] [b, c] = false := by with_unfolding_all rfl) : PE X (.Compare a [op, op'] [b, c] pos) (zcy r r' ta tb tc) := by
  intro pins s σ H Q I h
  refine Compare_chain (zO (ha pins s σ H _ I h) fun v s1 ⟨x, H1, I1, r1, q1⟩ => chain_link (zO (hb pins s1 σ H1 _ I1 q1) fun u s2 ⟨y, H2, I2, r2, q2⟩ =>
    zO (ho pins s2 σ H2 x y v u _ I2 r1 r2 q2) fun d s3 ⟨z, H3, I3, r3, k, e, q3⟩ => ?_)) hm
  subst e
  cases r3
  refine wpAny_truthy_bool ?_
  cases k with
  | false => exact ite_ff ⟨.bl false, H3, I3, rfl, q3⟩
  | true => exact ite_tt (chain_last (zO (hc pins s3 σ H3 _ I3 q3) fun w' s4 ⟨z', H4, I4, r4, q4⟩ => ho' pins s4 σ H4 y z' u w' Q I4 r2 r4 q4))
theorem ziF {op op' : CmpOp} {r r' : R2} (ho : y6 X (compareOp op) r) (ho' : y6 X (compareOp op') r') (ha : PE X a ta) (hb : PE X b tb) (hc : PE X c tc)
    (hm : lastMarks [op, op'] [b, c] = false := by with_unfolding_all rfl) : PT X (.Compare a [op, op'] [b, c] pos) (zfz (zcy r r' ta tb tc)) := by
  intro pins s σ H Q I h
  refine isTrue_chain (zO (ha pins s σ H _ I h) fun v s1 ⟨x, H1, I1, r1, q1⟩ => test_link (zO (hb pins s1 σ H1 _ I1 q1) fun u s2 ⟨y, H2, I2, r2, q2⟩ =>
    zO (ho pins s2 σ H2 x y v u _ I2 r1 r2 q2) fun d s3 ⟨z, H3, I3, r3, k, e, q3⟩ => ?_)) hm
  subst e
  cases r3
  refine wpAny_truthy_bool ?_
  cases k with
  | false =>
    obtain ⟨k', e', q'⟩ := q3
    cases e'
    exact ite_ff ⟨H3, I3, q'⟩
  | true =>
    refine ite_tt (test_last (zO (hc pins s3 σ H3 _ I3 q3) fun w' s4 ⟨z', H4, I4, r4, q4⟩ => zO (ho' pins s4 σ H4 y z' u w' _ I4 r2 r4 q4) fun d' s5 ⟨z2, H5, I5, r5, k2, e2, q5⟩ => ?_))
    subst e2
    cases r5
    exact wpAny_truthy_bool ⟨H5, I5, q5⟩
def ziG (K : PySem.W.Frag) (x : V) (H : Hp) (k : Bool) : Prop :=
  match x with
  | .non => k = false
  | .bl b => k = b
  | .int i => k = (i != 0)
  | .str y => y.length <= sizeLine /\ k = ((y.length : Int) != 0)
  | .byt y => y.size <= sizeLine /\ k = ((y.size : Int) != 0)
  | .ref p => (∃ xs, jf K H p xs /\ k = !xs.isEmpty) \/ (∃ xs, SqT K H p xs /\ k = !xs.isEmpty) \/ ∃ kvs, H p = some (.dK kvs) /\ k = !kvs.isEmpty
  | _ => False
theorem zfA {κ : Type} {kvs : List (κ × V)} {vs : List (κ × Value)} (r : KV kvs vs) : (!vs.isEmpty) = !kvs.isEmpty := by
  cases r <;> rfl
theorem Rq {xs : List V} {its : List Value} (r : Vals xs its) : (!its.toArray.isEmpty) = !xs.isEmpty := by
  cases r <;> simp
theorem YO : (sizeLine : Nat) < 2 ^ 63 := by rw [sizeLine_eq]; decide
theorem zmA : zo6 X (fun x H Q => ∃ k, ziG X.K x H k /\ Q k H) := by
  intro pins s σ H x v Q I rx h
  obtain ⟨k, e, q⟩ := h
  have hl := YO
  have hs : sizeLine = 16777216 := sizeLine_eq
  cases x with
  | non =>
    cases rx
    have e' : k = false := e
    subst e'
    exact truthy_none ⟨H, I, q⟩
  | bl b =>
    cases rx
    have e' : k = b := e
    subst e'
    exact wpAny_truthy_bool ⟨H, I, q⟩
  | int i =>
    obtain ⟨t, rfl⟩ := rx
    have e' : k = (i != 0) := e
    subst e'
    exact PySem.P.truthy_int ⟨H, I, q⟩
  | str y =>
    obtain ⟨t, rfl⟩ := rx
    obtain ⟨hy, e'⟩ : y.length <= sizeLine /\ k = ((y.length : Int) != 0) := e
    subst e'
    exact PySem.P.truthy_str (by omega) ⟨H, I.tok _, q⟩
  | byt y =>
    obtain ⟨t, rfl⟩ := rx
    obtain ⟨hy, e'⟩ : y.size <= sizeLine /\ k = ((y.size : Int) != 0) := e
    subst e'
    exact PySem.W.truthy_bytes (by omega) ⟨H, I.tok _, q⟩
  | ref p =>
    cases rx
    have e' : (∃ xs, jf X.K H p xs /\ k = !xs.isEmpty) \/ (∃ xs, SqT X.K H p xs /\ k = !xs.isEmpty) \/ ∃ kvs, H p = some (.dK kvs) /\ k = !kvs.isEmpty := e
    rcases e' with ⟨xs, hx, e'⟩ | ⟨xs, hx, e'⟩ | ⟨kvs, hx, e'⟩
    · subst e'
      obtain ⟨its, r, pl, hz⟩ := I.list hx
      have hlen := r.length
      exact wpAny_truthy_list pl.isList (by simp only [List.size_toArray]; omega) ⟨H, I.tok _, by rw [Rq r]; exact q⟩
    · subst e'
      obtain ⟨its, r, pl, hz⟩ := I.tuple hx
      have hlen := r.length
      exact truthy_tuple pl (by simp only [List.size_toArray]; omega) ⟨H, I.tok _, by rw [Rq r]; exact q⟩
    · subst e'
      obtain ⟨hz, hS, vs, r, m⟩ : kvs.length <= sizeLine /\ (p == sysModules) = false /\ ∃ vs, KV kvs vs /\ s.heap.DictOf (yd X.prog X.w) p vs := I.hok p _ hx
      have hlen : kvs.length = vs.length := Paired.length r
      exact wpAny_truthy_dict hS m (by omega) ⟨H, I.tok _, by rw [zfA r]; exact q⟩
  | _ => exact (show False from e).elim
theorem ziH (ha : PE X a ta) (he : ∀ whole, isTrue a X.env whole = (do let v ← whole; standAt a.pos; holding [v] (truthy v))) :
    PT X a (fun σ H Q => ta σ H fun x H' => ∃ k, ziG X.K x H' k /\ Q k H') := by
  intro pins s σ H Q I h
  exact isTrue_plain (zO (ha pins s σ H _ I h) fun v s1 ⟨x, H1, I1, r1, q1⟩ => zmA pins s1 σ H1 x v Q I1 r1 q1) (he _)
theorem zfB : y6 X (binaryOp .Add) (fun x y H Q => ∃ i j, x = .str i /\ y = .str j /\ i.length + j.length <= sizeLine /\ Q (.str (i ++ j)) H) := by
  intro pins s σ H x y v u Q I rx ry h
  obtain ⟨i, j, rfl, rfl, hz, q⟩ := h
  obtain ⟨t, rfl⟩ := rx
  obtain ⟨t', rfl⟩ := ry
  exact add_str (fun t' tk => ⟨.str (i ++ j), H, I.tok _, ⟨_, rfl⟩, q⟩) hz
theorem zb9 {x : V} {us : List Value} (r : Vals [x] us) : ∃ u, us = [u] /\ RelV x u := by
  cases r with
  | cons r1 r2 => cases r2; exact ⟨_, rfl, r1⟩
theorem zn6 {x y : V} {us : List Value} (r : Vals [x, y] us) : ∃ u w', us = [u, w'] /\ RelV x u /\ RelV y w' := by
  cases r with
  | cons r1 r2 =>
    cases r2 with
    | cons r3 r4 => cases r4; exact ⟨_, _, rfl, r1, r3⟩
theorem zgZ (hc : X.calm = true) : jL X (.builtin "max") (fun xs H Q => ∃ i j, xs = [.int i, .int j] /\ Q (.int (if j > i then j else i)) H) := by
  intro pins s σ H xs us Q I r h
  obtain ⟨i, j, rfl, q⟩ := h
  obtain ⟨u, w', rfl, ⟨t, rfl⟩, ⟨t', rfl⟩⟩ := zn6 r
  refine max_two_ints (I.ok.hd hc) fun h' tk k => ⟨_, H, I.kept k, ?_, q⟩
  by_cases hj : j > i
  · rw [if_pos hj, if_pos hj]; exact ⟨_, rfl⟩
  · rw [if_neg hj, if_neg hj]; exact ⟨_, rfl⟩
theorem zg0 : jL X (.type "int") (fun xs H Q => (∃ i, xs = [.int i] /\ Q (.int i) H) \/ ∃ k, xs = [.bl k] /\ Q (.int (if k then 1 else 0)) H) := by
  intro pins s σ H xs us Q I r h
  rcases h with ⟨i, rfl, q⟩ | ⟨k, rfl, q⟩
  · obtain ⟨u, rfl, t, rfl⟩ := zb9 r
    exact call_int_int ⟨.int i, H, I, ⟨_, rfl⟩, q⟩
  · obtain ⟨u, rfl, r1⟩ := zb9 r
    cases r1
    exact call_int_bool ⟨.int (if k then 1 else 0), H, I.tok _, ⟨_, rfl⟩, q⟩
def zmB (K : PySem.W.Frag) (x : V) (H : Hp) (n : Nat) : Prop :=
  match x with
  | .str y => y.length <= sizeLine /\ n = y.length
  | .byt y => y.size <= sizeLine /\ n = y.size
  | .ref p => (∃ xs, jf K H p xs /\ n = xs.length) \/ ∃ xs, SqT K H p xs /\ n = xs.length
  | _ => False
theorem ziI : jL X (.builtin "len") (fun xs H Q => ∃ x n, xs = [x] /\ zmB X.K x H n /\ Q (.int n) H) := by
  intro pins s σ H xs us Q I r h
  obtain ⟨x, n, rfl, e, q⟩ := h
  obtain ⟨u, rfl, rx⟩ := zb9 r
  have hl := YO
  have hs : sizeLine = 16777216 := sizeLine_eq
  cases x with
  | str y =>
    obtain ⟨t, rfl⟩ := rx
    obtain ⟨hy, e'⟩ : y.length <= sizeLine /\ n = y.length := e
    subst e'
    exact len_str (by omega) ⟨.int _, H, I.tok _, ⟨_, rfl⟩, q⟩
  | byt y =>
    obtain ⟨t, rfl⟩ := rx
    obtain ⟨hy, e'⟩ : y.size <= sizeLine /\ n = y.size := e
    subst e'
    exact PySem.W.len_bytes (by omega) ⟨.int _, H, I.tok _, ⟨_, rfl⟩, q⟩
  | ref p =>
    cases rx
    have e' : (∃ xs, jf X.K H p xs /\ n = xs.length) \/ ∃ xs, SqT X.K H p xs /\ n = xs.length := e
    rcases e' with ⟨xs, hx, e'⟩ | ⟨xs, hx, e'⟩
    · subst e'
      obtain ⟨its, r', pl, hz⟩ := I.list hx
      have hlen := r'.length
      exact Calls.call_len_list pl.isList (by simp only [List.size_toArray]; omega) ⟨.int xs.length, H, I.tok _, ⟨_, by simp only [List.size_toArray]; rw [hlen]⟩, q⟩
    · subst e'
      obtain ⟨its, r', pl, hz⟩ := I.tuple hx
      have hlen := r'.length
      exact len_tuple pl (by simp only [List.size_toArray]; omega) ⟨.int xs.length, H, I.tok _, ⟨_, by simp only [List.size_toArray]; rw [hlen]⟩, q⟩
  | _ => exact (show False from e).elim
end
end L2
namespace L2
open PySem PySem.Spec PyProof.Rows
structure ObjM (h : Heap) (x dx C : Addr) (mA : Str -> Option Value) : Prop where
  obj : h.get? x = some (PySem.W.instObj C dx)
  ns : h.Ns1 dx mA
  ne : dx ≠ x
theorem zg1 {h : Heap} {dx : Addr} {mA : Str -> Option Value} (n : h.Ns1 dx mA) : ∃ od, h.get? dx = some od /\ ∀ name, PySem.W.lookIn name od = some (mA name) := by
  obtain ⟨o, es, ep, ho, hd, hk, _, hm⟩ := n
  refine ⟨o, ho, fun name => ?_⟩
  have e := hm name
  unfold nsFind findBy at e
  rw [← Array.find?_toList] at e
  unfold PySem.W.lookIn
  rw [hd]
  dsimp only
  split
  · rename_i y q
    rw [q] at e
    exact congrArg some e
  · rename_i q
    rw [q] at e
    have a : es.toList.any (·.refKey) = false := by
      rw [List.any_eq_false]
      intro y hy
      obtain ⟨z, t, hkey⟩ := hk y (Array.mem_toList_iff.mp hy)
      simp [DictEntry.refKey, hkey]
    have a' : ¬ es.toList.any (·.refKey) = true := by rw [a]; exact Bool.false_ne_true
    rw [if_neg a']
    exact congrArg some e
theorem ObjM.look {h : Heap} {x dx C : Addr} {mA : Str -> Option Value} (I : ObjM h x dx C mA) : ∃ od, PySem.W.InstAt h x (PySem.W.instObj C dx) C (some od) /\ ∀ name, PySem.W.lookIn name od = some (mA name) :=
  let ⟨od, ho, hl⟩ := zg1 I.ns
  ⟨od, ⟨I.obj, rfl, rfl, ho⟩, hl⟩
section
variable {prog : Program} {w : World} {A : Around} {E : Value -> Shared -> Prop} {s : Shared} {K : PySem.W.Frag} {x dx C f : Addr} {mA : Str -> Option Value} {name : Str} {v : Value}
theorem zkZ {expr : Bool} {Q : Value -> Shared -> Prop} (X : K.In s.heap) (I : ObjM s.heap x dx C mA) (hg : PySem.W.plainGet K C name = true) (hh : PySem.W.hasDictIn K C = true)
    (ha : PySem.W.findIn K (.ref C) name = some none) (hv : mA name = some v) (hv' : PySem.W.handedIn v = true) (h : Q v { s with toks := s.toks + 1 }) :
    wpAny (model prog w) A (getAttr (.ref x) name expr) Q E s := by
  obtain ⟨od, J, hl⟩ := I.look
  exact PySem.W.get_value X J (PySem.W.plainGet_of hg).1 (PySem.W.findObj_own hh ha rfl (by rw [hl, hv])) hv' h
theorem ziJ {pl : Sem Bool} {Q : Value × List Value -> Shared -> Prop} (X : K.In s.heap) (I : ObjM s.heap x dx C mA) (hg : PySem.W.plainGet K C name = true)
    (hf : PySem.W.findIn K (.ref C) name = some (some (.ref f))) (ht : PySem.W.isFn K (.ref f) = true) (hv : mA name = none) (h : Q (.ref f, [.ref x]) s) :
    wpAny (model prog w) A (getMethod (.ref x) name pl) Q E s := by
  obtain ⟨od, J, hl⟩ := I.look
  exact PySem.W.method_fn X J (PySem.W.plainGet_of hg).1 (PySem.W.plainGet_of hg).2 hf (beq_iff_eq.mp ht) (by show (PySem.W.lookIn name od).map (·.isSome) = some false; rw [hl, hv]; rfl) h
theorem zk0 {ns : List Str} {Q : Unit -> Shared -> Prop} (X : K.In s.heap) (I : ObjM s.heap x dx C mA)
    (hs : PySem.W.findIn K (.ref C) "__setattr__" = some (some (.builtin "object.__setattr__"))) (hp : PySem.W.plainOver K C = true) (ht : PySem.W.takerIn K C name = some none) (hh : PySem.W.hasDictIn K C = true)
    (hw : PySem.Within mA ns) (hsz : ns.length <= sizeLine)
    (h : ∀ h', ObjM h' x dx C (fun y => if y = name then some v else mA y) -> Heap.SameBut dx s.heap h' -> Q () { s with heap := h', toks := s.toks + 2 }) :
    wpAny (model prog w) A (setAttr (.ref x) name v) Q E s := by
  obtain ⟨od, J, hl⟩ := I.look
  refine PySem.W.set_plain X J hs (PySem.W.osa_open (s := { s with toks := s.toks + 1 }) (r := none) X J hp ht fun b => ?_)
  obtain ⟨cd, hc, hd'⟩ := PySem.W.any_some hh
  have hx : s.heap.get? x = some ⟨.ref C, some dx, .plain, #[]⟩ := I.obj
  refine wpAny_bind (wpAny_pure (wpAny_bind (wpAny_bind (wpAny_loadPart hx (wpAny_bind (PySem.W.Looks.here (s := { s with toks := s.toks + 1 }) (PySem.W.looks_clsIn X hc) ?_))))))
  rw [hd']
  refine wpAny_pure (a := some dx) (wpAny_bind (wpAny_pure (wpAny_bind ?_)))
  refine wpAny_nsSet1 (s := { s with toks := s.toks + 1 }) I.ns fun h' hn2 hs2 => ?_
  obtain ⟨oD, esD, epD, hoD, hdD, hcD⟩ := hn2.count (PySem.Within.cons name v hw)
  refine wpAny_bind (wpAny_lookBehind hoD (by rw [hdD]; exact pastItsLine_dict (Nat.le_trans hcD (by rw [List.length_cons]; omega))) ?_)
  exact wpAny_pure (h _ ⟨(hs2.2 _ (Ne.symm I.ne)).trans I.obj, hn2, I.ne⟩ hs2)
theorem ziK {R : Result -> Shared -> Prop} {vs : List Value} {kw : List (Str × Value)} (X : K.In s.heap) (hm : PySem.W.makesIn K C = true)
    (hi : PySem.W.findIn K (.ref C) "__init__" = some (some (.ref f))) (hf : PySem.W.typeIn K (.ref f) = some (.type "function"))
    (h : codeAny (model prog w) (A.under (.builtin "type.__call__" ⟨.ref C :: vs, kw⟩)) (.call (.ref f) ⟨.ref (s.heap.objs.size + 1) :: vs, kw⟩) (PySem.W.InitBack (s.heap.objs.size + 1) R)
      { s with heap := (s.heap.push PySem.W.emptyDict).push (PySem.W.instObj C s.heap.objs.size) }) :
    codeAny (model prog w) A (.call (.ref C) ⟨vs, kw⟩) R s := by
  obtain ⟨hh, g, d, t, os⟩ := s
  exact PySem.W.make_core (PySem.W.makes_of X hm) (PySem.W.looks_findIn X hi) (fun self => PySem.W.bind_fn X self hf) (.inl rfl) h
end
def jN (f : Str) (v : V) : List (Str × V) -> List (Str × V)
  | [] => [(f, v)]
  | (g, x) :: r => if g = f then (g, v) :: r else (g, x) :: jN f v r
theorem Wt (f g : Str) (v : V) : ∀ fs : List (Str × V), (jN f v fs).lookup g = if g = f then some v else fs.lookup g
  | [] => by
    show List.lookup g [(f, v)] = _
    by_cases h : g = f
    · have hb : (g == f) = true := beq_iff_eq.mpr h
      simp only [List.lookup, hb, if_pos h]
    · have hb : (g == f) = false := beq_eq_false_iff_ne.mpr h
      simp only [List.lookup, hb, if_neg h]
  | (k, x) :: r => by
    have ih := Wt f g v r
    rw [show jN f v ((k, x) :: r) = (if k = f then (k, v) :: r else (k, x) :: jN f v r) from rfl]
    by_cases hk : k = f
    · rw [if_pos hk]
      by_cases h : g = k
      · have hb : (g == k) = true := beq_iff_eq.mpr h
        simp only [List.lookup, hb, if_pos (h.trans hk)]
      · have hb : (g == k) = false := beq_eq_false_iff_ne.mpr h
        simp only [List.lookup, hb, if_neg (fun e : g = f => h (e.trans hk.symm))]
    · rw [if_neg hk]
      by_cases h : g = k
      · have hb : (g == k) = true := beq_iff_eq.mpr h
        simp only [List.lookup, hb, if_neg (fun e : g = f => hk (h.symm.trans e))]
      · have hb : (g == k) = false := beq_eq_false_iff_ne.mpr h
        simp only [List.lookup, hb]
        exact ih
theorem U7 (f : Str) (v : V) : ∀ fs : List (Str × V), f ∈ (jN f v fs).map (·.1) /\ ∀ g, g ∈ fs.map (·.1) -> g ∈ (jN f v fs).map (·.1)
  | [] => ⟨by simp [jN], fun g h => by simp at h⟩
  | (k, x) :: r => by
    obtain ⟨i1, i2⟩ := U7 f v r
    rw [show jN f v ((k, x) :: r) = (if k = f then (k, v) :: r else (k, x) :: jN f v r) from rfl]
    by_cases hk : k = f
    · rw [if_pos hk]
      subst hk
      exact ⟨by simp, fun g h => by simpa using h⟩
    · rw [if_neg hk]
      refine ⟨?_, fun g h => ?_⟩
      · rw [List.map_cons]
        exact List.mem_cons_of_mem _ i1
      · rw [List.map_cons] at h ⊢
        rcases List.mem_cons.mp h with e | e
        · exact List.mem_cons.mpr (.inl e)
        · exact List.mem_cons_of_mem _ (i2 g e)
theorem Wu (f : Str) (v : V) : ∀ fs : List (Str × V), (jN f v fs).length <= fs.length + 1
  | [] => by simp [jN]
  | (k, x) :: r => by
    have ih := Wu f v r
    rw [show jN f v ((k, x) :: r) = (if k = f then (k, v) :: r else (k, x) :: jN f v r) from rfl]
    by_cases hk : k = f
    · rw [if_pos hk, List.length_cons, List.length_cons]; omega
    · rw [if_neg hk, List.length_cons, List.length_cons]; omega
theorem RelO.some_of {v : V} {o : Option Value} (r : RelO (some v) o) : ∃ u, o = some u /\ RelV v u := by
  cases o with
  | none => exact (show False from r).elim
  | some u => exact ⟨u, rfl, r⟩
theorem RelO.none_of {o : Option Value} (r : RelO none o) : o = none := by
  cases o with
  | none => rfl
  | some u => exact (show False from r).elim
theorem zg2 {v : V} {u : Value} (r : RelV v u) : PySem.W.handedIn u = true := by
  cases v with
  | non => cases (show u = Value.none from r); rfl
  | bl b => cases (show u = Value.bool b from r); rfl
  | int i => obtain ⟨t, e⟩ := (show ∃ t, u = Value.int i t from r); cases e; rfl
  | str x => obtain ⟨t, e⟩ := (show ∃ t, u = Value.str x t from r); cases e; rfl
  | byt b => obtain ⟨t, e⟩ := (show ∃ t, u = Value.bytes b t from r); cases e; rfl
  | flt b => obtain ⟨t, e⟩ := (show ∃ t, u = Value.float b t from r); cases e; rfl
  | ref a => cases (show u = Value.ref a from r); rfl
  | ty n => cases (show u = Value.type n from r); rfl
section
variable {P : Program} {w : World} {H H' : Hp} {h h' : Heap} {a C dx : Addr} {fs fs' : List (Str × V)}
theorem VZ (hok : HOk P w H h) (e : H a = some (.ins C dx fs)) : ∃ mA, ObjM h a dx C mA /\ (∀ f, RelO (fs.lookup f) (mA f)) /\ PySem.Within mA (fs.map (·.1)) /\ fs.length <= 1000 /\ H dx = some (.own a) := by
  obtain ⟨d, z, ne, ob, mA, n, r, q⟩ := (show ObjOk P w H h a (.ins C dx fs) from hok a _ e)
  exact ⟨mA, ⟨ob, n, ne⟩, r, q, z, d⟩
end
structure Cls (K : PySem.W.Frag) (C : Addr) : Prop where
  pg : PySem.W.plainGet K C Str.empty = true
  hd : PySem.W.hasDictIn K C = true
  po : PySem.W.plainOver K C = true
  sa : PySem.W.findIn K (.ref C) "__setattr__" = some (some (.builtin "object.__setattr__"))
theorem Cls.get {K : PySem.W.Frag} {C : Addr} (c : Cls K C) (f : Str) : PySem.W.plainGet K C f = true := c.pg
def NoAttr (K : PySem.W.Frag) (C : Addr) (f : Str) : Prop := PySem.W.findIn K (.ref C) f = some none
theorem NoAttr.taker {K : PySem.W.Frag} {C : Addr} {f : Str} (n : NoAttr K C f) : PySem.W.takerIn K C f = some none := by
  unfold PySem.W.takerIn
  rw [show PySem.W.findIn K (.ref C) f = some none from n]
  rfl
structure ziL (K : PySem.W.Frag) (C : Addr) (m : Str) (f : Addr) : Prop where
  at_ : PySem.W.findIn K (.ref C) m = some (some (.ref f))
  fn : PySem.W.isFn K (.ref f) = true
  kp : PySem.W.keepIn K (.ref f) = true
section
variable {X : Cx} {pins : List (Addr × Obj)} {σ : St} {H : Hp} {s : Shared} {a C dx : Addr} {fs : List (Str × V)} {f : Str} {v : V} {A : Around} {E : Value -> Shared -> Prop}
theorem zfC {b : Bool} {Q : Value -> Shared -> Prop} (I : Inv X pins σ H s) (e : H a = some (.ins C dx fs)) (c : Cls X.K C) (n : NoAttr X.K C f) (l : fs.lookup f = some v)
    (h : ∀ u s', Inv X pins σ H s' -> RelV v u -> Q u s') : wpAny (model X.prog X.w) A (getAttr (.ref a) f b) Q E s := by
  obtain ⟨mA, O, r, _, _, _⟩ := VZ I.hok e
  obtain ⟨u, hu, ru⟩ := RelO.some_of (v := v) (o := mA f) (by rw [← l]; exact r f)
  exact zkZ I.kIn O (c.get f) c.hd n hu (zg2 ru) (h u _ (I.tok _) ru)
theorem Rr {m : Str} {g : Addr} {pl : Sem Bool} {Q : Value × List Value -> Shared -> Prop} (I : Inv X pins σ H s) (e : H a = some (.ins C dx fs)) (c : Cls X.K C) (k : ziL X.K C m g) (l : fs.lookup m = none)
    (h : Q (.ref g, [.ref a]) s) : wpAny (model X.prog X.w) A (getMethod (.ref a) m pl) Q E s := by
  obtain ⟨mA, O, r, _, _, _⟩ := VZ I.hok e
  have hn : mA m = none := RelO.none_of (by rw [← l]; exact r m)
  exact ziJ I.kIn O (c.get m) k.at_ k.fn hn h
theorem zfD {y : V} {u : Value} {Q : Unit -> Shared -> Prop} (I : Inv X pins σ H s) (e : H a = some (.ins C dx fs)) (c : Cls X.K C) (n : NoAttr X.K C f) (hl : fs.length < 1000) (ry : RelV y u)
    (h : ∀ s', Inv X pins σ (zX H a (.ins C dx (jN f y fs))) s' -> Q () s') : wpAny (model X.prog X.w) A (setAttr (.ref a) f u) Q E s := by
  obtain ⟨mA, O, r, wi, _, ho⟩ := VZ I.hok e
  have hz : (fs.map (·.1)).length <= sizeLine := by rw [List.length_map, sizeLine_eq]; omega
  refine zk0 I.kIn O c.sa c.po n.taker c.hd wi hz fun h' O' sb => h _ ?_
  have hd : ∃ o, h'.get? dx = some o := let ⟨o, _, _, e', _⟩ := O'.ns; ⟨o, e'⟩
  refine I.write (x := a) (e := dx) (by rw [e]; exact True.intro) (.inr ho) (fun b q hb z => (sb.2 b hb).trans z) hd ?_
  refine ⟨by rw [zM O.ne]; exact ho, ?_, O.ne, O'.obj, _, O'.ns, fun g => ?_, fun g hg => ?_⟩
  · have := Wu f y fs; omega
  · show RelO ((jN f y fs).lookup g) (if g = f then some u else mA g)
    rw [Wt]
    by_cases q : g = f
    · rw [if_pos q, if_pos q]; exact ry
    · rw [if_neg q, if_neg q]; exact r g
  · by_cases q : g = f
    · rw [q]; exact (U7 f y fs).1
    · refine (U7 f y fs).2 g (wi g fun z => hg ?_)
      show (if g = f then some u else mA g) = none
      rw [if_neg q]; exact z
theorem Inv.made (I : Inv X pins σ H s) : Inv X pins σ (zX (zX H s.heap.objs.size (.own (s.heap.objs.size + 1))) (s.heap.objs.size + 1) (.ins C s.heap.objs.size []))
    { s with heap := (s.heap.push PySem.W.emptyDict).push (PySem.W.instObj C s.heap.objs.size) } := by
  have e1 : (s.heap.push PySem.W.emptyDict).get? s.heap.objs.size = some PySem.W.emptyDict := Heap.get?_push_size s.heap rfl
  have e2 : ((s.heap.push PySem.W.emptyDict).push (PySem.W.instObj C s.heap.objs.size)).get? (s.heap.objs.size + 1) = some (PySem.W.instObj C s.heap.objs.size) := by
    have := Heap.get?_push_size (s.heap.push PySem.W.emptyDict) (o := PySem.W.instObj C s.heap.objs.size) rfl
    rwa [Heap.size_push] at this
  have e3 : (s.heap.push PySem.W.emptyDict).Ns s.heap.objs.size (fun _ => none) := ⟨PySem.W.emptyDict, #[], _, e1, rfl, (fun e he => absurd he (by simp)), fun _ => rfl⟩
  have I1 := I.laid (a := s.heap.objs.size) (o := .own (s.heap.objs.size + 1)) (h' := s.heap.push PySem.W.emptyDict) (t' := s.toks) (fun b u q => Heap.get?_push_of_some _ q) (Nat.le_refl _) ⟨_, e1⟩
  refine I1.laid (a := s.heap.objs.size + 1) (o := .ins C s.heap.objs.size []) (t' := s.toks) (fun b u q => Heap.get?_push_of_some _ q) (Nat.le_of_eq (Heap.size_push _ _)) ?_
  have ne : s.heap.objs.size ≠ s.heap.objs.size + 1 := Nat.ne_of_lt (Nat.lt_succ_self _)
  refine ⟨by rw [zM ne, je], Nat.zero_le _, ne, e2, fun _ => none, (Heap.Ns1.of_empty e3).at fun o q => Heap.get?_push_of_some _ q, fun _ => True.intro, fun y hy => absurd rfl hy⟩
theorem zk1 {prog : Program} {w : World} {env : Env} {e : Expr} {f : Str} {pos : Pos} {s : Shared} {Q : Value -> Shared -> Prop} (hb : attributeBase e f env (eval e env) = eval e env)
    (h : wpAny (model prog w) A (eval e env) (fun o s₁ => wpAny (model prog w) A (getAttr o f true) Q E s₁) E s) : wpAny (model prog w) A (eval (.Attribute e f pos) env) Q E s :=
  Attribute_any_ h (by rw [arm_eval_Attribute, hb])
end
def zmC (K : PySem.W.Frag) (ta : TE) (f : Str) : TE := fun σ H Q => ta σ H fun x H1 => ∃ a C dx fs v, x = .ref a /\ H1 a = some (.ins C dx fs) /\ Cls K C /\ NoAttr K C f /\ fs.lookup f = some v /\ Q v H1
def zmD (K : PySem.W.Frag) (ta tv : TE) (f : Str) : TS := fun D σ H => tv σ H fun y H1 => ta σ H1 fun x H2 => ∃ a C dx fs, x = .ref a /\ H2 a = some (.ins C dx fs) /\ Cls K C /\ NoAttr K C f /\ fs.length < 1000 /\
  D.nx σ (zX H2 a (.ins C dx (jN f y fs)))
section
variable {X : Cx} {o e value : Expr} {f : Str} {pos pos' tpos : Pos} {ta tv : TE}
theorem zmE (he : PE X e ta) (hb : attributeBase e f X.env (eval e X.env) = eval e X.env) : PE X (.Attribute e f pos) (zmC X.K ta f) := by
  intro pins s σ H Q I h
  refine zk1 hb (zO (he pins s σ H _ I h) fun u s1 ⟨x, H1, I1, rx, a, C, dx, fs, v, ex, ea, c, n, l, q⟩ => ?_)
  subst ex
  obtain rfl : u = Value.ref a := rx
  exact zfC I1 ea c n l fun u' s2 I2 ru => ⟨v, H1, I2, ru, q⟩
theorem zmF (ha : PE X o ta) (hv : PE X value tv) (hs : swapsWith value (some (.Attribute o f pos')) pos.line X.env = pure false) : PS X (.Assign [.Attribute o f pos'] value pos) (zmD X.K ta tv f) := by
  intro pins s σ H D I h
  refine plainObj_wpAny_Assign_Attribute (zO (hv pins s σ H _ I h) fun u s1 ⟨y, H1, I1, ry, q⟩ => zO (ha pins s1 σ H1 _ I1 q) fun ov s2 ⟨x, H2, I2, rx, a, C, dx, fs, ex, ea, c, n, l, q2⟩ => ?_) hs
  subst ex
  obtain rfl : ov = Value.ref a := rx
  exact zfD I2 ea c n l ry fun s3 I3 => ⟨σ, _, I3, q2⟩
end
section
variable {X : Cx} {pins : List (Addr × Obj)} {σ : St} {H : Hp} {s : Shared} {A : Around} {E : Value -> Shared -> Prop} {Q : Value -> Shared -> Prop} {c : Value} {b : Bool}
inductive QJ (K : PySem.W.Frag) (H : Hp) : V -> Value -> Prop where
  | non : QJ K H .non (.type "NoneType")
  | bl (x : Bool) : QJ K H (.bl x) (.type "bool")
  | int (i : Int) : QJ K H (.int i) (.type "int")
  | str (x : Str) : QJ K H (.str x) (.type "str")
  | flt (x : UInt64) : QJ K H (.flt x) (.type "float")
  | lst {a : Addr} {xs : List V} (e : H a = some (.lst xs)) : QJ K H (.ref a) (.type "list")
  | frz {a : Addr} {o : Obj} {xs : List V} (e : H a = some (.frz o (.lst xs))) : QJ K H (.ref a) (.type "list")
  | tup {a : Addr} {xs : List V} (e : H a = some (.tup xs)) : QJ K H (.ref a) (.type "tuple")
  | dK {a : Addr} {kvs : List (yF × V)} (e : H a = some (.dK kvs)) : QJ K H (.ref a) (.type "dict")
  | dT {a : Addr} {kvs : List (List yF × V)} (e : H a = some (.dT kvs)) : QJ K H (.ref a) (.type "dict")
  | ins {a C dx : Addr} {fs : List (Str × V)} (e : H a = some (.ins C dx fs)) (cl : Cls K C) (ha : PySem.W.findIn K (.ref C) "__class__" = some (some (.builtin "object.__class__")))
      (hn : PySem.W.specialIn K (.builtin "object.__class__") "__get__" = some (some (.builtin "getset_descriptor.__get__"))) (htk : PySem.W.takesIn K (.builtin "object.__class__") = some true)
      (hm : PySem.W.mroIn K C (.type "object") = some true) : QJ K H (.ref a) (.ref C)
theorem zg3 {x : V} {u t : Value} (I : Inv X pins σ H s) (rx : RelV x u) (ty : QJ X.K H x t) (e : PySem.W.kitOne X.K t c = some b) (h : ∀ tk, Q (.bool b) { s with toks := tk }) :
    wpAny (model X.prog X.w) A (call (.builtin "isinstance") [u, c]) Q E s := by
  cases ty with
  | non => cases (show u = Value.none from rx); exact PySem.W.kia_one PySem.W.kitx_none I.kIn True.intro e (fun z => nomatch z) h
  | bl y => cases (show u = Value.bool y from rx); exact PySem.W.kia_one PySem.W.kitx_bool I.kIn True.intro e (fun z => nomatch z) h
  | int i => obtain ⟨t, q⟩ := (show ∃ t, u = Value.int i t from rx); cases q; exact PySem.W.kia_one PySem.W.kitx_int I.kIn True.intro e (fun z => nomatch z) h
  | str y => obtain ⟨t, q⟩ := (show ∃ t, u = Value.str y t from rx); cases q; exact PySem.W.kia_one PySem.W.kitx_str I.kIn True.intro e (fun z => nomatch z) h
  | flt y => obtain ⟨t, q⟩ := (show ∃ t, u = Value.float y t from rx); cases q; exact PySem.W.kia_one PySem.W.kitx_float I.kIn True.intro e (fun z => nomatch z) h
  | @lst a xs ea =>
    cases (show u = Value.ref a from rx)
    obtain ⟨_, _, n, _, h1⟩ := (show ObjOk X.prog X.w H s.heap a (.lst xs) from I.hok a _ ea)
    exact PySem.W.kia_one PySem.W.kitx_list I.kIn ⟨_, h1, rfl⟩ e (fun z => nomatch z) h
  | @frz a ob xs ea =>
    cases (show u = Value.ref a from rx)
    obtain ⟨_, _, _, n, _, h1⟩ := (show ObjOk X.prog X.w H s.heap a (.frz ob (.lst xs)) from I.hok a _ ea)
    exact PySem.W.kia_one PySem.W.kitx_list I.kIn ⟨_, h1, rfl⟩ e (fun z => nomatch z) h
  | @tup a xs ea =>
    cases (show u = Value.ref a from rx)
    obtain ⟨_, _, _, p⟩ := (show ObjOk X.prog X.w H s.heap a (.tup xs) from I.hok a _ ea)
    obtain ⟨o, h1, h2, _⟩ := p
    exact PySem.W.kia_one PySem.W.kitx_tuple I.kIn ⟨o, h1, h2⟩ e (fun z => nomatch z) h
  | @dK a kvs ea =>
    cases (show u = Value.ref a from rx)
    obtain ⟨_, _, vs, _, p⟩ := (show ObjOk X.prog X.w H s.heap a (.dK kvs) from I.hok a _ ea)
    obtain ⟨o, es, ep, h1, h2, _⟩ := p
    exact PySem.W.kia_one PySem.W.kitx_dict I.kIn ⟨o, h1, h2.1⟩ e (fun z => nomatch z) h
  | @dT a kvs ea =>
    cases (show u = Value.ref a from rx)
    obtain ⟨_, _, xs, _, o, es, ep, h1, h2, _⟩ := (show ObjOk X.prog X.w H s.heap a (.dT kvs) from I.hok a _ ea)
    exact PySem.W.kia_one PySem.W.kitx_dict I.kIn ⟨o, h1, h2.1⟩ e (fun z => nomatch z) h
  | @ins a C dx fs ea cl ha hn htk hm =>
    cases (show u = Value.ref a from rx)
    obtain ⟨mA, O, _⟩ := VZ I.hok ea
    obtain ⟨od, J, _⟩ := O.look
    exact PySem.W.kia_one (PySem.W.kitx_own (cl.get _) cl.hd ha hn htk hm) I.kIn J e (fun z => nomatch z) h
end
end L2
namespace L2
open PySem PySem.Spec PyProof.Rows
structure Room (k : Nat) (A : Around) : Prop where
  hd : A.handled = none
  dp : A.depth + 3 * k + 5 < recursionLimit
  un : A.units + 16 * k + 200 < cLine
theorem Room.mono {j k : Nat} {A : Around} (r : Room k A) (h : j <= k) : Room j A := ⟨r.hd, by have := r.dp; omega, by have := r.un; omega⟩
theorem Room.deeper {k : Nat} {A : Around} (r : Room (k + 1) A) (env : Env) : Room k (A.deeper env) :=
  ⟨r.hd, by have := r.dp; show A.depth + 1 + 3 * k + 5 < _; omega, by have := r.un; show A.units + 3 + 16 * k + 200 < _; omega⟩
theorem zfE {A : Around} {C : Addr} {us : List Value} {kw : List (Str × Value)} : (A.under (.builtin "type.__call__" ⟨.ref C :: us, kw⟩)).depth = A.depth + 1 := by
  first | rfl | simp [Around.under, Code.weight, Code.isCreation, Code.isGuard, Code.isCaller, Code.frames, Code.isFrame, guardIds]
theorem zfF {A : Around} {C : Addr} {us : List Value} {kw : List (Str × Value)} : (A.under (.builtin "type.__call__" ⟨.ref C :: us, kw⟩)).units = A.units + 1 := by
  first | rfl | simp [Around.under, Code.cUnits, Code.frames, Code.isFrame]
theorem Room.make {k : Nat} {A : Around} (r : Room (k + 1) A) (C : Addr) (us : List Value) (kw : List (Str × Value)) : Room k (A.under (.builtin "type.__call__" ⟨.ref C :: us, kw⟩)) :=
  ⟨r.hd, by have := r.dp; rw [zfE]; omega, by have := r.un; rw [zfF]; omega⟩
theorem Room.depth {k : Nat} {A : Around} (r : Room k A) : A.depth < recursionLimit := by have := r.dp; omega
def Zm : TA := fun _ H Q => Q [] H
def JC (ta : TE) (tr : TA) : TA := fun σ H Q => ta σ H fun x H1 => tr σ H1 fun xs H2 => Q (x :: xs) H2
section
variable {X : Cx} {e : Expr} {es : List Expr} {te : TE} {t : TA} {pos : Pos}
theorem jR : PA X [] Zm := fun _ _ _ _ H Q I h => Calls.spliced_nil ⟨[], H, I, .nil, h⟩
theorem jk (ha : PE X e te) (hr : PA X es t) (hs : starEach (e :: es) X.env = (false, eval e X.env) :: starEach es X.env := by rfl) : PA X (e :: es) (JC te t) := by
  intro pos pins s σ H Q I h
  rw [hs]
  show wpAny _ _ (spliced ((false, eval e X.env) :: backTo pos (starEach es X.env))) _ _ s
  refine Calls.spliced_cons (zO (ha pins s σ H _ I h) fun u s1 ⟨x, H1, I1, r1, q1⟩ => ?_)
  exact zO (hr pos pins s1 σ H1 _ I1 q1) fun us s2 ⟨xs, H2, I2, r2, q2⟩ => ⟨x :: xs, H2, I2, .cons r1 r2, q2⟩
def zmG (t : TA) : TE := fun σ H Q => t σ H fun xs H1 => xs.length <= sizeLine /\ ∀ p, H1 p = none -> Q (.ref p) (zX H1 p (.tup xs))
def zmH (t : TA) : TE := fun σ H Q => t σ H fun xs H1 => xs.length <= sizeLine /\ ∀ p, H1 p = none -> Q (.ref p) (zX H1 p (.lst xs))
theorem zmI {x1} (h : PA X es t) : PE X (.Tuple es x1 pos) (zmG t) := by
  intro pins s σ H Q I hq
  refine wpAny_Tuple_spliced (zO (h pos pins s σ H _ I hq) fun us s1 ⟨xs, H1, I1, r, z, q⟩ => ⟨by rw [← r.length]; exact z, ?_⟩)
  have hf : H1 s1.heap.objs.size = none := I1.hok.fresh (Nat.le_refl _)
  refine ⟨.ref s1.heap.objs.size, zX H1 s1.heap.objs.size (.tup xs), I1.laid (t' := s1.toks) (fun b u e => Heap.get?_push_of_some _ e) (Nat.le_refl _) ?_, rfl, q _ hf⟩
  exact ⟨z, us, r, ⟨_, Heap.get?_push_size _ rfl, rfl, _, rfl⟩⟩
theorem zmJ (h : PA X es t) : PE X (.List es pos) (zmH t) := by
  intro pins s σ H Q I hq
  refine wpAny_List_spliced (zO (h pos pins s σ H _ I hq) fun us s1 ⟨xs, H1, I1, r, z, q⟩ => ⟨by rw [← r.length]; exact z, ?_⟩)
  have hf : H1 s1.heap.objs.size = none := I1.hok.fresh (Nat.le_refl _)
  refine ⟨.ref s1.heap.objs.size, zX H1 s1.heap.objs.size (.lst xs), I1.laid (t' := s1.toks) (fun b u e => Heap.get?_push_of_some _ e) (Nat.le_refl _) ?_, rfl, q _ hf⟩
  exact ⟨z, us, 0, r, Heap.get?_push_size _ rfl⟩
end
abbrev Sp := List V -> Hp -> VK -> XK -> Prop
abbrev Yg := List Env -> Hp -> Shared -> XK -> Value -> Shared -> Prop
structure Env0 (P : Program) (w : World) (K : PySem.W.Frag) (mg : Str -> Option Value) (base : Heap) (A : Around) (outer : List Env) (s : Shared) (H : Hp) : Prop where
  frames : A.frames = some outer
  mod : Mod K mg base
  bs : ∀ b o, base.get? b = some o -> s.heap.get? b = some o /\ H b = none
  bsz : base.objs.size <= s.heap.objs.size
  funs : s.heap.FunFrames base outer
  frf : ∀ b ∈ U5 outer, H b = none
  hok : HOk P w H s.heap
  bare : AllBare s.gens
def CE (outer : List Env) (P : Program) (w : World) (H : Hp) (s : Shared) (Q : VK) (u : Value) (s' : Shared) : Prop :=
  ∃ v H', s'.os = s.os /\ AllBare s'.gens /\ Un (U5 outer) [] H H' s.heap s'.heap /\ HOk P w H' s'.heap /\ RelV v u /\ Q v H'
def CR (CX : Yg) (outer : List Env) (P : Program) (w : World) (H : Hp) (s : Shared) (Q : VK) (E : XK) (r : Result) (s' : Shared) : Prop :=
  match r with
  | .ok (.ret u) => CE outer P w H s Q u s'
  | .ok _ => False
  | .error e => CX outer H s E e s'
structure FnOk (P : Program) (w : World) (K : PySem.W.Frag) (mg : Str -> Option Value) (base : Heap) (CX : Yg) (k : Nat) (f : Addr) (fd : FuncData) (ps : List Str) (sp : Sp) : Prop where
  len : ∀ vs H Q E, sp vs H Q E -> vs.length = ps.length
  run : ∀ (A : Around) (outer : List Env) (s : Shared) (H : Hp) (args : Args) (us : List Value) (vs : List V) (Q : VK) (E : XK), Room k A -> Env0 P w K mg base A outer s H -> BindsTo s fd args (ps.zip us) -> Vals vs us -> sp vs H Q E ->
    codeAny (model P w) A (.call (.ref f) args) (CR CX outer P w H s Q E) s
theorem FnOk.mono {P : Program} {w : World} {K : PySem.W.Frag} {mg : Str -> Option Value} {base : Heap} {CX : Yg} {j k : Nat} {f : Addr} {fd : FuncData} {ps : List Str} {sp : Sp} (F : FnOk P w K mg base CX j f fd ps sp) (h : j <= k) :
    FnOk P w K mg base CX k f fd ps sp := ⟨F.len, fun A outer s H args us vs Q E hr => F.run A outer s H args us vs Q E (hr.mono h)⟩
theorem FnOk.imp {P : Program} {w : World} {K : PySem.W.Frag} {mg : Str -> Option Value} {base : Heap} {CX : Yg} {k : Nat} {f : Addr} {fd : FuncData} {ps : List Str} {sp sp' : Sp} (F : FnOk P w K mg base CX k f fd ps sp)
    (h : ∀ vs H Q E, sp' vs H Q E -> sp vs H Q E) : FnOk P w K mg base CX k f fd ps sp' :=
  ⟨fun vs H Q E q => F.len vs H Q E (h _ _ _ _ q), fun A outer s H args us vs Q E hr he hb hv hs => F.run A outer s H args us vs Q E hr he hb hv (h _ _ _ _ hs)⟩
theorem Env0.make {P : Program} {w : World} {K : PySem.W.Frag} {mg : Str -> Option Value} {base : Heap} {A : Around} {outer : List Env} {s : Shared} {H : Hp} (e : Env0 P w K mg base A outer s H) (C : Addr) (us : List Value) (kw : List (Str × Value)) :
    Env0 P w K mg base (A.under (.builtin "type.__call__" ⟨.ref C :: us, kw⟩)) outer s H := ⟨by first | exact e.frames | (simpa [Around.under, Code.envs, Code.isFrame, pushEnvs] using e.frames), e.mod, e.bs, e.bsz, e.funs, e.frf, e.hok, e.bare⟩
section
variable {X : Cx} {pins : List (Addr × Obj)} {σ : St} {H : Hp} {s s' : Shared}
theorem Inv.env0 (I : Inv X pins σ H s) : Env0 X.prog X.w X.K X.mg X.base X.A X.stack s H :=
  ⟨I.ok.frames, I.ok.mod, I.bs, Nat.le_trans I.ok.bsz I.sz, I.stack, I.stkFree, I.hok, I.bare⟩
theorem Inv.after {Q : VK} {u : Value} (I : Inv X pins σ H s) (h : CE X.stack X.prog X.w H s Q u s') : EP X pins σ Q u s' := by
  obtain ⟨v, H', os, bare, un, hok, r, q⟩ := h
  obtain ⟨hh, g, d, t, os'⟩ := s'
  obtain rfl : os' = s.os := os
  exact ⟨v, H', I.call (h' := hh) (g' := g) (d' := d) (t' := t) (ch := []) un hok bare (fun b z => absurd z (by simp)), r, q⟩
end
def V0 (sp : Sp) (dvs : List V) (E : XK) (t : TA) : TE := fun σ H Q => t σ H fun vs H1 => sp (vs ++ dvs) H1 Q E
def zkc (C : Addr) (sp : Sp) (dvs : List V) (E : XK) (t : TA) : TE := fun σ H Q => t σ H fun vs H1 => ∀ x dx, H1 x = none -> H1 dx = none -> dx ≠ x ->
  sp (.ref x :: (vs ++ dvs)) (zX (zX H1 dx (.own x)) x (.ins C dx [])) (fun v H2 => v = .non /\ Q (.ref x) H2) E
def Binds (K : PySem.W.Frag) (fd : FuncData) (ps : List Str) (ds : List Value) : Prop :=
  ∀ (s : Shared) (us : List Value), K.In s.heap -> (us ++ ds).length = ps.length -> BindsTo s fd ⟨us, []⟩ (ps.zip (us ++ ds))
theorem Binds.all {K : PySem.W.Frag} {fd : FuncData} {ps : List Str} (h : ∀ us : List Value, us.length = ps.length -> bindArgs fd ⟨us, []⟩ = pure (ps.zip us)) : Binds K fd ps [] := fun s us _ hl => by
  rw [List.append_nil] at hl ⊢
  exact .of_eq (h us hl)
def U8 (CX : Yg) (X : Cx) (E : XK) : Prop := ∀ (pins : List (Addr × Obj)) (σ : St) (H : Hp) (s : Shared) (e : Value) (s' : Shared), Inv X pins σ H s -> CX X.stack H s E e s' -> X.xe e s'
section
variable {X : Cx} {CX : Yg} {k : Nat} {f C : Addr} {fd : FuncData} {ps : List Str} {sp : Sp} {dvs : List V} {ds : List Value} {E : XK} {x m : Str} {p pos apos : Pos} {e o : Expr} {es : List Expr} {ta : TE} {t : TA}
theorem zcz {pins : List (Addr × Obj)} {σ : St} {H : Hp} {s : Shared} {Q : VK} {us : List Value} {vs : List V} (F : FnOk X.prog X.w X.K X.mg X.base CX k f fd ps sp) (hr : Room k X.A) (hb : Binds X.K fd ps ds) (hd : Vals dvs ds) (hx : U8 CX X E)
    (I : Inv X pins σ H s) (r : Vals vs us) (h : sp (vs ++ dvs) H Q E) : wpAny (model X.prog X.w) X.A (call (.ref f) us) (EP X pins σ Q) X.xe s := by
  have r2 : Vals (vs ++ dvs) (us ++ ds) := r.append hd
  have hl : (us ++ ds).length = ps.length := by rw [← r2.length]; exact F.len _ _ _ _ h
  refine wpAny_call (codeAny_mono (F.run X.A X.stack s H ⟨us, []⟩ (us ++ ds) (vs ++ dvs) Q E hr I.env0 (hb s us I.kIn hl) r2 h) fun r s' hq => ?_)
  cases r with
  | error e => exact hx pins σ H s e s' I hq
  | ok fl =>
    cases fl with
    | ret u => exact I.after hq
    | next => exact False.elim hq
    | brk => exact False.elim hq
    | cont => exact False.elim hq
theorem zk2 (F : FnOk X.prog X.w X.K X.mg X.base CX k f fd ps sp) (hr : Room k X.A) (hg : Gl X x) (hm : X.mg x = some (.ref f)) (hk : PySem.W.keepIn X.K (.ref f) = true) (hb : Binds X.K fd ps ds) (hd : Vals dvs ds) (hx : U8 CX X E)
    (ha : PA X (e :: es) t) (hdb : (x == ("__debug__" : Str)) = false := by decide) (he : starEach (e :: es) X.env = (false, eval e X.env) :: starEach es X.env := by rfl) (hpl : (backTo pos (starEach es X.env)).any (·.1) = false := by rfl) :
    PE X (.Call (.Name x p) (e :: es) [] pos) (V0 sp dvs E t) := by
  intro pins s σ H Q I h
  refine wpAny_Call_Name_kw (zaD I hg hm ?_ hdb)
  refine PySem.W.callWith_K (h₀ := X.base) I.ok.mod.kin hk (zO (ha pos pins s σ H _ I h) fun us s1 ⟨vs, H1, I1, r, q⟩ => ⟨I1.kIn, ?_⟩) he hpl
  exact zcz F hr hb hd hx I1 r q
structure Mk (K : PySem.W.Frag) (C f : Addr) : Prop where
  makes : PySem.W.makesIn K C = true
  init : PySem.W.findIn K (.ref C) "__init__" = some (some (.ref f))
  fn : PySem.W.isFn K (.ref f) = true
  kp : PySem.W.keepIn K (.ref C) = true
theorem ziM {pins : List (Addr × Obj)} {σ : St} {H : Hp} {s : Shared} {Q : VK} {us : List Value} {vs : List V} (M : Mk X.K C f) (F : FnOk X.prog X.w X.K X.mg X.base CX k f fd ps sp) (hr : Room (k + 1) X.A) (hb : Binds X.K fd ps ds) (hd : Vals dvs ds)
    (hx : U8 CX X E) (I : Inv X pins σ H s) (r : Vals vs us)
    (h : ∀ x dx, H x = none -> H dx = none -> dx ≠ x -> sp (.ref x :: (vs ++ dvs)) (zX (zX H dx (.own x)) x (.ins C dx [])) (fun v H2 => v = .non /\ Q (.ref x) H2) E) :
    wpAny (model X.prog X.w) X.A (call (.ref C) us) (EP X pins σ Q) X.xe s := by
  have hq := h (s.heap.objs.size + 1) s.heap.objs.size (I.hok.fresh (Nat.le_succ _)) (I.hok.fresh (Nat.le_refl _)) (Nat.ne_of_lt (Nat.lt_succ_self _))
  have I2 := Inv.made (C := C) I
  have r2 : Vals (V.ref (s.heap.objs.size + 1) :: (vs ++ dvs)) (Value.ref (s.heap.objs.size + 1) :: (us ++ ds)) := .cons rfl (r.append hd)
  have hl : (Value.ref (s.heap.objs.size + 1) :: us ++ ds).length = ps.length := by
    have e := r2.length
    rw [F.len _ _ _ _ hq] at e
    exact e.symm
  refine wpAny_call (ziK (f := f) I.kIn M.makes M.init (beq_iff_eq.mp M.fn) (codeAny_mono (F.run _ X.stack _ _ ⟨Value.ref (s.heap.objs.size + 1) :: us, []⟩ (Value.ref (s.heap.objs.size + 1) :: (us ++ ds)) _ _ E (hr.make C us [])
    (I2.env0.make C us []) (hb _ (Value.ref (s.heap.objs.size + 1) :: us) I2.kIn hl) r2 hq) fun r s' hq' => ?_))
  cases r with
  | error e => exact hx pins σ _ _ e s' I2 hq'
  | ok fl =>
    cases fl with
    | ret u =>
      obtain ⟨v, H', I3, rv, ev, q3⟩ := I2.after hq'
      subst ev
      exact ⟨rv, ⟨V.ref (s.heap.objs.size + 1), H', I3, rfl, q3⟩⟩
    | next => exact False.elim hq'
    | brk => exact False.elim hq'
    | cont => exact False.elim hq'
theorem zk3 (M : Mk X.K C f) (F : FnOk X.prog X.w X.K X.mg X.base CX k f fd ps sp) (hr : Room (k + 1) X.A) (hg : Gl X x) (hm : X.mg x = some (.ref C)) (hb : Binds X.K fd ps ds) (hd : Vals dvs ds) (hx : U8 CX X E)
    (ha : PA X (e :: es) t) (hdb : (x == ("__debug__" : Str)) = false := by decide) (he : starEach (e :: es) X.env = (false, eval e X.env) :: starEach es X.env := by rfl) (hpl : (backTo pos (starEach es X.env)).any (·.1) = false := by rfl) :
    PE X (.Call (.Name x p) (e :: es) [] pos) (zkc C sp dvs E t) := by
  intro pins s σ H Q I h
  refine wpAny_Call_Name_kw (zaD I hg hm ?_ hdb)
  refine PySem.W.callWith_K (h₀ := X.base) I.ok.mod.kin M.kp (zO (ha pos pins s σ H _ I h) fun us s1 ⟨vs, H1, I1, r, q⟩ => ⟨I1.kIn, ?_⟩) he hpl
  exact ziM M F hr hb hd hx I1 r q
end
section
variable {X : Cx} {CX : Yg} {k : Nat} {f C : Addr} {fd : FuncData} {ps ks : List Str} {sp : Sp} {E : XK} {x m : Str} {p pos apos kpos : Pos} {e o : Expr} {es : List Expr} {kws : List Keyword} {te ta : TE} {t tk : TA} {nm : Option Str}
variable {g : List Value -> List Value -> List Value} {gV : List V -> List V -> List V}
end
structure zz (N P : List Str) (sc : Scope) : Prop where
  kind : sc.kind = .function
  co : sc.isCoroutine = false
  gen : sc.isGenerator = false
  nd : N.Nodup
  pre : N.take P.length = P
  par : ∀ x ∈ P, sc.names.lookup x = some .local \/ sc.names.lookup x = some .cell
  nofree : ∀ y ∈ sc.names, y.2 ≠ .free
theorem zbd {kindOf : Str -> Option NameKind} {x : Str} : ∀ {binds : List (Str × Value)} {m : Str -> Option Value}, (∀ v, (x, v) ∉ binds) -> bindL kindOf binds m x = m x
  | [], _, _ => rfl
  | (n, v) :: r, m, h => by
    unfold bindL
    rw [zbd fun w hw => h w (List.mem_cons_of_mem _ hw)]
    split
    · have : x ≠ n := by rintro rfl; exact h v List.mem_cons_self
      simp [this]
    · rfl
theorem zbe {kindOf : Str -> Option NameKind} {x : Str} : ∀ {binds : List (Str × Value)} {m : Str -> Option Value}, (∀ v, (x, v) ∉ binds) -> bindC kindOf binds m x = m x
  | [], _, _ => rfl
  | (n, v) :: r, m, h => by
    unfold bindC
    rw [zbe fun w hw => h w (List.mem_cons_of_mem _ hw)]
    split
    · rfl
    · have : x ≠ n := by rintro rfl; exact h v List.mem_cons_self
      simp [this]
theorem zbf {kindOf : Str -> Option NameKind} {x : Str} {v : Value} : ∀ {P : List Str} {vs : List Value} {i : Nat} {m : Str -> Option Value}, P.Nodup -> P[i]? = some x -> vs[i]? = some v -> kindOf x = some .local ->
    bindL kindOf (P.zip vs) m x = some v
  | [], _, _, _, _, h, _, _ => by simp at h
  | _ :: _, [], _, _, _, _, h, _ => by simp at h
  | p :: P, w :: vs, 0, m, nd, h1, h2, hk => by
    simp at h1 h2; subst h1; subst h2
    show bindL kindOf ((p, w) :: P.zip vs) m p = _
    unfold bindL
    rw [zbd fun v hv => (List.nodup_cons.mp nd).1 (List.of_mem_zip hv).1, if_pos hk]
    simp
  | p :: P, w :: vs, i + 1, m, nd, h1, h2, hk => by
    show bindL kindOf ((p, w) :: P.zip vs) m x = _
    unfold bindL
    exact zbf (i := i) (List.nodup_cons.mp nd).2 (by simpa using h1) (by simpa using h2) hk
theorem zbg {kindOf : Str -> Option NameKind} {x : Str} {v : Value} : ∀ {P : List Str} {vs : List Value} {i : Nat} {m : Str -> Option Value}, P.Nodup -> P[i]? = some x -> vs[i]? = some v -> kindOf x ≠ some .local ->
    bindC kindOf (P.zip vs) m x = some v
  | [], _, _, _, _, h, _, _ => by simp at h
  | _ :: _, [], _, _, _, _, h, _ => by simp at h
  | p :: P, w :: vs, 0, m, nd, h1, h2, hk => by
    simp at h1 h2; subst h1; subst h2
    show bindC kindOf ((p, w) :: P.zip vs) m p = _
    unfold bindC
    rw [zbe fun v hv => (List.nodup_cons.mp nd).1 (List.of_mem_zip hv).1, if_neg hk]
    simp
  | p :: P, w :: vs, i + 1, m, nd, h1, h2, hk => by
    show bindC kindOf ((p, w) :: P.zip vs) m x = _
    unfold bindC
    exact zbg (i := i) (List.nodup_cons.mp nd).2 (by simpa using h1) (by simpa using h2) hk
def start (N : List Str) (vs : List V) : St := vs.map some ++ List.replicate (N.length - vs.length) none
def WP (CX : Yg) (P : Program) (w : World) (K : PySem.W.Frag) (mg : Str -> Option Value) (base : Heap) (N : List Str) (qual : Str) (scope : Scope) (f : Addr) (cd : Value) (A : Around) (outer : List Env) (s : Shared) (H : Hp) (E : XK) : Cx where
  prog := P
  w := w
  K := K
  mg := mg
  base := base
  A := A.deeper (envOfC qual scope s.heap.objs.size f cd)
  N := N
  s₀ := s
  H₀ := H
  env := envOfC qual scope s.heap.objs.size f cd
  outer := outer
  stack := envOfC qual scope s.heap.objs.size f cd :: outer
  ex := []
  calm := true
  fn := fun _ => true
  pn := []
  xe := fun e s' => wpAny (model P w) (A.deeper (envOfC qual scope s.heap.objs.size f cd)) (leaving (envOfC qual scope s.heap.objs.size f cd) e) (fun _ s'' => CX outer H s E e s'') (fun e' s'' => CX outer H s E e' s'') s'
theorem zcA {sc : Scope} {n : Nat} {x : Str} (h : sc.names.lookup x = some .cell) : ∃ c, (cellsFrom n sc.names []).lookup x = some c := by
  have q := PySem.W.cellsFrom_some sc.names n [] (.inl h)
  exact Option.isSome_iff_exists.mp q
theorem zg4 {CX : Yg} {P : Program} {w : World} {K : PySem.W.Frag} {mg : Str -> Option Value} {base : Heap} {N ps : List Str} {qual : Str} {scope : Scope} {f : Addr} {cd : Value} {A : Around} {outer : List Env} {s s1 : Shared} {H : Hp} {E : XK} {us : List Value} {vs : List V}
    (S : zz N ps scope) (hd : A.handled = none) (e0 : Env0 P w K mg base A outer s H) (hl : vs.length = ps.length) (r : Vals vs us)
    (x : InCallC s s.heap.objs.size (bindL (envOfC qual scope s.heap.objs.size f cd).kindOf (ps.zip us) fun _ => none) (cellsFrom (s.heap.objs.size + 1) scope.names []) (bindC (envOfC qual scope s.heap.objs.size f cd).kindOf (ps.zip us) fun _ => none) s1) :
    Inv (WP CX P w K mg base N qual scope f cd A outer s H E) [] (start N vs) H s1 := by
  have hpl : ps.length <= N.length := by have := congrArg List.length S.pre; rw [List.length_take] at this; omega
  obtain ⟨h1, tk, rfl, hk⟩ := x.done
  have noA : ∀ b : Addr, b ∉ (WP CX P w K mg base N qual scope f cd A outer s H E).ex := fun b z => absurd (show b ∈ ([] : List Addr) from z) (by simp)
  refine ⟨⟨e0.mod, S.kind, rfl, rfl, Nat.le_refl _, fun y z c h1 h2 => ?_, fun y hy => ?_, fun y c _ h => ?_, fun _ => hd, Around.frames_deeper e0.frames, .inr ⟨rfl, rfl⟩, fun b z => absurd z (noA b), e0.bs, e0.bsz, fun b _ _ => noA b, fun b z => absurd z (noA b), e0.funs, e0.frf⟩,
    rfl, e0.bare, Un.kept hk, ⟨_, x.toInCall.ns, fun i y v h1 h2 h3 => ?_⟩, fun y c h => ⟨_, x.cell y c h⟩, e0.hok.fresh (Nat.le_refl _), fun y c h => ?_, fun p hp => absurd (show p ∈ ([] : List (Addr × Obj)) from hp) (by simp), e0.hok.kept hk, ?_⟩
  · exact name_of_addr x.apart (PySem.mem_of_lookup h1) (PySem.mem_of_lookup h2)
  · have hy : scope.names.lookup y = some .cell \/ scope.names.lookup y = some .free := hy
    rcases hy with hy | hy
    · exact zcA hy
    · exact absurd rfl (S.nofree _ (PySem.mem_of_lookup hy))
  · exact Nat.le_of_lt (x.above y c (PySem.mem_of_lookup h))
  · have hi : i < vs.length := by
      unfold start at h2
      by_cases hi : i < vs.length
      · exact hi
      · rw [List.getElem?_append_right (by simpa using hi)] at h2
        rw [List.getElem?_replicate] at h2
        split at h2 <;> cases h2
    have ha : vs[i]? = some v := by
      unfold start at h2
      rw [List.getElem?_append_left (by simpa using hi), List.getElem?_map] at h2
      cases e : vs[i]? with
      | none => rw [e] at h2; cases h2
      | some a => rw [e] at h2; cases h2; rfl
    obtain ⟨u, hu, rv⟩ := r.get ha
    have hp : ps[i]? = some y := by
      rw [← S.pre, List.getElem?_take_of_lt (by omega)]; exact h1
    have ndP : ps.Nodup := by rw [← S.pre]; exact S.nd.sublist (List.take_sublist _ _)
    refine ⟨u, rv, ?_⟩
    rcases S.par y (List.mem_of_getElem? hp) with k | k
    · exact .inl ⟨k, zbf ndP hp hu k⟩
    · obtain ⟨c, e⟩ := zcA (n := s.heap.objs.size + 1) k
      refine .inr ⟨.inl k, c, e, ?_⟩
      have q := x.cell y c e
      rw [zbg ndP hp hu (by show scope.names.lookup y ≠ _; rw [k]; decide)] at q
      exact q
  · exact e0.hok.fresh (Nat.le_of_lt (x.above y c (PySem.mem_of_lookup h)))
  · unfold start
    show _ = N.length
    rw [List.length_append, List.length_map, List.length_replicate]
    omega
theorem zn7 {CX : Yg} {P : Program} {w : World} {K : PySem.W.Frag} {mg : Str -> Option Value} {base : Heap} {k : Nat} {f : Addr} {name qual : Str} {params : Arguments} {body : List Stmt} {scope : Scope} {dV kV doc pm cdv ct oc : Value} {an od : Option Addr}
    {osl : Array (Option Value)} {N ps : List Str} {sp : Sp} (lk : K.lookup f = some ⟨oc, od, .func (PySem.W.fnOf name qual params body scope dV kV doc pm an cdv ct), osl⟩) (hcd : PySem.W.codeIn K cdv qual = true) (S : zz N ps scope)
    (len : ∀ vs H Q E, sp vs H Q E -> vs.length = ps.length)
    (hbody : ∀ (A : Around) (outer : List Env) (s : Shared) (H : Hp) (vs : List V) (Q : VK) (E : XK), Room k (A.deeper (envOfC qual scope s.heap.objs.size f cdv)) -> sp vs H Q E ->
      ∃ t, PSs (WP CX P w K mg base N qual scope f cdv A outer s H E) body t /\ t { nx := fun _ H' => Q .non H', rt := Q } (start N vs) H) :
    FnOk P w K mg base CX (k + 1) f (PySem.W.fnOf name qual params body scope dV kV doc pm an cdv ct) ps sp := by
  refine ⟨len, fun A outer s H args us vs Q E hr e0 hb r hsp => ?_⟩
  have hl := len _ _ _ _ hsp
  have KX : K.In s.heap := e0.mod.kin.keeps fun b o e => (e0.bs b o e).1
  have lim : s.heap.NoLimit := e0.mod.nolimit.keeps fun b o e => (e0.bs b o e).1
  have hkind : ∀ y ∈ ps.zip us, scope.names.lookup y.1 = some .local \/ (scope.names.lookup y.1 = some .cell /\ ((cellsFrom (s.heap.objs.size + 1) scope.names []).lookup y.1).isSome = true) := fun ⟨n, v⟩ hy => by
    rcases S.par n (List.of_mem_zip hy).1 with q | q
    · exact .inl q
    · exact .inr ⟨q, PySem.W.cellsFrom_some _ _ _ (.inl q)⟩
  refine codeAny_call_function hr.depth (KX _ _ lk) rfl S.co S.gen rfl (PySem.W.codeRec_of KX hcd) (hb _ _ _ _ ?_)
  refine wpAny_newFunctionEnv_cells S.kind hkind fun env he s1 x => ?_
  subst he
  refine ⟨lim.keeps x.toInCall.keep, codeAny_func ?_⟩
  obtain ⟨t, ht, hq⟩ := hbody A outer s H vs Q E (hr.deeper _) hsp
  have I : Inv (WP CX P w K mg base N qual scope f cdv A outer s H E) [] (start N vs) H s1 := zg4 S hr.hd e0 hl r x
  refine wpAny_mono (ht [] s1 (start N vs) H _ I hq) (fun fl s' hs => ?_) fun e s' hs => hs
  have fin : ∀ {σ' : St} {H' : Hp} {v : V} {u : Value}, Inv (WP CX P w K mg base N qual scope f cdv A outer s H E) [] σ' H' s' -> RelV v u -> Q v H' -> CE outer P w H s Q u s' :=
    fun {σ' H' v u} J rv q => ⟨v, H', J.os, J.bare, J.base, J.hok, rv, q⟩
  cases fl with
  | ret u =>
    obtain ⟨v, σ', H', J, rv, q⟩ := hs
    exact fin J rv q
  | next =>
    obtain ⟨σ', H', J, q⟩ := hs
    exact fin (v := V.non) (u := Value.none) J rfl q
  | brk =>
    obtain ⟨_, _, _, q⟩ := hs
    exact False.elim q
  | cont =>
    obtain ⟨_, _, _, q⟩ := hs
    exact False.elim q
end L2
namespace L2
open PySem PySem.Spec PyProof.Rows
section
variable {X : Cx} {x : Str} {p pos : Pos} {e : Expr} {es : List Expr} {t : TA} {id T : String} {r : List V -> Hp -> VK -> Prop}
def tCB (r : List V -> Hp -> VK -> Prop) (t : TA) : TE := fun σ H Q => t σ H fun vs H1 => r vs H1 Q
theorem Ud (hc : jL X (.builtin id) r) (hg : Gl X x) (hm : X.mg x = none) (hv : bootBuiltins x = some (.builtin id)) (ha : PA X (e :: es) t) (hn : x ≠ "__name__" := by decide) (hdb : (x == ("__debug__" : Str)) = false := by decide)
    (he : starEach (e :: es) X.env = (false, eval e X.env) :: starEach es X.env := by rfl) (hpl : (backTo pos (starEach es X.env)).any (·.1) = false := by rfl) : PE X (.Call (.Name x p) (e :: es) [] pos) (tCB r t) := by
  intro pins s σ H Q I h
  refine wpAny_Call_Name_kw (ZO I hg hm hv ?_ hn hdb)
  exact PyProof.Rows.callWith_builtin1 (zO (ha pos pins s σ H _ I h) fun us s1 ⟨vs, H1, I1, r1, q1⟩ => hc pins s1 σ H1 vs us Q I1 r1 q1) he hpl
theorem Yh (hc : jL X (.type T) r) (hg : Gl X x) (hm : X.mg x = none) (hv : bootBuiltins x = some (.type T)) (ha : PA X (e :: es) t) (hn : x ≠ "__name__" := by decide) (hdb : (x == ("__debug__" : Str)) = false := by decide)
    (he : starEach (e :: es) X.env = (false, eval e X.env) :: starEach es X.env := by rfl) (hpl : (backTo pos (starEach es X.env)).any (·.1) = false := by rfl) : PE X (.Call (.Name x p) (e :: es) [] pos) (tCB r t) := by
  intro pins s σ H Q I h
  refine wpAny_Call_Name_kw (ZO I hg hm hv ?_ hn hdb)
  exact PyProof.Rows.callWith_type1 (zO (ha pos pins s σ H _ I h) fun us s1 ⟨vs, H1, I1, r1, q1⟩ => hc pins s1 σ H1 vs us Q I1 r1 q1) he hpl
end
end L2
namespace HT
open PySem PyProof.Rows
section
open PySem.SeqAt
open PySem.AutoSeq1 (wpAny_loadPart')
open PySem.MeetsSeq PySem.MeetsSeq2 PySem.MeetsSeq3
end
section
variable {prog : Program} {w : World} {A : Around} {E : Value -> Shared -> Prop} {s : Shared}
def sIx (n d : Nat) : Option Int -> Nat
  | none => d
  | some v => if v < 0 then (v + (n : Int)).toNat else min v.toNat n
theorem sIx_none (n d : Nat) : sIx n d none = d := rfl
theorem sIx_nat (n d k : Nat) : sIx n d (some (k : Int)) = min k n := by
  show (if (k : Int) < 0 then ((k : Int) + (n : Int)).toNat else min (k : Int).toNat n) = min k n
  rw [if_neg (by omega), Int.toNat_natCast]
end
end HT
namespace L2
open PySem PySem.Spec PyProof.Rows
abbrev TO := St -> Hp -> (Option Int -> Hp -> Prop) -> Prop
def PO (X : Cx) (e : Option Expr) (t : TO) : Prop :=
  ∀ (pins : List (Addr × Obj)) (s : Shared) (σ : St) (H : Hp) (Q : Option Int -> Hp -> Prop), Inv X pins σ H s -> t σ H Q ->
    wpAny (model X.prog X.w) X.A (evalPart e X.env) (fun u s' => ∃ o H', Inv X pins σ H' s' /\ IsPart u o /\ Q o H') X.xe s
def zer : TO := fun _ H Q => Q none H
def zkd (t : TE) : TO := fun σ H Q => t σ H fun x H1 => ∃ i, x = .int i /\ Q (some i) H1
section
variable {X : Cx} {e : Expr} {te : TE} {lo hi : Option Expr} {tl th : TO} {pos p2 : Pos}
theorem zk4 : PO X none zer := by
  intro pins s σ H Q I h
  rw [evalPart_none]
  exact wpAny_pure ⟨none, H, I, .none, h⟩
theorem zk5 (h : PE X e te) : PO X (some e) (zkd te) := by
  intro pins s σ H Q I hw
  rw [evalPart_some]
  refine zO (h pins s σ H _ I hw) fun u s1 ⟨x, H1, I1, r1, q1⟩ => ?_
  obtain ⟨i, rfl, q⟩ := q1
  obtain ⟨t, rfl⟩ := r1
  exact ⟨some i, H1, I1, .int i t, q⟩
def SlR (X : Cx) (r : V -> Option Int -> Option Int -> Hp -> VK -> Prop) : Prop :=
  ∀ (pins : List (Addr × Obj)) (s : Shared) (σ : St) (H : Hp) (x : V) (v vl vu : Value) (lo hi : Option Int) (sl : Addr) (Q : VK), Inv X pins σ H s -> RelV x v -> s.heap.IsSliceOf sl vl vu .none -> IsPart vl lo -> IsPart vu hi -> r x lo hi H Q ->
    ∃ T id, typeLookup (.type T) "__getitem__" = pure (some (.builtin id)) /\ s.TypeIs v T /\ wpAny (model X.prog X.w) X.A (getItem v (.ref sl)) (EP X pins σ Q) X.xe s
def tSl (r : V -> Option Int -> Option Int -> Hp -> VK -> Prop) (te : TE) (tl th : TO) : TE := fun σ H Q => te σ H fun x H1 => tl σ H1 fun l H2 => th σ H2 fun u H3 => r x l u H3 Q
theorem ziN {r : V -> Option Int -> Option Int -> Hp -> VK -> Prop} (hr : SlR X r) (he : PE X e te) (hl : PO X lo tl) (hu : PO X hi th) : PE X (.Subscript e (.Slice lo hi none p2) pos) (tSl r te tl th) := by
  intro pins s σ H Q I h
  refine Subscript_ (zO (he pins s σ H _ I h) fun v s1 ⟨x, H1, I1, r1, q1⟩ => ?_)
  refine wpAny_Slice (zO (hl pins s1 σ H1 _ I1 q1) fun vl s2 ⟨l, H2, I2, pl, q2⟩ => zO (hu pins s2 σ H2 _ I2 q2) fun vu s3 ⟨u, H3, I3, pu, q3⟩ => ?_)
  rw [evalPart_none]
  refine wpAny_pure ?_
  have I4 : Inv X pins σ H3 { s3 with heap := s3.heap.push { cls := .type "slice", data := .fields #[vl, vu, .none] } } := I3.kept (t' := s3.toks) fun b ob q => Heap.get?_push_of_some _ q
  obtain ⟨T, id, hT, ht, hg⟩ := hr pins { s3 with heap := s3.heap.push { cls := .type "slice", data := .fields #[vl, vu, .none] } } σ H3 x v vl vu l u s3.heap.objs.size Q I4 r1 (Heap.IsSliceOf.new ..) pl pu q3
  show wpAny (model X.prog X.w) X.A (subscriptTail e (.Slice lo hi none p2) v (.ref s3.heap.objs.size)) (EP X pins σ Q) X.xe { s3 with heap := s3.heap.push { cls := .type "slice", data := .fields #[vl, vu, .none] } }
  exact tail_any (ops := [.ref s3.heap.objs.size, v]) ht hT hg (by with_unfolding_all rfl)
def zaG (xs : List V) (lo hi : Option Int) : List V := (xs.drop (HT.sIx xs.length 0 lo)).take (HT.sIx xs.length xs.length hi - HT.sIx xs.length 0 lo)
theorem zd3 (xs : List V) (lo hi : Option Int) : (zaG xs lo hi).length <= xs.length := by
  unfold zaG
  rw [List.length_take, List.length_drop]
  omega
end
end L2
namespace L2
open PySem PySem.Spec PyProof.Rows
def JN (n : Nat) (i : Int) : Option Nat := if 0 <= i then (if i < n then some i.toNat else none) else if -(n : Int) <= i then some (i + n).toNat else none
def Rs {α : Type} (xs : List α) (i : Int) : Option α := (JN xs.length i).bind fun j => xs[j]?
theorem zes {n : Nat} {i : Int} {j : Nat} (h : JN n i = some j) : seqIndex? i n = some j /\ j < n /\ -(n : Int) <= i /\ i < n := by
  unfold JN at h
  by_cases h0 : 0 <= i
  · rw [if_pos h0] at h
    by_cases h1 : i < n
    · rw [if_pos h1] at h
      have e : i.toNat = j := Option.some.inj h
      exact ⟨by rw [seqIndex_of h0 h1, e], by omega, by omega, h1⟩
    · rw [if_neg h1] at h; cases h
  · rw [if_neg h0] at h
    by_cases h1 : -(n : Int) <= i
    · rw [if_pos h1] at h
      have e : (i + n).toNat = j := Option.some.inj h
      exact ⟨by rw [seqIndex_neg (by omega) h1, e], by omega, h1, by omega⟩
    · rw [if_neg h1] at h; cases h
theorem zaH {α : Type} {xs : List α} {i : Int} {v : α} (h : Rs xs i = some v) : ∃ j, seqIndex? i xs.length = some j /\ xs[j]? = some v /\ j < xs.length /\ -(xs.length : Int) <= i /\ i < xs.length := by
  unfold Rs at h
  cases e : JN xs.length i with
  | none => rw [e] at h; cases h
  | some j =>
    rw [e] at h
    obtain ⟨h1, h2, h3, h4⟩ := zes e
    exact ⟨j, h1, h, h2, h3, h4⟩
def zet (b : Expr) : Prop := ∀ o i, subscripted b false o i = operate [o, i] (getItem o i)
def IxR (X : Cx) (r : R2) : Prop :=
  ∀ (value slice : Expr) (pins : List (Addr × Obj)) (s : Shared) (σ : St) (H : Hp) (x y : V) (v u : Value) (Q : VK), Inv X pins σ H s -> RelV x v -> RelV y u -> r x y H Q ->
    subscripted slice false v u = operate [v, u] (getItem v u) -> wpAny (model X.prog X.w) X.A (subscriptTail value slice v u) (EP X pins σ Q) X.xe s
def MtR (X : Cx) (id : String) (r : V -> List V -> Hp -> VK -> Prop) : Prop :=
  ∀ (pins : List (Addr × Obj)) (s : Shared) (σ : St) (H : Hp) (x : V) (xs : List V) (v : Value) (us : List Value) (Q : VK), Inv X pins σ H s -> RelV x v -> Vals xs us -> r x xs H Q ->
    wpAny (model X.prog X.w) X.A (call (.builtin id) (v :: us)) (EP X pins σ Q) X.xe s
section
variable {X : Cx} {a b : Expr} {ta tb : TE} {pos : Pos}
theorem IxR.or {r r' : R2} (h : IxR X r) (h' : IxR X r') : IxR X (fun x y H Q => r x y H Q \/ r' x y H Q) := by
  intro value slice pins s σ H x y v u Q I rx ry q hs
  rcases q with q | q
  · exact h value slice pins s σ H x y v u Q I rx ry q hs
  · exact h' value slice pins s σ H x y v u Q I rx ry q hs
theorem zn8 {r : R2} (hr : IxR X r) (ha : PE X a ta) (hb : PE X b tb) (hs : zet b) : PE X (.Subscript a b pos) (tOp r ta tb) := by
  intro pins s σ H Q I h
  exact Subscript_ (ziB ha hb I h fun v u s2 x y H2 I2 rx ry q => hr a b pins s2 σ H2 x y v u Q I2 rx ry q (hs _ _))
def ziO (K : PySem.W.Frag) : R2 := fun x y H Q => ∃ p xs i v, x = .ref p /\ y = .int i /\ jf K H p xs /\ Rs xs i = some v /\ Q v H
def ziP (K : PySem.W.Frag) : R2 := fun x y H Q => ∃ p xs i v, x = .ref p /\ y = .int i /\ SqT K H p xs /\ Rs xs i = some v /\ Q v H
def ziQ : R2 := fun x y H Q => ∃ z i c, x = .str z /\ y = .int i /\ z.length <= sizeLine /\ Rs z.cps.toList i = some c /\ Q (.str ⟨#[c]⟩) H
theorem ix_list : IxR X (ziO X.K) := by
  intro value slice pins s σ H x y v u Q I rx ry h hs
  obtain ⟨p, xs, i, z, rfl, rfl, hq, he, q⟩ := h
  cases rx
  obtain ⟨t, rfl⟩ := ry
  obtain ⟨its, r, pl, hz⟩ := I.list hq
  obtain ⟨j, h1, h2, h3, h4, h5⟩ := zaH he
  obtain ⟨w, ew, rw'⟩ := r.get h2
  have hl := r.length
  have hn := YO
  have fin : EP X pins σ Q w s := ⟨z, H, I, rw', q⟩
  by_cases h0 : 0 <= i
  · have hj : i.toNat = j := by
      rw [seqIndex_of h0 h5] at h1
      exact Option.some.inj h1
    exact item_listR pl.isList h0 (by omega) (by rw [hj]; simpa using ew) fin hs
  · have hj : (i + (its.toArray.size : Int)).toNat = j := by
      rw [seqIndex_neg (by omega) h4] at h1
      rw [List.size_toArray, ← hl]
      exact Option.some.inj h1
    exact subscriptTail_builtinR (x := w) pl.isList.typeIs slot_list_getitem.lookup
      (wpAny_getItem_list_neg (Q := fun r s' => r = w /\ EP X pins σ Q r s') pl.isList (by omega) (by rw [List.size_toArray] <;> omega) (by omega) (by rw [hj]; simpa using ew) ⟨rfl, fin⟩) hs
theorem ix_tup : IxR X (ziP X.K) := by
  intro value slice pins s σ H x y v u Q I rx ry h hs
  obtain ⟨p, xs, i, z, rfl, rfl, hq, he, q⟩ := h
  cases rx
  obtain ⟨t, rfl⟩ := ry
  obtain ⟨its, r, pl, hz⟩ := I.tuple hq
  obtain ⟨j, h1, h2, h3, h4, h5⟩ := zaH he
  obtain ⟨w, ew, rw'⟩ := r.get h2
  have hl := r.length
  have hn := YO
  have fin : EP X pins σ Q w s := ⟨z, H, I, rw', q⟩
  exact subscriptTail_builtinR (x := w) pl.typeIs slot_tuple_getitem.lookup
    (getItem_tuple (j := j) (Q := fun r s' => r = w /\ EP X pins σ Q r s') pl (by omega) (by omega) (by rw [List.size_toArray, ← hl]; exact h1) (by simpa using ew) ⟨rfl, fin⟩) hs
theorem zmL : IxR X ziQ := by
  intro value slice pins s σ H x y v u Q I rx ry h hs
  obtain ⟨z, i, c, rfl, rfl, hz, he, q⟩ := h
  obtain ⟨t, rfl⟩ := rx
  obtain ⟨t', rfl⟩ := ry
  obtain ⟨j, h1, h2, h3, h4, h5⟩ := zaH he
  have hl : z.cps.toList.length = z.length := by simp [Str.length]
  rw [hl] at h1 h4 h5
  have hn := YO
  exact tail_any (typeIs_str s z t) slot_str_getitem.lookup (getItem_str (c := c) (by
    have e1 : decide (i < -(2 ^ 63 : Int)) = false := decide_eq_false (by omega)
    have e2 : decide (i ≥ 2 ^ 63) = false := decide_eq_false (by omega)
    rw [e1, e2, Bool.or_false]) (by rw [h1]; simpa using h2) ⟨.str ⟨#[c]⟩, H, I.tok _, ⟨_, rfl⟩, q⟩) hs
def rIx (K : PySem.W.Frag) : R2 := fun x y H Q => ziO K x y H Q \/ ziP K x y H Q \/ ziQ x y H Q
theorem zmM : IxR X (rIx X.K) := ix_list.or (ix_tup.or zmL)
theorem zfG (its : List Value) (n j : Nat) (u : Value) : Obj.mapSeq (·.setIfInBounds j u) { cls := .type "list", data := .seq its.toArray n } = { cls := .type "list", data := .seq (its.set j u).toArray n } := by
  simp [Obj.mapSeq]
theorem Inv.lst {pins : List (Addr × Obj)} {σ : St} {H : Hp} {s : Shared} {p : Addr} {xs : List V} (I : Inv X pins σ H s) (h : H p = some (.lst xs)) :
    ∃ (its : List Value) (n : Nat), Vals xs its /\ s.heap.get? p = some { cls := .type "list", data := .seq its.toArray n } /\ xs.length <= sizeLine := by
  obtain ⟨z, its, n, r, e⟩ := I.hok p _ h
  exact ⟨its, n, r, e, z⟩
theorem Inv.lstUpd {pins : List (Addr × Obj)} {σ : St} {H : Hp} {s : Shared} {p : Addr} {xs ys : List V} {its its' : List Value} {n n' : Nat} {f : Obj -> Obj} (I : Inv X pins σ H s) (h : H p = some (.lst xs))
    (ho : s.heap.get? p = some { cls := .type "list", data := .seq its.toArray n }) (hf : f { cls := .type "list", data := .seq its.toArray n } = { cls := .type "list", data := .seq its'.toArray n' }) (r : Vals ys its') (hz : ys.length <= sizeLine) (t : Nat) :
    Inv X pins σ (zX H p (.lst ys)) { s with heap := s.heap.update p f, toks := t } := by
  have e : (s.heap.update p f).get? p = some { cls := .type "list", data := .seq its'.toArray n' } := by
    rw [Heap.get?_update_self f ho (by rw [hf] <;> rfl), hf]
  refine I.write (x := p) (e := p) (by rw [h]; trivial) (.inl rfl) (fun b u hb q => (Heap.get?_update_other _ _ (Ne.symm hb)).trans q) ⟨_, e⟩ ?_
  exact ⟨hz, its', n', r, e⟩
def zke : V -> V -> V -> Hp -> (Hp -> Prop) -> Prop := fun o i v H Q => ∃ p xs k j, o = .ref p /\ i = .int k /\ H p = some (.lst xs) /\ JN xs.length k = some j /\ Q (zX H p (.lst (xs.set j v)))
theorem ziR : zmk X zke := by
  intro pins s σ H o i v ov iv u Q I ro ri rv h
  obtain ⟨p, xs, k, j, rfl, rfl, hp, hj, q⟩ := h
  cases ro
  obtain ⟨t, rfl⟩ := ri
  obtain ⟨its, n, r, ho, hz⟩ := I.lst hp
  obtain ⟨h1, h2, h3, h4⟩ := zes hj
  have hl := r.length
  have hn := YO
  have I' : Inv X pins σ (zX H p (.lst (xs.set j v))) { s with heap := s.heap.update p (Obj.mapSeq (·.setIfInBounds j u)) } :=
    I.lstUpd hp ho (zfG its n j u) (r.set rv j) (by rw [List.length_set]; exact hz) s.toks
  by_cases h0 : 0 <= k
  · have hk : k.toNat = j := by
      rw [seqIndex_of h0 h4] at h1
      exact Option.some.inj h1
    exact PySem.W.ki_setAt ho h0 (by omega) (by rw [List.size_toArray, ← hl]; exact h4) (by rw [hk]; exact ⟨_, I', q⟩)
  · have hk : (k + (its.toArray.size : Int)).toNat = j := by
      rw [seqIndex_neg (by omega) h3] at h1
      rw [List.size_toArray, ← hl]
      exact Option.some.inj h1
    exact PySem.W.ki_setBack ho (by omega) (by rw [List.size_toArray, ← hl]; exact h3) (by omega) (by rw [hk]; exact ⟨_, I', q⟩)
theorem zcB (lo hi : Option Int) (n : Nat) : (sliceBounds lo hi none n).1 = ((HT.sIx n 0 lo : Nat) : Int) /\ (sliceBounds lo hi none n).2.1 = ((HT.sIx n n hi : Nat) : Int) /\ (sliceBounds lo hi none n).2.2 = 1 := by
  refine ⟨?_, ?_, rfl⟩
  · cases lo with
    | none => simp [sliceBounds, HT.sIx]
    | some i =>
      simp only [sliceBounds, HT.sIx, Option.getD_none, show (1 : Int) > 0 by decide, if_true]
      by_cases h : i < 0
      · simp only [h, if_true] <;> omega
      · simp only [h, if_false] <;> omega
  · cases hi with
    | none => simp [sliceBounds, HT.sIx]
    | some i =>
      simp only [sliceBounds, HT.sIx, Option.getD_none, show (1 : Int) > 0 by decide, if_true]
      by_cases h : i < 0
      · simp only [h, if_true] <;> omega
      · simp only [h, if_false] <;> omega
theorem zb4 (its : List Value) (lo hi : Option Int) : slicePick its.toArray lo hi none = ((its.drop (HT.sIx its.length 0 lo)).take (HT.sIx its.length its.length hi - HT.sIx its.length 0 lo)).toArray := by
  obtain ⟨h1, h2, h3⟩ := zcB lo hi its.toArray.size
  unfold slicePick
  rw [h1, h2, h3]
  simp only [sliceRange_one, pick_run, List.size_toArray] <;> rfl
def zmN (K : PySem.W.Frag) : V -> Option Int -> Option Int -> Hp -> VK -> Prop := fun x lo hi H Q => ∃ a xs, x = .ref a /\ jf K H a xs /\ ∀ p, H p = none -> Q (.ref p) (zX H p (.lst (zaG xs lo hi)))
theorem zk6 : SlR X (zmN X.K) := by
  intro pins s σ H x v vl vu lo hi sl Q I rx hs pl pu h
  obtain ⟨a, xs, rfl, hx, q⟩ := h
  cases rx
  obtain ⟨its, r, ht, hz⟩ := I.list hx
  have hlen := r.length
  refine ⟨"list", _, slot_list_getitem.lookup, ht.isList.typeIs, ?_⟩
  refine wpAny_getItem_list_slice ht.isList hs pl pu .none (by simp) ?_ (by rw [List.size_toArray] <;> omega)
  rw [zb4, ← hlen]
  refine ⟨.ref s.heap.objs.size, _, I.laid (t' := s.toks) (o := .lst (zaG xs lo hi)) (fun b ob q => Heap.get?_push_of_some _ q) (Nat.le_refl _) ?_, rfl, q _ (I.hok.fresh (Nat.le_refl _))⟩
  exact ⟨Nat.le_trans (zd3 xs lo hi) hz, _, 0, (r.drop (HT.sIx xs.length 0 lo)).take (HT.sIx xs.length xs.length hi - HT.sIx xs.length 0 lo), Heap.get?_push_size _ rfl⟩
def JD : V -> Bool
  | .non => true
  | .bl _ => true
  | .int _ => true
  | .str _ => true
  | _ => false
def Qb : V -> V -> Bool
  | .non, .non => true
  | .bl a, .bl b => a == b
  | .bl a, .int b => (if a then 1 else 0) == b
  | .int a, .bl b => a == (if b then 1 else 0)
  | .int a, .int b => a == b
  | .str a, .str b => a == b
  | _, _ => false
theorem zg6 {A : Around} {s : Shared} {y x : V} {u v : Value} (ry : RelV y u) (rx : RelV x v) (fy : JD y = true) (fx : JD x = true) : SeqAt.EqAt A s u v (Qb y x) := by
  cases y with
  | non =>
    cases ry
    cases x with
    | non => cases rx; exact SeqAt.EqAt.same _
    | bl b => cases rx; exact SeqAt.EqAt.none_bool b
    | int b => obtain ⟨t, rfl⟩ := rx; exact SeqAt.EqAt.none_int b t
    | str b => obtain ⟨t, rfl⟩ := rx; exact SeqAt.EqAt.none_str b t
    | _ => exact absurd (show false = true from fx) Bool.false_ne_true
  | bl a =>
    cases ry
    cases x with
    | non => cases rx; exact SeqAt.EqAt.bool_none a
    | bl b => cases rx; exact SeqAt.EqAt.bool_bool a b
    | int b => obtain ⟨t, rfl⟩ := rx; exact SeqAt.EqAt.bool_int a b t
    | str b => obtain ⟨t, rfl⟩ := rx; exact SeqAt.EqAt.bool_str a b t
    | _ => exact absurd (show false = true from fx) Bool.false_ne_true
  | int a =>
    obtain ⟨t', rfl⟩ := ry
    cases x with
    | non => cases rx; exact SeqAt.EqAt.int_none a t'
    | bl b => cases rx; exact SeqAt.EqAt.int_bool a t' b
    | int b => obtain ⟨t, rfl⟩ := rx; exact SeqAt.EqAt.int_int a t' b t
    | str b => obtain ⟨t, rfl⟩ := rx; exact SeqAt.EqAt.int_str a t' b t
    | _ => exact absurd (show false = true from fx) Bool.false_ne_true
  | str a =>
    obtain ⟨t', rfl⟩ := ry
    cases x with
    | non => cases rx; exact SeqAt.EqAt.str_none a t'
    | bl b => cases rx; exact SeqAt.EqAt.str_bool a t' b
    | int b => obtain ⟨t, rfl⟩ := rx; exact SeqAt.EqAt.str_int a t' b t
    | str b => obtain ⟨t, rfl⟩ := rx; exact SeqAt.EqAt.str_str a t' b t
    | _ => exact absurd (show false = true from fx) Bool.false_ne_true
  | _ => exact absurd (show false = true from fy) Bool.false_ne_true
def Rt (x : V) (u : Value) : Bool := match u with
  | .none => Qb .non x
  | .bool b => Qb (.bl b) x
  | .int i _ => Qb (.int i) x
  | .str z _ => Qb (.str z) x
  | _ => false
theorem zg7 {x y : V} {u : Value} (r : RelV y u) (f : JD y = true) : Rt x u = Qb y x := by
  cases y with
  | non => cases r; rfl
  | bl b => cases r; rfl
  | int i => obtain ⟨t, rfl⟩ := r; rfl
  | str z => obtain ⟨t, rfl⟩ := r; rfl
  | _ => exact absurd (show false = true from f) Bool.false_ne_true
theorem zaI {x : V} : ∀ {xs : List V} {us : List Value}, Vals xs us -> xs.all JD = true -> us.any (Rt x) = xs.any fun y => Qb y x
  | _, _, .nil, _ => rfl
  | y :: xs, u :: us, .cons r t, f => by
    rw [List.all_cons, Bool.and_eq_true] at f
    rw [List.any_cons, List.any_cons, zg7 r f.1, zaI t f.2]
theorem WQ {A : Around} {s : Shared} {x : V} {v : Value} (rx : RelV x v) (fx : JD x = true) : ∀ {xs : List V} {us : List Value}, Vals xs us -> xs.all JD = true -> ∀ u ∈ us, SeqAt.EqAt A s u v (Rt x u)
  | _, _, .nil, _ => fun u hu => by cases hu
  | y :: xs, u :: us, .cons r t, f => fun u' hu => by
    rw [List.all_cons, Bool.and_eq_true] at f
    rcases List.mem_cons.mp hu with rfl | hu
    · rw [zg7 r f.1]; exact zg6 r rx f.1 fx
    · exact WQ rx fx t f.2 u' hu
def inV (x : V) (xs : List V) : Bool := xs.any fun y => Qb y x
def rIn (K : PySem.W.Frag) (neg : Bool) : R2 := fun x y H Q => ∃ p xs, y = .ref p /\ (jf K H p xs \/ SqT K H p xs) /\ JD x = true /\ xs.all JD = true /\ Q (.bl (if neg then !inV x xs else inV x xs)) H
theorem Ju : y6 X (compareOp .In) (rIn X.K false) := by
  intro pins s σ H x y v u Q I rx ry h
  obtain ⟨p, xs, rfl, hq, fx, fs, q⟩ := h
  cases ry
  rcases hq with hq | hq
  · obtain ⟨its, r, pl, hz⟩ := I.list hq
    refine SeqAt.in_listAt (Rt x) pl.isList (fun w hw => WQ rx fx r fs w (by simpa using hw)) ⟨.bl _, H, I, rfl, ?_⟩
    rw [show its.toArray.any (Rt x) = its.any (Rt x) by simp, zaI r fs]
    exact q
  · obtain ⟨its, r, pl, hz⟩ := I.tuple hq
    refine SeqAt.in_tupleAt (Rt x) pl (fun w hw => WQ rx fx r fs w (by simpa using hw)) ⟨.bl _, H, I, rfl, ?_⟩
    rw [show its.toArray.any (Rt x) = its.any (Rt x) by simp, zaI r fs]
    exact q
theorem zcC : jL X (.type "list") (fun xs H Q => ∃ p ys, xs = [.ref p] /\ (jf X.K H p ys \/ SqT X.K H p ys) /\ ∀ l, H l = none -> Q (.ref l) (zX H l (.lst ys))) := by
  intro pins s σ H xs us Q I r h
  obtain ⟨p, ys, rfl, hq, q⟩ := h
  obtain ⟨u, rfl, rx⟩ := zb9 r
  cases rx
  have fin : ∀ (its : List Value), Vals ys its -> ys.length <= sizeLine -> ∀ (h' : Heap) (c' : Nat), (∀ b o', s.heap.get? b = some o' -> h'.get? b = some o') ->
      h'.get? s.heap.objs.size = some { cls := .type "list", dict := none, data := .seq its.toArray c', slots := #[] } -> EP X pins σ Q (.ref s.heap.objs.size) { s with heap := h' } := fun its r' hz h' c' kp e =>
    ⟨.ref s.heap.objs.size, _, I.laid (t' := s.toks) kp (Nat.le_refl _) (show ObjOk X.prog X.w _ h' _ (.lst ys) from ⟨hz, its, c', r', e⟩), rfl, q _ (I.hok.fresh (Nat.le_refl _))⟩
  rcases hq with hq | hq
  · obtain ⟨its, r', pl, hz⟩ := I.list hq
    have hlen := r'.length
    obtain ⟨o, ho, hc, n, hd⟩ := pl.isList
    exact call_list_seq p (.inl rfl) ho hc hd (fun h' c' kp e => fin its r' hz h' c' kp e) (by simp only [List.size_toArray] <;> omega)
  · obtain ⟨its, r', pl, hz⟩ := I.tuple hq
    have hlen := r'.length
    obtain ⟨o, ho, hc, n, hd⟩ := pl
    exact call_list_seq p (.inr rfl) ho hc hd (fun h' c' kp e => fin its r' hz h' c' kp e) (by simp only [List.size_toArray] <;> omega)
def tyV (K : PySem.W.Frag) (T : String) (x : V) (H : Hp) : Prop := match x with
  | .str _ => T = "str"
  | .int _ => T = "int"
  | .ref p => (T = "list" /\ ∃ xs, jf K H p xs) \/ (T = "tuple" /\ ∃ o, K.lookup p = some o /\ o.cls = .type "tuple" /\ o.dict = none) \/
      (T = "dict" /\ ((∃ kvs, H p = some (.dK kvs)) \/ ∃ kvs, H p = some (.dT kvs))) \/ (T = "set" /\ ∃ S n, H p = some (.set S n))
  | _ => False
theorem zmO {pins : List (Addr × Obj)} {σ : St} {H : Hp} {s : Shared} {T : String} {x : V} {v : Value} (I : Inv X pins σ H s) (r : RelV x v) (ty : tyV X.K T x H) :
    s.TypeIs v T /\ ∀ a, v = .ref a -> ∃ ob, s.heap.get? a = some ob /\ ob.dict = none := by
  cases x with
  | str z =>
    obtain ⟨t, rfl⟩ := r
    cases (show T = "str" from ty)
    exact ⟨typeIs_str s z t, fun _ e => nomatch e⟩
  | int i =>
    obtain ⟨t, rfl⟩ := r
    cases (show T = "int" from ty)
    exact ⟨typeIs_int s i t, fun _ e => nomatch e⟩
  | ref p =>
    cases r
    rcases ty with ⟨rfl, xs, hq⟩ | ⟨rfl, o, hk, hc, hd⟩ | ⟨rfl, hk⟩ | ⟨rfl, S, n, hk⟩
    · obtain ⟨its, _, pl, _⟩ := I.list hq
      refine ⟨pl.isList.typeIs, fun a e => ?_⟩
      cases e
      obtain ⟨o, n, e, c, hd, _⟩ := pl
      exact ⟨o, e, hd⟩
    · refine ⟨⟨o, I.kIn p o hk, hc⟩, fun a e => ?_⟩
      cases e
      exact ⟨o, I.kIn _ o hk, hd⟩
    · have z : ∃ o, s.heap.get? p = some o /\ o.ExactDict := by
        rcases hk with ⟨kvs, hk⟩ | ⟨kvs, hk⟩
        · obtain ⟨_, _, _, _, o, _, _, e, ex, _⟩ := I.hok p _ hk
          exact ⟨o, e, ex⟩
        · obtain ⟨_, _, _, _, o, _, _, e, ex, _⟩ := I.hok p _ hk
          exact ⟨o, e, ex⟩
      obtain ⟨o, e, ex⟩ := z
      refine ⟨⟨o, e, ex.1⟩, fun a e2 => ?_⟩
      cases e2
      exact ⟨o, e, ex.2.1⟩
    · obtain ⟨o, _, _, _, e, ex, _⟩ := I.hok p _ hk
      refine ⟨⟨o, e, ex.1⟩, fun a e2 => ?_⟩
      cases e2
      exact ⟨o, e, ex.2.1⟩
  | _ => exact False.elim ty
def tBM (K : PySem.W.Frag) (T : String) (r : V -> List V -> Hp -> VK -> Prop) (to : TE) (t : TA) : TE := fun σ H Q => to σ H fun x H1 => tyV K T x H1 /\ t σ H1 fun xs H2 => r x xs H2 Q
variable {o e : Expr} {es : List Expr} {to : TE} {t : TA} {name : Str} {apos cpos : Pos} {T id : String} {r : V -> List V -> Hp -> VK -> Prop}
theorem zkg (pa : PlainAttrs T) (slot : Slot T name id) (hty : typeOf (.builtin id) = pure (.type "method_descriptor")) (hm : MtR X id r) (ho : PE X o to) (ha : PA X (e :: es) t)
    (hbase : attributeBase o name X.env (eval o X.env) = eval o X.env := by rfl)
    (hfew : ((backTo cpos (starEach (e :: es) X.env)).all (fun x => !x.1) && (backToKw cpos (keywordEach [] X.env)).all (fun x => x.1.isSome)
      && decide ((e :: es).length + ([] : List Keyword).length + (if ([] : List Keyword).isEmpty then 0 else 1) < 30)) = true := by rfl)
    (hline : (apos.endLine == cpos.line) = true := by rfl) (hs : starEach (e :: es) X.env = (false, eval e X.env) :: starEach es X.env := by rfl) (hplain : (backTo cpos (starEach es X.env)).any (·.1) = false := by rfl) :
    PE X (.Call (.Attribute o name apos) (e :: es) [] cpos) (tBM X.K T r to t) := by
  intro pins s σ H Q I h
  refine wpAny_Call_method_late hbase hfew hline rfl (zO (ho pins s σ H _ I h) fun v s1 ⟨x, H1, I1, r1, ty, q1⟩ => ?_)
  obtain ⟨h1, h2⟩ := zmO I1 r1 ty
  refine ⟨T, id, pa, slot, hty, h1, h2, ?_⟩
  have hA := ha cpos pins s1 σ H1 _ I1 q1
  rw [hs] at hA ⊢
  refine Calls.callWith_builtin (by show (false || (backTo cpos (starEach es X.env)).any (·.1)) = false; rw [hplain] <;> rfl) (Calls.evalArgs_plain ?_)
  exact zO hA fun us s2 ⟨vs, H2, I2, r2, q2⟩ => hm pins s2 σ H2 x vs v us Q I2 r1 r2 q2
end
end L2
namespace L2
open PySem PySem.Spec PyProof.Rows
def MtM (X : Cx) (id : String) (r : V -> List V -> Hp -> VK -> Prop) : Prop :=
  ∀ (pins : List (Addr × Obj)) (s : Shared) (σ : St) (H : Hp) (x : V) (xs : List V) (v : Value) (us : List Value) (Q : VK), Inv X pins σ H s -> RelV x v -> Vals xs us -> r x xs H Q ->
    wpAny (model X.prog X.w) X.A (call (.builtin id) (v :: us)) (EP X pins σ Q) X.xe s
theorem Vals.one : ∀ {x : V} {us : List Value}, Vals [x] us -> ∃ u, us = [u] /\ RelV x u
  | _, _, .cons r .nil => ⟨_, rfl, r⟩
theorem Vals.two : ∀ {x y : V} {us : List Value}, Vals [x, y] us -> ∃ u v, us = [u, v] /\ RelV x u /\ RelV y v
  | _, _, _, .cons r (.cons q .nil) => ⟨_, _, rfl, r, q⟩
theorem Vals.eraseIdx : ∀ {xs : List V} {us : List Value} (i : Nat), Vals xs us -> Vals (xs.eraseIdx i) (us.eraseIdx i)
  | _, _, _, .nil => .nil
  | _, _, 0, .cons _ t => t
  | _, _, i + 1, .cons r t => .cons r (Vals.eraseIdx i t)
theorem zbh {α : Type} : ∀ (l : List α) (i : Nat), (l.eraseIdx i).length <= l.length
  | [], _ => Nat.le_refl _
  | _ :: _, 0 => Nat.le_succ _
  | _ :: r, i + 1 => Nat.succ_le_succ (zbh r i)
section
variable {X : Cx} {pins : List (Addr × Obj)} {σ : St} {H : Hp} {s : Shared} {l b : Addr} {xs ys zs : List V}
theorem Inv.lset {its its' : List Value} {n : Nat} {f : Array Value -> Array Value} {t' : Nat} (I : Inv X pins σ H s) (hH : H l = some (.lst xs))
    (e : s.heap.get? l = some { cls := .type "list", data := .seq its.toArray n }) (hf : f its.toArray = its'.toArray) (hv : Vals ys its') (hz : ys.length <= sizeLine) :
    Inv X pins σ (zX H l (.lst ys)) { s with heap := s.heap.update l (Obj.mapSeq f), toks := t' } := by
  have q := PySem.IsL.update e f
  rw [hf] at q
  refine I.write (x := l) (e := l) (by rw [hH]; exact trivial) (.inl rfl) (fun b' u hb hu => (Heap.get?_update_other s.heap (Obj.mapSeq f) (Ne.symm hb)).trans hu) ⟨_, q⟩ ?_
  exact ⟨hz, its', _, hv, q⟩
theorem Inv.lnew {its : List Value} {t' : Nat} (I : Inv X pins σ H s) (hv : Vals ys its) (hz : ys.length <= sizeLine) :
    Inv X pins σ (zX H s.heap.objs.size (.lst ys)) { s with heap := s.heap.push { cls := .type "list", data := .seq its.toArray }, toks := t' } :=
  I.laid (fun _ _ q => Heap.get?_push_of_some _ q) (Nat.le_refl _) ⟨hz, its, 0, hv, Heap.get?_push_size _ rfl⟩
theorem Inv.fresh (I : Inv X pins σ H s) : H s.heap.objs.size = none := I.hok.fresh (Nat.le_refl _)
theorem Inv.lstM (I : Inv X pins σ H s) (hH : H l = some (.lst xs)) : xs.length <= sizeLine /\ ∃ (its : List Value) (n : Nat), Vals xs its /\ xs.length = its.length /\ s.heap.get? l = some { cls := .type "list", data := .seq its.toArray n } := by
  obtain ⟨z, its, n, r, e⟩ := I.hok l _ hH
  exact ⟨z, its, n, r, r.length, e⟩
theorem ziS {n : Nat} (h : n <= sizeLine) : Builtin.List.listTooLong n = false := by
  unfold Builtin.List.listTooLong
  exact decide_eq_false (by omega)
end
section
variable {X : Cx}
def zev : V -> List V -> Hp -> VK -> Prop := fun x vs H Q => ∃ l xs y, x = .ref l /\ vs = [y] /\ H l = some (.lst xs) /\ xs.length < sizeLine /\ Q .non (zX H l (.lst (xs ++ [y])))
theorem zg8 : MtM X "list.append" zev := by
  intro pins s σ H x vs v us Q I rx rv h
  obtain ⟨l, xs, y, rfl, rfl, hH, hz, q⟩ := h
  cases rx
  obtain ⟨u, rfl, ru⟩ := rv.one
  obtain ⟨z, its, n, r, hl, e⟩ := I.lstM hH
  refine call_meets F.slot_list_append ⟨_, e, rfl⟩ F.entry_list_append (F.args_list_append_2 _ _) (PySem.list_append l its.toArray n u (by rw [List.size_toArray]; omega)) ⟨e, ?_⟩
  refine ⟨.non, _, I.lset (its' := its ++ [u]) hH e (by simp) (r.append (.cons ru .nil)) ?_, rfl, q⟩
  rw [List.length_append, List.length_singleton]
  omega
def zew : V -> List V -> Hp -> VK -> Prop := fun x vs H Q => ∃ l b xs zs, x = .ref l /\ vs = [.ref b] /\ H l = some (.lst xs) /\ H b = some (.lst zs) /\ xs.length + zs.length <= sizeLine /\ Q .non (zX H l (.lst (xs ++ zs)))
theorem zg9 : MtM X "list.extend" zew := by
  intro pins s σ H x vs v us Q I rx rv h
  obtain ⟨l, b, xs, zs, rfl, rfl, hH, hB, hz, q⟩ := h
  cases rx
  obtain ⟨u, rfl, ru⟩ := rv.one
  cases ru
  obtain ⟨z, its, n, r, hl, e⟩ := I.lstM hH
  obtain ⟨z2, its2, n2, r2, hl2, e2⟩ := I.lstM hB
  have hsz : its.toArray.size + its2.toArray.size <= sizeLine := by rw [List.size_toArray, List.size_toArray]; omega
  have hlong : ¬ (!its.toArray.isEmpty && Builtin.List.listTooLong (its.toArray.size + its2.toArray.size)) = true := by
    rw [ziS hsz, Bool.and_false]
    exact Bool.false_ne_true
  refine call_meets F.slot_list_extend ⟨_, e, rfl⟩ F.entry_list_extend (F.args_list_extend_2 _ _)
    (AutoSeq1.list_extend_list_list_0 l its.toArray n b its2.toArray n2 hlong (by rw [List.size_toArray]; omega) (by omega)) ⟨e, e2, ?_⟩
  refine ⟨.non, _, I.lset (its' := its ++ its2) hH e (by simp) (r.append r2) ?_, rfl, q⟩
  rw [List.length_append]
  omega
def zg_ : V -> List V -> Hp -> VK -> Prop := fun x vs H Q => ∃ l xs i k y, x = .ref l /\ vs = [.int i] /\ H l = some (.lst xs) /\ -(2 ^ 63) <= i /\ i < 2 ^ 63 /\ seqIndex? i xs.length = some k /\ xs[k]? = some y /\ Q y (zX H l (.lst (xs.eraseIdx k)))
theorem ziT : MtM X "list.pop" zg_ := by
  intro pins s σ H x vs v us Q I rx rv h
  obtain ⟨l, xs, i, k, y, rfl, rfl, hH, h1, h2, hk, hy, q⟩ := h
  cases rx
  obtain ⟨u, rfl, ru⟩ := rv.one
  obtain ⟨t, rfl⟩ := ru
  obtain ⟨z, its, n, r, hl, e⟩ := I.lstM hH
  obtain ⟨w, hw, rw'⟩ := r.get hy
  refine call_meets F.slot_list_pop ⟨_, e, rfl⟩ F.entry_list_pop (F.args_list_pop_2 _ _)
    (MeetsSeq.list_pop_at l its.toArray n i t k w (fitsIndex_both h1 h2) (by rw [List.size_toArray, ← hl]; exact hk) (by rw [← Array.getElem?_toList]; exact hw) (by rw [List.size_toArray]; omega)) ⟨e, ?_⟩
  refine ⟨y, _, I.lset (its' := its.eraseIdx k) hH e ?_ (r.eraseIdx k) ?_, rw', q⟩
  · show its.toArray.eraseIdxIfInBounds k = (its.eraseIdx k).toArray
    rw [List.eraseIdxIfInBounds_toArray]
  · have := zbh xs k
    omega
def zmQ : R2 := fun x y H Q => ∃ l b xs zs, x = .ref l /\ y = .ref b /\ H l = some (.lst xs) /\ H b = some (.lst zs) /\ xs.length + zs.length <= sizeLine /\ ∀ p, H p = none -> Q (.ref p) (zX H p (.lst (xs ++ zs)))
theorem zmR : y6 X (binaryOp .Add) zmQ := by
  intro pins s σ H x y v u Q I rx ry h
  obtain ⟨l, b, xs, zs, rfl, rfl, hH, hB, hz, q⟩ := h
  cases rx
  cases ry
  obtain ⟨z, its, n, r, hl, e⟩ := I.lstM hH
  obtain ⟨z2, its2, n2, r2, hl2, e2⟩ := I.lstM hB
  refine PySem.P.add_list e e2 ?_ (by rw [List.size_toArray, List.size_toArray]; omega)
  have ea : its.toArray ++ its2.toArray = (its ++ its2).toArray := by simp
  rw [ea]
  exact ⟨.ref _, _, I.lnew (t' := s.toks) (r.append r2) (by rw [List.length_append]; omega), rfl, q _ I.fresh⟩
end
section
variable {prog : Program} {w : World} {A : Around} {E : Value -> Shared -> Prop} {s : Shared}
end
section
variable {X : Cx}
end
end L2
namespace Att
open PySem PySem.W PySem.Calls PyProof.Rows
theorem Ru {P : Params} {h : Heap} : ∀ (ns : List Int) (vs : List Value), WellAll P h vs (ns.map WData.int) -> IntsAre vs ns := by
  intro ns
  induction ns with
  | nil =>
    intro vs w
    rw [List.map_nil] at w
    cases w
    exact .nil
  | cons n ns ih =>
    intro vs w
    rw [List.map_cons] at w
    cases w with
    | cons a b =>
      cases a
      exact .cons _ _ (ih _ b)
theorem zha {l : OpenLaw} {n : Nat} (hn : l.most = some n) {P : Params} {h : Heap} {args : List WData} {vals : List Value}
    (hpre : l.row.toRowW.claim.pre args = true) (hwl : WellAll P h vals args) :
    ∃ a vs ns, vals = [Value.ref a] /\ args = [WData.list (ns.map WData.int)] /\ h.get? a = some { cls := .type "list", data := .seq vs.toArray } /\ IntsAre vs ns /\ ns.length <= n := by
  have hsh : WShape.hasAll [] args [.list .int] = true := (pre_splitW hpre).1
  have hc : l.pre.holds [] { args := args } = true := (pre_splitW hpre).2
  obtain ⟨d, r, rfl, h1, h2⟩ := hasAllW_cons hsh
  obtain rfl := hasAllW_nil h2
  obtain ⟨xs, rfl, h3⟩ := hasW_list h1
  obtain ⟨ns, rfl⟩ := items_int h3
  have hlen : ns.length <= n := by
    unfold OpenLaw.pre at hc
    have h4 : (WTm.not (.lt (.lit (.int (n : Int))) (.len (.arg 0)))).holds [] { args := [.list (ns.map .int)] } = true := by
      have h4 := (holds_andW hc).1
      rw [hn] at h4
      exact h4
    have h5 := condW_of h4 (w_not (w_lt w_lit (w_len_list (w_arg rfl))))
    rw [List.length_map] at h5
    refine Nat.le_of_not_lt fun q => ?_
    have q' : (n : Int) < ((ns.length : Nat) : Int) := by omega
    first
      | (rw [decide_eq_true q'] at h5; exact absurd h5 (by decide))
      | (simp at h5; omega)
  cases hwl with
  | cons w1 w2 =>
    cases w2
    cases w1 with
    | list ho hall => exact ⟨_, _, ns, rfl, rfl, ho, Ru ns _ hall, hlen⟩
theorem zhb (l : OpenLaw) (args : List WData) : l.row.toRowW.claim.post args (.bool true) args = true :=
  postW_of (r := l.row.toRowW) (X := (true == true))
    (show WShape.has [] (.bool true) .bool = true by first | rfl | decide | simp [WShape.has, WShape.arms, WShape.armsAll])
    (show (WTm.eq .res (.lit (.bool true))).value [] { args := args, res := some (.bool true), after := args } = some (.bool (true == true)) from w_eq_bool (w_res rfl) w_lit) rfl
theorem attach_call {l : OpenLaw} {n : Nat} {q : Program} {loose : List Str} {XP : (Str -> Option Value) -> Heap -> Prop} {YP : World -> Heap -> Prop} {d : DefRec}
    (hn : l.most = some n) (hdf : d.params.defaults = [])
    (call : ∀ (w : World) (s₀ s₁ : Shared) (mg mb : Str -> Option Value) (fa : Addr) (o : Obj) (pm cd doc : Value) (a : Addr) (vs : List Value) (ns : List Int),
      Ground q loose [] XP w s₀ mg mb s₁.heap -> YP w s₁.heap ->
      s₁.heap.get? fa = some o -> o.data = .func (docDef d.name d.params d.body d.scope pm cd doc) -> s₁.heap.CodeRec cd d.name -> mg d.name = some (.ref fa) ->
      s₁.heap.get? a = some { cls := .type "list", data := .seq vs.toArray } -> IntsAre vs ns -> ns.length <= n -> s₁.gens = #[] ->
      codeAny (model l.prog w) callerA (.call (.ref fa) ⟨[.ref a], []⟩) (fun r s' => r = .ok (.ret (.bool true)) /\ OldK s₁.heap s'.heap /\ s'.os = s₁.os /\ AllBare s'.gens) s₁) :
    WalkO q loose XP YP l.row.toRowW d [] (fun f vs => PySem.call f vs) := by
  intro w s₀ s₁ mg mb G Y fa o pm cd doc dV kV ho hd hcd hD hmg hg args vals as hpre hlay hrd hwl hlo
  obtain rfl : dV = .none := Dflts.none hD hdf
  obtain rfl : kV = .none := Dflts.noKw hD
  obtain ⟨a, vs, ns, rfl, rfl, hobj, hints, hlen⟩ := zha hn hpre hwl
  refine enter_call (codeAny_mono (call w s₀ s₁ mg mb fa o pm cd doc a vs ns G Y ho (fd_plain hd) hcd hmg hobj hints hlen hg) fun r s' hq => ?_)
  obtain ⟨rfl, h2, h3, h4⟩ := hq
  exact ⟨.inl ⟨.bool true, .bool true, [], rfl, fun _ => rfl, .bool true, zhb l _, fun _ => ⟨List.Pairwise.nil, fun _ hm => (nomatch hm)⟩⟩, h2, h3, h4⟩
section
variable {prog : Program} {w : World} {A : Around} {E : Value -> Shared -> Prop} {s : Shared} {K : Frag}
end
end Att
namespace L2
open PySem PySem.Spec PyProof.Rows
theorem zbi : ∀ {vs : List Value} {ns : List Int}, IntsAre vs ns -> Vals (ns.map V.int) vs
  | _, _, .nil => .nil
  | _, _, .cons n t h => .cons ⟨t, rfl⟩ (zbi h)
def ziU (H : Hp) : Prop := ∀ b, H b = none \/ ∃ o xs, H b = some (.frz o (.lst xs))
theorem ziV {P : Program} {w : World} {K : PySem.W.Frag} {mg mb : Str -> Option Value} {CX : Yg} {k : Nat} {fa a : Addr} {fd : FuncData} {x : Str} {sp : Sp} {s₁ : Shared} {vs : List Value} {ns : List Int}
    (KX : K.In s₁.heap) (hns : s₁.heap.Ns mainGlobals mg) (hb : s₁.heap.Ns builtinsNs mb) (hbb : ∀ x : Str, x ≠ "__name__" -> mb x = bootBuiltins x) (hlim : s₁.heap.NoLimit) (hg : s₁.gens = #[])
    (ha : s₁.heap.get? a = some { cls := .type "list", data := .seq vs.toArray }) (hi : IntsAre vs ns) (hl : ns.length <= sizeLine) (hr : Room k callerA)
    (F : ∀ base : Heap, K.In base -> base.Ns mainGlobals mg -> FnOk P w K mg base CX k fa fd [x] sp) (hbind : ∀ (s : Shared) (u : Value), BindsTo s fd ⟨[u], []⟩ [(x, u)])
    (hsp : ∀ H : Hp, ziU H -> jf K H a (ns.map V.int) -> sp [.ref a] H (fun v _ => v = .bl true) fun _ _ _ => False)
    (hCX : ∀ H e s', CX [] H s₁ (fun _ _ _ => False) e s' -> False) :
    codeAny (model P w) callerA (.call (.ref fa) ⟨[.ref a], []⟩) (fun r s' => r = .ok (.ret (.bool true)) /\ OldK s₁.heap s'.heap /\ s'.os = s₁.os /\ AllBare s'.gens) s₁ := by
  have rv := zbi hi
  have lenV := hi.length
  have core : ∀ H : Hp, ziU H -> jf K H a (ns.map V.int) -> HOk P w H s₁.heap -> (∀ b, H b ≠ none -> b = a) -> (H a ≠ none -> K.lookup a = none) ->
      codeAny (model P w) callerA (.call (.ref fa) ⟨[.ref a], []⟩) (fun r s' => r = .ok (.ret (.bool true)) /\ OldK s₁.heap s'.heap /\ s'.os = s₁.os /\ AllBare s'.gens) s₁ := by
    intro H hO hS hok hA hK
    have base_of : ∀ {b : Addr} {o : Obj}, s₁.heap.get? b = some o -> H b = none -> (Uc s₁.heap H).get? b = some o := fun e n => zit e n
    have noA : ∀ {b : Addr} {o : Obj} {es : Array DictEntry} {ep : Nat}, s₁.heap.get? b = some o -> o.data = .dict es ep -> H b = none := fun {b o es ep} e d => by
      cases q : H b with
      | none => rfl
      | some u =>
        have e' : b = a := hA b (by rw [q]; simp)
        subst e'
        rw [ha] at e; cases e
        have d' : Data.seq vs.toArray _ = Data.dict es ep := d
        cases d'
    have nsK : ∀ {b : Addr} {m : Str -> Option Value}, s₁.heap.Ns b m -> (Uc s₁.heap H).Ns b m := fun {b m} ⟨o, es, ep, e, d, r⟩ => ⟨o, es, ep, base_of e (noA e d), d, r⟩
    have hKb : K.In (Uc s₁.heap H) := fun b o e => base_of (KX b o e) (by
      cases q : H b with
      | none => rfl
      | some u =>
        have e' : b = a := hA b (by rw [q]; simp)
        subst e'
        rw [hK (by rw [q]; simp)] at e; cases e)
    have hM : Mod K mg (Uc s₁.heap H) := ⟨hKb, nsK hns, ⟨mb, nsK hb, hbb⟩, let ⟨mc, h1, h2⟩ := hlim; ⟨mc, nsK h1, h2⟩⟩
    have e0 : Env0 P w K mg (Uc s₁.heap H) callerA [] s₁ H := ⟨rfl, hM, fun b o e => zkM e, Nat.le_of_eq (zgM _ _), trivial, fun b hb => absurd (show b ∈ ([] : List Addr) from hb) (by simp), hok, .of_eq hg⟩
    refine codeAny_mono ((F _ hKb (nsK hns)).run callerA [] s₁ H ⟨[.ref a], []⟩ [.ref a] [.ref a] _ _ hr e0 (hbind s₁ (.ref a)) (.cons rfl .nil) (hsp H hO hS)) fun r s' h => ?_
    cases r with
    | error e => exact (hCX H e s' h).elim
    | ok fl =>
      cases fl with
      | next => exact False.elim h
      | brk => exact False.elim h
      | cont => exact False.elim h
      | ret u =>
        obtain ⟨v, H', os, bare, un, hok', r', q⟩ := h
        have q' : v = .bl true := q
        subst q'
        obtain rfl : u = Value.bool true := r'
        refine ⟨rfl, OldK.of_keep fun b o e => ?_, os, bare⟩
        cases q : H b with
        | none => exact un.keep b o e q (by intro z; exact absurd (show b ∈ ([] : List Addr) from z) (by simp)) (by simp)
        | some u =>
          rcases hO b with z | ⟨ob, xs, z⟩
          · rw [q] at z; cases z
          · have z2 := un.frzs b ob _ z
            obtain ⟨e1, _⟩ := hok b _ z
            obtain ⟨e2, _⟩ := hok' b _ z2
            rw [e] at e1; cases e1
            exact e2
  cases hk : K.lookup a with
  | some o =>
    have e := KX a o hk
    rw [ha] at e
    cases e
    refine core (fun _ => none) (fun _ => .inl rfl) (.inr ⟨_, vs.toArray, _, hk, rfl, rfl, rfl, by rw [List.size_toArray, lenV]; exact hl, by simpa using rv⟩) (fun b u z => by have z' : (none : Option HO) = some u := z; cases z') (fun b z => absurd rfl z) fun z => absurd rfl z
  | none =>
    refine core (fun b => if b = a then some (.frz { cls := .type "list", data := .seq vs.toArray } (.lst (ns.map V.int))) else none) (fun b => ?_) (.inl (.inr ⟨{ cls := .type "list", data := .seq vs.toArray }, if_pos rfl⟩)) (fun b u z => ?_) (fun b z => ?_) fun _ => hk
    · by_cases hb : b = a
      · exact .inr ⟨_, _, if_pos hb⟩
      · exact .inl (if_neg hb)
    · by_cases hb : b = a
      · have z' := (if_pos hb).symm.trans z
        cases z'
        subst hb
        exact ⟨ha, by rw [List.length_map]; exact hl, vs, _, rv, ha⟩
      · have z' := (if_neg hb).symm.trans z
        cases z'
    · by_cases hb : b = a
      · exact hb
      · exact absurd (if_neg hb) z
end L2
namespace L2
open PySem PySem.Spec PyProof.Rows
theorem walk_of {l : PySem.W.OpenLaw} {n k : Nat} {q : Program} {loose : List Str} {XP : (Str -> Option Value) -> Heap -> Prop} {YP : World -> Heap -> Prop} {d : DefRec} {K : Params -> PySem.W.Frag} {CX : World -> Yg} {sp : World -> Sp} {x : Str}
    (hn : l.most = some n) (hn2 : n <= sizeLine) (hdf : d.params.defaults = []) (hr : Room k callerA)
    (hY : ∀ (w : World) (h : Heap), YP w h -> (K w.params).In h)
    (F : ∀ (w : World) (mg : Str -> Option Value) (fa : Addr) (h : Heap), (K w.params).In h -> h.Ns mainGlobals mg -> mg d.name = some (.ref fa) ->
      ∃ fd : FuncData, (∀ (s : Shared) (u : Value), BindsTo s fd ⟨[u], []⟩ [(x, u)]) /\
        ∀ base : Heap, (K w.params).In base -> base.Ns mainGlobals mg -> FnOk l.prog w (K w.params) mg base (CX w) k fa fd [x] (sp w))
    (hsp : ∀ (w : World) (H : Hp) (a : Addr) (ns : List Int), ns.length <= n -> ziU H -> jf (K w.params) H a (ns.map V.int) -> sp w [.ref a] H (fun v _ => v = .bl true) fun _ _ _ => False)
    (hCX : ∀ (w : World) (H : Hp) (s : Shared) (e : Value) (s' : Shared), CX w [] H s (fun _ _ _ => False) e s' -> False) :
    PySem.W.WalkO q loose XP YP l.row.toRowW d [] (fun f vs => PySem.call f vs) := by
  refine Att.attach_call hn hdf fun w s₀ s₁ mg mb fa o pm cd doc a vs ns G Y ho hd hcd hmg hobj hints hlen hg => ?_
  have KX := hY w _ Y
  obtain ⟨fd, hb, hF⟩ := F w mg fa _ KX G.T.g hmg
  exact ziV KX G.T.g G.T.b G.T.builtins G.T.nolimit hg hobj hints (Nat.le_trans hlen hn2) hr hF hb (fun H hO hS => hsp w H a ns hlen hO hS) fun H e s' => hCX w H s₁ e s'
end L2
namespace L2
open PySem PySem.Spec PyProof.Rows
def zk (s : Stmt) (j : Nat) : Stmt := match s with
  | .ClassDef _ _ _ body _ _ _ _ _ _ _ => body.getD j (.Pass ⟨0, 0, 0, 0⟩)
  | _ => .Pass ⟨0, 0, 0, 0⟩
def ZH (s : Stmt) : Arguments := match s with
  | .FunctionDef _ a _ _ _ _ _ _ _ _ => a
  | _ => { posonlyargs := [], args := [], vararg := none, kwonlyargs := [], kw_defaults := [], kwarg := none, defaults := [] }
def Qc (s : Stmt) : List Stmt := match s with
  | .FunctionDef _ _ b _ _ _ _ _ _ _ => b
  | _ => []
def zr (s : Stmt) : Scope := match s with
  | .FunctionDef _ _ _ _ _ _ sc _ _ _ => sc
  | _ => { kind := .function, names := [], isGenerator := false, isCoroutine := false }
abbrev yg : Yg := fun _ _ _ _ _ _ => False
abbrev E0 : XK := fun _ _ _ => False
theorem zb_ {X : Cx} : U8 yg X E0 := fun _ _ _ _ _ _ _ h => h.elim
structure Fun (K : PySem.W.Frag) (x qual : Str) (st : Stmt) (f : Addr) (fd : FuncData) : Prop where
  ex : ∃ (oc : Value) (od : Option Addr) (kV doc pm : Value) (an : Option Addr) (cdv ct : Value) (osl : Array (Option Value)),
    fd = PySem.W.fnOf x qual (ZH st) (Qc st) (zr st) .none kV doc pm an cdv ct /\ K.lookup f = some ⟨oc, od, .func fd, osl⟩ /\ PySem.W.codeIn K cdv qual = true
  kp : PySem.W.keepIn K (.ref f) = true
section
variable {P : Program} {w : World} {K : PySem.W.Frag} {mg : Str -> Option Value} {base : Heap}
theorem Fun.ok {x qual : Str} {st : Stmt} {f : Addr} {fd : FuncData} {N ps : List Str} {k : Nat} {sp : Sp} (F : Fun K x qual st f fd) (S : zz N ps (zr st)) (len : ∀ vs H Q E, sp vs H Q E -> vs.length = ps.length)
    (hbody : ∀ (cdv : Value) (A : Around) (outer : List Env) (s : Shared) (H : Hp) (vs : List V) (Q : VK) (E : XK), Room k (A.deeper (envOfC qual (zr st) s.heap.objs.size f cdv)) -> sp vs H Q E ->
      ∃ t, PSs (WP yg P w K mg base N qual (zr st) f cdv A outer s H E).nox (Qc st) t /\ t { nx := fun _ H' => Q .non H', rt := Q } (start N vs) H) : FnOk P w K mg base yg (k + 1) f fd ps sp := by
  obtain ⟨oc, od, kV, doc, pm, an, cdv, ct, osl, rfl, lk, hcd⟩ := F.ex
  refine zn7 lk hcd S len fun A outer s H vs Q E hr hsp => ?_
  obtain ⟨t, h, q⟩ := hbody cdv A outer s H vs Q E hr hsp
  exact ⟨t, h.nox, q⟩
theorem Fun.binds {x qual : Str} {st : Stmt} {f : Addr} {fd : FuncData} {ps : List Str} (F : Fun K x qual st f fd)
    (h : ∀ (kV doc pm : Value) (an : Option Addr) (cdv ct : Value) (us : List Value), us.length = ps.length -> bindArgs (PySem.W.fnOf x qual (ZH st) (Qc st) (zr st) .none kV doc pm an cdv ct) ⟨us, []⟩ = pure (ps.zip us)) : Binds K fd ps [] := by
  obtain ⟨oc, od, kV, doc, pm, an, cdv, ct, osl, rfl, lk, hcd⟩ := F.ex
  exact .all (h kV doc pm an cdv ct)
theorem zK {x qual : Str} {st : Stmt} {f : Addr} {oc : Value} {od an : Option Addr} {osl : Array (Option Value)} {kV doc pm cdv ct : Value} (l : K.lookup f = some ⟨oc, od, .func (PySem.W.fnOf x qual (ZH st) (Qc st) (zr st) .none kV doc pm an cdv ct), osl⟩)
    (c : PySem.W.codeIn K cdv qual = true) (k : PySem.W.keepIn K (.ref f) = true) : Fun K x qual st f (PySem.W.fnOf x qual (ZH st) (Qc st) (zr st) .none kV doc pm an cdv ct) := ⟨⟨oc, od, kV, doc, pm, an, cdv, ct, osl, rfl, l, c⟩, k⟩
end
section
variable {X : Cx}
theorem pv (i : Nat) {x : Str} {pos : Pos} (hN : X.N[i]? = some x := by rfl) (hv : ZN X.env.scope x := by first | exact Or.inl rfl | exact Or.inr (Or.inl rfl) | exact Or.inr (Or.inr rfl)) (hd : (x == ("__debug__" : Str)) = false := by decide)
    (hcd : (x == ("__classdict__" : Str)) = false := by decide) : PE X (.Name x pos) (Qn i) := Qo hN hv hd hcd
end
def Same (H H' : Hp) : Prop := ∀ b o, H b = some o -> H' b = some o
theorem Same.refl (H : Hp) : Same H H := fun _ _ h => h
end L2
namespace L2
open PySem PySem.Spec PyProof.Rows
section
variable {κ : Type} [DecidableEq κ]
end
section
variable {P : Program} {w : World} {H : Hp} {h : Heap} {a : Addr}
end
section
variable {X : Cx} {pins : List (Addr × Obj)} {σ : St} {H : Hp} {s : Shared} {a : Addr} {y v : V} {u r : Value} {o : Option V} {A : Around} {E : Value -> Shared -> Prop}
end
section
variable {X : Cx} {pins : List (Addr × Obj)} {σ : St} {H : Hp} {s : Shared} {a : Addr} {kvs : List (yF × V)} {k : yF} {u : Value} {A : Around} {E : Value -> Shared -> Prop}
end
section
variable {X : Cx} {o i e value : Expr} {pos pos' tpos : Pos} {td ty tv : TE}
end
section
variable {X : Cx} {pos : Pos}
end
section
variable {X : Cx} {pins : List (Addr × Obj)} {σ : St} {H : Hp} {s : Shared} {a : Addr} {y d : V} {u r : Value} {o : Option V} {A : Around} {E : Value -> Shared -> Prop}
end
section
variable {X : Cx} {o e f : Expr} {apos cpos : Pos} {td ty tx : TE}
end
section
variable {X : Cx} {pins : List (Addr × Obj)} {σ : St} {H : Hp} {s : Shared} {a : Addr} {kvs : List (yF × V)} {A : Around} {E : Value -> Shared -> Prop}
end
section
variable {X : Cx} {pins : List (Addr × Obj)} {σ : St} {H : Hp} {s : Shared} {a : Addr} {y : V} {u : Value} {A : Around} {E : Value -> Shared -> Prop}
end
end L2
namespace L2
open PySem PySem.Spec PyProof.Rows
section
variable {X : Cx}
end
section
variable {κ : Type} [DecidableEq κ]
end
end L2
namespace L2
open PySem PySem.Spec PyProof.Rows
def yu (env : Env) : List (Str × NameKind) -> List (Str × Addr) -> List (Str × Addr)
  | [], cs => cs
  | (n, k) :: r, cs => yu env r (if k == .free then (match env.cells.lookup n with | some a => (n, a) :: cs | none => cs) else cs)
theorem zex {env : Env} {scope : Scope} (h : ∀ p ∈ scope.names, p.2 = .free -> ∃ a, env.cells.lookup p.1 = some a) : closureFor scope env = pure (yu env scope.names []) := by
  have go : ∀ (l : List (Str × NameKind)) (cs : List (Str × Addr)), (∀ p ∈ l, p.2 = .free -> ∃ a, env.cells.lookup p.1 = some a) ->
      (forIn l cs fun (x : Str × NameKind) (r : List (Str × Addr)) => if (x.2 == .free) = true then (do let a ← cellOf env x.1; pure (ForInStep.yield ((x.1, a) :: r))) else (pure (ForInStep.yield r) : Sem _)) = (pure (yu env l cs) : Sem _) := by
    intro l
    induction l with
    | nil => intro cs _; rfl
    | cons p r ih =>
      intro cs hp
      obtain ⟨n, k⟩ := p
      rw [List.forIn_cons]
      cases hk : k == NameKind.free with
      | false =>
        simp only [hk, Bool.false_eq_true, if_false]
        have e : yu env ((n, k) :: r) cs = yu env r cs := by simp only [yu, hk, Bool.false_eq_true, if_false]
        rw [e, ← ih cs fun q hq => hp q (List.mem_cons_of_mem _ hq)]
        rfl
      | true =>
        obtain ⟨a, ha⟩ := hp (n, k) List.mem_cons_self (by simpa using hk)
        have ha' : env.cells.lookup n = some a := ha
        have e : yu env ((n, k) :: r) cs = yu env r ((n, a) :: cs) := by simp only [yu, hk, ha', if_true]
        have ec : cellOf env n = pure a := by unfold cellOf; rw [ha']
        simp only [hk, if_true, ec]
        rw [e, ← ih ((n, a) :: cs) fun q hq => hp q (List.mem_cons_of_mem _ hq)]
        rfl
  have q := go scope.names [] h
  simp only [closureFor]
  refine Eq.trans (congrArg (fun z => z >>= fun s => pure s) q) ?_
  rfl
theorem ZQ {env : Env} {x : Str} {c : Addr} : ∀ (l : List (Str × NameKind)) (cs : List (Str × Addr)), (cs.lookup x = some c -> env.cells.lookup x = some c) -> (yu env l cs).lookup x = some c -> env.cells.lookup x = some c
  | [], _, h, e => h e
  | (n, k) :: r, cs, h, e => by
    unfold yu at e
    refine ZQ r _ ?_ e
    intro q
    split at q
    · split at q
      · rename_i a ha
        rw [List.lookup_cons] at q
        split at q
        · rename_i hx
          have : x = n := by simpa using hx
          cases q
          rw [this]; exact ha
        · exact h q
      · exact h q
    · exact h q
theorem WR {env : Env} {x : Str} : ∀ (l : List (Str × NameKind)) (cs : List (Str × Addr)), (∀ p ∈ l, p.2 = .free -> ∃ a, env.cells.lookup p.1 = some a) ->
    ((∃ c, cs.lookup x = some c) \/ (x, NameKind.free) ∈ l) -> ∃ c, (yu env l cs).lookup x = some c
  | [], _, _, h => h.elim id (fun z => nomatch z)
  | (n, k) :: r, cs, hf, h => by
    unfold yu
    refine WR r _ (fun p hp => hf p (List.mem_cons_of_mem _ hp)) ?_
    rcases h with ⟨c, h⟩ | h
    · left
      split
      · split
        · rw [List.lookup_cons]
          split
          · exact ⟨_, rfl⟩
          · exact ⟨c, h⟩
        · exact ⟨c, h⟩
      · exact ⟨c, h⟩
    · rcases List.mem_cons.mp h with e | h
      · cases e
        left
        obtain ⟨a, ha⟩ := hf (x, .free) List.mem_cons_self rfl
        have ha' : env.cells.lookup x = some a := ha
        simp only [ha']
        refine ⟨a, ?_⟩
        show List.lookup x (if (NameKind.free == NameKind.free) = true then (x, a) :: cs else cs) = some a
        rw [if_pos (by decide), List.lookup_cons]
        simp
      · exact .inr h
def yq (X : Cx) (N' : List Str) (scope : Scope) (cl : List (Str × Addr)) (C : Addr) (s2 : Shared) (H2 : Hp) (fp : List Addr) : Cx where
  prog := X.prog
  w := X.w
  K := X.K
  mg := X.mg
  base := X.base
  A := X.A
  N := N'
  s₀ := s2
  H₀ := H2
  env := compEnvC scope cl C X.env
  outer := X.stack
  stack := X.stack
  ex := fp
  fn := fun _ => false
  calm := X.calm
  pn := []
  xe := fun _ _ => False
def blk (js : List (Option Nat)) (σ : St) : St := js.map fun j => match j with | some j => (σ[j]?).join | none => none
def PTs (X : Cx) (ifs : List Expr) (tc : TT) : Prop :=
  ∀ (pins : List (Addr × Obj)) (s : Shared) (σ : St) (H : Hp) (Q : Bool -> Hp -> Prop), Inv X pins σ H s -> tc σ H Q ->
    wpAny (model X.prog X.w) X.A (forIn ifs true fun c r => if r = true then do let ok ← isTrue c X.env (eval c X.env); pure (ForInStep.yield ok) else pure (ForInStep.yield r)) (TP X pins σ Q) X.xe s
def tTT : TT := fun _ H Q => Q true H
theorem zk7 {X : Cx} : PTs X [] tTT := fun _ _ _ H _ I h => wpAny_tests_nil ⟨H, I, h⟩
theorem zk8 {X : Cx} {c : Expr} {t : TT} (h : PT X c t) : PTs X [c] t := fun pins s σ H Q I hq => wpAny_tests_one (h pins s σ H Q I hq)
def zkh (J : It) (g : TG) (tc : TT) (te : TE) (σ : St) (H : Hp) (Q : List V -> Hp -> Prop) : Prop :=
  ∃ W : Nat -> Nat -> List V -> St -> Hp -> Prop, (∃ m, W 0 m [] σ H) /\ ∀ i m ys σ H, W i m ys σ H ->
    (J.stop i H /\ ys.length <= sizeLine /\ Q ys H) \/
    (J.go i H /\ ys.length < sizeLine /\ ∃ N : List V -> St -> Hp -> Prop, (∀ ys' σ' H', N ys' σ' H' -> ∃ m', m' < m /\ W (i + 1) m' ys' σ' H') /\
      ∀ x H', J.yld i H x H' -> g x σ H' fun σ2 H2 => tc σ2 H2 fun b H3 => if b = true then te σ2 H3 fun y H4 => N (ys ++ [y]) σ2 H4 else N ys σ2 H3)
def zfH (wi : TI) (js : List (Option Nat)) (g : TG) (tc : TT) (te : TE) : TE := fun σ H Q => wi σ H fun J H1 => zkh J g tc te (blk js σ) H1 fun ys H2 => ∀ p, H2 p = none -> Q (.ref p) (zX H2 p (.lst ys))
theorem zhc {prog : Program} {w : World} {A : Around} {R : Result -> Shared -> Prop} {s : Shared} {elt target iter : Expr} {ifs : List Expr} {scope : Scope} {pos : Pos} {it acc : Value} {env : Env} (I : Nat -> Shared -> Prop)
    (turn : ∀ n s, I n s -> wpAny (model prog w) A (pyNext it) (fun r s₁ => match r with
      | none => R (.ok .next) s₁
      | some v => wpAny (model prog w) A (letOwnedTupleGo target it v) (fun _ s₁ => wpAny (model prog w) A (assign target env v) (fun _ s₂ =>
          wpAny (model prog w) A (forIn ifs true fun c r => if r = true then do let ok ← isTrue c env (eval c env); pure (ForInStep.yield ok) else pure (ForInStep.yield r)) (fun ok s₃ =>
            if ok = true then wpAny (model prog w) A (eval elt env) (fun x s₄ =>
              wpAny (model prog w) A (call (.builtin "list.append") [acc, x]) (fun _ s₅ => ∃ m, m < n /\ I m s₅) (fun _ _ => False) s₄) (fun _ _ => False) s₃
            else ∃ m, m < n /\ I m s₃) (fun _ _ => False) s₂) (fun _ _ => False) s₁) (fun _ _ => False) s₁) (fun _ _ => False) s)
    (n : Nat) (h : I n s) : codeAny (model prog w) A (.compLoop (.ListComp elt [⟨target, iter, ifs, 0⟩] scope pos) 0 it acc env) R s := by
  refine codeAny_loop rfl I (fun n s hI => ?_) n h
  show wpAny _ A ((compTurn (.ListComp elt [⟨target, iter, ifs, 0⟩] scope pos) 0 it acc env).onRaise (fun x => do noteFrame x env; theTreesLotGoes x)) _ _ s
  refine wpAny_noted ?_
  rw [compTurn_list]
  refine wpAny_bind (wpAny_standAt (wpAny_bind (wpAny_mono (turn n s hI) (fun r s₁ h₁ => ?_) fun _ _ h' => h'.elim)))
  cases r with
  | none => exact wpAny_pure h₁
  | some v =>
    refine wpAny_bind (wpAny_mono h₁ (fun _ s₁ h₁ => ?_) fun _ _ h' => h'.elim)
    refine wpAny_bind (wpAny_mono h₁ (fun _ s₂ h₂ => wpAny_bind (wpAny_mono h₂ (fun ok s₃ h₃ => ?_) fun _ _ h' => h'.elim)) fun _ _ h' => h'.elim)
    cases ok with
    | false => exact wpAny_pure ⟨rfl, h₃⟩
    | true =>
      exact wpAny_bind (wpAny_bind (wpAny_mono h₃ (fun x s₄ h₄ => wpAny_bind (wpAny_mono h₄ (fun _ s₅ h₅ => wpAny_pure (wpAny_pure ⟨rfl, h₅⟩)) fun _ _ h' => h'.elim)) fun _ _ h' => h'.elim))
end L2
namespace L2
open PySem PySem.Spec PyProof.Rows
section
variable {X : Cx} {pins : List (Addr × Obj)} {σ : St} {H H2 : Hp} {s2 : Shared}
theorem mem_of_lookup {α : Type} {x : Str} {k : α} : ∀ {l : List (Str × α)}, l.lookup x = some k -> (x, k) ∈ l
  | [], h => by simp at h
  | (n, k') :: r, h => by
    rw [List.lookup_cons] at h
    split at h
    · rename_i hx
      have : x = n := by simpa using hx
      cases h; rw [this]; exact List.mem_cons_self
    · exact List.mem_cons_of_mem _ (mem_of_lookup h)
theorem QK {env : Env} {x : Str} {k : NameKind} : ∀ {l : List (Str × NameKind)},
    (l.map fun (n, k) => if (k == NameKind.free && env.scope.kind == .function && env.kindOf n == some .cell) then (n, NameKind.cell) else (n, k)).lookup x = some k ->
    l.lookup x = some k \/ (k = .cell /\ l.lookup x = some .free)
  | [], h => by simp at h
  | (n, k') :: r, h => by
    have ih := @QK env x k r
    rw [List.map_cons, List.lookup_cons] at h
    rw [List.lookup_cons]
    by_cases hc : (k' == NameKind.free && env.scope.kind == .function && env.kindOf n == some .cell) = true
    · simp only [hc, if_true] at h
      have hk : k' = .free := by
        simp only [Bool.and_eq_true] at hc
        simpa using hc.1.1
      cases hx : x == n with
      | true => rw [hx] at h; cases h; exact .inr ⟨rfl, by rw [hk]⟩
      | false => rw [hx] at h; exact ih h
    · simp only [hc, if_false, Bool.false_eq_true] at h
      cases hx : x == n with
      | true => rw [hx] at h; exact .inl h
      | false => rw [hx] at h; exact ih h
structure CompOk (X : Cx) (N' : List Str) (js : List (Option Nat)) (scope : Scope) : Prop where
  kind : scope.kind = .function
  cell : ∀ y ∈ scope.names, y.2 ≠ .cell
  names : ∀ y ∈ scope.names, y.2 = .local -> scope.names.lookup y.1 = some .local
  free : ∀ y ∈ scope.names, y.2 = .free -> X.env.kindOf y.1 = some .cell \/ X.env.kindOf y.1 = some .free
  len : js.length = N'.length
  ix : ∀ (i j : Nat) (x : Str), js[i]? = some (some j) -> N'[i]? = some x -> X.N[j]? = some x /\ scope.names.lookup x = some .free
variable {N' : List Str} {js : List (Option Nat)} {scope : Scope} {fp : List Addr}
theorem CompOk.clos (K : CompOk X N' js scope) (I : Inv X pins σ H s2) : ∀ p ∈ scope.names, p.2 = .free -> ∃ a, X.env.cells.lookup p.1 = some a := fun p hp hf => I.ok.has p.1 (K.free p hp hf)
theorem zn9 {cl : List (Str × Addr)} {C : Addr} {x : Str} : (compEnvC scope cl C X.env).kindOf x = (scope.names.map fun (n, k) => if (k == NameKind.free && X.env.scope.kind == .function && X.env.kindOf n == some .cell) then (n, NameKind.cell) else (n, k)).lookup x := rfl
theorem CompOk.ok (K : CompOk X N' js scope) (I : Inv X pins σ H2 s2) (hf : ∀ b ∈ fp, FpOk X pins H2 b) (hfp : ∀ b ∈ fp, b < s2.heap.objs.size) {C : Addr} (hC : s2.heap.objs.size <= C) :
    (yq X N' scope (yu X.env scope.names []) C s2 H2 fp).Ok := by
  have sub : ∀ x c, (yu X.env scope.names []).lookup x = some c -> X.env.cells.lookup x = some c := fun x c e => ZQ scope.names [] (fun z => by simp at z) e
  refine ⟨I.mod, K.kind, I.ok.glob, I.ok.blt, hC, fun x y c a b => I.ok.inj x y c (sub x c a) (sub y c b), fun x hk => ?_, fun x c h => (nomatch h), I.ok.hd, I.ok.frames, .inl rfl, fun b hb => ⟨?_, fun x c e => ?_⟩, I.bs, ?_, fun b o e hb => ?_, fun b hb => ?_, I.stack, I.stkFree⟩
  · refine WR scope.names [] (K.clos I) (.inr ?_)
    have z : ∀ k, (compEnvC scope (yu X.env scope.names []) C X.env).kindOf x = some k -> k = .cell \/ k = .free -> (x, NameKind.free) ∈ scope.names := fun k e hk => by
      rw [zn9] at e
      rcases QK e with e | ⟨_, e⟩
      · rcases hk with rfl | rfl
        · exact absurd rfl (K.cell _ (mem_of_lookup e))
        · exact mem_of_lookup e
      · exact mem_of_lookup e
    rcases hk with e | e
    · exact z _ e (.inl rfl)
    · exact z _ e (.inr rfl)
  · exact Nat.ne_of_lt (Nat.lt_of_lt_of_le (hfp b hb) hC)
  · exact (hf b hb).2.2.2.2.1 x c (sub x c e)
  · exact Nat.le_trans I.ok.bsz I.sz
  · rcases (hf b hb).2.2.2.1 with z | z
    · exact I.ok.noex b o e z
    · exact absurd (Nat.lt_of_lt_of_le (Nat.lt_of_lt_of_le (Heap.lt_size e) I.ok.bsz) z) (Nat.lt_irrefl _)
  · intro hs
    rcases List.mem_cons.mp (I.stkSub b hs) with e | e
    · exact (hf b hb).2.1 e
    · exact (hf b hb).2.2.1 e
theorem CompOk.inv (K : CompOk X N' js scope) (I : Inv X pins σ H2 s2) (hf : ∀ b ∈ fp, FpOk X pins H2 b) (hfp : ∀ b ∈ fp, b < s2.heap.objs.size) {C D : Addr} {o : Obj} {h1 : Heap} {tk : Nat} {m : Str -> Option Value}
    (hD : s2.heap.objs.size <= D) (hC : s2.heap.objs.size <= C) (hDC : D ≠ C) (up : ∀ b u, s2.heap.get? b = some u -> h1.get? b = some u) (hn : h1.Ns C m) (ho : h1.get? D = some o) (hcell : ∀ v, o.data ≠ .cell v) :
    Inv (yq X N' scope (yu X.env scope.names []) C s2 H2 fp) [(D, o)] (blk js σ) H2 { s2 with heap := h1, toks := tk } := by
  have ok := K.ok I hf hfp hC
  have sub : ∀ x c, (yu X.env scope.names []).lookup x = some c -> X.env.cells.lookup x = some c := fun x c e => ZQ scope.names [] (fun z => by simp at z) e
  refine ⟨ok, rfl, I.bare, Un.kept up, ⟨m, hn, fun i x v e1 e2 e3 => ?_⟩, fun x c e => ?_, I.hok.fresh hC, fun x c e => I.freeC x c (sub x c e), fun p hp => ?_, I.hok.kept up, ?_⟩
  · have e2' : (js.map fun j => match j with | some j => (σ[j]?).join | none => none)[i]? = some (some v) := e2
    rw [List.getElem?_map] at e2'
    cases hj : js[i]? with
    | none => rw [hj] at e2'; cases e2'
    | some j =>
      rw [hj] at e2'
      cases j with
      | none => cases e2'
      | some j =>
        have e4 : (σ[j]?).join = some v := Option.some.inj e2'
        have e5 : σ[j]? = some (some v) := by
          cases q : σ[j]? with
          | none => rw [q] at e4; cases e4
          | some z => rw [q] at e4; cases z with
            | none => cases e4
            | some z => cases e4; rfl
        obtain ⟨hX, hfr⟩ := K.ix i j x hj e1
        obtain ⟨mX, hnX, hl⟩ := I.loc
        have hm := mem_of_lookup hfr
        have hk := K.free _ hm rfl
        have hv : ZN X.env.scope x := hk.elim (fun z => .inr (.inl z)) fun z => .inr (.inr z)
        obtain ⟨u, r, q⟩ := hl j x v hX e5 hv
        refine ⟨u, r, ?_⟩
        rcases q with ⟨q, _⟩ | ⟨_, c, ec, z⟩
        · rcases hk with hk | hk
          · have hk' : X.env.kindOf x = some .cell := hk
            rw [q] at hk'; cases hk'
          · have hk' : X.env.kindOf x = some .free := hk
            rw [q] at hk'; cases hk'
        · obtain ⟨c', ec'⟩ := WR (x := x) scope.names [] (K.clos I) (.inr hm)
          have e6 := sub x c' ec'
          rw [ec] at e6; cases e6
          obtain ⟨oz, hoz, hdz⟩ := z
          refine .inr ⟨?_, c, ec', ⟨oz, up _ _ hoz, hdz⟩⟩
          rcases e3 with e3 | e3 | e3
          · rcases QK e3 with e | ⟨z, _⟩
            · rw [hfr] at e; cases e
            · cases z
          · exact .inl e3
          · exact .inr e3
  · obtain ⟨v, oz, hoz, hdz⟩ := I.cell x c (sub x c e)
    exact ⟨v, oz, up _ _ hoz, hdz⟩
  · have e : p = (D, o) := by
      have : p ∈ ([] : List (Addr × Obj)) ++ [(D, o)] := hp
      simpa using this
    subst e
    refine ⟨ho, I.hok.fresh hD, hDC, fun z => ?_, hcell⟩
    rcases List.mem_cons.mp (I.stkSub D z) with e | e
    · exact absurd (Nat.lt_of_lt_of_le I.lt hD) (by rw [show D = X.env.locals from e]; exact Nat.lt_irrefl _)
    · exact I.nofs hD e
  · show (js.map _).length = N'.length
    rw [List.length_map]; exact K.len
theorem zhd (I : Inv X pins σ H2 s2) (hf : ∀ b ∈ fp, FpOk X pins H2 b) {cl : List (Str × Addr)} {C D : Addr} {o : Obj} {ys : List V} {us : List Value} {k : Nat} {σ' : St} {H4 : Hp} {s4 : Shared} {pl : List (Addr × Obj)}
    (hD : s2.heap.objs.size <= D) (I4 : Inv (yq X N' scope cl C s2 H2 fp) pl σ' H4 s4) (hp : (D, o) ∈ pl) (ho : o = { cls := .type "list", data := .seq us.toArray k }) (r : Vals ys us) (hz : ys.length <= sizeLine) :
    Inv X pins σ (zX H4 D (.lst ys)) s4 := by
  have pD := I4.pin (D, o) (List.mem_append_right _ hp)
  have nD : H4 D = none := pD.2.1
  have eD : s4.heap.get? D = some o := pD.1
  have neD : ∀ b u, s2.heap.get? b = some u -> b ≠ D := fun b u e => Nat.ne_of_lt (Nat.lt_of_lt_of_le (Heap.lt_size e) hD)
  have n2 : H2 D = none := I.hok.fresh hD
  have U := I4.base
  refine I.call' (ch := fp) I4.os ⟨fun b u e n hb hx => U.keep b u e n hb hx, fun b u e n hb hx => U.slot b u e n hb hx, fun b u e n hx => ?_, fun b u e hx => U.there b u e hx, fun b xs e => ?_, fun b u xs e => ?_, fun b ps e => ?_⟩ (fun b u e => ?_) I4.bare fun b hb => ⟨(hf b hb).2.2.2.1, (hf b hb).2.1, (hf b hb).2.2.2.2.1, (hf b hb).2.2.2.2.2⟩
  · rw [zM (neD b u e)]; exact U.free b u e n hx
  · have q := U.tups b xs e
    rw [zM (zV q nD)]; exact q
  · have q := U.frzs b u xs e
    rw [zM (zV q nD)]; exact q
  · obtain ⟨more, q⟩ := U.tbls b ps e
    exact ⟨more, by rw [zM (zV q nD)]; exact q⟩
  · by_cases hb : b = D
    · subst hb
      rw [je] at e
      cases e
      exact ⟨hz, us, k, r, by rw [eD, ho]⟩
    · rw [zM hb] at e
      exact (I4.hok b u e).stay (fun c v _ q => q) (fun c q => by rw [zM (zV q nD)]; exact q) fun c xs q => by rw [zM (zV q nD)]; exact q
end
end L2
namespace L2
open PySem PySem.Spec PyProof.Rows
section
variable {X : Cx} {pins : List (Addr × Obj)} {σ : St} {H H2 : Hp} {s2 : Shared} {N' : List Str} {js : List (Option Nat)} {scope : Scope} {fp : List Addr}
abbrev ZR (us : List Value) : Obj := { cls := .type "list", data := .seq us.toArray us.length }
theorem zbj {tg elt iter : Expr} {ifs : List Expr} {pos : Pos} {g : TG} {tc : TT} {te : TE} {J : It} {it : Addr} {tn : Nat -> Heap -> Prop} {Qy : List V -> Hp -> Prop} {RR : Value -> Addr -> Result -> Shared -> Prop} {E : Value -> Shared -> Prop}
    (hc : X.calm = true) (K : CompOk X N' js scope) (I : Inv X pins σ H2 s2) (T : zaF X.prog X.w X.K tg J fp it tn) (st2 : tn 0 s2.heap) (f2 : ∀ b ∈ fp, FpOk X pins H2 b)
    (hb : ∀ C cl, PG (yq X N' scope cl C s2 H2 fp) tg g /\ PTs (yq X N' scope cl C s2 H2 fp) ifs tc /\ PE (yq X N' scope cl C s2 H2 fp) elt te)
    (hw : zkh J g tc te (blk js σ) H2 Qy)
    (hR : ∀ D C s4 H4 ys m, Inv X pins σ (zX H4 D (.lst ys)) s4 -> s4.heap.Ns C m -> s2.heap.objs.size <= C -> D ≠ C -> H4 C = none -> H4 D = none -> Qy ys H4 -> RR (.ref D) C (.ok .next) s4) :
    wpAny (model X.prog X.w) X.A (newList []) (fun acc s₃ => wpAny (model X.prog X.w) X.A (newFunctionEnv scope X.env.globals (yu X.env scope.names []) [] X.env.qual none .none (some X.env)) (fun cenv s₄ =>
      codeAny (model X.prog X.w) X.A (.compStart (.ListComp elt [⟨tg, iter, ifs, 0⟩] scope pos) 0 (.ref it) acc { cenv with scope := relabel scope X.env }) (RR acc cenv.locals) s₄) E s₃) E s2 := by
  refine wpAny_newObj_type (wpAny_newFunctionEnv K.cell (by intro y hy; simp at hy) (fun h₁ hns₁ hsb₁ => ?_) K.kind)
  dsimp only at hns₁ hsb₁ ⊢
  generalize hH2 : s2.heap.push { cls := .type "list", dict := none, data := .seq ([] : List Value).toArray } = HH at hns₁ hsb₁ ⊢
  have hC : HH.objs.size = s2.heap.objs.size + 1 := by rw [← hH2, Heap.size_push]
  have hDC : s2.heap.objs.size ≠ HH.objs.size := by rw [hC]; exact Nat.ne_of_lt (Nat.lt_succ_self _)
  have below : ∀ b, b < s2.heap.objs.size -> b ≠ HH.objs.size /\ b ≠ s2.heap.objs.size := fun b hb => ⟨by rw [hC]; exact Nat.ne_of_lt (Nat.lt_succ_of_lt hb), Nat.ne_of_lt hb⟩
  have old : ∀ b o, s2.heap.get? b = some o -> h₁.get? b = some o := fun b o e => hsb₁.extBut b o (below b (Heap.lt_size e)).1 (Heap.get?_push_of_some _ (hH2 ▸ Heap.get?_push_of_some _ e))
  have hacc : h₁.get? s2.heap.objs.size = some (ZR []) := hsb₁.extBut _ _ hDC (Heap.get?_push_of_some _ (hH2 ▸ Heap.get?_push_size _ rfl))
  have hfp : ∀ b ∈ fp, b < s2.heap.objs.size := fun b hb => by obtain ⟨o, e, _⟩ := T.obj 0 _ st2 b hb; exact Heap.lt_size e
  have hCle : s2.heap.objs.size <= HH.objs.size := by rw [hC]; exact Nat.le_succ _
  generalize hCC : HH.objs.size = C at *
  generalize hDD : s2.heap.objs.size = D at *
  obtain ⟨W, ⟨m0, w0⟩, turn⟩ := hw
  obtain ⟨hG, hT, hE⟩ := hb C (yu X.env scope.names [])
  have st1 : tn 0 h₁ := T.keep 0 _ _ st2 fun b _ o e => old b o e
  have loop : ∀ s₃ : Shared, s₃ = { s2 with heap := h₁, toks := s2.toks + ([] : List (Str × Value)).length } ->
      codeAny (model X.prog X.w) X.A (.compLoop (.ListComp elt [⟨tg, iter, ifs, 0⟩] scope pos) 0 (.ref it) (.ref D) (compEnvC scope (yu X.env scope.names []) C X.env)) (RR (.ref D) C) s₃ := by
    rintro s₃ rfl
    have I0 : Inv (yq X N' scope (yu X.env scope.names []) C s2 H2 fp) [(D, ZR [])] (blk js σ) H2 { s2 with heap := h₁, toks := s2.toks + ([] : List (Str × Value)).length } :=
      K.inv I f2 (fun b hb => by rw [hDD]; exact hfp b hb) (by rw [hDD]; exact Nat.le_refl _) (by rw [hDD]; exact hCle) hDC old hns₁ hacc (fun v z => by cases z)
    have cfree : ∀ {σ' : St} {H' : Hp} {s' : Shared} {pl : List (Addr × Obj)}, Inv (yq X N' scope (yu X.env scope.names []) C s2 H2 fp) pl σ' H' s' -> H' C = none := fun I' => I'.free
    have stat : ∀ {H' : Hp} {us : List Value}, (∀ b ∈ fp, H' b = none) -> ∀ b ∈ fp, FpOk (yq X N' scope (yu X.env scope.names []) C s2 H2 fp) [(D, ZR us)] H' b := fun {H' us} hn b hb => by
      refine ⟨hn b hb, (below b (hfp b hb)).1, fun z => ?_, .inl hb, fun x c e => ?_, fun p hp => ?_⟩
      · rcases List.mem_cons.mp (I.stkSub b z) with e | e
        · exact (f2 b hb).2.1 e
        · exact (f2 b hb).2.2.1 e
      · exact (f2 b hb).2.2.2.2.1 x c (ZQ scope.names [] (fun z => by simp at z) e)
      · have e : p = (D, ZR us) := by
          have hp' : p ∈ ([] : List (Addr × Obj)) ++ [(D, ZR us)] := hp
          simpa using hp'
        subst e
        exact Ne.symm (below b (hfp b hb)).2
    refine zhc (fun n s' => ∃ i ys us σ' H', Inv (yq X N' scope (yu X.env scope.names []) C s2 H2 fp) [(D, ZR us)] σ' H' s' /\ tn i s'.heap /\ (∀ b ∈ fp, H' b = none) /\ Vals ys us /\ W i n ys σ' H') ?_ m0
      ⟨0, [], [], blk js σ, H2, I0, st1, fun b hb => (f2 b hb).1, .nil, w0⟩
    rintro n s3 ⟨i, ys, us, σ3, H3, I3, st3, fr3, rv, w3⟩
    rcases turn i n ys σ3 H3 w3 with ⟨stop, hz, q⟩ | ⟨go, hz, N, hN, step⟩
    · refine zO (T.done (yq X N' scope (yu X.env scope.names []) C s2 H2 fp) rfl rfl rfl hc i _ s3 σ3 H3 _ I3 (stat fr3) st3 stop) fun r s4 ⟨hr, I4⟩ => ?_
      subst hr
      obtain ⟨mC, hnC, _⟩ := I4.loc
      exact hR D C s4 H3 ys mC (zhd I f2 (by rw [hDD]; exact Nat.le_refl _) I4 List.mem_cons_self rfl rv hz) hnC (by first | exact hCle | (rw [hDD]; exact hCle)) hDC (cfree I4) (I4.pin (D, ZR us) (List.mem_append_right _ List.mem_cons_self)).2.1 q
    · refine zO (T.item (yq X N' scope (yu X.env scope.names []) C s2 H2 fp) rfl rfl rfl hc i _ s3 σ3 H3 _ I3 (stat fr3) st3 go) fun r s4 ⟨u, hr, h4⟩ => ?_
      subst hr
      refine zO h4 fun _ s5 ⟨x, H5, I5, r5, y5, st5, fr5⟩ => ?_
      have I5' := I5.pinned (stat fr5) (T.obj _ _ st5)
      refine zO (hG _ s5 σ3 H5 x u _ I5' r5 (step x H5 y5)) fun _ s6 ⟨σ6, H6, I6, q6⟩ => ?_
      refine zO (hT _ s6 σ6 H6 _ I6 q6) fun ok s7 ⟨H7, I7, q7⟩ => ?_
      have again : ∀ {H8 : Hp} {s8 : Shared}, Inv (yq X N' scope (yu X.env scope.names []) C s2 H2 fp) ([(D, ZR us)] ++ U6 fp s5.heap) σ6 H8 s8 -> tn (i + 1) s8.heap /\ ∀ b ∈ fp, H8 b = none := fun {H8 s8} I8 =>
        ⟨T.keep _ _ _ st5 fun b hb o e => (I8.pin (b, o) (List.mem_append_right _ (List.mem_append_right _ (ZB hb e)))).1, fun b hb => by
          obtain ⟨o, e, d⟩ := T.obj _ _ st5 b hb
          exact (I8.pin (b, o) (List.mem_append_right _ (List.mem_append_right _ (ZB hb e)))).2.1⟩
      cases ok with
      | false =>
        have q7' : N ys σ6 H7 := by simpa using q7
        obtain ⟨m', hm, w7⟩ := hN _ _ _ q7'
        obtain ⟨t7, fr7⟩ := again I7
        exact ⟨m', hm, i + 1, ys, us, σ6, H7, I7.unpinned, t7, fr7, rv, w7⟩
      | true =>
        have q7' : te σ6 H7 fun y H4 => N (ys ++ [y]) σ6 H4 := by simpa using q7
        refine zO (hE _ s7 σ6 H7 _ I7 q7') fun z s8 ⟨y, H8, I8, r8, q8⟩ => ?_
        obtain ⟨t8, fr8⟩ := again I8
        obtain ⟨eD, nD, neL, nf, _⟩ := I8.pin (D, ZR us) (List.mem_append_right _ (List.mem_append_left _ List.mem_cons_self))
        have hul : us.length < sizeLine := by rw [← rv.length]; exact hz
        refine append_at (hsz := by show us.toArray.size <= sizeLine; rw [List.size_toArray]; exact Nat.le_of_lt hul) eD fun h₉ hs₉ hD₉ => ?_
        obtain ⟨m', hm, w8⟩ := hN _ _ _ q8
        have I8' : Inv (yq X N' scope (yu X.env scope.names []) C s2 H2 fp) [] σ6 H8 s8 := I8.pins_of fun p hp => (nomatch hp)
        have I9 : Inv (yq X N' scope (yu X.env scope.names []) C s2 H2 fp) [] σ6 H8 { s8 with heap := h₉ } := I8'.turned (t' := s8.toks) (it := D) (fun b o hb e => (hs₉.2 b hb).trans e) nD neL (.inr (by show s2.heap.objs.size <= D; rw [hDD]; exact Nat.le_refl _)) (fun x c e z => by
            have e' : (yu X.env scope.names []).lookup x = some c := e
            obtain ⟨v, q⟩ := I.cell x c (ZQ scope.names [] (fun z => by simp at z) e')
            have l := q.lt
            rw [hDD, z] at l; exact Nat.lt_irrefl _ l) (fun p hp => (nomatch hp))
        have eq9 : h₉.get? D = some (ZR (us ++ [z])) := hD₉.trans (congrArg some (by
          show ({ cls := .type "list", data := .seq (us.toArray.push z) (us.length + 1) } : Obj) = { cls := .type "list", data := .seq (us ++ [z]).toArray (us ++ [z]).length }
          rw [List.length_append, List.length_singleton, List.push_toArray]))
        refine ⟨m', hm, i + 1, ys ++ [y], us ++ [z], σ6, H8, I9.pins_of fun p hp => ?_, T.keep _ _ _ t8 fun b hb o e => (hs₉.2 b ((below b (hfp b hb)).2)).trans e, fr8, rv.append (.cons r8 .nil), w8⟩
        have e : p = (D, ZR (us ++ [z])) := by simpa using hp
        subst e
        exact ⟨eq9, nD, neL, nf, fun v z => by cases z⟩
  exact codeAny_compStart_list (loop _ rfl) (T.self X.A 0 _ _ _ st1 (loop _ rfl))
end
end L2
namespace L2
open PySem PySem.Spec PyProof.Rows
section
variable {X : Cx} {N' : List Str} {js : List (Option Nat)} {scope : Scope} {tg elt iter : Expr} {ifs : List Expr} {pos : Pos} {wi : TI} {g : TG} {tc : TT} {te : TE}
def PB (X : Cx) (N' : List Str) (scope : Scope) (tg : Expr) (ifs : List Expr) (elt : Expr) (g : TG) (tc : TT) (te : TE) : Prop :=
  ∀ s2 H2 fp C cl, PG (yq X N' scope cl C s2 H2 fp) tg g /\ PTs (yq X N' scope cl C s2 H2 fp) ifs tc /\ PE (yq X N' scope cl C s2 H2 fp) elt te
theorem zk9 (hc : X.calm = true) (K : CompOk X N' js scope) (hi : PI X tg iter wi) (hb : PB X N' scope tg ifs elt g tc te) (hs : ∀ x, foldedSetIterable iter X.env x = pure x := by intro _; rfl) :
    PE X (.ListComp elt [⟨tg, iter, ifs, 0⟩] scope pos) (zfH wi js g tc te) := by
  intro pins s σ H Q I h
  rw [eval_ListComp]
  refine wpAny_comprehension_free (use := none) rfl hs (zex (K.clos I)) K.kind K.names (zO (hi pins s σ H _ I h) fun v s1 h1 => zO h1 fun itv s2 h2 => ?_)
  obtain ⟨it, fp, tn, J, H2, e, I2, T, st2, f2, hw⟩ := h2
  subst e
  refine zbj hc K I2 T st2 f2 (fun C cl => hb s2 H2 fp C cl) hw fun D C s4 H4 ys m I4 hn hC hDC nC nD q => ?_
  have nC' : zX H4 D (.lst ys) C = none := by rw [zM (Ne.symm hDC)]; exact nC
  obtain ⟨f0, f1, f2', f3, f4, f5⟩ := I2.fpOk (H' := zX H4 D (.lst ys)) hC nC'
  refine ⟨m, hn, fun h' hs' => ⟨.ref D, _, I4.turned (t' := s4.toks) (it := C) (fun b o hb e => (hs'.2 b hb).trans e) nC' f1 f3 f4 f5, rfl, q D nD⟩⟩
theorem zez {i : Nat} {y : Str} {py spos : Pos} (hc : X.calm = true) (hN : X.N.Nodup) (hi' : X.N[i]? = some y) (hy : X.env.scope.names.lookup y = some .local) (K : CompOk X N' js scope) (hi : PI X tg iter wi) (hb : PB X N' scope tg ifs elt g tc te)
    (hsw : swapsWith (.ListComp elt [⟨tg, iter, ifs, 0⟩] scope pos) (some (.Name y py)) spos.line X.env = pure true) (hs : ∀ x, foldedSetIterable iter X.env x = pure x := by intro _; rfl) :
    PS X (.Assign [.Name y py] (.ListComp elt [⟨tg, iter, ifs, 0⟩] scope pos) spos) (zaE (zfH wi js g tc te) (VX i)) := by
  intro pins s σ H Dn I h
  rw [exec_Assign_Name_used _ _ _ _ hsw]
  refine wpAny_bind (wpAny_standAt (wpAny_bind ?_))
  show wpAny _ _ (do let _ ← comprehension (.ListComp elt [⟨tg, iter, ifs, 0⟩] scope pos) scope X.env _ (newList []) false (eval iter X.env) (some (assign (.Name y py) X.env))) _ _ s
  refine wpAny_bind (wpAny_mono (wpAny_comprehension_free (use := some (assign (.Name y py) X.env)) (Q := fun _ s' => SP X pins Dn .next s') rfl hs (zex (K.clos I)) K.kind K.names
    (zO (hi pins s σ H _ I h) fun v s1 h1 => zO h1 fun itv s2 h2 => ?_)) (fun _ s' hq => wpAny_pure (wpAny_pure hq)) fun _ _ e => e)
  obtain ⟨it, fp, tn, J, H2, e, I2, T, st2, f2, hw⟩ := h2
  subst e
  refine zbj hc K I2 T st2 f2 (fun C cl => hb s2 H2 fp C cl) hw fun D C s4 H4 ys m I4 hn hC hDC nC nD q => ?_
  have nC' : zX H4 D (.lst ys) C = none := by rw [zM (Ne.symm hDC)]; exact nC
  obtain ⟨f0, f1, f2', f3, f4, f5⟩ := I2.fpOk (H' := zX H4 D (.lst ys)) hC nC'
  show wpAny _ _ (assign (.Name y py) X.env (.ref D)) _ _ _
  refine wpAny_assign_Name (zbc (v := .ref D) I4 hN hi' (.inl hy) rfl (fun s5 I5 ⟨a, sb, ha⟩ => ?_) (.inr hy))
  have nCa : C ≠ a := by
    rcases ha with e | e
    · rw [e]; exact f1
    · exact fun z => f4 y a e z.symm
  exact ⟨m, hn.sameBut sb nCa, fun h' hs' => ⟨_, _, I5.turned (t' := s5.toks) (it := C) (fun b o hb e => (hs'.2 b hb).trans e) nC' f1 f3 f4 f5, q D nD⟩⟩
end
section
variable {g : TG} {tc : TT} {te : TE} {σ : St} {H : Hp} {Q : List V -> Hp -> Prop}
end
end L2
namespace L2
open PySem PySem.Spec PyProof.Rows
section
variable {X : Cx}
theorem zbk : y6 X (compareOp .LtE) (fun x y H Q => ∃ i j, x = .str i /\ y = .str j /\ Q (.bl (!(decide (j.cps.toList < i.cps.toList)))) H) := by
  intro pins s σ H x y v u Q I rx ry h
  obtain ⟨i, j, rfl, rfl, q⟩ := h
  obtain ⟨t, rfl⟩ := rx
  obtain ⟨t', rfl⟩ := ry
  exact PySem.P.le_str (zL I q rfl)
theorem Vals.texts : ∀ {ys : List Str} {us : List Value}, Vals (ys.map V.str) us -> StrsAre us ys
  | [], _, r => by cases r; exact .nil
  | y :: ys, _, r => by
    cases r with
    | cons r1 r2 =>
      obtain ⟨t, rfl⟩ := r1
      exact .cons y t (Vals.texts r2)
def zn_ (K : PySem.W.Frag) : V -> List V -> Hp -> VK -> Prop := fun x vs H Q => ∃ z a ys, x = .str z /\ vs = [.ref a] /\ jf K H a (ys.map V.str) /\ (ys.map (·.length)).sum + ys.length * z.length <= 16777216 /\ Q (.str (Txt.join z ys)) H
theorem zk_ : MtR X "str.join" (zn_ X.K) := by
  intro pins s σ H x vs v us Q I rx rv h
  obtain ⟨z, a, ys, rfl, rfl, hq, hz, q⟩ := h
  obtain ⟨t, rfl⟩ := rx
  obtain ⟨u, rfl, ru⟩ := rv.one
  cases ru
  obtain ⟨its, r, pl, _⟩ := I.list hq
  exact join_list pl.isList (by simpa using Vals.texts r) hz fun t' k => ⟨.str _, H, I.tok k, ⟨t', rfl⟩, q⟩
def Its (x : Str) : It := ⟨fun i _ => i < x.cps.size, fun i H v H' => H' = H /\ ∃ c, x.cps[i]? = some c /\ v = .str ⟨#[c]⟩, fun i _ => i = x.cps.size⟩
theorem ziW {P : Program} {w : World} {K : PySem.W.Frag} {tg : Expr} (it : Addr) (x : Str) (t : Tok) (T : String) (hT : T = "str_ascii_iterator" \/ T = "str_iterator") : zaF P w K tg (Its x) [it] it (fun i h => h.IsStrIter it T x t i) where
  mem := by simp
  obj := fun i h st b hb => by
    have e : b = it := by simpa using hb
    subst e
    obtain ⟨o, e, c, d⟩ := st
    exact ⟨o, e, fun v z => by rw [d] at z; cases z⟩
  keep := fun i h h' st k => by obtain ⟨o, e, r⟩ := st; exact ⟨o, k it (by simp) o e, r⟩
  item := by
    intro X hP hw hK hc i pins s σ H E I hf st hg
    subst hP hw hK
    obtain ⟨f0, f1, f2, f3, f4, f5⟩ := hf it (by simp)
    have fin : ∀ v h' tk, SignAt x i v -> h'.IsStrIter it T x t (i + 1) -> (∀ b o, b ∉ [it] -> s.heap.get? b = some o -> h'.get? b = some o) -> ∃ u, some v = some u /\
        wpAny (model X.prog X.w) X.A (letOwnedTupleGo tg (.ref it) u) (fun _ s2 => ∃ y H', Inv X pins σ H' s2 /\ RelV y u /\ (Its x).yld i H y H' /\ s2.heap.IsStrIter it T x t (i + 1) /\ ∀ b ∈ [it], H' b = none) E { s with heap := h', toks := tk } := by
      intro v h' tk hv st' kk
      obtain ⟨c, u, hcu, rfl⟩ := hv
      have I1 : Inv X pins σ H { s with heap := h', toks := tk } := I.turned (fun b o hb e => kk b o (by simpa using hb) e) f0 f1 f3 f4 f5
      obtain ⟨o, e, cc, d⟩ := id st'
      refine ⟨_, rfl, zfv (s := { s with heap := h', toks := tk }) e cc d ?_ ⟨.str ⟨#[c]⟩, H, I1, ⟨u, rfl⟩, ⟨rfl, c, hcu, rfl⟩, st', fun b hb => (hf b hb).1⟩⟩
      rcases hT with rfl | rfl <;> decide
    rcases hT with rfl | rfl
    · exact (Walks.strAscii (prog := X.prog) (w := X.w) (I.ok.hd hc) it x t).item i s _ _ hg st fin
    · exact (Walks.strWide (prog := X.prog) (w := X.w) (I.ok.hd hc) it x t).item i s _ _ hg st fin
  done := by
    intro X hP hw hK hc i pins s σ H E I hf st hg
    subst hP hw hK
    obtain ⟨f0, f1, f2, f3, f4, f5⟩ := hf it (by simp)
    have hg' : i = x.cps.size := hg
    subst hg'
    have fin : ∀ (h' : Heap) (tk : Nat), (∀ b o, b ∉ [it] -> s.heap.get? b = some o -> h'.get? b = some o) -> (none : Option Value) = none /\ Inv X pins σ H { s with heap := h', toks := tk } := fun h' tk kk =>
      ⟨rfl, I.turned (fun b o hb e => kk b o (by simpa using hb) e) f0 f1 f3 f4 f5⟩
    rcases hT with rfl | rfl
    · exact (Walks.strAscii (prog := X.prog) (w := X.w) (I.ok.hd hc) it x t).done s _ _ st fin
    · exact (Walks.strWide (prog := X.prog) (w := X.w) (I.ok.hd hc) it x t).done s _ _ st fin
  self := fun A i s Q E st h => by
    rcases hT with rfl | rfl
    · exact wpAny_pyIter_striter_ascii st h
    · exact wpAny_pyIter_striter_wide st h
def zmT (tl : TE) : TI := fun σ H R => tl σ H fun x H1 => ∃ z, x = .str z /\ R (Its z) H1
theorem zmU {tg l : Expr} {tl : TE} (hl : PE X l tl) : PI X tg l (zmT tl) := by
  intro pins s σ H R I h
  refine zO (hl pins s σ H _ I h) fun v s1 ⟨x, H1, I1, r1, q1⟩ => ?_
  obtain ⟨z, e, q⟩ := q1
  subst e
  obtain ⟨t, rfl⟩ := r1
  have fin : ∀ (o : Obj) (T : String), T = "str_ascii_iterator" \/ T = "str_iterator" -> o.cls = .type T -> o.data = .fields #[.str z t, .int 0 0] -> PIE X pins σ tg R (.ref s1.heap.objs.size) { s1 with heap := s1.heap.push o } := fun o T hT hc hd => by
    refine ⟨s1.heap.objs.size, [s1.heap.objs.size], _, _, H1, rfl, I1.kept (t' := s1.toks) fun b o e => Heap.get?_push_of_some _ e, ziW _ z t T hT, ⟨o, Heap.get?_push_size _ (by obtain ⟨c0, d0, dt0, sl0⟩ := o; cases hd; rfl), hc, hd⟩, fun b hb => ?_, q⟩
    have e : b = s1.heap.objs.size := by simpa using hb
    subst e
    exact I1.fpOk (Nat.le_refl _) (I1.hok.fresh (Nat.le_refl _))
  cases ha : z.cps.all (· < 128)
  · exact wpAny_pyIter_wide ha (fin _ "str_iterator" (.inr rfl) rfl rfl)
  · exact wpAny_pyIter_ascii ha (fin _ "str_ascii_iterator" (.inl rfl) rfl rfl)
theorem ziX (hc : X.calm = true) : jL X (.builtin "all") (fun xs H Q => ∃ (a : Addr) (bs : List Bool), xs = [.ref a] /\ jf X.K H a (bs.map V.bl) /\ Q (.bl (bs.all id)) H) := by
  intro pins s σ H xs us Q I rv h
  obtain ⟨a, bs, rfl, hq, q⟩ := h
  obtain ⟨u, rfl, ru⟩ := rv.one
  cases ru
  obtain ⟨its, r, pl, hz⟩ := I.list hq
  have hlt : a < s.heap.objs.size := by obtain ⟨o, n, e, _⟩ := pl; exact Heap.lt_size e
  refine call_all_walk (wpAny_pyIter_list pl.isList ⟨_, _, _, _, _, _, fun i => bs.getD i true, rfl, Walks.list (by simpa using I.ok.hd hc) s.heap.objs.size a (Nat.ne_of_lt hlt) its.toArray, ⟨⟨_, Heap.get?_push_size _ rfl, rfl, rfl⟩, pl.isList.push _⟩, ?_, ?_⟩)
  · intro i v s' Q' E' hP hQ
    have hv : its[i]? = some v := by simpa using hP
    have hi : i < its.length := (List.getElem?_eq_some_iff.mp hv).1
    have hl := r.length
    rw [List.length_map] at hl
    obtain ⟨u, hu, ru⟩ := r.get (i := i) (x := .bl (bs.getD i true)) (by
      rw [List.getElem?_map, List.getElem?_eq_getElem (by omega), List.getD_eq_getElem?_getD, List.getElem?_eq_getElem (by omega)]; rfl)
    rw [hv] at hu; cases hu; cases ru
    exact wpAny_truthy_bool hQ
  · intro h' tk kk
    have hl := r.length
    rw [List.length_map] at hl
    have e : (List.range its.toArray.size).all (fun i => bs.getD i true) = bs.all id := by
      rw [List.size_toArray, ← hl]
      rw [Bool.eq_iff_iff, List.all_eq_true, List.all_eq_true]
      constructor
      · intro z b hb
        obtain ⟨i, hi, e⟩ := List.mem_iff_getElem.mp hb
        have z' := z i (List.mem_range.mpr hi)
        rw [List.getD_eq_getElem?_getD, List.getElem?_eq_getElem hi, e] at z'
        exact z'
      · intro z i hi
        have hi' := List.mem_range.mp hi
        rw [List.getD_eq_getElem?_getD, List.getElem?_eq_getElem hi']
        exact z _ (List.getElem_mem hi')
    have I1 : Inv X pins σ H { s with heap := h', toks := tk } := I.kept fun b o e => kk b o (by simp only [List.mem_singleton]; exact Nat.ne_of_lt (Heap.lt_size e)) (Heap.get?_push_of_some _ e)
    refine ⟨.bl (bs.all id), H, I1, ?_, q⟩
    rw [e]; rfl
end
end L2
namespace L2
open PySem PySem.Spec PyProof.Rows
def Qp (xs : List yF) (k : yF) : Bool := xs.any fun y => decide (y = k)
theorem isIn_iff {xs : List yF} {k : yF} : Qp xs k = true ↔ k ∈ xs := by
  unfold Qp
  rw [List.any_eq_true]
  constructor
  · rintro ⟨y, hy, e⟩; have := of_decide_eq_true e; subst this; exact hy
  · intro h; exact ⟨k, h, decide_eq_true rfl⟩
def jt : List yF -> List yF -> Nat
  | _, [] => 0
  | pre, x :: r => (if Qp pre x then 0 else 1) + jt (pre ++ [x]) r
theorem U9 : ∀ (r pre : List yF), jt pre r <= r.length
  | [], _ => Nat.le_refl _
  | x :: r, pre => by
    have := U9 r (pre ++ [x])
    simp only [jt, List.length_cons]
    split <;> omega
section
variable {prog : Program} {w : World} {A : Around} {R : Result -> Shared -> Prop}
end
end L2
namespace L2
open PySem PySem.Spec PyProof.Rows
section
variable {prog : Program} {w : World} {A : Around} {E : Value -> Shared -> Prop} {s : Shared}
abbrev Jn (led : Bool) : Obj := { cls := .type "set", dict := none, data := .set #[] 0 (.fresh 0 0 led) }
end
end L2
namespace L2
open PySem PySem.Spec PyProof.Rows
def zmV (P : Program) (w : World) (a : Addr) (ks : List yF) : HO := .ext fun h => h.SetOf (yd P w) a (Qp ks) (jt [] ks)
section
variable {X : Cx}
theorem call_len_set : jL X (.builtin "len") (fun xs H Q => ∃ (a : Addr) (ks : List yF), xs = [.ref a] /\ H a = some (zmV X.prog X.w a ks) /\ Q (.int (jt [] ks)) H) := by
  intro pins s σ H xs us Q I rv h
  obtain ⟨a, ks, rfl, hq, q⟩ := h
  obtain ⟨u, rfl, ru⟩ := rv.one
  cases ru
  obtain ⟨hS, _, _⟩ := (show ObjOk X.prog X.w H s.heap a (zmV X.prog X.w a ks) from I.hok a _ hq)
  obtain ⟨o, es, ep, t, ho, hex, hd, hel, hmem, hb, hf, hn⟩ := hS
  have hb' : (es.size : Int) < 2 ^ 63 := by unfold scanBound at hb; omega
  have q' : Q (.int es.size) H := by rw [hn]; exact q
  exact PySem.call_len_set ho hex hd hf hb' ⟨.int es.size, H, I.tok _, ⟨_, rfl⟩, q'⟩
def zki (a : Addr) : HO := .ext fun h => ∃ o, h.get? a = some o /\ o.cls = .type "dict"
inductive Rv (K : PySem.W.Frag) (H : Hp) : V -> Value -> Prop where
  | of {x : V} {t : Value} (h : QJ K H x t) : Rv K H x t
  | dict {a : Addr} (e : H a = some (zki a)) : Rv K H (.ref a) (.type "dict")
theorem zcD : jL X (.builtin "isinstance") (fun xs H Q => ∃ x t c b, xs = [x, .ty c] /\ Rv X.K H x t /\ PySem.W.kitOne X.K t (.type c) = some b /\ Q (.bl b) H) := by
  intro pins s σ H xs us Q I rv h
  obtain ⟨x, t, c, b, rfl, ht, hk, q⟩ := h
  obtain ⟨u, u', rfl, ru, ru'⟩ := rv.two
  cases ru'
  cases ht with
  | of ht => exact zg3 I ru ht hk fun tk => ⟨.bl b, H, I.tok tk, rfl, q⟩
  | @dict a e =>
    cases (show u = Value.ref a from ru)
    obtain ⟨⟨o, ho, hc⟩, _, _⟩ := (show ObjOk X.prog X.w H s.heap a (zki a) from I.hok a _ e)
    exact PySem.W.kia_one PySem.W.kitx_dict I.kIn ⟨o, ho, hc⟩ hk (fun z => nomatch z) fun tk => ⟨.bl b, H, I.tok tk, rfl, q⟩
end
end L2
namespace L2
open PySem PySem.Spec PyProof.Rows
def zeA (names outer : List (Str × NameKind)) (N' N : List Str) (js : List (Option Nat)) : Bool :=
  names.all (fun y => decide (y.2 ≠ .cell) && (decide (y.2 ≠ .local) || decide (names.lookup y.1 = some .local)) && (decide (y.2 ≠ .free) || (decide (outer.lookup y.1 = some .cell) || decide (outer.lookup y.1 = some .free))))
  && decide (js.length = N'.length) && (js.zip N').all fun p => match p.1 with | none => true | some j => decide (N[j]? = some p.2) && decide (names.lookup p.2 = some .free)
theorem CompOk.of_b {X : Cx} {N' : List Str} {js : List (Option Nat)} {scope : Scope} (hk : scope.kind = .function) (h : zeA scope.names X.env.scope.names N' X.N js = true) : CompOk X N' js scope := by
  unfold zeA at h
  simp only [Bool.and_eq_true, List.all_eq_true, Bool.or_eq_true, decide_eq_true_eq] at h
  obtain ⟨⟨h1, h2⟩, h3⟩ := h
  refine ⟨hk, fun y hy => (h1 y hy).1.1, fun y hy e => (h1 y hy).1.2.elim (fun z => absurd e z) id, fun y hy e => (h1 y hy).2.elim (fun z => absurd e z) id, h2, fun i j x e1 e2 => ?_⟩
  have hm : (some j, x) ∈ js.zip N' := by
    refine List.mem_iff_getElem?.mpr ⟨i, ?_⟩
    rw [List.getElem?_zip_eq_some]
    exact ⟨e1, e2⟩
  have q := h3 _ hm
  simp only [Bool.and_eq_true, decide_eq_true_eq] at q
  exact q
def Has (P : Program) (w : World) (K : PySem.W.Frag) (mg : Str -> Option Value) (base : Heap) (x : Str) (k : Nat) (ps : List Str) (sp : Sp) : Prop :=
  ∃ f fd, FnOk P w K mg base yg k f fd ps sp /\ Binds K fd ps [] /\ PySem.W.keepIn K (.ref f) = true /\ mg x = some (.ref f)
section
variable {X : Cx} {x : Str} {k : Nat} {ps : List Str} {sp : Sp} {p pos : Pos} {e : Expr} {es : List Expr} {t : TA}
theorem Ue (h : Has X.prog X.w X.K X.mg X.base x k ps sp) (hr : Room k X.A) (hg : Gl X x) (ha : PA X (e :: es) t) (hd : (x == ("__debug__" : Str)) = false := by decide)
    (hs : starEach (e :: es) X.env = (false, eval e X.env) :: starEach es X.env := by rfl) (hp : (backTo pos (starEach es X.env)).any (·.1) = false := by rfl) :
    PE X (.Call (.Name x p) (e :: es) [] pos) (V0 sp [] E0 t) := by
  obtain ⟨f, fd, G, b, kp, m⟩ := h
  exact zk2 G hr hg m kp b .nil zb_ ha hd hs hp
end
def Zb : List Expr -> Option (List Str)
  | [] => some []
  | .Constant (.str x) _ _ :: r => (Zb r).map (x :: ·)
  | _ => none
def zkj (ss : List Str) : TA := fun _ H Q => Q (ss.map V.str) H
theorem zeB {X : Cx} : ∀ {es : List Expr} {ss : List Str}, Zb es = some ss -> PA X es (zkj ss)
  | [], ss, h => by
    cases h
    intro pos pins s σ H Q I hq
    exact jR pos pins s σ H Q I hq
  | e :: es, ss, h => by
    cases e with
    | Constant c j p =>
      cases c with
      | str x =>
        have h' : (Zb es).map (x :: ·) = some ss := h
        cases hr : Zb es with
        | none => rw [hr] at h'; cases h'
        | some r =>
          rw [hr] at h'
          cases h'
          exact fun pos pins s σ H Q I hq => jk zgN (zeB hr) rfl pos pins s σ H Q I hq
      | _ => exact nomatch h
    | _ => exact nomatch h
end L2
namespace L2
open PySem PySem.Spec PyProof.Rows
section
variable {X : Cx} {N' : List Str} {js : List (Option Nat)} {scope : Scope} {tg elt iter : Expr} {ifs : List Expr} {pos : Pos} {wi : TI} {g : TG} {tc : TT} {te : TE}
end
end L2
namespace L2
open PySem PySem.Spec PyProof.Rows
section
variable {prog : Program} {w : World} {A : Around} {E : Value -> Shared -> Prop}
end
section
variable {X : Cx}
end
end L2
namespace L2
open PySem PySem.Spec PyProof.Rows
section
variable {X : Cx} {pins : List (Addr × Obj)} {σ : St} {H : Hp} {s : Shared}
end
section
variable {P : Program} {w : World} {K : PySem.W.Frag} {mg : Str -> Option Value} {base : Heap} {N : List Str} {qual : Str} {scope : Scope} {f : Addr} {cd : Value} {A : Around} {outer : List Env} {s₀ : Shared} {H₀ : Hp} {E E₀ : XK}
end
end L2
namespace L2
open PySem PySem.Spec PyProof.Rows
def zo7 (e : Addr) (cls : Value) (h : Heap) : Prop := ∃ oe vs, h.get? e = some oe /\ oe.cls = cls /\ oe.data = .fields vs
section
variable {X : Cx} {pins : List (Addr × Obj)} {σ : St} {H : Hp} {s : Shared}
end
section
variable {X : Cx} {CX : Yg} {k : Nat} {f C : Addr} {fd : FuncData} {ps : List Str} {sp : Sp} {dvs : List V} {ds : List Value} {E : St -> XK} {x m : Str} {p pos apos : Pos} {e o : Expr} {es : List Expr} {ta : TE} {t : TA}
end
end L2
namespace L2
open PySem PySem.Spec PyProof.Rows
section
variable {X : Cx}
end
end L2
namespace L2
open PySem PySem.Spec PyProof.Rows
inductive DQ (H : Hp) : Nat -> V -> V -> Bool -> Prop where
  | fl {n : Nat} {x y : V} (fx : JD x = true) (fy : JD y = true) : DQ H n x y (Qb x y)
  | ll {n : Nat} {a b : Addr} {xs ys : List V} (e : Nat -> Bool) (ha : H a = some (.lst xs)) (hb : H b = some (.lst ys)) (hl : xs.length = ys.length) (h : ∀ (j : Nat) x y, xs[j]? = some x -> ys[j]? = some y -> DQ H n x y (e j)) : DQ H (n + 1) (.ref a) (.ref b) ((List.range xs.length).all e)
  | ln {n : Nat} {a b : Addr} {xs ys : List V} (ha : H a = some (.lst xs)) (hb : H b = some (.lst ys)) (hl : xs.length ≠ ys.length) : DQ H (n + 1) (.ref a) (.ref b) false
  | tt {n : Nat} {a b : Addr} {xs ys : List V} (e : Nat -> Bool) (ha : H a = some (.tup xs)) (hb : H b = some (.tup ys)) (h : ∀ (j : Nat) x y, xs[j]? = some x -> ys[j]? = some y -> DQ H n x y (e j)) : DQ H (n + 1) (.ref a) (.ref b) ((List.range (min xs.length ys.length)).all e && xs.length == ys.length)
  | lt {n : Nat} {a b : Addr} {xs ys : List V} (ha : H a = some (.lst xs)) (hb : H b = some (.tup ys)) : DQ H (n + 1) (.ref a) (.ref b) false
  | tl {n : Nat} {a b : Addr} {xs ys : List V} (ha : H a = some (.tup xs)) (hb : H b = some (.lst ys)) : DQ H (n + 1) (.ref a) (.ref b) false
theorem eqV_self {x : V} (h : JD x = true) : Qb x x = true := by
  cases x with
  | non => rfl
  | bl b => simp [Qb]
  | int b => simp [Qb]
  | str b => simp [Qb]
  | _ => cases h
theorem zeC {H : Hp} {n : Nat} {x y : V} {b : Bool} (h : DQ H n x y b) : x = y -> b = true := by
  induction h with
  | fl fx fy => intro e; subst e; exact eqV_self fx
  | ll e ha hb hl h ih =>
    intro z; cases z
    rw [ha] at hb; cases hb
    rw [List.all_eq_true]
    intro j hj
    have hj := List.mem_range.mp hj
    exact ih j _ _ (List.getElem?_eq_getElem hj) (List.getElem?_eq_getElem hj) rfl
  | ln ha hb hl => intro z; cases z; rw [ha] at hb; cases hb; exact absurd rfl hl
  | tt e ha hb h ih =>
    intro z; cases z
    rw [ha] at hb; cases hb
    rw [Nat.min_self, Bool.and_eq_true]
    refine ⟨?_, by simp⟩
    rw [List.all_eq_true]
    intro j hj
    have hj := List.mem_range.mp hj
    exact ih j _ _ (List.getElem?_eq_getElem hj) (List.getElem?_eq_getElem hj) rfl
  | lt ha hb => intro z; cases z; rw [ha] at hb; cases hb
  | tl ha hb => intro z; cases z; rw [ha] at hb; cases hb
section
variable {X : Cx} {pins : List (Addr × Obj)} {σ : St} {H : Hp} {s : Shared}
theorem QL {A : Around} {xs ys : List V} {us ws : List Value} {e : Nat -> Bool} (rx : Vals xs us) (ry : Vals ys ws) (h : ∀ (j : Nat) x y u v, xs[j]? = some x -> ys[j]? = some y -> RelV x u -> RelV y v -> SeqAt.EqAt A s u v (e j)) (j : Nat) (h1 : j < us.toArray.size) (h2 : j < ws.toArray.size) :
    SeqAt.EqAt A s us.toArray[j] ws.toArray[j] (e j) := by
  have l1 : j < us.length := by simpa using h1
  have l2 : j < ws.length := by simpa using h2
  have e1 := rx.length
  have e2 := ry.length
  obtain ⟨u, hu, ru⟩ := rx.get (i := j) (x := xs[j]'(by omega)) (List.getElem?_eq_getElem _)
  obtain ⟨v, hv, rv⟩ := ry.get (i := j) (x := ys[j]'(by omega)) (List.getElem?_eq_getElem _)
  have q1 : us.toArray[j] = u := by
    have : us[j]? = some us[j] := List.getElem?_eq_getElem l1
    rw [hu] at this; cases this; simp
  have q2 : ws.toArray[j] = v := by
    have : ws[j]? = some ws[j] := List.getElem?_eq_getElem l2
    rw [hv] at this; cases this; simp
  rw [q1, q2]
  exact h j _ _ u v (List.getElem?_eq_getElem (by omega)) (List.getElem?_eq_getElem (by omega)) ru rv
theorem zca (I : Inv X pins σ H s) {n : Nat} {x y : V} {b : Bool} (h : DQ H n x y b) : ∀ (A : Around) (u v : Value), A.units + n < cLine -> RelV x u -> RelV y v -> SeqAt.EqAt A s u v b := by
  induction h with
  | fl fx fy => intro A u v _ ru rv; exact zg6 ru rv fx fy
  | @ll n a c xs ys e ha hb hl h ih =>
    intro A u v hu ru rv
    have self := zeC (DQ.ll e ha hb hl h)
    cases ru; cases rv
    by_cases z : a = c
    · subst z
      rw [self rfl]; exact SeqAt.EqAt.same _
    · obtain ⟨us, ra, pa, za⟩ := I.list (.inl (.inl ha))
      obtain ⟨ws, rb, pb, zb⟩ := I.list (.inl (.inl hb))
      have e1 := ra.length
      have e2 := rb.length
      have := SeqAt.RcAt.lists (A := A) pa.isList pb.isList (by simp; omega) (by omega) (QL ra rb fun j x y u v h1 h2 r1 r2 => ih j x y h1 h2 A.in1 u v (by rw [Around.in1_units]; omega) r1 r2)
      rw [List.size_toArray, ← e1] at this
      exact SeqAt.EqAt.of_refs z this
  | @ln n a c xs ys ha hb hl =>
    intro A u v hu ru rv
    cases ru; cases rv
    have z : a ≠ c := fun z => by subst z; rw [ha] at hb; cases hb; exact hl rfl
    obtain ⟨us, ra, pa, za⟩ := I.list (.inl (.inl ha))
    obtain ⟨ws, rb, pb, zb⟩ := I.list (.inl (.inl hb))
    have e1 := ra.length
    have e2 := rb.length
    exact SeqAt.EqAt.of_refs z (SeqAt.RcAt.lists_lengths pa.isList pb.isList (by simp; omega) (by omega))
  | @tt n a c xs ys e ha hb h ih =>
    intro A u v hu ru rv
    have self := zeC (DQ.tt e ha hb h)
    cases ru; cases rv
    by_cases z : a = c
    · subst z
      rw [self rfl]; exact SeqAt.EqAt.same _
    · obtain ⟨us, ra, pa, za⟩ := I.tuple (.inl (.inl ha))
      obtain ⟨ws, rb, pb, zb⟩ := I.tuple (.inl (.inl hb))
      have e1 := ra.length
      have e2 := rb.length
      have := SeqAt.RcAt.tuples (A := A) pa pb (by omega) (QL ra rb fun j x y u v h1 h2 r1 r2 => ih j x y h1 h2 A.in1 u v (by rw [Around.in1_units]; omega) r1 r2)
      rw [List.size_toArray, List.size_toArray, ← e1, ← e2] at this
      exact SeqAt.EqAt.of_refs z this
  | @lt n a c xs ys ha hb =>
    intro A u v hu ru rv
    cases ru; cases rv
    obtain ⟨us, ra, pa, za⟩ := I.list (.inl (.inl ha))
    obtain ⟨ws, rb, pb, zb⟩ := I.tuple (.inl (.inl hb))
    exact SeqAt.EqAt.list_tuple pa.isList pb (by omega)
  | @tl n a c xs ys ha hb =>
    intro A u v hu ru rv
    cases ru; cases rv
    obtain ⟨us, ra, pa, za⟩ := I.tuple (.inl (.inl ha))
    obtain ⟨ws, rb, pb, zb⟩ := I.list (.inl (.inl hb))
    exact SeqAt.EqAt.tuple_list pa pb.isList (by omega)
def zfI : V -> Bool | .ref _ => true | _ => false
def ziY (neg : Bool) : R2 := fun x y H Q => ∃ b, DQ H 40 x y b /\ zfI x = true /\ zfI y = true /\ Q (.bl (if neg then !b else b)) H
theorem zmW (hu : X.A.units + 41 < cLine) : y6 X (compareOp .Eq) (ziY false) := by
  intro pins s σ H x y v u Q I rx ry h
  obtain ⟨b, hd, i1, i2, q⟩ := h
  cases hd with
  | fl fx fy =>
    cases x with
    | ref a => cases fx
    | _ => cases i1
  | @ll n a c xs ys e ha hb hl h =>
    cases rx; cases ry
    obtain ⟨us, ra, pa, za⟩ := I.list (.inl (.inl ha))
    obtain ⟨ws, rb, pb, zb⟩ := I.list (.inl (.inl hb))
    have e1 := ra.length
    have e2 := rb.length
    have := SeqAt.RcAt.lists (A := X.A) pa.isList pb.isList (by simp; omega) (by omega) (QL ra rb fun j x y u v h1 h2 r1 r2 => zca I (h j x y h1 h2) X.A.in1 u v (by rw [Around.in1_units]; omega) r1 r2)
    exact this X.prog X.w X.xe _ (zL I q (by rw [List.size_toArray, ← e1]; rfl))
  | @ln n a c xs ys ha hb hl =>
    cases rx; cases ry
    obtain ⟨us, ra, pa, za⟩ := I.list (.inl (.inl ha))
    obtain ⟨ws, rb, pb, zb⟩ := I.list (.inl (.inl hb))
    have e1 := ra.length
    have e2 := rb.length
    exact SeqAt.RcAt.lists_lengths pa.isList pb.isList (by simp; omega) (by omega) X.prog X.w X.xe _ (zL I q rfl)
  | @tt n a c xs ys e ha hb h =>
    cases rx; cases ry
    obtain ⟨us, ra, pa, za⟩ := I.tuple (.inl (.inl ha))
    obtain ⟨ws, rb, pb, zb⟩ := I.tuple (.inl (.inl hb))
    have e1 := ra.length
    have e2 := rb.length
    have := SeqAt.RcAt.tuples (A := X.A) pa pb (by omega) (QL ra rb fun j x y u v h1 h2 r1 r2 => zca I (h j x y h1 h2) X.A.in1 u v (by rw [Around.in1_units]; omega) r1 r2)
    exact this X.prog X.w X.xe _ (zL I q (by rw [List.size_toArray, List.size_toArray, ← e1, ← e2]; rfl))
  | @lt n a c xs ys ha hb =>
    cases rx; cases ry
    obtain ⟨us, ra, pa, za⟩ := I.list (.inl (.inl ha))
    obtain ⟨ws, rb, pb, zb⟩ := I.tuple (.inl (.inl hb))
    exact SeqAt.RcAt.list_tuple pa.isList pb (by omega) X.prog X.w X.xe _ (zL I q rfl)
  | @tl n a c xs ys ha hb =>
    cases rx; cases ry
    obtain ⟨us, ra, pa, za⟩ := I.tuple (.inl (.inl ha))
    obtain ⟨ws, rb, pb, zb⟩ := I.list (.inl (.inl hb))
    exact SeqAt.RcAt.tuple_list pa pb.isList (by omega) X.prog X.w X.xe _ (zL I q rfl)
theorem zmX (hu : X.A.units + 41 < cLine) : y6 X (compareOp .NotEq) (ziY true) := by
  intro pins s σ H x y v u Q I rx ry h
  obtain ⟨b, hd, i1, i2, q⟩ := h
  cases hd with
  | fl fx fy =>
    cases x with
    | ref a => cases fx
    | _ => cases i1
  | @ll n a c xs ys e ha hb hl h =>
    cases rx; cases ry
    obtain ⟨us, ra, pa, za⟩ := I.list (.inl (.inl ha))
    obtain ⟨ws, rb, pb, zb⟩ := I.list (.inl (.inl hb))
    have e1 := ra.length
    have e2 := rb.length
    have := SeqAt.RcNeAt.lists (A := X.A) pa.isList pb.isList (by simp; omega) (by omega) (QL ra rb fun j x y u v h1 h2 r1 r2 => zca I (h j x y h1 h2) X.A.in1 u v (by rw [Around.in1_units]; omega) r1 r2)
    exact this X.prog X.w X.xe _ (zL I q (by rw [List.size_toArray, ← e1]; rfl))
  | @ln n a c xs ys ha hb hl =>
    cases rx; cases ry
    obtain ⟨us, ra, pa, za⟩ := I.list (.inl (.inl ha))
    obtain ⟨ws, rb, pb, zb⟩ := I.list (.inl (.inl hb))
    have e1 := ra.length
    have e2 := rb.length
    exact SeqAt.RcNeAt.lists_lengths pa.isList pb.isList (by simp; omega) (by omega) X.prog X.w X.xe _ (zL I q rfl)
  | @tt n a c xs ys e ha hb h =>
    cases rx; cases ry
    obtain ⟨us, ra, pa, za⟩ := I.tuple (.inl (.inl ha))
    obtain ⟨ws, rb, pb, zb⟩ := I.tuple (.inl (.inl hb))
    have e1 := ra.length
    have e2 := rb.length
    have := SeqAt.RcNeAt.tuples (A := X.A) pa pb (by omega) (QL ra rb fun j x y u v h1 h2 r1 r2 => zca I (h j x y h1 h2) X.A.in1 u v (by rw [Around.in1_units]; omega) r1 r2)
    exact this X.prog X.w X.xe _ (zL I q (by rw [List.size_toArray, List.size_toArray, ← e1, ← e2]; rfl))
  | @lt n a c xs ys ha hb =>
    cases rx; cases ry
    obtain ⟨us, ra, pa, za⟩ := I.list (.inl (.inl ha))
    obtain ⟨ws, rb, pb, zb⟩ := I.tuple (.inl (.inl hb))
    exact SeqAt.RcNeAt.list_tuple pa.isList pb (by omega) X.prog X.w X.xe _ (zL I q rfl)
  | @tl n a c xs ys ha hb =>
    cases rx; cases ry
    obtain ⟨us, ra, pa, za⟩ := I.tuple (.inl (.inl ha))
    obtain ⟨ws, rb, pb, zb⟩ := I.list (.inl (.inl hb))
    exact SeqAt.RcNeAt.tuple_list pa pb.isList (by omega) X.prog X.w X.xe _ (zL I q rfl)
end
end L2
namespace M
open PySem L2
inductive D where
  | non | bl (b : Bool) | int (i : Int) | str (x : Str) | ty (n : String)
  | lst (xs : List D) | tup (xs : List D) | fz (ns : List Int)
  | dK (kvs : List (yF × D)) | dT (kvs : List (List yF × D))
  | obj (c : Nat) (fs : List (Nat × D))
  | exc (k : Nat)
inductive Slot where
  | no | val (d : D) | own (o : D)
abbrev Env := List Slot
def fNames : List Str := ["many", "names", "least", "pairs", "each", "houses", "wishes", "one", "other", "name", "ask", "value", "stamp", "seal", "at"]
def yy (n : Nat) : Str := fNames.getD n ""
theorem zeD (a f : Nat) (hf : f < fNames.length) (h : yy a = yy f) : a = f := by
  by_cases ha : a < fNames.length
  · have : ∀ a, a < 15 -> ∀ f, f < 15 -> yy a = yy f -> a = f := by decide +kernel
    exact this a ha f hf h
  · have e : yy a = "" := by
      unfold yy
      rw [List.getD_eq_getElem?_getD, List.getElem?_eq_none (by omega)]; rfl
    have : ∀ f, f < 15 -> yy f ≠ "" := by decide +kernel
    exact absurd (h.symm.trans e) (this f hf)
structure Cn where
  K : PySem.W.Frag
  cls : Nat -> Option Addr
def KnL (K : PySem.W.Frag) (a : Addr) (xs : List V) : Prop :=
  ∃ (o : Obj) (its : Array Value) (n : Nat), K.lookup a = some o /\ o.cls = .type "list" /\ o.dict = none /\ o.data = .seq its n /\ its.size <= sizeLine /\ Vals xs its.toList
inductive Rep (Γ : Cn) (E : Addr -> Prop) (H : Hp) : V -> D -> Prop where
  | non : Rep Γ E H .non .non
  | bl (b : Bool) : Rep Γ E H (.bl b) (.bl b)
  | int (i : Int) : Rep Γ E H (.int i) (.int i)
  | str (x : Str) : Rep Γ E H (.str x) (.str x)
  | ty (n : String) : Rep Γ E H (.ty n) (.ty n)
  | lst {a : Addr} {xs : List V} {ds : List D} (ne : ¬ E a) (h : H a = some (.lst xs)) (l : xs.length = ds.length) (r : ∀ (i : Nat) v d, xs[i]? = some v -> ds[i]? = some d -> Rep Γ E H v d) : Rep Γ E H (.ref a) (.lst ds)
  | fz {a : Addr} {ns : List Int} (h : (¬ E a /\ Rd H a (.lst (ns.map V.int))) \/ KnL Γ.K a (ns.map V.int)) : Rep Γ E H (.ref a) (.fz ns)
  | tup {a : Addr} {xs : List V} {ds : List D} (ne : ¬ E a) (h : H a = some (.tup xs)) (l : xs.length = ds.length) (r : ∀ (i : Nat) v d, xs[i]? = some v -> ds[i]? = some d -> Rep Γ E H v d) : Rep Γ E H (.ref a) (.tup ds)
  | dK {a : Addr} {ks : List (yF × V)} {ds : List (yF × D)} (ne : ¬ E a) (h : H a = some (.dK ks)) (l : ks.map (·.1) = ds.map (·.1)) (r : ∀ (i : Nat) v d, (ks.map (·.2))[i]? = some v -> (ds.map (·.2))[i]? = some d -> Rep Γ E H v d) : Rep Γ E H (.ref a) (.dK ds)
  | dT {a : Addr} {ks : List (List yF × V)} {ds : List (List yF × D)} (ne : ¬ E a) (h : H a = some (.dT ks)) (l : ks.map (·.1) = ds.map (·.1)) (r : ∀ (i : Nat) v d, (ks.map (·.2))[i]? = some v -> (ds.map (·.2))[i]? = some d -> Rep Γ E H v d) : Rep Γ E H (.ref a) (.dT ds)
  | obj {a C dx : Addr} {c : Nat} {gs : List (Str × V)} {fs : List (Nat × D)} (ne : ¬ E a) (hc : Γ.cls c = some C) (h : H a = some (.ins C dx gs)) (l : gs.map (·.1) = fs.map fun x => yy x.1) (r : ∀ (i : Nat) v d, (gs.map (·.2))[i]? = some v -> (fs.map (·.2))[i]? = some d -> Rep Γ E H v d) : Rep Γ E H (.ref a) (.obj c fs)
  | exc {a C : Addr} {k : Nat} (ne : ¬ E a) (hc : Γ.cls k = some C) (h : H a = some (.ext (zo7 a (.ref C)))) : Rep Γ E H (.ref a) (.exc k)
def Reps (Γ : Cn) (E : Addr -> Prop) (H : Hp) (xs : List V) (ds : List D) : Prop := xs.length = ds.length /\ ∀ (i : Nat) v d, xs[i]? = some v -> ds[i]? = some d -> Rep Γ E H v d
section
variable {Γ : Cn} {E E' : Addr -> Prop} {H H' : Hp}
theorem zoa {a : Addr} {u : HO} (h : Rd H a u) : H a ≠ none := by
  rcases h with h | ⟨o, h⟩ <;> rw [h] <;> simp
theorem zla {a : Addr} {u : HO} (h : Rd H a u) (k : ∀ o, H a = some o -> H' a = some o) : Rd H' a u := by
  rcases h with h | ⟨o, h⟩
  · exact .inl (k _ h)
  · exact .inr ⟨o, k _ h⟩
theorem Rep.up {v : V} {d : D} (r : Rep Γ E H v d) (he : ∀ b, H b ≠ none -> E' b -> E b) (k : ∀ b o, ¬ E b -> H b = some o -> H' b = some o) : Rep Γ E' H' v d := by
  induction r with
  | non => exact .non
  | bl b => exact .bl b
  | int i => exact .int i
  | str x => exact .str x
  | ty n => exact .ty n
  | lst ne h l _ ih => exact .lst (fun z => ne (he _ (by rw [h]; simp) z)) (k _ _ ne h) l ih
  | fz h => exact .fz (h.imp (fun ⟨ne, h⟩ => ⟨fun z => ne (he _ (zoa h) z), zla h fun o => k _ o ne⟩) id)
  | tup ne h l _ ih => exact .tup (fun z => ne (he _ (by rw [h]; simp) z)) (k _ _ ne h) l ih
  | dK ne h l _ ih => exact .dK (fun z => ne (he _ (by rw [h]; simp) z)) (k _ _ ne h) l ih
  | dT ne h l _ ih => exact .dT (fun z => ne (he _ (by rw [h]; simp) z)) (k _ _ ne h) l ih
  | obj ne hc h l _ ih => exact .obj (fun z => ne (he _ (by rw [h]; simp) z)) hc (k _ _ ne h) l ih
  | exc ne hc h => exact .exc (fun z => ne (he _ (by rw [h]; simp) z)) hc (k _ _ ne h)
theorem Reps.up {xs : List V} {ds : List D} (r : Reps Γ E H xs ds) (he : ∀ b, H b ≠ none -> E' b -> E b) (k : ∀ b o, ¬ E b -> H b = some o -> H' b = some o) : Reps Γ E' H' xs ds := ⟨r.1, fun i v d h1 h2 => (r.2 i v d h1 h2).up he k⟩
theorem Reps.nil : Reps Γ E H [] [] := ⟨rfl, fun i v d h => by simp at h⟩
theorem Reps.cons {v : V} {d : D} {xs : List V} {ds : List D} (h : Rep Γ E H v d) (r : Reps Γ E H xs ds) : Reps Γ E H (v :: xs) (d :: ds) := by
  refine ⟨by simp [r.1], fun i v' d' h1 h2 => ?_⟩
  cases i with
  | zero => simp at h1 h2; subst h1 h2; exact h
  | succ i => simp at h1 h2; exact r.2 i v' d' h1 h2
theorem Reps.head {v : V} {d : D} {xs : List V} {ds : List D} (r : Reps Γ E H (v :: xs) (d :: ds)) : Rep Γ E H v d := r.2 0 v d rfl rfl
theorem Reps.tail {v : V} {d : D} {xs : List V} {ds : List D} (r : Reps Γ E H (v :: xs) (d :: ds)) : Reps Γ E H xs ds := ⟨by simpa using r.1, fun i v' d' h1 h2 => r.2 (i + 1) v' d' (by simpa using h1) (by simpa using h2)⟩
theorem Reps.append {xs ys : List V} {ds es : List D} (a : Reps Γ E H xs ds) (b : Reps Γ E H ys es) : Reps Γ E H (xs ++ ys) (ds ++ es) := by
  induction xs generalizing ds with
  | nil => have h := a.1; cases ds with | nil => exact b | cons _ _ => simp at h
  | cons x xs ih => cases ds with | nil => have h := a.1; simp at h | cons d ds => exact .cons a.head (ih a.tail)
theorem Reps.get {xs : List V} {ds : List D} {i : Nat} {d : D} (r : Reps Γ E H xs ds) (h : ds[i]? = some d) : ∃ v, xs[i]? = some v /\ Rep Γ E H v d := by
  have hl := r.1
  have hi : i < xs.length := by rw [hl]; exact (List.getElem?_eq_some_iff.mp h).1
  exact ⟨xs[i], List.getElem?_eq_getElem hi, r.2 i _ d (List.getElem?_eq_getElem hi) h⟩
theorem Reps.sub {xs : List V} {ds : List D} {xs' : List V} {ds' : List D} (r : Reps Γ E H xs ds) (hl : xs'.length = ds'.length) (h : ∀ (i : Nat) v d, xs'[i]? = some v -> ds'[i]? = some d -> ∃ (j : Nat), xs[j]? = some v /\ ds[j]? = some d) : Reps Γ E H xs' ds' :=
  ⟨hl, fun i v d h1 h2 => let ⟨j, a, b⟩ := h i v d h1 h2; r.2 j v d a b⟩
theorem Reps.drop {xs : List V} {ds : List D} (r : Reps Γ E H xs ds) (n : Nat) : Reps Γ E H (xs.drop n) (ds.drop n) :=
  r.sub (by simp [r.1]) fun i v d h1 h2 => ⟨n + i, by simpa using h1, by simpa using h2⟩
theorem Reps.take {xs : List V} {ds : List D} (r : Reps Γ E H xs ds) (n : Nat) : Reps Γ E H (xs.take n) (ds.take n) :=
  r.sub (by simp [r.1]) fun i v d h1 h2 => by
    rw [List.getElem?_take] at h1 h2
    split at h1
    · rename_i hi; rw [if_pos hi] at h2; exact ⟨i, h1, h2⟩
    · cases h1
theorem Reps.set {xs : List V} {ds : List D} {v : V} {d : D} (r : Reps Γ E H xs ds) (j : Nat) (h : Rep Γ E H v d) : Reps Γ E H (xs.set j v) (ds.set j d) := by
  refine ⟨by simp [r.1], fun i v' d' h1 h2 => ?_⟩
  rw [List.getElem?_set] at h1 h2
  by_cases e : j = i
  · subst e
    rw [if_pos rfl] at h1 h2
    split at h1
    · split at h2
      · cases h1; cases h2; exact h
      · cases h2
    · cases h1
  · rw [if_neg e] at h1 h2
    exact r.2 i v' d' h1 h2
theorem Reps.eraseIdx {xs : List V} {ds : List D} (r : Reps Γ E H xs ds) (j : Nat) : Reps Γ E H (xs.eraseIdx j) (ds.eraseIdx j) := by
  rw [List.eraseIdx_eq_take_drop_succ, List.eraseIdx_eq_take_drop_succ]
  exact (r.take j).append (r.drop (j + 1))
theorem Rep.list {ds : List D} {v : V} (r : Rep Γ E H v (.lst ds)) : ∃ a xs, v = .ref a /\ H a = some (.lst xs) /\ Reps Γ E H xs ds := by
  cases r with
  | lst ne h l r => exact ⟨_, _, rfl, h, l, r⟩
theorem Rep.script {ns : List Int} {v : V} (r : Rep Γ E H v (.fz ns)) : ∃ a, v = .ref a /\ jf Γ.K H a (ns.map V.int) := by
  cases r with
  | fz h => exact ⟨_, rfl, h.imp (fun z => z.2) id⟩
theorem Rep.tuple {ds : List D} {v : V} (r : Rep Γ E H v (.tup ds)) : ∃ a xs, v = .ref a /\ H a = some (.tup xs) /\ Reps Γ E H xs ds := by
  cases r with
  | tup ne h l r => exact ⟨_, _, rfl, h, l, r⟩
end
def OwnAt (Γ : Cn) (E : Addr -> Prop) (H : Hp) (p : Addr) : D -> Prop
  | .lst ds => ∃ xs, H p = some (.lst xs) /\ Reps Γ E H xs ds
  | .dK ds => ∃ ks, H p = some (.dK ks) /\ ks.map (·.1) = ds.map (·.1) /\ Reps Γ E H (ks.map (·.2)) (ds.map (·.2))
  | .dT ds => ∃ ks, H p = some (.dT ks) /\ ks.map (·.1) = ds.map (·.1) /\ Reps Γ E H (ks.map (·.2)) (ds.map (·.2))
  | .obj c fs => ∃ C dx gs, Γ.cls c = some C /\ H p = some (.ins C dx gs) /\ (gs.map (·.1) = fs.map fun x => yy x.1) /\ Reps Γ E H (gs.map (·.2)) (fs.map (·.2))
  | _ => False
section
variable {Γ : Cn} {E E' : Addr -> Prop} {H H' : Hp} {p : Addr} {o : D}
theorem OwnAt.ne0 (h : OwnAt Γ E H p o) : H p ≠ none := by
  cases o with
  | lst ds => obtain ⟨_, e, _⟩ := h; rw [e]; simp
  | dK ds => obtain ⟨_, e, _⟩ := h; rw [e]; simp
  | dT ds => obtain ⟨_, e, _⟩ := h; rw [e]; simp
  | obj c fs => obtain ⟨_, _, _, _, e, _⟩ := h; rw [e]; simp
  | _ => exact False.elim h
theorem OwnAt.up (h : OwnAt Γ E H p o) (hp : ∀ u, H p = some u -> H' p = some u) (he : ∀ b, H b ≠ none -> E' b -> E b) (k : ∀ b o, ¬ E b -> H b = some o -> H' b = some o) : OwnAt Γ E' H' p o := by
  cases o with
  | lst ds => obtain ⟨xs, e, r⟩ := h; exact ⟨xs, hp _ e, r.up he k⟩
  | dK ds => obtain ⟨xs, e, l, r⟩ := h; exact ⟨xs, hp _ e, l, r.up he k⟩
  | dT ds => obtain ⟨xs, e, l, r⟩ := h; exact ⟨xs, hp _ e, l, r.up he k⟩
  | obj c fs => obtain ⟨C, dx, gs, hc, e, l, r⟩ := h; exact ⟨C, dx, gs, hc, hp _ e, l, r.up he k⟩
  | _ => exact False.elim h
theorem OwnAt.rep (h : OwnAt Γ E H p o) (ne : ¬ E p) : Rep Γ E H (.ref p) o := by
  cases o with
  | lst ds => obtain ⟨xs, e, r⟩ := h; exact .lst ne e r.1 r.2
  | dK ds => obtain ⟨xs, e, l, r⟩ := h; exact .dK ne e l r.2
  | dT ds => obtain ⟨xs, e, l, r⟩ := h; exact .dT ne e l r.2
  | obj c fs => obtain ⟨C, dx, gs, hc, e, l, r⟩ := h; exact .obj ne hc e l r.2
  | _ => exact False.elim h
end
structure Fs where
  C : Addr -> Prop
  H0 : Hp
  pin : Nat -> Option Addr
def Fs.add (S : Fs) (p : Addr) : Fs := { S with C := fun a => S.C a \/ a = p }
def yG (ρ : Env) (i : Nat) : Prop := ∃ o, ρ[i]? = some (.own o)
def zD (S : Fs) (σ : St) (ρ : Env) (a : Addr) : Prop := S.C a \/ ∃ i, yG ρ i /\ σ[i]? = some (some (.ref a))
structure Rel (Γ : Cn) (S : Fs) (H : Hp) (σ : St) (ρ : Env) (τ : List (V × D)) : Prop where
  len : σ.length = ρ.length
  val : ∀ (i : Nat) d, ρ[i]? = some (.val d) -> ∃ v, σ[i]? = some (some v) /\ Rep Γ (zD S σ ρ) H v d
  own : ∀ (i : Nat) o, ρ[i]? = some (.own o) -> ∃ p, σ[i]? = some (some (.ref p)) /\ OwnAt Γ (zD S σ ρ) H p o /\ ¬ S.C p /\ (S.pin i = some p \/ (S.pin i = none /\ S.H0 p = none))
  pin : ∀ i p, S.pin i = some p -> σ[i]? = some (some (.ref p)) /\ yG ρ i
  inj : ∀ i j p, yG ρ i -> yG ρ j -> σ[i]? = some (some (.ref p)) -> σ[j]? = some (some (.ref p)) -> i = j
  dom : ∀ a, S.C a -> H a ≠ none
  fr : ∀ b o, S.H0 b = some o -> (∀ i, S.pin i ≠ some b) -> H b = some o
  tmp : ∀ x ∈ τ, Rep Γ (zD S σ ρ) H x.1 x.2
section
variable {Γ : Cn} {S : Fs} {H H' : Hp} {σ : St} {ρ : Env} {τ : List (V × D)}
theorem Rel.grow (R : Rel Γ S H σ ρ τ) (g : Same H H') : Rel Γ S H' σ ρ τ where
  len := R.len
  val := fun i d h => let ⟨v, e, r⟩ := R.val i d h; ⟨v, e, r.up (fun _ _ z => z) fun b o _ q => g b o q⟩
  own := fun i o h => let ⟨p, e, r, q⟩ := R.own i o h; ⟨p, e, r.up (fun u => g p u) (fun _ _ z => z) fun b o _ q => g b o q, q⟩
  pin := R.pin
  inj := R.inj
  dom := fun a h z => by
    cases e : H a with
    | none => exact R.dom a h e
    | some o => rw [g a o e] at z; cases z
  fr := fun b o h n => g b o (R.fr b o h n)
  tmp := fun x hx => (R.tmp x hx).up (fun _ _ z => z) fun b o _ q => g b o q
theorem Rel.push (R : Rel Γ S H σ ρ τ) {v : V} {d : D} (h : Rep Γ (zD S σ ρ) H v d) : Rel Γ S H σ ρ ((v, d) :: τ) :=
  { R with tmp := fun x hx => (List.mem_cons.mp hx).elim (fun e => by subst e; exact h) (R.tmp x) }
theorem Rel.pop {x : V × D} (R : Rel Γ S H σ ρ (x :: τ)) : Rel Γ S H σ ρ τ /\ Rep Γ (zD S σ ρ) H x.1 x.2 :=
  ⟨{ R with tmp := fun y hy => R.tmp y (List.mem_cons_of_mem _ hy) }, R.tmp x List.mem_cons_self⟩
theorem yY (R : Rel Γ S H σ ρ τ) {a : Addr} (h : zD S σ ρ a) : H a ≠ none := by
  rcases h with h | ⟨i, ⟨o, ho⟩, e⟩
  · exact R.dom a h
  · obtain ⟨p, e', r, _⟩ := R.own i o ho
    rw [e] at e'; cases e'
    exact r.ne0
theorem Rel.add (R : Rel Γ S H σ ρ τ) {p : Addr} {u : HO} (hp : H p = none) (h0 : S.H0 p = none) : Rel Γ (S.add p) (zX H p u) σ ρ τ := by
  have g : Same H (zX H p u) := fun b o q => by rw [zM (zV q hp)]; exact q
  have he : ∀ b, H b ≠ none -> zD (S.add p) σ ρ b -> zD S σ ρ b := fun b hb h => by
    rcases h with (h | h) | h
    · exact .inl h
    · subst h; exact absurd hp hb
    · exact .inr h
  exact {
    len := R.len
    val := fun i d h => let ⟨v, e, r⟩ := R.val i d h; ⟨v, e, r.up he fun b o _ q => g b o q⟩
    own := fun i o h => by
      obtain ⟨q, e, r, n, pn⟩ := R.own i o h
      refine ⟨q, e, r.up (fun u => g q u) he fun b o _ q => g b o q, ?_, pn⟩
      rintro (z | z)
      · exact n z
      · subst z; exact r.ne0 hp
    pin := R.pin
    inj := R.inj
    dom := fun a h => by
      rcases h with h | h
      · have := R.dom a h
        have hne : a ≠ p := fun z => by subst z; exact this hp
        rw [zM hne]; exact this
      · subst h; rw [je]; simp
    fr := fun b o h n => g b o (R.fr b o h n)
    tmp := fun x hx => (R.tmp x hx).up he fun b o _ q => g b o q }
theorem Rel.unadd {p : Addr} (R : Rel Γ (S.add p) H σ ρ τ) : Rel Γ S H σ ρ τ := by
  have he : ∀ b, H b ≠ none -> zD S σ ρ b -> zD (S.add p) σ ρ b := fun b _ h => h.elim (fun z => .inl (.inl z)) .inr
  exact {
    len := R.len
    val := fun i d h => let ⟨v, e, r⟩ := R.val i d h; ⟨v, e, r.up he fun _ _ _ q => q⟩
    own := fun i o h => let ⟨q, e, r, n, pn⟩ := R.own i o h; ⟨q, e, r.up (fun _ q => q) he fun _ _ _ q => q, fun z => n (.inl z), pn⟩
    pin := R.pin
    inj := R.inj
    dom := fun a h => R.dom a (.inl h)
    fr := R.fr
    tmp := fun x hx => (R.tmp x hx).up he fun _ _ _ q => q }
theorem Rel.new (R : Rel Γ S H σ ρ τ) {p : Addr} (hp : H p = none) : S.H0 p = none := by
  cases e : S.H0 p with
  | none => rfl
  | some o =>
    by_cases h : ∃ i, S.pin i = some p
    · obtain ⟨i, hi⟩ := h
      obtain ⟨e1, o', ho⟩ := R.pin i p hi
      obtain ⟨q, e2, r, _⟩ := R.own i o' ho
      rw [e1] at e2; cases e2
      exact absurd hp r.ne0
    · have := R.fr p o e fun i z => h ⟨i, z⟩
      rw [hp] at this; cases this
theorem getElem?_set_ne {α : Type} {l : List α} {i j : Nat} {x : α} (h : i ≠ j) : (l.set i x)[j]? = l[j]? := by rw [List.getElem?_set, if_neg h]
theorem getElem?_set_here {α : Type} {l : List α} {i : Nat} {x y : α} (h : (l.set i x)[i]? = some y) : y = x := by
  rw [List.getElem?_set, if_pos rfl] at h
  split at h
  · cases h; rfl
  · cases h
theorem Rel.asg (R : Rel Γ S H σ ρ τ) {i : Nat} {v : V} {d : D} (hi : S.pin i = none) (h : Rep Γ (zD S σ ρ) H v d) : Rel Γ S H (σ.set i (some v)) (ρ.set i (.val d)) τ := by
  have own_ne : ∀ j, yG (ρ.set i (.val d)) j -> j ≠ i /\ yG ρ j := fun j ⟨o, ho⟩ => by
    by_cases e : i = j
    · subst e; cases getElem?_set_here ho
    · rw [getElem?_set_ne e] at ho; exact ⟨Ne.symm e, o, ho⟩
  have he : ∀ b, H b ≠ none -> zD S (σ.set i (some v)) (ρ.set i (.val d)) b -> zD S σ ρ b := fun b _ h => by
    rcases h with h | ⟨j, hj, e⟩
    · exact .inl h
    · obtain ⟨ne, oj⟩ := own_ne j hj
      rw [getElem?_set_ne (Ne.symm ne)] at e
      exact .inr ⟨j, oj, e⟩
  have keep : ∀ b o, ¬ zD S σ ρ b -> H b = some o -> H b = some o := fun _ _ _ q => q
  exact {
    len := by simp [R.len]
    val := fun j e hj => by
      by_cases eq : i = j
      · subst eq
        have e1 := getElem?_set_here hj
        cases e1
        have hl : i < σ.length := by
          rw [R.len]
          have := (List.getElem?_eq_some_iff.mp hj).1
          simpa using this
        exact ⟨v, by rw [List.getElem?_set, if_pos rfl, if_pos hl], h.up he keep⟩
      · rw [getElem?_set_ne eq] at hj
        obtain ⟨w, e1, r⟩ := R.val j e hj
        exact ⟨w, by rw [getElem?_set_ne eq]; exact e1, r.up he keep⟩
    own := fun j o hj => by
      have ne := (own_ne j ⟨o, hj⟩).1
      rw [getElem?_set_ne (Ne.symm ne)] at hj
      obtain ⟨p, e1, r, n, pn⟩ := R.own j o hj
      exact ⟨p, by rw [getElem?_set_ne (Ne.symm ne)]; exact e1, r.up (fun _ q => q) he keep, n, pn⟩
    pin := fun j p hj => by
      have ne : i ≠ j := fun z => by subst z; rw [hi] at hj; cases hj
      obtain ⟨a, o, b⟩ := R.pin j p hj
      exact ⟨by rw [getElem?_set_ne ne]; exact a, o, by rw [getElem?_set_ne ne]; exact b⟩
    inj := fun j k p hj hk e1 e2 => by
      obtain ⟨nj, oj⟩ := own_ne j hj
      obtain ⟨nk, ok⟩ := own_ne k hk
      rw [getElem?_set_ne (Ne.symm nj)] at e1
      rw [getElem?_set_ne (Ne.symm nk)] at e2
      exact R.inj j k p oj ok e1 e2
    dom := R.dom
    fr := R.fr
    tmp := fun x hx => (R.tmp x hx).up he keep }
theorem Rel.asgOwn {p : Addr} (R : Rel Γ (S.add p) H σ ρ τ) {i : Nat} {o : D} (hi : S.pin i = none) (h : OwnAt Γ (zD (S.add p) σ ρ) H p o) (h0 : S.H0 p = none) (hp : ¬ S.C p) : Rel Γ S H (σ.set i (some (.ref p))) (ρ.set i (.own o)) τ := by
  have own_ne : ∀ j, j ≠ i -> yG (ρ.set i (.own o)) j -> yG ρ j := fun j hj ⟨o', ho⟩ => by
    rw [getElem?_set_ne (Ne.symm hj)] at ho; exact ⟨o', ho⟩
  have notp : ∀ j q, yG ρ j -> σ[j]? = some (some (.ref q)) -> q ≠ p := fun j q ⟨o', ho⟩ e z => by
    obtain ⟨q', e1, _, n, _⟩ := R.own j o' ho
    rw [e] at e1; cases e1
    exact n (.inr z)
  have he : ∀ b, H b ≠ none -> zD S (σ.set i (some (.ref p))) (ρ.set i (.own o)) b -> zD (S.add p) σ ρ b := fun b _ h => by
    rcases h with h | ⟨j, hj, e⟩
    · exact .inl (.inl h)
    · by_cases ne : j = i
      · subst ne
        rw [List.getElem?_set, if_pos rfl] at e
        split at e
        · cases e; exact .inl (.inr rfl)
        · cases e
      · rw [getElem?_set_ne (Ne.symm ne)] at e
        exact .inr ⟨j, own_ne j ne hj, e⟩
  have keep : ∀ b o, ¬ zD (S.add p) σ ρ b -> H b = some o -> H b = some o := fun _ _ _ q => q
  exact {
    len := by simp [R.len]
    val := fun j e hj => by
      by_cases eq : i = j
      · subst eq; cases getElem?_set_here hj
      · rw [getElem?_set_ne eq] at hj
        obtain ⟨w, e1, r⟩ := R.val j e hj
        exact ⟨w, by rw [getElem?_set_ne eq]; exact e1, r.up he keep⟩
    own := fun j o' hj => by
      by_cases eq : i = j
      · subst eq
        have e1 := getElem?_set_here hj
        cases e1
        have hl : i < σ.length := by
          rw [R.len]
          have := (List.getElem?_eq_some_iff.mp hj).1
          simpa using this
        exact ⟨p, by rw [List.getElem?_set, if_pos rfl, if_pos hl], h.up (fun _ q => q) he keep, hp, .inr ⟨hi, h0⟩⟩
      · rw [getElem?_set_ne eq] at hj
        obtain ⟨q, e1, r, n, pn⟩ := R.own j o' hj
        exact ⟨q, by rw [getElem?_set_ne eq]; exact e1, r.up (fun _ q => q) he keep, fun z => n (.inl z), pn⟩
    pin := fun j q hj => by
      have ne : i ≠ j := fun z => by subst z; rw [hi] at hj; cases hj
      obtain ⟨a, o', b⟩ := R.pin j q hj
      exact ⟨by rw [getElem?_set_ne ne]; exact a, o', by rw [getElem?_set_ne ne]; exact b⟩
    inj := fun j k q hj hk e1 e2 => by
      by_cases ej : j = i
      · by_cases ek : k = i
        · rw [ej, ek]
        · subst ej
          rw [List.getElem?_set, if_pos rfl] at e1
          split at e1
          · cases e1
            rw [getElem?_set_ne (Ne.symm ek)] at e2
            exact absurd rfl (notp k _ (own_ne k ek hk) e2)
          · cases e1
      · by_cases ek : k = i
        · subst ek
          rw [List.getElem?_set, if_pos rfl] at e2
          split at e2
          · cases e2
            rw [getElem?_set_ne (Ne.symm ej)] at e1
            exact absurd rfl (notp j _ (own_ne j ej hj) e1)
          · cases e2
        · rw [getElem?_set_ne (Ne.symm ej)] at e1
          rw [getElem?_set_ne (Ne.symm ek)] at e2
          exact R.inj j k q (own_ne j ej hj) (own_ne k ek hk) e1 e2
    dom := fun a h => R.dom a (.inl h)
    fr := R.fr
    tmp := fun x hx => (R.tmp x hx).up he keep }
theorem Rel.freeze (R : Rel Γ S H σ ρ τ) {i : Nat} {o : D} (hi : S.pin i = none) (h : ρ[i]? = some (.own o)) : ∃ v, σ[i]? = some (some v) /\ Rep Γ (zD S σ (ρ.set i (.val o))) H v o /\ Rel Γ S H σ (ρ.set i (.val o)) τ := by
  obtain ⟨p, e, r, n, _⟩ := R.own i o h
  have own_ne : ∀ j, yG (ρ.set i (.val o)) j -> j ≠ i /\ yG ρ j := fun j ⟨o, ho⟩ => by
    by_cases e : i = j
    · subst e; cases getElem?_set_here ho
    · rw [getElem?_set_ne e] at ho; exact ⟨Ne.symm e, o, ho⟩
  have he : ∀ b, H b ≠ none -> zD S σ (ρ.set i (.val o)) b -> zD S σ ρ b := fun b _ h => by
    rcases h with h | ⟨j, hj, e⟩
    · exact .inl h
    · exact .inr ⟨j, (own_ne j hj).2, e⟩
  have keep : ∀ b o, ¬ zD S σ ρ b -> H b = some o -> H b = some o := fun _ _ _ q => q
  have hp : ¬ zD S σ (ρ.set i (.val o)) p := by
    rintro (z | ⟨j, hj, ej⟩)
    · exact n z
    · obtain ⟨ne, oj⟩ := own_ne j hj
      exact ne (R.inj j i p oj ⟨o, h⟩ ej e)
  have rep := (r.up (fun _ q => q) he keep).rep hp
  refine ⟨_, e, rep, ?_⟩
  exact {
    len := by simp [R.len]
    val := fun j d hj => by
      by_cases eq : i = j
      · subst eq
        have e1 := getElem?_set_here hj
        cases e1
        exact ⟨_, e, rep⟩
      · rw [getElem?_set_ne eq] at hj
        obtain ⟨w, e1, r⟩ := R.val j d hj
        exact ⟨w, e1, r.up he keep⟩
    own := fun j o' hj => by
      have ne := (own_ne j ⟨o', hj⟩).1
      rw [getElem?_set_ne (Ne.symm ne)] at hj
      obtain ⟨q, e1, r, n, pn⟩ := R.own j o' hj
      exact ⟨q, e1, r.up (fun _ q => q) he keep, n, pn⟩
    pin := fun j p hj => by
      have ne : i ≠ j := fun z => by subst z; rw [hi] at hj; cases hj
      obtain ⟨a, o', b⟩ := R.pin j p hj
      exact ⟨a, o', by rw [getElem?_set_ne ne]; exact b⟩
    inj := fun j k p hj hk e1 e2 => R.inj j k p (own_ne j hj).2 (own_ne k hk).2 e1 e2
    dom := R.dom
    fr := R.fr
    tmp := fun x hx => (R.tmp x hx).up he keep }
theorem Rel.write (R : Rel Γ S H σ ρ τ) {i : Nat} {p : Addr} {o o' : D} (h : ρ[i]? = some (.own o)) (e : σ[i]? = some (some (.ref p))) (hk : ∀ b u, b ≠ p -> H b = some u -> H' b = some u)
    (hn : OwnAt Γ (zD S σ ρ) H' p o') : Rel Γ S H' σ (ρ.set i (.own o')) τ := by
  have iff : ∀ j, yG (ρ.set i (.own o')) j -> yG ρ j := fun j ⟨q, hq⟩ => by
    by_cases z : i = j
    · subst z; exact ⟨o, h⟩
    · rw [getElem?_set_ne z] at hq; exact ⟨q, hq⟩
  have he : ∀ b, H b ≠ none -> zD S σ (ρ.set i (.own o')) b -> zD S σ ρ b := fun b _ h => by
    rcases h with h | ⟨j, hj, e⟩
    · exact .inl h
    · exact .inr ⟨j, iff j hj, e⟩
  have pex : zD S σ ρ p := .inr ⟨i, ⟨o, h⟩, e⟩
  have keep : ∀ b u, ¬ zD S σ ρ b -> H b = some u -> H' b = some u := fun b u n q => hk b u (fun z => n (by rw [z]; exact pex)) q
  obtain ⟨p', e', _, n0, pn0⟩ := R.own i o h
  rw [e] at e'; cases e'
  exact {
    len := by simp [R.len]
    val := fun j d hj => by
      by_cases eq : i = j
      · subst eq; cases getElem?_set_here hj
      · rw [getElem?_set_ne eq] at hj
        obtain ⟨w, e1, r⟩ := R.val j d hj
        exact ⟨w, e1, r.up he keep⟩
    own := fun j q hj => by
      by_cases eq : i = j
      · subst eq
        have e1 := getElem?_set_here hj
        cases e1
        refine ⟨p, e, hn.up (fun _ q => q) (fun b _ z => ?_) (fun _ _ _ q => q), n0, pn0⟩
        rcases z with z | ⟨k, hk, ek⟩
        · exact .inl z
        · exact .inr ⟨k, iff k hk, ek⟩
      · rw [getElem?_set_ne eq] at hj
        obtain ⟨q', e1, r, n, pn⟩ := R.own j q hj
        refine ⟨q', e1, r.up (fun u hu => hk _ u (fun z => ?_) hu) he keep, n, pn⟩
        subst z
        exact eq (R.inj i j _ ⟨o, h⟩ ⟨q, hj⟩ e e1)
    pin := fun j q hj => by
      obtain ⟨a, o', b⟩ := R.pin j q hj
      refine ⟨a, ?_⟩
      by_cases eq : i = j
      · subst eq
        have hl : i < ρ.length := (List.getElem?_eq_some_iff.mp h).1
        exact ⟨_, by rw [List.getElem?_set, if_pos rfl, if_pos hl]⟩
      · exact ⟨o', by rw [getElem?_set_ne eq]; exact b⟩
    inj := fun j k p hj hk e1 e2 => R.inj j k p (iff j hj) (iff k hk) e1 e2
    dom := fun a ha => by
      have := R.dom a ha
      by_cases z : a = p
      · subst z; exact absurd ha n0
      · cases q : H a with
        | none => exact absurd q this
        | some u => rw [hk a u z q]; simp
    fr := fun b u h0 n => by
      refine hk b u (fun z => ?_) (R.fr b u h0 n)
      subst z
      rcases pn0 with q | ⟨_, q⟩
      · exact n i q
      · rw [q] at h0; cases h0
    tmp := fun x hx => (R.tmp x hx).up he keep }
end
end M
namespace M
open PySem L2
abbrev EK := D -> Env -> Prop
abbrev ME := Env -> EK -> Prop
abbrev MT := Env -> (Bool -> Env -> Prop) -> Prop
abbrev MA := Env -> (List D -> Env -> Prop) -> Prop
structure Qq where
  nx : Env -> Prop
  rt : EK
  bk : Env -> Prop
  ct : Env -> Prop
abbrev MS := Qq -> Env -> Prop
def Jd (pn : List Nat) (S : Fs) : Prop := ∀ i, i ∉ pn -> S.pin i = none
def JE (Γ : Cn) (pn : List Nat) (t : TE) (m : ME) : Prop :=
  ∀ (S : Fs) (σ : St) (ρ : Env) (H : Hp) (τ : List (V × D)) (Q : VK) (q : EK), Jd pn S -> Rel Γ S H σ ρ τ -> m ρ q -> (∀ v d H' ρ', Rel Γ S H' σ ρ' τ -> Rep Γ (zD S σ ρ') H' v d -> q d ρ' -> Q v H') -> t σ H Q
def JT (Γ : Cn) (pn : List Nat) (t : TT) (m : MT) : Prop :=
  ∀ (S : Fs) (σ : St) (ρ : Env) (H : Hp) (τ : List (V × D)) (Q : Bool -> Hp -> Prop) (q : Bool -> Env -> Prop), Jd pn S -> Rel Γ S H σ ρ τ -> m ρ q -> (∀ b H' ρ', Rel Γ S H' σ ρ' τ -> q b ρ' -> Q b H') -> t σ H Q
def JA (Γ : Cn) (pn : List Nat) (t : TA) (m : MA) : Prop :=
  ∀ (S : Fs) (σ : St) (ρ : Env) (H : Hp) (τ : List (V × D)) (Q : List V -> Hp -> Prop) (q : List D -> Env -> Prop), Jd pn S -> Rel Γ S H σ ρ τ -> m ρ q -> (∀ vs ds H' ρ', Rel Γ S H' σ ρ' τ -> Reps Γ (zD S σ ρ') H' vs ds -> q ds ρ' -> Q vs H') -> t σ H Q
def JF (Γ : Cn) (pn : List Nat) (t : TE) (m : ME) : Prop :=
  ∀ (S : Fs) (σ : St) (ρ : Env) (H : Hp) (τ : List (V × D)) (Q : VK) (q : EK), Jd pn S -> Rel Γ S H σ ρ τ -> m ρ q ->
    (∀ p o H' ρ', Rel Γ (S.add p) H' σ ρ' τ -> OwnAt Γ (zD (S.add p) σ ρ') H' p o -> S.H0 p = none -> ¬ zD S σ ρ' p -> q o ρ' -> Q (.ref p) H') -> t σ H Q
def RR (Γ : Cn) (fr : Bool) (S : Fs) (σ : St) (ρ : Env) (H : Hp) (τ : List (V × D)) (v : V) (d : D) : Prop := match fr with
  | false => Rel Γ S H σ ρ τ /\ Rep Γ (zD S σ ρ) H v d
  | true => ∃ p, v = .ref p /\ Rel Γ (S.add p) H σ ρ τ /\ OwnAt Γ (zD (S.add p) σ ρ) H p d /\ S.H0 p = none /\ ¬ zD S σ ρ p
def JS (Γ : Cn) (pn : List Nat) (fr : Bool) (t : TS) (m : MS) : Prop :=
  ∀ (S : Fs) (σ : St) (ρ : Env) (H : Hp) (τ : List (V × D)) (D : zaC) (N : Qq), Jd pn S -> Rel Γ S H σ ρ τ -> m N ρ -> (∀ σ' H' ρ', Rel Γ S H' σ' ρ' τ -> N.nx ρ' -> D.nx σ' H') ->
    (∀ v d σ' H' ρ', RR Γ fr S σ' ρ' H' τ v d -> N.rt d ρ' -> D.rt v H') -> (∀ σ' H' ρ', Rel Γ S H' σ' ρ' τ -> N.bk ρ' -> D.bk σ' H') -> (∀ σ' H' ρ', Rel Γ S H' σ' ρ' τ -> N.ct ρ' -> D.ct σ' H') -> t D σ H
inductive Opd where
  | d (x : D) | v (i : Nat)
def V1 : Option Slot -> (D -> Prop) -> Prop
  | some (.val d), k => k d
  | some (.own d), k => k d
  | _, _ => False
def Opd.on (r : Opd) (ρ : Env) (k : D -> Prop) : Prop := match r with
  | .d x => k x
  | .v i => V1 ρ[i]? k
abbrev MO := Env -> (Opd -> Env -> Prop) -> Prop
def OpIn (σ : St) (τ : List (V × D)) (v : V) (r : Opd) : Prop := match r with
  | .d x => (v, x) ∈ τ
  | .v i => σ[i]? = some (some v)
def JO (Γ : Cn) (pn : List Nat) (t : TE) (m : MO) : Prop :=
  ∀ (S : Fs) (σ : St) (ρ : Env) (H : Hp) (τ : List (V × D)) (Q : VK) (q : Opd -> Env -> Prop), Jd pn S -> Rel Γ S H σ ρ τ -> m ρ q -> (∀ v r H' ρ' τ', Rel Γ S H' σ ρ' (τ' ++ τ) -> OpIn σ (τ' ++ τ) v r -> q r ρ' -> Q v H') -> t σ H Q
def jY (Γ : Cn) (E : Addr -> Prop) (H : Hp) (v : V) : D -> Prop
  | .lst ds => ∃ a xs, v = .ref a /\ H a = some (.lst xs) /\ Reps Γ E H xs ds
  | .dK ds => ∃ a ks, v = .ref a /\ H a = some (.dK ks) /\ ks.map (·.1) = ds.map (·.1) /\ Reps Γ E H (ks.map (·.2)) (ds.map (·.2))
  | .dT ds => ∃ a ks, v = .ref a /\ H a = some (.dT ks) /\ ks.map (·.1) = ds.map (·.1) /\ Reps Γ E H (ks.map (·.2)) (ds.map (·.2))
  | .obj c fs => ∃ a C dx gs, v = .ref a /\ Γ.cls c = some C /\ H a = some (.ins C dx gs) /\ (gs.map (·.1) = fs.map fun x => yy x.1) /\ Reps Γ E H (gs.map (·.2)) (fs.map (·.2))
  | d => Rep Γ E H v d
section
variable {Γ : Cn} {E E' : Addr -> Prop} {H H' : Hp} {v : V} {d : D}
theorem Rep.b (r : Rep Γ E H v d) : jY Γ E H v d := by
  cases r with
  | non => exact .non
  | bl b => exact .bl b
  | int i => exact .int i
  | str x => exact .str x
  | ty n => exact .ty n
  | lst ne h l r => exact ⟨_, _, rfl, h, l, r⟩
  | fz h => exact .fz h
  | tup ne h l r => exact .tup ne h l r
  | dK ne h l r => exact ⟨_, _, rfl, h, l, by have := congrArg List.length l; simpa using this, r⟩
  | dT ne h l r => exact ⟨_, _, rfl, h, l, by have := congrArg List.length l; simpa using this, r⟩
  | obj ne hc h l r => exact ⟨_, _, _, _, rfl, hc, h, l, by have := congrArg List.length l; simpa using this, r⟩
  | exc ne hc h => exact .exc ne hc h
theorem OwnAt.b {p : Addr} (h : OwnAt Γ E H p d) : jY Γ E H (.ref p) d := by
  cases d with
  | lst ds => obtain ⟨xs, e, r⟩ := h; exact ⟨p, xs, rfl, e, r⟩
  | dK ds => obtain ⟨xs, e, l, r⟩ := h; exact ⟨p, xs, rfl, e, l, r⟩
  | dT ds => obtain ⟨xs, e, l, r⟩ := h; exact ⟨p, xs, rfl, e, l, r⟩
  | obj c fs => obtain ⟨C, dx, gs, hc, e, l, r⟩ := h; exact ⟨p, C, dx, gs, rfl, hc, e, l, r⟩
  | _ => exact False.elim h
theorem Rel.read {S : Fs} {σ : St} {ρ : Env} {τ : List (V × D)} {r : Opd} {k : D -> Prop} (R : Rel Γ S H σ ρ τ) (h : OpIn σ τ v r) (hk : r.on ρ k) : ∃ d, jY Γ (zD S σ ρ) H v d /\ k d := by
  cases r with
  | d x => exact ⟨x, (R.tmp _ h).b, hk⟩
  | v i =>
    have e : σ[i]? = some (some v) := h
    have hk : V1 ρ[i]? k := hk
    cases q : ρ[i]? with
    | none => rw [q] at hk; exact False.elim hk
    | some s =>
      rw [q] at hk
      cases s with
      | no => exact False.elim hk
      | val d =>
        obtain ⟨w, e', r⟩ := R.val i d q
        rw [e] at e'; cases e'
        exact ⟨d, r.b, hk⟩
      | own o =>
        obtain ⟨p, e', r, _⟩ := R.own i o q
        rw [e] at e'; cases e'
        exact ⟨o, r.b, hk⟩
end
section
variable {Γ : Cn} {pn : List Nat} {fr : Bool}
def mC (d : D) : ME := fun ρ q => q d ρ
def Jp : D -> Bool
  | .non => true | .bl _ => true | .int _ => true | .str _ => true | .ty _ => true | _ => false
def vD : D -> V
  | .non => .non | .bl b => .bl b | .int i => .int i | .str x => .str x | .ty n => .ty n | _ => .non
theorem ZS {E : Addr -> Prop} {H : Hp} {d : D} (h : Jp d = true) : Rep Γ E H (vD d) d := by
  cases d with
  | non => exact .non
  | bl b => exact .bl b
  | int i => exact .int i
  | str x => exact .str x
  | ty n => exact .ty n
  | _ => cases h
theorem Rep.flat {E : Addr -> Prop} {H : Hp} {v : V} {d : D} (r : Rep Γ E H v d) (h : Jp d = true) : v = vD d := by
  cases r <;> first | rfl | cases h
theorem zaJ {v : V} {d : D} (h : Jp d = true) (e : v = vD d) : JE Γ pn (tC v) (mC d) := fun S σ ρ H τ Q q _ R hm hq => by
  subst e; exact hq _ _ _ _ R (ZS h) hm
def zcE (i : Nat) : ME := fun ρ q => match ρ[i]? with
  | some (.val d) => q d ρ
  | some (.own o) => q o (ρ.set i (.val o))
  | _ => False
theorem zmY {i : Nat} (hi : i ∉ pn) : JE Γ pn (Qn i) (zcE i) := fun S σ ρ H τ Q q hp R hm hq => by
  unfold zcE at hm
  cases e : ρ[i]? with
  | none => rw [e] at hm; exact False.elim hm
  | some s =>
    rw [e] at hm
    cases s with
    | no => exact False.elim hm
    | val d =>
      obtain ⟨v, e1, r⟩ := R.val i d e
      exact ⟨v, e1, hq v d H ρ R r hm⟩
    | own o =>
      obtain ⟨v, e1, r, R'⟩ := R.freeze (hp i hi) e
      exact ⟨v, e1, hq v o H _ R' r hm⟩
def Rw (i : Nat) : ME := fun ρ q => match ρ[i]? with
  | some (.val d) => q d ρ
  | _ => False
theorem zlb {i : Nat} : JE Γ pn (Qn i) (Rw i) := fun S σ ρ H τ Q q hp R hm hq => by
  unfold Rw at hm
  cases e : ρ[i]? with
  | none => rw [e] at hm; exact False.elim hm
  | some s =>
    rw [e] at hm
    cases s with
    | no => exact False.elim hm
    | val d =>
      obtain ⟨v, e1, r⟩ := R.val i d e
      exact ⟨v, e1, hq v d H ρ R r hm⟩
    | own o => exact False.elim hm
def mOv (i : Nat) : MO := fun ρ q => match ρ[i]? with
  | some (.val _) => q (.v i) ρ
  | some (.own _) => q (.v i) ρ
  | _ => False
theorem zmZ {i : Nat} : JO Γ pn (Qn i) (mOv i) := fun S σ ρ H τ Q q hp R hm hq => by
  unfold mOv at hm
  cases e : ρ[i]? with
  | none => rw [e] at hm; exact False.elim hm
  | some s =>
    rw [e] at hm
    cases s with
    | no => exact False.elim hm
    | val d =>
      obtain ⟨v, e1, r⟩ := R.val i d e
      exact ⟨v, e1, hq v (.v i) H ρ [] R e1 hm⟩
    | own o =>
      obtain ⟨p, e1, r⟩ := R.own i o e
      exact ⟨_, e1, hq _ (.v i) H ρ [] R e1 hm⟩
def mO (m : ME) : MO := fun ρ q => m ρ fun d ρ' => q (.d d) ρ'
theorem zob {t : TE} {m : ME} (h : JE Γ pn t m) : JO Γ pn t (mO m) := fun S σ ρ H τ Q q hp R hm hq =>
  h S σ ρ H τ Q _ hp R hm fun v d H' ρ' R' r q' => hq v (.d d) H' ρ' [(v, d)] (R'.push r) (by show (v, d) ∈ _; simp) q'
theorem Wv {t : TE} {m : ME} (h : JF Γ pn t m) : JE Γ pn t m := fun S σ ρ H τ Q q hp R hm hq =>
  h S σ ρ H τ Q q hp R hm fun p o H' ρ' R' ow _ ne q' => by
    have ow' : OwnAt Γ (zD S σ ρ') H' p o := ow.up (fun _ z => z) (fun b _ z => z.elim (fun z => .inl (.inl z)) .inr) fun _ _ _ z => z
    exact hq _ o H' ρ' R'.unadd (ow'.rep ne) q'
def zfJ : MA := fun ρ q => q [] ρ
def zcb (a : ME) (r : MA) : MA := fun ρ q => a ρ fun d ρ1 => r ρ1 fun ds ρ2 => q (d :: ds) ρ2
theorem zhf : JA Γ pn Zm zfJ := fun S σ ρ H τ Q q _ R hm hq => hq [] [] H ρ R .nil hm
theorem zlc {t : TE} {m : ME} {u : TA} {n : MA} (h1 : JE Γ pn t m) (h2 : JA Γ pn u n) : JA Γ pn (JC t u) (zcb m n) := fun S σ ρ H τ Q q hp R hm hq =>
  h1 S σ ρ H τ _ _ hp R hm fun v d H1 ρ1 R1 r1 q1 => h2 S σ ρ1 H1 ((v, d) :: τ) _ _ hp (R1.push r1) q1 fun vs ds H2 ρ2 R2 r2 q2 =>
    hq _ _ H2 ρ2 R2.pop.1 (.cons R2.pop.2 r2) q2
def zfK (ss : List Str) : MA := fun ρ q => q (ss.map D.str) ρ
theorem zld {ss : List Str} : JA Γ pn (zkj ss) (zfK ss) := fun S σ ρ H τ Q q hp R hm hq =>
  hq _ _ H ρ R ⟨by simp, fun i v d h1 h2 => by
    rw [List.getElem?_map] at h1 h2
    cases e : ss[i]? with
    | none => rw [e] at h1; cases h1
    | some x => rw [e] at h1 h2; cases h1; cases h2; exact .str x⟩ hm
theorem Jv {S : Fs} {σ : St} {ρ : Env} {H : Hp} {τ : List (V × D)} {xs : List V} {ds : List D} {p : Addr} (R : Rel Γ S H σ ρ τ) (r : Reps Γ (zD S σ ρ) H xs ds) (hp : H p = none) :
    Rel Γ (S.add p) (zX H p (.lst xs)) σ ρ τ /\ OwnAt Γ (zD (S.add p) σ ρ) (zX H p (.lst xs)) p (.lst ds) /\ S.H0 p = none /\ ¬ zD S σ ρ p := by
  have h0 := R.new hp
  refine ⟨R.add hp h0, ⟨xs, je, r.up (fun b hb z => ?_) fun b o _ q => by rw [zM (zV q hp)]; exact q⟩, h0, fun z => yY R z hp⟩
  rcases z with (z | z) | z
  · exact .inl z
  · subst z; exact absurd hp hb
  · exact .inr z
def zfL (m : MA) : ME := fun ρ q => m ρ fun ds ρ' => ds.length <= 1000 /\ q (.lst ds) ρ'
theorem zeE {n : Nat} (h : n <= 1000) : n <= sizeLine := Nat.le_trans h (by decide)
theorem zm0 {t : TA} {m : MA} (h : JA Γ pn t m) : JF Γ pn (zmH t) (zfL m) := fun S σ ρ H τ Q q hp R hm hq =>
  h S σ ρ H τ _ _ hp R hm fun vs ds H1 ρ1 R1 r1 ⟨l1, q1⟩ => ⟨by rw [r1.1]; exact zeE l1, fun p hn => by
    obtain ⟨a, b, c, d⟩ := Jv R1 r1 hn
    exact hq p _ _ ρ1 a b c d q1⟩
def zfM (m : MA) : ME := fun ρ q => m ρ fun ds ρ' => ds.length <= 1000 /\ q (.tup ds) ρ'
theorem Uf {H : Hp} {p : Addr} (h : H p = none) (o : HO) : Same H (zX H p o) := fun b u q => by rw [zM (zV q h)]; exact q
theorem zle {S : Fs} {σ : St} {ρ : Env} {H : Hp} {τ : List (V × D)} {xs : List V} {ds : List D} {p : Addr} (R : Rel Γ S H σ ρ τ) (r : Reps Γ (zD S σ ρ) H xs ds) (hp : H p = none) :
    Rel Γ S (zX H p (.tup xs)) σ ρ τ /\ Rep Γ (zD S σ ρ) (zX H p (.tup xs)) (.ref p) (.tup ds) := by
  have g := Uf hp (.tup xs)
  have r' := r.up (E' := zD S σ ρ) (H' := zX H p (.tup xs)) (fun _ _ z => z) fun b o _ q => g b o q
  exact ⟨R.grow g, .tup (fun z => yY R z hp) je r'.1 r'.2⟩
theorem zm1 {t : TA} {m : MA} (h : JA Γ pn t m) : JE Γ pn (zmG t) (zfM m) := fun S σ ρ H τ Q q hp R hm hq =>
  h S σ ρ H τ _ _ hp R hm fun vs ds H1 ρ1 R1 r1 ⟨l1, q1⟩ => ⟨by rw [r1.1]; exact zeE l1, fun p hn => by
    obtain ⟨a, b⟩ := zle R1 r1 hn
    exact hq _ _ _ ρ1 a b q1⟩
abbrev F2 := D -> D -> (D -> Prop) -> Prop
def yM (Γ : Cn) (r : R2) (f : F2) : Prop :=
  ∀ (E : Addr -> Prop) (H : Hp) (x y : V) (dx dy : D) (Q : VK) (q : D -> Prop), (∀ a, E a -> H a ≠ none) -> jY Γ E H x dx -> jY Γ E H y dy -> f dx dy q -> (∀ v d H', Same H H' -> Rep Γ E H' v d -> q d -> Q v H') -> r x y H Q
def JP (f : F2) (a b : MO) : ME := fun ρ q => a ρ fun r ρ1 => b ρ1 fun s ρ2 => r.on ρ2 fun x => s.on ρ2 fun y => f x y fun d => q d ρ2
theorem OpIn.more {σ : St} {τ τ' : List (V × D)} {v : V} {r : Opd} (h : OpIn σ τ v r) : OpIn σ (τ' ++ τ) v r := by
  cases r with
  | d x => exact List.mem_append_right _ h
  | v i => exact h
theorem Rel.cut {Γ : Cn} {S : Fs} {H : Hp} {σ : St} {ρ : Env} {τ τ' : List (V × D)} (R : Rel Γ S H σ ρ (τ' ++ τ)) : Rel Γ S H σ ρ τ := { R with tmp := fun x hx => R.tmp x (List.mem_append_right _ hx) }
theorem V2 {r : R2} {f : F2} {ta tb : TE} {a b : MO} (ho : yM Γ r f) (ha : JO Γ pn ta a) (hb : JO Γ pn tb b) : JE Γ pn (tOp r ta tb) (JP f a b) := fun S σ ρ H τ Q q hp R hm hq =>
  ha S σ ρ H τ _ _ hp R hm fun v r1 H1 ρ1 τ1 R1 o1 q1 => hb S σ ρ1 H1 (τ1 ++ τ) _ _ hp R1 q1 fun w r2 H2 ρ2 τ2 R2 o2 q2 => by
    obtain ⟨dx, rx, q2⟩ := R2.read o1.more q2
    obtain ⟨dy, ry, q2⟩ := R2.read o2 q2
    exact ho _ H2 v w dx dy Q _ (fun a z => yY R2 z) rx ry q2 fun u d H3 g r3 q3 => hq u d H3 ρ2 ((R2.grow g).cut.cut) r3 q3
abbrev F1 := D -> (D -> Prop) -> Prop
def Yi (Γ : Cn) (r : V -> Hp -> VK -> Prop) (f : F1) : Prop :=
  ∀ (E : Addr -> Prop) (H : Hp) (x : V) (dx : D) (Q : VK) (q : D -> Prop), (∀ a, E a -> H a ≠ none) -> jY Γ E H x dx -> f dx q -> (∀ v d H', Same H H' -> Rep Γ E H' v d -> q d -> Q v H') -> r x H Q
def QM (f : F1) (a : MO) : ME := fun ρ q => a ρ fun r ρ1 => r.on ρ1 fun x => f x fun d => q d ρ1
theorem zcF {r : List V -> Hp -> VK -> Prop} {f : F1} {ta : TE} {a : MO} (ho : Yi Γ (fun x => r [x]) f) (ha : JO Γ pn ta a) : JE Γ pn (tCB r (JC ta Zm)) (QM f a) := fun S σ ρ H τ Q q hp R hm hq =>
  ha S σ ρ H τ _ _ hp R hm fun v r1 H1 ρ1 τ1 R1 o1 q1 => by
    obtain ⟨dx, rx, q1⟩ := R1.read o1 q1
    exact ho _ H1 v dx Q _ (fun a z => yY R1 z) rx q1 fun u d H3 g r3 q3 => hq u d H3 ρ1 ((R1.grow g).cut) r3 q3
theorem ziZ {r : List V -> Hp -> VK -> Prop} {f : F2} {ta tb : TE} {a b : MO} (ho : yM Γ (fun x y => r [x, y]) f) (ha : JO Γ pn ta a) (hb : JO Γ pn tb b) : JE Γ pn (tCB r (JC ta (JC tb Zm))) (JP f a b) := fun S σ ρ H τ Q q hp R hm hq =>
  V2 (r := fun x y => r [x, y]) ho ha hb S σ ρ H τ Q q hp R hm hq
abbrev FL2 := D -> D -> (List D -> Prop) -> Prop
def zfN (Γ : Cn) (r : R2) (f : FL2) : Prop :=
  ∀ (E : Addr -> Prop) (H : Hp) (x y : V) (dx dy : D) (Q : VK) (q : List D -> Prop), jY Γ E H x dx -> jY Γ E H y dy -> f dx dy q -> (∀ p xs ds H1, Same H H1 -> H1 p = none -> Reps Γ E H1 xs ds -> q ds -> Q (.ref p) (zX H1 p (.lst xs))) -> r x y H Q
def zcH (f : FL2) (a b : MO) : ME := fun ρ q => a ρ fun r ρ1 => b ρ1 fun s ρ2 => r.on ρ2 fun x => s.on ρ2 fun y => f x y fun ds => q (.lst ds) ρ2
theorem zoc {r : R2} {f : FL2} {ta tb : TE} {a b : MO} (ho : zfN Γ r f) (ha : JO Γ pn ta a) (hb : JO Γ pn tb b) : JF Γ pn (tOp r ta tb) (zcH f a b) := fun S σ ρ H τ Q q hp R hm hq =>
  ha S σ ρ H τ _ _ hp R hm fun v r1 H1 ρ1 τ1 R1 o1 q1 => hb S σ ρ1 H1 (τ1 ++ τ) _ _ hp R1 q1 fun w r2 H2 ρ2 τ2 R2 o2 q2 => by
    obtain ⟨dx, rx, q2⟩ := R2.read o1.more q2
    obtain ⟨dy, ry, q2⟩ := R2.read o2 q2
    exact ho _ H2 v w dx dy Q _ rx ry q2 fun p xs ds H3 g hn r3 q3 => by
      obtain ⟨a, b, c, d⟩ := Jv (R2.grow g) r3 hn
      exact hq p _ _ ρ2 a.cut.cut b c d q3
abbrev FL1 := D -> (List D -> Prop) -> Prop
def zcI (Γ : Cn) (r : V -> Hp -> VK -> Prop) (f : FL1) : Prop :=
  ∀ (E : Addr -> Prop) (H : Hp) (x : V) (dx : D) (Q : VK) (q : List D -> Prop), jY Γ E H x dx -> f dx q -> (∀ p xs ds H1, Same H H1 -> H1 p = none -> Reps Γ E H1 xs ds -> q ds -> Q (.ref p) (zX H1 p (.lst xs))) -> r x H Q
def V3 (f : FL1) (a : MO) : ME := fun ρ q => a ρ fun r ρ1 => r.on ρ1 fun x => f x fun ds => q (.lst ds) ρ1
theorem zi0 {r : List V -> Hp -> VK -> Prop} {f : FL1} {ta : TE} {a : MO} (ho : zcI Γ (fun x => r [x]) f) (ha : JO Γ pn ta a) : JF Γ pn (tCB r (JC ta Zm)) (V3 f a) := fun S σ ρ H τ Q q hp R hm hq =>
  ha S σ ρ H τ _ _ hp R hm fun v r1 H1 ρ1 τ1 R1 o1 q1 => by
    obtain ⟨dx, rx, q1⟩ := R1.read o1 q1
    exact ho _ H1 v dx Q _ rx q1 fun p xs ds H3 g hn r3 q3 => by
      obtain ⟨a, b, c, d⟩ := Jv (R1.grow g) r3 hn
      exact hq p _ _ ρ1 a.cut b c d q3
def mB (m : ME) : MT := fun ρ q => m ρ fun d ρ' => match d with | .bl b => q b ρ' | _ => False
theorem ZT {E : Addr -> Prop} {H : Hp} {v : V} {b : Bool} (r : Rep Γ E H v (.bl b)) : v = .bl b := by cases r; rfl
theorem YQ {E : Addr -> Prop} {H : Hp} {v : V} {b : Int} (r : Rep Γ E H v (.int b)) : v = .int b := by cases r; rfl
theorem zeF {E : Addr -> Prop} {H : Hp} {v : V} {b : Str} (r : Rep Γ E H v (.str b)) : v = .str b := by cases r; rfl
theorem zo8 {t : TE} {m : ME} (h : JE Γ pn t m) : JT Γ pn (tB t) (mB m) := fun S σ ρ H τ Q q hp R hm hq =>
  h S σ ρ H τ _ _ hp R hm fun v d H1 ρ1 R1 r1 q1 => by
    cases d with
    | bl b => exact ⟨b, ZT r1, hq b H1 ρ1 R1 q1⟩
    | _ => exact False.elim q1
theorem zeG {t : TE} {m : ME} (h : JE Γ pn t m) : JT Γ pn (zfz t) (mB m) := fun S σ ρ H τ Q q hp R hm hq =>
  h S σ ρ H τ _ _ hp R hm fun v d H1 ρ1 R1 r1 q1 => by
    cases d with
    | bl b => exact ⟨b, ZT r1, hq b H1 ρ1 R1 q1⟩
    | _ => exact False.elim q1
def zfO (a b : MT) : MT := fun ρ q => a ρ fun c ρ1 => if c = true then b ρ1 q else q false ρ1
def mOr (a b : MT) : MT := fun ρ q => a ρ fun c ρ1 => if c = true then q true ρ1 else b ρ1 q
def zfP (a : MT) : MT := fun ρ q => a ρ fun c ρ1 => q (!c) ρ1
theorem zm2 {t u : TT} {a b : MT} (h1 : JT Γ pn t a) (h2 : JT Γ pn u b) : JT Γ pn (zl_ t u) (zfO a b) := fun S σ ρ H τ Q q hp R hm hq =>
  h1 S σ ρ H τ _ _ hp R hm fun c H1 ρ1 R1 q1 => by
    cases c with
    | true => rw [if_pos rfl] at q1 ⊢; exact h2 S σ ρ1 H1 τ Q q hp R1 q1 hq
    | false => rw [if_neg Bool.false_ne_true] at q1 ⊢; exact hq false H1 ρ1 R1 q1
theorem zod {t u : TT} {a b : MT} (h1 : JT Γ pn t a) (h2 : JT Γ pn u b) : JT Γ pn (tOr t u) (mOr a b) := fun S σ ρ H τ Q q hp R hm hq =>
  h1 S σ ρ H τ _ _ hp R hm fun c H1 ρ1 R1 q1 => by
    cases c with
    | true => rw [if_pos rfl] at q1 ⊢; exact hq true H1 ρ1 R1 q1
    | false => rw [if_neg Bool.false_ne_true] at q1 ⊢; exact h2 S σ ρ1 H1 τ Q q hp R1 q1 hq
theorem zm3 {t : TT} {a : MT} (h1 : JT Γ pn t a) : JT Γ pn (zma t) (zfP a) := fun S σ ρ H τ Q q hp R hm hq =>
  h1 S σ ρ H τ _ _ hp R hm fun c H1 ρ1 R1 q1 => hq (!c) H1 ρ1 R1 q1
def zcc (a b : ME) : ME := fun ρ q => a ρ fun d ρ1 => match d with | .bl c => if c = true then b ρ1 q else q (.bl false) ρ1 | _ => False
def zcd (a : ME) : ME := fun ρ q => a ρ fun d ρ1 => match d with | .bl c => q (.bl (!c)) ρ1 | _ => False
theorem zm4 {t u : TE} {a b : ME} (h1 : JE Γ pn t a) (h2 : JE Γ pn u b) : JE Γ pn (zj5 t u) (zcc a b) := fun S σ ρ H τ Q q hp R hm hq =>
  h1 S σ ρ H τ _ _ hp R hm fun v d H1 ρ1 R1 r1 q1 => by
    cases d with
    | bl c =>
      refine ⟨c, ZT r1, ?_⟩
      dsimp only at q1
      cases c with
      | true => rw [if_pos rfl] at q1 ⊢; exact h2 S σ ρ1 H1 τ Q q hp R1 q1 hq
      | false => rw [if_neg Bool.false_ne_true] at q1 ⊢; exact hq _ _ H1 ρ1 R1 (.bl false) q1
    | _ => exact False.elim q1
theorem zm5 {t : TE} {a : ME} (h1 : JE Γ pn t a) : JE Γ pn (zj6 t) (zcd a) := fun S σ ρ H τ Q q hp R hm hq =>
  h1 S σ ρ H τ _ _ hp R hm fun v d H1 ρ1 R1 r1 q1 => by
    cases d with
    | bl c => exact ⟨c, ZT r1, hq _ _ H1 ρ1 R1 (.bl _) q1⟩
    | _ => exact False.elim q1
def mIf (c : MT) (a b : ME) : ME := fun ρ q => c ρ fun k ρ1 => if k = true then a ρ1 q else b ρ1 q
theorem zoe {t : TT} {ta tb : TE} {c : MT} {a b : ME} (hc : JT Γ pn t c) (h1 : JE Γ pn ta a) (h2 : JE Γ pn tb b) : JE Γ pn (tIf t ta tb) (mIf c a b) := fun S σ ρ H τ Q q hp R hm hq =>
  hc S σ ρ H τ _ _ hp R hm fun k H1 ρ1 R1 q1 => by
    cases k with
    | true => rw [if_pos rfl] at q1 ⊢; exact h1 S σ ρ1 H1 τ Q q hp R1 q1 hq
    | false => rw [if_neg Bool.false_ne_true] at q1 ⊢; exact h2 S σ ρ1 H1 τ Q q hp R1 q1 hq
def zfQ : MS := fun N ρ => N.nx ρ
def zi1 (a b : MS) : MS := fun N ρ => a { N with nx := fun ρ' => b N ρ' } ρ
def zce (m : ME) : MS := fun N ρ => m ρ fun _ ρ' => N.nx ρ'
def zaK (m : ME) : MS := fun N ρ => m ρ N.rt
def zfR (c : MT) (a b : MS) : MS := fun N ρ => c ρ fun k ρ1 => if k = true then a N ρ1 else b N ρ1
def zcJ : MS := fun _ _ => False
theorem zlf : JS Γ pn fr zj7 zfQ := fun S σ ρ H τ D N hp R hm hn hr hb hc => hn _ _ _ R hm
theorem zi2 {t : TS} : JS Γ pn fr t zcJ := fun S σ ρ H τ D N hp R hm => False.elim hm
theorem zm6 {t u : TS} {a b : MS} (h1 : JS Γ pn fr t a) (h2 : JS Γ pn fr u b) : JS Γ pn fr (zmh t u) (zi1 a b) := fun S σ ρ H τ D N hp R hm hn hr hb hc =>
  h1 S σ ρ H τ _ _ hp R hm (fun σ' H' ρ' R' m' => h2 S σ' ρ' H' τ D N hp R' m' hn hr hb hc) hr hb hc
theorem zlg {t : TE} {m : ME} (h : JE Γ pn t m) : JS Γ pn fr (zj8 t) (zce m) := fun S σ ρ H τ D N hp R hm hn hr hb hc =>
  h S σ ρ H τ _ _ hp R hm fun v d H' ρ' R' r q => hn σ H' ρ' R' q
theorem zm7 {t : TE} {m : ME} (h : JE Γ pn t m) : JS Γ pn false (ziw t) (zaK m) := fun S σ ρ H τ D N hp R hm hn hr hb hc =>
  h S σ ρ H τ _ _ hp R hm fun v d H' ρ' R' r q => hr v d σ H' ρ' ⟨R', r⟩ q
theorem zlh {t : TE} {m : ME} (h : JF Γ pn t m) : JS Γ pn true (ziw t) (zaK m) := fun S σ ρ H τ D N hp R hm hn hr hb hc =>
  h S σ ρ H τ _ _ hp R hm fun p o H' ρ' R' ow h0 ne q => hr _ o σ H' ρ' ⟨p, rfl, R', ow, h0, ne⟩ q
theorem zof {t : TT} {ta tb : TS} {c : MT} {a b : MS} (h0 : JT Γ pn t c) (h1 : JS Γ pn fr ta a) (h2 : JS Γ pn fr tb b) : JS Γ pn fr (zmi t ta tb) (zfR c a b) := fun S σ ρ H τ D N hp R hm hn hr hb hc =>
  h0 S σ ρ H τ _ _ hp R hm fun k H1 ρ1 R1 q1 => by
    cases k with
    | true => rw [if_pos rfl] at q1 ⊢; exact h1 S σ ρ1 H1 τ D N hp R1 q1 hn hr hb hc
    | false => rw [if_neg Bool.false_ne_true] at q1 ⊢; exact h2 S σ ρ1 H1 τ D N hp R1 q1 hn hr hb hc
def zcK (i : Nat) (m : ME) : MS := fun N ρ => m ρ fun d ρ' => N.nx (ρ'.set i (.val d))
def YR (i : Nat) (m : ME) : MS := fun N ρ => m ρ fun d ρ' => N.nx (ρ'.set i (.own d))
theorem zhg {i : Nat} {t : TE} {m : ME} (hi : i ∉ pn) (h : JE Γ pn t m) : JS Γ pn fr (zaE t (VX i)) (zcK i m) := fun S σ ρ H τ D N hp R hm hn hr hb hc =>
  h S σ ρ H τ _ _ hp R hm fun v d H' ρ' R' r q => hn _ H' _ (R'.asg (hp i hi) r) q
theorem zbm {i : Nat} {t : TE} {m : ME} (hi : i ∉ pn) (h : JF Γ pn t m) : JS Γ pn fr (zaE t (VX i)) (YR i m) := fun S σ ρ H τ D N hp R hm hn hr hb hc =>
  h S σ ρ H τ _ _ hp R hm fun p o H' ρ' R' ow h0 ne q => hn _ H' _ (R'.asgOwn (hp i hi) ow h0 (fun z => ne (.inl z))) q
end
end M
namespace M
open PySem L2
section
variable {Γ : Cn} {pn : List Nat} {fr : Bool}
abbrev MG := D -> Env -> (Env -> Prop) -> Prop
abbrev YS := List D -> Env -> (Env -> Prop) -> Prop
def JG (Γ : Cn) (pn : List Nat) (g : TG) (m : MG) : Prop :=
  ∀ (S : Fs) (σ : St) (ρ : Env) (H : Hp) (τ : List (V × D)) (v : V) (d : D) (Q : St -> Hp -> Prop) (q : Env -> Prop), Jd pn S -> Rel Γ S H σ ρ τ -> Rep Γ (zD S σ ρ) H v d -> m d ρ q -> (∀ σ' H' ρ', Rel Γ S H' σ' ρ' τ -> q ρ' -> Q σ' H') -> g v σ H Q
def JGs (Γ : Cn) (pn : List Nat) (g : Ws) (m : YS) : Prop :=
  ∀ (S : Fs) (σ : St) (ρ : Env) (H : Hp) (τ : List (V × D)) (vs : List V) (ds : List D) (Q : St -> Hp -> Prop) (q : Env -> Prop), Jd pn S -> Rel Γ S H σ ρ τ -> Reps Γ (zD S σ ρ) H vs ds -> m ds ρ q -> (∀ σ' H' ρ', Rel Γ S H' σ' ρ' τ -> q ρ' -> Q σ' H') -> g vs σ H Q
def zcL (i : Nat) : MG := fun d ρ q => q (ρ.set i (.val d))
theorem zli {i : Nat} (hi : i ∉ pn) : JG Γ pn (VX i) (zcL i) := fun S σ ρ H τ v d Q q hp R r hm hq => hq _ _ _ (R.asg (hp i hi) r) hm
def zfS : YS := fun ds ρ q => match ds with | [] => q ρ | _ => False
def zcM (g : MG) (r : YS) : YS := fun ds ρ q => match ds with | d :: ds => g d ρ fun ρ1 => r ds ρ1 q | _ => False
theorem Rel.pushs {S : Fs} {H : Hp} {σ : St} {ρ : Env} {τ : List (V × D)} : ∀ {vs : List V} {ds : List D}, Rel Γ S H σ ρ τ -> Reps Γ (zD S σ ρ) H vs ds -> Rel Γ S H σ ρ (vs.zip ds ++ τ)
  | [], _, R, _ => R
  | _ :: _, [], R, _ => R
  | v :: vs, d :: ds, R, r => (Rel.pushs R r.tail).push r.head
theorem Rel.pops {S : Fs} {H : Hp} {σ : St} {ρ : Env} {τ : List (V × D)} {vs : List V} {ds : List D} (R : Rel Γ S H σ ρ (vs.zip ds ++ τ)) (hl : vs.length = ds.length) : Rel Γ S H σ ρ τ /\ Reps Γ (zD S σ ρ) H vs ds := by
  refine ⟨R.cut, hl, fun i v d h1 h2 => R.tmp (v, d) (List.mem_append_left _ (List.mem_iff_getElem?.mpr ⟨i, ?_⟩))⟩
  rw [List.getElem?_zip_eq_some]
  exact ⟨h1, h2⟩
theorem zlj : JGs Γ pn gNil zfS := fun S σ ρ H τ vs ds Q q hp R r hm hq => by
  cases ds with
  | nil => have h := r.1; cases vs with | nil => exact ⟨rfl, hq _ _ _ R hm⟩ | cons _ _ => simp at h
  | cons _ _ => exact False.elim hm
theorem zi3 {g : TG} {u : Ws} {m : MG} {n : YS} (h1 : JG Γ pn g m) (h2 : JGs Γ pn u n) : JGs Γ pn (gCons g u) (zcM m n) := fun S σ ρ H τ vs ds Q q hp R r hm hq => by
  cases ds with
  | nil => exact False.elim hm
  | cons d ds =>
    cases vs with
    | nil => have h := r.1; simp at h
    | cons v vs =>
      refine ⟨v, vs, rfl, h1 S σ ρ H (vs.zip ds ++ τ) v d _ _ hp (R.pushs r.tail) r.head hm fun σ' H' ρ' R' q' => ?_⟩
      obtain ⟨R2, r2⟩ := R'.pops r.tail.1
      exact h2 S σ' ρ' H' τ vs ds Q q hp R2 r2 q' hq
def zfT (m : YS) (n : Nat) : MG := fun d ρ q => match d with | .tup ds => ds.length = n /\ m ds ρ q | _ => False
theorem zm8 {n : Nat} {g : Ws} {m : YS} (h : JGs Γ pn g m) : JG Γ pn (gTup Γ.K n g) (zfT m n) := fun S σ ρ H τ v d Q q hp R r hm hq => by
  cases d with
  | tup ds =>
    obtain ⟨a, xs, rfl, hs, rs⟩ := r.tuple
    exact ⟨a, xs, rfl, SqT.of hs, rs.1.trans hm.1, h S σ ρ H τ xs ds Q q hp R rs hm.2 hq⟩
  | _ => exact False.elim hm
abbrev MI := Env -> (List D -> Env -> Prop) -> Prop
def zm9 (Γ : Cn) (J : It) (τ' : List (V × D)) (ds : List D) : Prop :=
  ∀ (E : Addr -> Prop) (H : Hp) (i : Nat), (∀ a, E a -> H a ≠ none) -> (∀ x ∈ τ', Rep Γ E H x.1 x.2) ->
    (i < ds.length -> J.go i H /\ ∀ x H', J.yld i H x H' -> Same H H' /\ ∃ d, ds[i]? = some d /\ Rep Γ E H' x d) /\ (i = ds.length -> J.stop i H)
def JI (Γ : Cn) (pn : List Nat) (wi : TI) (m : MI) : Prop :=
  ∀ (S : Fs) (σ : St) (ρ : Env) (H : Hp) (τ : List (V × D)) (Z : It -> Hp -> Prop) (q : List D -> Env -> Prop), Jd pn S -> Rel Γ S H σ ρ τ -> m ρ q ->
    (∀ J ds H' ρ' τ', Rel Γ S H' σ ρ' (τ' ++ τ) -> zm9 Γ J τ' ds -> q ds ρ' -> Z J H') -> wi σ H Z
def Rx (m : ME) : MI := fun ρ q => m ρ fun d ρ' => match d with | .lst ds => q ds ρ' | .fz ns => q (ns.map D.int) ρ' | _ => False
theorem zlk {t : TE} {m : ME} (h : JE Γ pn t m) : JI Γ pn (zj9 Γ.K t) (Rx m) := fun S σ ρ H τ Z q hp R hm hz =>
  h S σ ρ H τ _ _ hp R hm fun v d H1 ρ1 R1 r1 q1 => by
    cases d with
    | lst ds =>
      obtain ⟨a, xs, rfl, hs, rs⟩ := r1.list
      refine ⟨a, rfl, ⟨xs, .inl (.inl hs)⟩, hz _ ds H1 ρ1 [(.ref a, .lst ds)] (R1.push r1) ?_ q1⟩
      intro E H i hE hx
      have r := hx (.ref a, .lst ds) (by simp)
      have r' : Rep Γ E H (.ref a) (.lst ds) := r
      obtain ⟨a', xs', e, hs', rs'⟩ := r'.list
      cases e
      refine ⟨fun hi => ?_, fun hi => ⟨xs', .inl (.inl hs'), by rw [rs'.1]; omega⟩⟩
      have hi' : i < xs'.length := by rw [rs'.1]; exact hi
      refine ⟨⟨xs', xs'[i], .inl (.inl hs'), List.getElem?_eq_getElem hi'⟩, fun x H' y => ?_⟩
      obtain ⟨e, y⟩ := y
      subst e
      exact ⟨Same.refl _, ds[i], List.getElem?_eq_getElem hi, rs'.2 i x _ (y xs' (.inl (.inl hs'))) (List.getElem?_eq_getElem hi)⟩
    | fz ns =>
      obtain ⟨a, rfl, hs⟩ := r1.script
      refine ⟨a, rfl, ⟨_, hs⟩, hz _ (ns.map D.int) H1 ρ1 [(.ref a, .fz ns)] (R1.push r1) ?_ q1⟩
      intro E H i hE hx
      have r : Rep Γ E H (.ref a) (.fz ns) := hx (.ref a, .fz ns) (by simp)
      obtain ⟨a', e, hs'⟩ := r.script
      cases e
      refine ⟨fun hi => ?_, fun hi => ⟨_, hs', by simpa using Nat.le_of_eq hi.symm⟩⟩
      have hi' : i < ns.length := by simpa using hi
      refine ⟨⟨_, .int ns[i], hs', by rw [List.getElem?_map, List.getElem?_eq_getElem hi']; rfl⟩, fun x H' y => ?_⟩
      obtain ⟨e, y⟩ := y
      subst e
      have y' := y _ hs'
      rw [List.getElem?_map, List.getElem?_eq_getElem hi'] at y'
      cases y'
      exact ⟨Same.refl _, .int ns[i], by rw [List.getElem?_map, List.getElem?_eq_getElem hi']; rfl, .int _⟩
    | _ => exact False.elim q1
def zcf (m : ME) : MI := fun ρ q => m ρ fun d ρ' => match d with | .str x => q (x.cps.toList.map fun c => D.str ⟨#[c]⟩) ρ' | _ => False
theorem zm_ {t : TE} {m : ME} (h : JE Γ pn t m) : JI Γ pn (zmT t) (zcf m) := fun S σ ρ H τ Z q hp R hm hz =>
  h S σ ρ H τ _ _ hp R hm fun v d H1 ρ1 R1 r1 q1 => by
    cases d with
    | str x =>
      cases zeF r1
      refine ⟨x, rfl, hz _ _ H1 ρ1 [] R1 ?_ q1⟩
      intro E H i hE hx
      refine ⟨fun hi => ?_, fun hi => by show i = x.cps.size; simpa using hi⟩
      have hi' : i < x.cps.size := by simpa using hi
      refine ⟨hi', fun v H' y => ?_⟩
      obtain ⟨e, c, hc, e2⟩ := y
      subst e e2
      refine ⟨Same.refl _, .str ⟨#[c]⟩, ?_, .str _⟩
      have hc' : x.cps.toList[i]? = some c := by simpa using hc
      rw [List.getElem?_map, hc']; rfl
    | _ => exact False.elim q1
def yr (lo : Int) (n : Nat) : List D := (List.range n).map fun (i : Nat) => D.int (lo + (i : Int))
def Ug (m : MA) : MI := fun ρ q => m ρ fun ds ρ' => match ds with
  | [.int j] => (-1000000 <= j /\ j <= 1000000) /\ q (yr 0 j.toNat) ρ'
  | _ => False
def Uh (m : MA) : MI := fun ρ q => m ρ fun ds ρ' => match ds with
  | [.int i, .int j] => (-1000000 <= i /\ i <= 1000000 /\ -1000000 <= j /\ j <= 1000000) /\ q (yr i (j - i).toNat) ρ'
  | _ => False
theorem zcN {lo : Int} {n : Nat} : zm9 Γ (Itr lo n) [] (yr lo n) := fun E H i hE hx => by
  unfold yr
  refine ⟨fun hi => ?_, fun hi => by show n <= i; simp at hi; omega⟩
  have hi' : i < n := by simpa using hi
  refine ⟨hi', fun x H' y => ?_⟩
  obtain ⟨e, y⟩ := y
  subst e y
  refine ⟨Same.refl _, .int (lo + i), ?_, .int _⟩
  rw [List.getElem?_map, List.getElem?_range hi']; rfl
theorem zcO {E : Addr -> Prop} {H : Hp} {vs : List V} {i : Int} (r : Reps Γ E H vs [.int i]) : vs = [.int i] := by
  match vs, r with
  | [], r => have h := r.1; simp at h
  | [v], r => rw [YQ r.head]
  | _ :: _ :: _, r => have h := r.1; simp at h
theorem zi4 {E : Addr -> Prop} {H : Hp} {vs : List V} {i j : Int} (r : Reps Γ E H vs [.int i, .int j]) : vs = [.int i, .int j] := by
  match vs, r with
  | [], r => have h := r.1; simp at h
  | v :: vs, r => rw [YQ r.head, zcO r.tail]
theorem zhi {t : TA} {m : MA} (h : JA Γ pn t m) : JI Γ pn (zj_ t) (Ug m) := fun S σ ρ H τ Z q hp R hm hz =>
  h S σ ρ H τ _ _ hp R hm fun vs ds H1 ρ1 R1 r1 q1 => by
    split at q1
    · exact ⟨_, zcO r1, by have := q1.1; omega, by have := q1.1; omega, hz _ _ H1 ρ1 [] R1 zcN q1.2⟩
    · exact False.elim q1
theorem zhj {t : TA} {m : MA} (h : JA Γ pn t m) : JI Γ pn (zka t) (Uh m) := fun S σ ρ H τ Z q hp R hm hz =>
  h S σ ρ H τ _ _ hp R hm fun vs ds H1 ρ1 R1 r1 q1 => by
    split at q1
    · exact ⟨_, _, zi4 r1, by have := q1.1; omega, hz _ _ H1 ρ1 [] R1 zcN q1.2⟩
    · exact False.elim q1
theorem RR.cut {S : Fs} {σ : St} {ρ : Env} {H : Hp} {τ τ' : List (V × D)} {v : V} {d : D} (h : RR Γ fr S σ ρ H (τ' ++ τ) v d) : RR Γ fr S σ ρ H τ v d := by
  cases fr with
  | false => exact ⟨h.1.cut, h.2⟩
  | true => obtain ⟨p, e, R, r⟩ := h; exact ⟨p, e, R.cut, r⟩
def zaL (g : MG) (b : MS) : List D -> Qq -> Env -> Prop
  | [], N, ρ => N.nx ρ
  | d :: ds, N, ρ => g d ρ fun ρ1 => b { nx := fun ρ2 => zaL g b ds N ρ2, rt := N.rt, bk := N.nx, ct := fun ρ2 => zaL g b ds N ρ2 } ρ1
def zfU (mi : MI) (g : MG) (b : MS) : MS := fun N ρ => mi ρ fun ds ρ1 => zaL g b ds N ρ1
theorem zna {wi : TI} {g : TG} {tb : TS} {mi : MI} {mg : MG} {mb : MS} (hi : JI Γ pn wi mi) (hg : JG Γ pn g mg) (hbd : JS Γ pn fr tb mb) : JS Γ pn fr (zmq wi g tb) (zfU mi mg mb) := fun S σ ρ H τ D N hp R hm hn hr hb hc =>
  hi S σ ρ H τ _ _ hp R hm fun J ds H1 ρ1 τ' R1 ok q1 => by
    refine ⟨fun i m σ H => m = ds.length - i /\ i <= ds.length /\ ∃ ρ, Rel Γ S H σ ρ (τ' ++ τ) /\ zaL mg mb (ds.drop i) N ρ, ⟨ds.length, by simp, Nat.zero_le _, ρ1, R1, by simpa using q1⟩, ?_⟩
    rintro i m σ2 H2 ⟨rfl, hle, ρ2, R2, q2⟩
    obtain ⟨go, stop⟩ := ok (zD S σ2 ρ2) H2 i (fun a z => yY R2 z) fun x hx => R2.tmp x (List.mem_append_left _ hx)
    by_cases hlt : i < ds.length
    · obtain ⟨g1, g2⟩ := go hlt
      have ed : ds.drop i = ds[i] :: ds.drop (i + 1) := List.drop_eq_getElem_cons hlt
      rw [ed] at q2
      refine .inr ⟨g1, fun σ' H' => ∃ ρ', Rel Γ S H' σ' ρ' (τ' ++ τ) /\ zaL mg mb (ds.drop (i + 1)) N ρ', fun σ' H' h => ⟨ds.length - (i + 1), by omega, rfl, hlt, h⟩, fun x H' y => ?_⟩
      obtain ⟨same, d, hd, rx⟩ := g2 x H' y
      rw [List.getElem?_eq_getElem hlt] at hd
      cases hd
      refine hg S σ2 ρ2 H' (τ' ++ τ) x _ _ _ hp (R2.grow same) rx q2 fun σ3 H3 ρ3 R3 q3 => ?_
      exact hbd S σ3 ρ3 H3 (τ' ++ τ) _ _ hp R3 q3 (fun σ' H' ρ' R' q' => ⟨ρ', R', q'⟩) (fun v d σ' H' ρ' r' q' => hr v d σ' H' ρ' r'.cut q') (fun σ' H' ρ' R' q' => hn σ' H' ρ' R'.cut q') (fun σ' H' ρ' R' q' => ⟨ρ', R', q'⟩)
    · have e : i = ds.length := by omega
      subst e
      rw [List.drop_length] at q2
      exact .inl ⟨stop rfl, hn _ _ _ R2.cut q2⟩
def YT (c : MT) (b : MS) : Nat -> Qq -> Env -> Prop
  | 0, _, _ => False
  | n + 1, N, ρ => c ρ fun k ρ1 => if k = true then b { nx := fun ρ2 => YT c b n N ρ2, rt := N.rt, bk := N.nx, ct := fun ρ2 => YT c b n N ρ2 } ρ1 else N.nx ρ1
def zcP (c : MT) (b : MS) : MS := fun N ρ => ∃ n, YT c b n N ρ
theorem zi5 {tc : TT} {tb : TS} {mc : MT} {mb : MS} (h0 : JT Γ pn tc mc) (hbd : JS Γ pn fr tb mb) : JS Γ pn fr (zgR tc tb) (zcP mc mb) := fun S σ ρ H τ D N hp R hm hn hr hb hc => by
  obtain ⟨n, hm⟩ := hm
  refine ⟨fun m σ H => ∃ ρ, Rel Γ S H σ ρ τ /\ YT mc mb m N ρ, ⟨n, ρ, R, hm⟩, ?_⟩
  rintro m σ2 H2 ⟨ρ2, R2, q2⟩
  cases m with
  | zero => exact False.elim q2
  | succ m =>
    refine h0 S σ2 ρ2 H2 τ _ _ hp R2 q2 fun k H3 ρ3 R3 q3 => ?_
    cases k with
    | true =>
      rw [if_pos rfl] at q3 ⊢
      refine ⟨fun σ' H' => ∃ ρ', Rel Γ S H' σ' ρ' τ /\ YT mc mb m N ρ', fun σ' H' h => ⟨m, Nat.lt_succ_self _, h⟩, ?_⟩
      exact hbd S σ2 ρ3 H3 τ _ _ hp R3 q3 (fun σ' H' ρ' R' q' => ⟨ρ', R', q'⟩) hr (fun σ' H' ρ' R' q' => hn σ' H' ρ' R' q') (fun σ' H' ρ' R' q' => ⟨ρ', R', q'⟩)
    | false =>
      rw [if_neg Bool.false_ne_true] at q3 ⊢
      exact hn _ _ _ R3 q3
def JR (js : List (Option Nat)) (ρ : Env) : Env := js.map fun j => match j with | some j => (ρ[j]?).getD .no | none => .no
def Jw (ρ : Env) (j : Nat) (o : D) : Env := match ρ[j]? with | some (.own _) => ρ.set j (.own o) | _ => ρ
def jS (ρ : Env) (x : Option Nat) (s : Slot) : Env := match x, s with
  | some j, .own o => Jw ρ j o
  | _, _ => ρ
def zZ : List (Option Nat) -> Env -> Env -> Env
  | x :: js, s :: ρb, ρ => zZ js ρb (jS ρ x s)
  | _, _, ρ => ρ
def V4 (g : MG) (c : MT) (e : ME) : List D -> List D -> Env -> (List D -> Env -> Prop) -> Prop
  | [], acc, ρ, q => q acc ρ
  | d :: ds, acc, ρ, q => g d ρ fun ρ1 => c ρ1 fun b ρ2 => if b = true then e ρ2 fun y ρ3 => V4 g c e ds (acc ++ [y]) ρ3 q else V4 g c e ds acc ρ2 q
def V5 (mi : MI) (js : List (Option Nat)) (g : MG) (c : MT) (e : ME) : ME := fun ρ q => mi ρ fun ds ρ1 => ds.length <= 100000 /\ V4 g c e ds [] (JR js ρ1) fun ys ρb => q (.lst ys) (zZ js ρb ρ1)
def YU (js : List (Option Nat)) : List Nat := (List.range js.length).filter fun k => ((js[k]?).join).isSome
def mTT : MT := fun ρ q => q true ρ
theorem zog : JT Γ pn tTT mTT := fun S σ ρ H τ Q q hp R hm hq => hq true H ρ R hm
def Zn (js : List (Option Nat)) (σ : St) (ρ : Env) (k : Nat) : Option Addr := match (js[k]?).join with
  | some j => match ρ[j]?, σ[j]? with
    | some (.own _), some (some (.ref p)) => some p
    | _, _ => none
  | none => none
theorem Zc {js : List (Option Nat)} {σ : St} {ρ : Env} {k : Nat} {p : Addr} (h : Zn js σ ρ k = some p) : ∃ j o, js[k]? = some (some j) /\ ρ[j]? = some (.own o) /\ σ[j]? = some (some (.ref p)) := by
  unfold Zn at h
  cases e : js[k]? with
  | none => rw [e] at h; cases h
  | some x =>
    rw [e] at h
    cases x with
    | none => cases h
    | some j =>
      dsimp only [Option.join] at h
      refine ⟨j, ?_⟩
      have h : (match ρ[j]?, σ[j]? with
        | some (.own _), some (some (.ref p)) => some p
        | _, _ => none) = some p := h
      split at h
      · rename_i o q e1 e2
        cases h
        exact ⟨o, rfl, e1, e2⟩
      · cases h
theorem zaM {js : List (Option Nat)} {σ : St} {ρ : Env} {k j : Nat} {p : Addr} {o : D} (h1 : js[k]? = some (some j)) (h2 : ρ[j]? = some (.own o)) (h3 : σ[j]? = some (some (.ref p))) : Zn js σ ρ k = some p := by
  unfold Zn
  rw [h1]
  show (match ρ[j]?, σ[j]? with
        | some (.own _), some (some (.ref p)) => some p
        | _, _ => none) = some p
  rw [h2, h3]
def Fs.blk (S : Fs) (js : List (Option Nat)) (σ : St) (ρ : Env) (H : Hp) : Fs where
  C := fun a => zD S σ ρ a /\ ∀ k, Zn js σ ρ k ≠ some a
  H0 := H
  pin := Zn js σ ρ
theorem ZI {js : List (Option Nat)} {σ : St} {k j : Nat} (h : js[k]? = some (some j)) : (blk js σ)[k]? = some ((σ[j]?).join) := by
  unfold blk; rw [List.getElem?_map, h]; rfl
theorem zi6 {js : List (Option Nat)} {ρ : Env} {k j : Nat} (h : js[k]? = some (some j)) : (JR js ρ)[k]? = some ((ρ[j]?).getD .no) := by
  unfold JR; rw [List.getElem?_map, h]; rfl
theorem YV {js : List (Option Nat)} {ρ : Env} {k : Nat} {s : Slot} (h : (JR js ρ)[k]? = some s) (hs : s ≠ .no) : ∃ j, js[k]? = some (some j) /\ ρ[j]? = some s := by
  unfold JR at h
  rw [List.getElem?_map] at h
  cases e : js[k]? with
  | none => rw [e] at h; cases h
  | some x =>
    rw [e] at h
    cases x with
    | none => cases h; exact absurd rfl hs
    | some j =>
      refine ⟨j, rfl, ?_⟩
      simp only [Option.map_some, Option.some.injEq] at h
      cases q : ρ[j]? with
      | none => rw [q] at h; exact absurd h.symm hs
      | some u => rw [q] at h; cases h; rfl
def Once (js : List (Option Nat)) : Prop := ∀ (k k' j : Nat), js[k]? = some (some j) -> js[k']? = some (some j) -> k = k'
section
variable {S : Fs} {H : Hp} {σ : St} {ρ : Env} {τ : List (V × D)} {js : List (Option Nat)}
theorem Rel.blkEx (R : Rel Γ S H σ ρ τ) : ∀ a, zD (S.blk js σ ρ H) (blk js σ) (JR js ρ) a -> zD S σ ρ a := fun a h => by
  rcases h with h | ⟨k, ⟨o, ho⟩, e⟩
  · exact h.1
  · obtain ⟨j, hj, hr⟩ := YV ho (by simp)
    obtain ⟨p, e1, _⟩ := R.own j o hr
    rw [ZI hj, e1] at e
    cases e
    exact .inr ⟨j, ⟨o, hr⟩, e1⟩
theorem Rel.toBlk (R : Rel Γ S H σ ρ τ) (h1 : Once js) : Rel Γ (S.blk js σ ρ H) H (blk js σ) (JR js ρ) τ where
  len := by simp [blk, JR]
  val := fun k d h => by
    obtain ⟨j, hj, hr⟩ := YV h (by simp)
    obtain ⟨v, e, r⟩ := R.val j d hr
    exact ⟨v, by rw [ZI hj, e]; rfl, r.up (fun b _ => R.blkEx b) fun _ _ _ q => q⟩
  own := fun k o h => by
    obtain ⟨j, hj, hr⟩ := YV h (by simp)
    obtain ⟨p, e, r, n, pn⟩ := R.own j o hr
    have hc := zaM hj hr e
    exact ⟨p, by rw [ZI hj, e]; rfl, r.up (fun _ q => q) (fun b _ => R.blkEx b) fun _ _ _ q => q, fun z => z.2 k hc, .inl hc⟩
  pin := fun k p h => by
    obtain ⟨j, o, hj, hr, e⟩ := Zc h
    exact ⟨by rw [ZI hj, e]; rfl, o, by rw [zi6 hj, hr]; rfl⟩
  inj := fun k k' p hk hk' e1 e2 => by
    obtain ⟨o, ho⟩ := hk
    obtain ⟨o', ho'⟩ := hk'
    obtain ⟨j, hj, hr⟩ := YV ho (by simp)
    obtain ⟨j', hj', hr'⟩ := YV ho' (by simp)
    obtain ⟨p1, q1, _⟩ := R.own j o hr
    obtain ⟨p2, q2, _⟩ := R.own j' o' hr'
    rw [ZI hj, q1] at e1
    rw [ZI hj', q2] at e2
    cases e1; cases e2
    have := R.inj j j' _ ⟨o, hr⟩ ⟨o', hr'⟩ q1 q2
    subst this
    exact h1 k k' j hj hj'
  dom := fun a h => yY R h.1
  fr := fun b o h _ => h
  tmp := fun x hx => (R.tmp x hx).up (fun b _ => R.blkEx b) fun _ _ _ q => q
theorem zfV {ρ : Env} {j : Nat} {o : D} : (Jw ρ j o).length = ρ.length := by
  unfold Jw; split <;> simp
theorem zbn {ρ : Env} {i j : Nat} {o : D} (h : i ≠ j) : (Jw ρ i o)[j]? = ρ[j]? := by
  unfold Jw; split
  · exact getElem?_set_ne h
  · rfl
theorem zbo {ρ : Env} {j : Nat} {o : D} (h : yG ρ j) : (Jw ρ j o)[j]? = some (.own o) := by
  obtain ⟨u, hu⟩ := h
  unfold Jw
  rw [hu]
  dsimp only
  rw [List.getElem?_set, if_pos rfl, if_pos (List.getElem?_eq_some_iff.mp hu).1]
theorem zfW {ρ : Env} {x : Option Nat} {s : Slot} : (jS ρ x s).length = ρ.length := by
  unfold jS; split
  · exact zfV
  · rfl
theorem zhk {ρ : Env} {x : Option Nat} {s : Slot} {j : Nat} (h : x = some j -> ∀ o, s ≠ .own o) : (jS ρ x s)[j]? = ρ[j]? := by
  unfold jS; split
  · rename_i i o
    exact zbn fun z => h (by rw [z]) o rfl
  · rfl
theorem Va {ρ : Env} {x : Option Nat} {s : Slot} {j : Nat} : (jS ρ x s)[j]? = ρ[j]? \/ (yG ρ j /\ yG (jS ρ x s) j) := by
  unfold jS; split
  · rename_i i o
    by_cases e : i = j
    · subst e
      by_cases h : yG ρ i
      · exact .inr ⟨h, o, zbo h⟩
      · refine .inl ?_
        unfold Jw
        split
        · rename_i u hu; exact absurd ⟨u, hu⟩ h
        · rfl
    · exact .inl (zbn e)
  · exact .inl rfl
theorem Ry : ∀ {js : List (Option Nat)} {ρb ρ : Env}, (zZ js ρb ρ).length = ρ.length
  | [], _, _ => by simp [zZ]
  | x :: js, [], _ => by simp [zZ]
  | x :: js, s :: ρb, ρ => by rw [zZ, Ry, zfW]
theorem Vb : ∀ {js : List (Option Nat)} {ρb ρ : Env} {j : Nat}, (zZ js ρb ρ)[j]? = ρ[j]? \/ (yG ρ j /\ yG (zZ js ρb ρ) j)
  | [], _, _, _ => .inl (by simp [zZ])
  | x :: js, [], _, _ => .inl (by simp [zZ])
  | x :: js, s :: ρb, ρ, j => by
    rw [zZ]
    rcases Vb (js := js) (ρb := ρb) (ρ := jS ρ x s) (j := j) with h | ⟨h1, h2⟩
    · rcases Va (ρ := ρ) (x := x) (s := s) (j := j) with g | ⟨g1, g2⟩
      · exact .inl (h.trans g)
      · obtain ⟨o, ho⟩ := g2
        exact .inr ⟨g1, o, h.trans ho⟩
    · refine .inr ⟨?_, h2⟩
      rcases Va (ρ := ρ) (x := x) (s := s) (j := j) with g | ⟨g1, g2⟩
      · obtain ⟨o, ho⟩ := h1
        exact ⟨o, g.symm.trans ho⟩
      · exact g1
theorem ZU : ∀ {js : List (Option Nat)} {ρb ρ : Env} {j : Nat}, (∀ (k : Nat), js[k]? = some (some j) -> ∀ o, ρb[k]? ≠ some (Slot.own o)) -> (zZ js ρb ρ)[j]? = ρ[j]?
  | [], _, _, _, _ => by simp [zZ]
  | x :: js, [], ρ, j, _ => by simp [zZ]
  | x :: js, s :: ρb, ρ, j, h => by
    have h' : ∀ (k : Nat), js[k]? = some (some j) -> ∀ o, ρb[k]? ≠ some (Slot.own o) := fun k hk o => by
      have := h (k + 1) (by simpa using hk) o
      simpa using this
    rw [zZ, ZU h']
    exact zhk fun e o z => h 0 (by simp [e]) o (by simp [z])
theorem zbp : ∀ {js : List (Option Nat)} {ρb ρ : Env} {j k : Nat} {o : D}, Once js -> js[k]? = some (some j) -> ρb[k]? = some (Slot.own o) -> yG ρ j -> (zZ js ρb ρ)[j]? = some (Slot.own o)
  | [], _, _, _, _, _, _, h, _, _ => by simp at h
  | x :: js, [], _, _, _, _, _, _, h, _ => by simp at h
  | x :: js, s :: ρb, ρ, j, k, o, on, h1, h2, hl => by
    have on' : Once js := fun a b i ha hb => by
      have := on (a + 1) (b + 1) i (by simpa using ha) (by simpa using hb)
      omega
    rw [zZ]
    cases k with
    | zero =>
      simp at h1 h2
      subst h1 h2
      rw [ZU (fun k hk => ?_)]
      · exact zbo hl
      · have := on 0 (k + 1) j rfl (by simpa using hk)
        omega
    | succ k =>
      have h1' : js[k]? = some (some j) := by simpa using h1
      have h2' : ρb[k]? = some (Slot.own o) := by simpa using h2
      refine zbp on' h1' h2' ?_
      rcases Va (ρ := ρ) (x := x) (s := s) (j := j) with g | ⟨_, g2⟩
      · obtain ⟨u, hu⟩ := hl
        exact ⟨u, g.trans hu⟩
      · exact g2
theorem Rel.ofBlk {H2 : Hp} {σb : St} {ρb : Env} {τb : List (V × D)} (R : Rel Γ S H σ ρ τ) (h1 : Once js) (B : Rel Γ (S.blk js σ ρ H) H2 σb ρb τb) :
    Rel Γ S H2 σ (zZ js ρb ρ) τ /\ ∀ a, zD S σ (zZ js ρb ρ) a -> zD (S.blk js σ ρ H) σb ρb a := by
  have at_ : ∀ (j : Nat) (o : D), ρ[j]? = some (Slot.own o) -> (∃ (k : Nat) (o' : D), js[k]? = some (some j) /\ ρb[k]? = some (Slot.own o') /\ (zZ js ρb ρ)[j]? = some (Slot.own o')) \/ ((∀ (k : Nat), js[k]? ≠ some (some j)) /\ (zZ js ρb ρ)[j]? = some (Slot.own o)) := fun j o ho => by
    by_cases h : ∃ (k : Nat), js[k]? = some (some j)
    · obtain ⟨k, hk⟩ := h
      obtain ⟨p, e, _⟩ := R.own j o ho
      obtain ⟨_, o', ho'⟩ := B.pin k p (zaM hk ho e)
      exact .inl ⟨k, o', hk, ho', zbp h1 hk ho' ⟨o, ho⟩⟩
    · have h' : ∀ (k : Nat), js[k]? ≠ some (some j) := fun k hk => h ⟨k, hk⟩
      exact .inr ⟨h', by rw [ZU fun k hk => absurd hk (h' k)]; exact ho⟩
  have own_iff : ∀ j, yG (zZ js ρb ρ) j -> yG ρ j := fun j ⟨o, ho⟩ => by
    rcases Vb (js := js) (ρb := ρb) (ρ := ρ) (j := j) with g | ⟨g, _⟩
    · exact ⟨o, g.symm.trans ho⟩
    · exact g
  have exE : ∀ a, zD S σ (zZ js ρb ρ) a -> zD S σ ρ a := fun a h => by
    rcases h with h | ⟨j, hj, e⟩
    · exact .inl h
    · exact .inr ⟨j, own_iff j hj, e⟩
  have exB : ∀ a, zD S σ ρ a -> zD (S.blk js σ ρ H) σb ρb a := fun a h => by
    by_cases hc : ∃ k, Zn js σ ρ k = some a
    · obtain ⟨k, hk⟩ := hc
      obtain ⟨e, ow⟩ := B.pin k a hk
      exact .inr ⟨k, ow, e⟩
    · exact .inl ⟨h, fun k z => hc ⟨k, z⟩⟩
  have keepc : ∀ b u, (∀ k, Zn js σ ρ k ≠ some b) -> H b = some u -> H2 b = some u := fun b u n q => B.fr b u q n
  have captEx : ∀ k b, Zn js σ ρ k = some b -> zD S σ ρ b := fun k b h => by
    obtain ⟨j, o, _, hr, e⟩ := Zc h
    exact .inr ⟨j, ⟨o, hr⟩, e⟩
  have keep : ∀ b u, ¬ zD S σ ρ b -> H b = some u -> H2 b = some u := fun b u n q => keepc b u (fun k z => n (captEx k b z)) q
  refine ⟨?_, fun a h => exB a (exE a h)⟩
  exact {
    len := by rw [Ry]; exact R.len
    val := fun j d hj => by
      have hr : ρ[j]? = some (.val d) := by
        rcases Vb (js := js) (ρb := ρb) (ρ := ρ) (j := j) with g | ⟨_, o, g⟩
        · exact g.symm.trans hj
        · rw [hj] at g; cases g
      obtain ⟨v, e, r⟩ := R.val j d hr
      exact ⟨v, e, r.up (fun b _ => exE b) keep⟩
    own := fun j o hj => by
      obtain ⟨o0, ho⟩ := own_iff j ⟨o, hj⟩
      obtain ⟨p, e, r, n, pn⟩ := R.own j o0 ho
      refine ⟨p, e, ?_, n, pn⟩
      rcases at_ j o0 ho with ⟨k, o', hk, ho', hm⟩ | ⟨hk, hm⟩
      · rw [hm] at hj; cases hj
        have hc := zaM hk ho e
        obtain ⟨e2, _⟩ := B.pin k p hc
        obtain ⟨p', e3, r', _⟩ := B.own k o ho'
        rw [e2] at e3; cases e3
        exact r'.up (fun _ q => q) (fun b _ z => exB b (exE b z)) fun _ _ _ q => q
      · rw [hm] at hj; cases hj
        refine r.up (fun u q => keepc p u (fun k z => ?_) q) (fun b _ => exE b) keep
        obtain ⟨j', o', hk', hr', e'⟩ := Zc z
        have := R.inj j j' p ⟨o, ho⟩ ⟨o', hr'⟩ e e'
        subst this
        exact hk k hk'
    pin := fun j p hj => by
      obtain ⟨e, o, ho⟩ := R.pin j p hj
      refine ⟨e, ?_⟩
      rcases at_ j o ho with ⟨k, o', _, _, hm⟩ | ⟨_, hm⟩
      · exact ⟨o', hm⟩
      · exact ⟨o, hm⟩
    inj := fun i j p hi hj e1 e2 => R.inj i j p (own_iff i hi) (own_iff j hj) e1 e2
    dom := fun a ha => by
      by_cases hc : ∃ k, Zn js σ ρ k = some a
      · obtain ⟨k, hk⟩ := hc
        obtain ⟨e, o, ho⟩ := B.pin k a hk
        obtain ⟨p, e', r, _⟩ := B.own k o ho
        rw [e] at e'; cases e'
        exact r.ne0
      · cases q : H a with
        | none => exact absurd q (R.dom a ha)
        | some u => rw [keepc a u (fun k z => hc ⟨k, z⟩) q]; simp
    fr := fun b u h0 n => by
      refine keepc b u (fun k z => ?_) (R.fr b u h0 n)
      obtain ⟨j, o, _, hr, e⟩ := Zc z
      obtain ⟨p, e', _, _, pn⟩ := R.own j o hr
      rw [e] at e'; cases e'
      rcases pn with q | ⟨_, q⟩
      · exact n j q
      · rw [q] at h0; cases h0
    tmp := fun x hx => (R.tmp x hx).up (fun b _ => exE b) keep }
end
end
end M
namespace M
open PySem L2
section
variable {Γ : Cn} {pn : List Nat} {fr : Bool}
theorem zi7 {S : Fs} {js : List (Option Nat)} {σ : St} {ρ : Env} {H : Hp} : Jd (YU js) (S.blk js σ ρ H) := fun k hk => by
  show Zn js σ ρ k = none
  cases e : Zn js σ ρ k with
  | none => rfl
  | some p =>
    obtain ⟨j, o, hj, _⟩ := Zc e
    refine absurd (List.mem_filter.mpr ⟨List.mem_range.mpr (List.getElem?_eq_some_iff.mp hj).1, ?_⟩) hk
    rw [hj]; rfl
theorem zi8 {α β : Type} {xs : List α} {ys : List β} {x : α} {y : β} (h : ys.length = xs.length) : (xs ++ [x]).zip (ys ++ [y]) = xs.zip ys ++ [(x, y)] := by
  rw [List.zip_append h.symm]; rfl
theorem zaN {wi : TI} {js : List (Option Nat)} {g : TG} {tc : TT} {te : TE} {mi : MI} {mg : MG} {mc : MT} {me : ME} (h1 : Once js) (hi : JI Γ pn wi mi) (hg : JG Γ (YU js) g mg) (hc : JT Γ (YU js) tc mc) (he : JE Γ (YU js) te me) :
    JF Γ pn (zfH wi js g tc te) (V5 mi js mg mc me) := fun S σ ρ H τ Q q hp R hm hq =>
  hi S σ ρ H τ _ _ hp R hm fun J ds H1 ρ1 τ' R1 ok ⟨hlen, q1⟩ => by
    have line : (100000 : Nat) < sizeLine := by decide
    refine ⟨fun i m ys σ' H' => m = ds.length - i /\ i <= ds.length /\ ys.length <= i /\ ∃ ρb acc, acc.length = ys.length /\ Rel Γ (S.blk js σ ρ1 H1) H' σ' ρb (ys.zip acc ++ (τ' ++ τ)) /\ V4 mg mc me (ds.drop i) acc ρb fun ys ρb => q (.lst ys) (zZ js ρb ρ1),
      ⟨ds.length, by simp, Nat.zero_le _, Nat.le_refl _, JR js ρ1, [], rfl, R1.toBlk h1, by simpa using q1⟩, ?_⟩
    rintro i m ys σ2 H2 ⟨rfl, hle, hyl, ρ2, acc, hacc, R2, q2⟩
    obtain ⟨go, stop⟩ := ok (zD (S.blk js σ ρ1 H1) σ2 ρ2) H2 i (fun a z => yY R2 z) fun x hx => R2.tmp x (List.mem_append_right _ (List.mem_append_left _ hx))
    by_cases hlt : i < ds.length
    · obtain ⟨g1, g2⟩ := go hlt
      have ed : ds.drop i = ds[i] :: ds.drop (i + 1) := List.drop_eq_getElem_cons hlt
      rw [ed] at q2
      refine .inr ⟨g1, by omega, fun ys' σ' H' => ys'.length <= i + 1 /\ ∃ ρb acc, acc.length = ys'.length /\ Rel Γ (S.blk js σ ρ1 H1) H' σ' ρb (ys'.zip acc ++ (τ' ++ τ)) /\ V4 mg mc me (ds.drop (i + 1)) acc ρb fun ys ρb => q (.lst ys) (zZ js ρb ρ1),
        fun ys' σ' H' h => ⟨ds.length - (i + 1), by omega, rfl, hlt, h.1, h.2⟩, fun x H' y => ?_⟩
      obtain ⟨same, d, hd, rx⟩ := g2 x H' y
      rw [List.getElem?_eq_getElem hlt] at hd
      cases hd
      refine hg _ σ2 ρ2 H' _ x _ _ _ zi7 (R2.grow same) rx q2 fun σ3 H3 ρ3 R3 q3 => ?_
      refine hc _ σ3 ρ3 H3 _ _ _ zi7 R3 q3 fun b H4 ρ4 R4 q4 => ?_
      cases b with
      | false =>
        rw [if_neg Bool.false_ne_true] at q4 ⊢
        exact ⟨by omega, ρ4, acc, hacc, R4, q4⟩
      | true =>
        rw [if_pos rfl] at q4 ⊢
        refine he _ σ3 ρ4 H4 _ _ _ zi7 R4 q4 fun y d H5 ρ5 R5 r5 q5 => ?_
        refine ⟨by simp; omega, ρ5, acc ++ [d], by simp [hacc], { R5 with tmp := fun z hz => ?_ }, q5⟩
        rw [zi8 hacc] at hz
        rcases List.mem_append.mp hz with hz | hz
        · rcases List.mem_append.mp hz with hz | hz
          · exact R5.tmp z (List.mem_append_left _ hz)
          · have e : z = (y, d) := by simpa using hz
            subst e; exact r5
        · exact R5.tmp z (List.mem_append_right _ hz)
    · have e : i = ds.length := by omega
      subst e
      rw [List.drop_length] at q2
      refine .inl ⟨stop rfl, by omega, fun p hn => ?_⟩
      obtain ⟨R3, sub⟩ := R1.ofBlk h1 R2
      have rs := (R2.pops hacc.symm).2
      have rs' : Reps Γ (zD S σ (zZ js ρ2 ρ1)) H2 ys acc := rs.up (fun b _ => sub b) fun _ _ _ z => z
      obtain ⟨a, b, c, d⟩ := Jv R3 rs' hn
      exact hq p _ _ _ a.cut b c d q2
theorem Ui {S : Fs} {H : Hp} {σ : St} {ρ : Env} {τ : List (V × D)} {i : Nat} {ds : List D} (R : Rel Γ S H σ ρ τ) (h : ρ[i]? = some (.own (.lst ds))) : ∃ p xs, σ[i]? = some (some (.ref p)) /\ H p = some (.lst xs) /\ Reps Γ (zD S σ ρ) H xs ds := by
  obtain ⟨p, e, ⟨xs, hx, r⟩, _⟩ := R.own i _ h
  exact ⟨p, xs, e, hx, r⟩
theorem Rel.lset {S : Fs} {H : Hp} {σ : St} {ρ : Env} {τ : List (V × D)} {i : Nat} {ds es : List D} {p : Addr} {ys : List V} (R : Rel Γ S H σ ρ τ) (h : ρ[i]? = some (.own (.lst ds))) (e : σ[i]? = some (some (.ref p))) (r : Reps Γ (zD S σ ρ) H ys es) :
    Rel Γ S (zX H p (.lst ys)) σ (ρ.set i (.own (.lst es))) τ := by
  have hk : ∀ b u, b ≠ p -> H b = some u -> zX H p (.lst ys) b = some u := fun b u n q => by rw [zM n]; exact q
  refine R.write h e hk ⟨ys, je, r.up (fun _ _ z => z) fun b o n q => hk b o (fun z => n ?_) q⟩
  rw [z]; exact .inr ⟨i, ⟨_, h⟩, e⟩
def WS (s : Option Slot) (k : List D -> Prop) : Prop := match s with | some (.own (.lst ds)) => k ds | _ => False
theorem V6 {s : Option Slot} {k : List D -> Prop} (h : WS s k) : ∃ ds, s = some (.own (.lst ds)) /\ k ds := by
  unfold WS at h
  split at h
  · exact ⟨_, rfl, h⟩
  · exact False.elim h
def Yj (f : List D -> D -> (D -> List D -> Prop) -> Prop) (i : Nat) (a : ME) : ME := fun ρ q => WS ρ[i]? fun _ => a ρ fun d ρ1 => WS ρ1[i]? fun ds => f ds d fun r es => q r (ρ1.set i (.own (.lst es)))
theorem zaO {r : V -> List V -> Hp -> VK -> Prop} {f : List D -> D -> (D -> List D -> Prop) -> Prop} {i : Nat} {ta : TE} {a : ME} (ha : JE Γ pn ta a)
    (hr : ∀ (E : Addr -> Prop) (H : Hp) (p : Addr) (xs : List V) (ds : List D) (y : V) (d : D) (Q : VK) (q : D -> List D -> Prop), H p = some (.lst xs) -> Reps Γ E H xs ds -> Rep Γ E H y d -> f ds d q -> (∀ v ys r es, Rep Γ E H v r -> Reps Γ E H ys es -> q r es -> Q v (zX H p (.lst ys))) -> r (.ref p) [y] H Q) :
    JE Γ pn (tBM Γ.K "list" r (Qn i) (JC ta Zm)) (Yj f i a) := fun S σ ρ H τ Q q hp R hm hq => by
  obtain ⟨_, h0, hm⟩ := V6 hm
  obtain ⟨p, xs, e, hx, rs⟩ := Ui R h0
  refine ⟨_, e, .inl ⟨rfl, xs, .inl (.inl hx)⟩, ?_⟩
  refine ha S σ ρ H τ _ _ hp R hm fun y d H1 ρ1 R1 r1 q1 => ?_
  obtain ⟨ds, h1, q1⟩ := V6 q1
  obtain ⟨p', xs', e', hx', rs'⟩ := Ui R1 h1
  rw [e] at e'; cases e'
  refine hr (zD S σ ρ1) H1 p xs' ds y d Q _ hx' rs' r1 q1 fun v ys r es rv re q' => ?_
  have hk : ∀ b u, ¬ zD S σ ρ1 b -> H1 b = some u -> zX H1 p (.lst ys) b = some u := fun b u n z => by rw [zM (fun w => n (by rw [w]; exact .inr ⟨i, ⟨_, h1⟩, e⟩))]; exact z
  refine hq v r _ _ (R1.lset h1 e re) (rv.up (fun b _ z => ?_) hk) q'
  rcases z with z | ⟨j, ⟨o, ho⟩, ej⟩
  · exact .inl z
  · by_cases ij : i = j
    · subst ij; exact .inr ⟨i, ⟨_, h1⟩, ej⟩
    · rw [getElem?_set_ne ij] at ho; exact .inr ⟨j, ⟨o, ho⟩, ej⟩
def zaP : List D -> D -> (D -> List D -> Prop) -> Prop := fun ds d q => ds.length < 100000 /\ q .non (ds ++ [d])
theorem zhl {i : Nat} {ta : TE} {a : ME} (ha : JE Γ pn ta a) : JE Γ pn (tBM Γ.K "list" zev (Qn i) (JC ta Zm)) (Yj zaP i a) :=
  zaO ha fun E H p xs ds y d Q q hx rs ry ⟨hl, hq⟩ k => ⟨p, xs, y, rfl, rfl, hx, by rw [rs.1]; exact Nat.lt_trans hl (by decide), k _ _ _ _ .non (rs.append (.cons ry .nil)) hq⟩
def zaQ : List D -> D -> (D -> List D -> Prop) -> Prop := fun ds d q => match d with | .lst es => ds.length + es.length <= 100000 /\ q .non (ds ++ es) | _ => False
theorem zhm {i : Nat} {ta : TE} {a : ME} (ha : JE Γ pn ta a) : JE Γ pn (tBM Γ.K "list" zew (Qn i) (JC ta Zm)) (Yj zaQ i a) :=
  zaO ha fun E H p xs ds y d Q q hx rs ry hm k => by
    cases d with
    | lst es =>
      obtain ⟨b, zs, rfl, hb, rz⟩ := ry.list
      exact ⟨p, b, xs, zs, rfl, rfl, hx, hb, by rw [rs.1, rz.1]; exact Nat.le_trans hm.1 (by decide), k _ _ _ _ .non (rs.append rz) hm.2⟩
    | _ => exact False.elim hm
def zi9 : List D -> D -> (D -> List D -> Prop) -> Prop := fun ds d q => match d with
  | .int j => (0 <= j /\ j.toNat < ds.length /\ ds.length < 100000) /\ q (ds.getD j.toNat .non) (ds.eraseIdx j.toNat)
  | _ => False
theorem zcQ {j : Int} {n : Nat} (h0 : 0 <= j) (h1 : j.toNat < n) : seqIndex? j n = some j.toNat := by
  unfold seqIndex?
  first
    | (simp; omega)
    | (split <;> first | rfl | omega | (simp; omega))
theorem znc {i : Nat} {ta : TE} {a : ME} (ha : JE Γ pn ta a) : JE Γ pn (tBM Γ.K "list" zg_ (Qn i) (JC ta Zm)) (Yj zi9 i a) :=
  zaO ha fun E H p xs ds y d Q q hx rs ry hm k => by
    cases d with
    | int j =>
      obtain ⟨⟨h0, h1, h2⟩, hq⟩ := hm
      cases YQ ry
      have hl : j.toNat < xs.length := by rw [rs.1]; exact h1
      refine ⟨p, xs, j, j.toNat, xs[j.toNat], rfl, rfl, hx, by omega, by omega, zcQ h0 hl, List.getElem?_eq_getElem hl, k _ _ _ _ (rs.2 j.toNat _ _ (List.getElem?_eq_getElem hl) ?_) (rs.eraseIdx _) hq⟩
      rw [List.getD_eq_getElem?_getD, List.getElem?_eq_getElem h1]; rfl
    | _ => exact False.elim hm
def Rz (i : Nat) (a v : ME) : MS := fun N ρ => v ρ fun d ρ0 => WS ρ0[i]? fun _ => a ρ0 fun x ρ1 => WS ρ1[i]? fun ds => match x with
  | .int j => (0 <= j /\ j.toNat < ds.length) /\ N.nx (ρ1.set i (.own (.lst (ds.set j.toNat d))))
  | _ => False
theorem zi_ {i : Nat} {tv ta : TE} {v a : ME} (hv : JE Γ pn tv v) (ha : JE Γ pn ta a) : JS Γ pn fr (zaE tv (zmm (Qn i) ta zke)) (Rz i a v) := fun S σ ρ H τ D N hp R hm hn hr hb hc =>
  hv S σ ρ H τ _ _ hp R hm fun w d H0 ρ0 R0 r0 q0 => by
    obtain ⟨_, h0, q0⟩ := V6 q0
    obtain ⟨p, xs, e, hx, rs⟩ := Ui R0 h0
    refine ⟨_, e, ?_⟩
    refine ha S σ ρ0 H0 ((w, d) :: τ) _ _ hp (R0.push r0) q0 fun y x H1 ρ1 R1 r1 q1 => ?_
    obtain ⟨ds, h1, q1⟩ := V6 q1
    cases x with
    | int j =>
      obtain ⟨⟨j0, j1⟩, q1⟩ := q1
      cases YQ r1
      obtain ⟨p', xs', e', hx', rs'⟩ := Ui R1 h1
      rw [e] at e'; cases e'
      have hl : j.toNat < xs'.length := by rw [rs'.1]; exact j1
      refine ⟨p, xs', j, j.toNat, rfl, rfl, hx', ?_, hn _ _ _ (R1.pop.1.lset h1 e (rs'.set _ R1.pop.2)) q1⟩
      unfold JN
      rw [if_pos j0, if_pos (by omega)]
    | _ => exact False.elim q1
def V7 : List (Nat × D) -> Nat -> (D -> Prop) -> Prop
  | [], _, _ => False
  | (g, d) :: r, f, k => if g = f then k d else V7 r f k
def zja (f : Nat) : F1 := fun d q => match d with | .obj c fs => 11 <= c /\ V7 fs f q | _ => False
theorem Ww {E : Addr -> Prop} {H : Hp} {f : Nat} {k : D -> Prop} (hf : f < fNames.length) : ∀ {gs : List (Str × V)} {fs : List (Nat × D)}, (gs.map (·.1) = fs.map fun x => yy x.1) -> Reps Γ E H (gs.map (·.2)) (fs.map (·.2)) -> V7 fs f k -> ∃ v d, gs.lookup (yy f) = some v /\ Rep Γ E H v d /\ k d
  | [], [], _, _, h => False.elim h
  | [], _ :: _, h, _, _ => by cases h
  | _ :: _, [], h, _, _ => by cases h
  | (a, v) :: gs, (b, e) :: fs, h, r, hl => by
    simp only [List.map_cons, List.cons.injEq] at h
    obtain ⟨rfl, h⟩ := h
    have r' : Reps Γ E H (v :: gs.map (·.2)) (e :: fs.map (·.2)) := r
    have hl : (if b = f then k e else V7 fs f k) := hl
    by_cases q : b = f
    · subst q
      rw [if_pos rfl] at hl
      exact ⟨v, e, by simp, r'.head, hl⟩
    · rw [if_neg q] at hl
      have hne : (yy f == yy b) = false := beq_eq_false_iff_ne.mpr fun z => q (zeD b f hf z.symm)
      obtain ⟨w, d, h1, h2⟩ := Ww hf h r'.tail hl
      exact ⟨w, d, by rw [List.lookup_cons, hne]; exact h1, h2⟩
def Zo (Γ : Cn) (f : Str) : Prop := ∀ c C, 11 <= c -> Γ.cls c = some C -> Cls Γ.K C /\ NoAttr Γ.K C f
theorem znd {f : Nat} {ta : TE} {a : MO} (hf : f < fNames.length) (hn : Zo Γ (yy f)) (ha : JO Γ pn ta a) : JE Γ pn (zmC Γ.K ta (yy f)) (QM (zja f) a) := fun S σ ρ H τ Q q hp R hm hq =>
  ha S σ ρ H τ _ _ hp R hm fun v r1 H1 ρ1 τ1 R1 o1 q1 => by
    obtain ⟨dx, rx, q1⟩ := R1.read o1 q1
    cases dx with
    | obj c fs =>
      obtain ⟨x, C, dx, gs, rfl, hc, hx, hl, rs⟩ := rx
      obtain ⟨h11, q1⟩ := q1
      obtain ⟨w, d, hw, rw', q1⟩ := Ww hf hl rs q1
      exact ⟨x, C, dx, gs, w, rfl, hx, (hn c C h11 hc).1, (hn c C h11 hc).2, hw, hq w d H1 ρ1 R1.cut rw' q1⟩
    | _ => exact False.elim q1
def ZV (f : Nat) (d : D) : List (Nat × D) -> List (Nat × D)
  | [] => [(f, d)]
  | (g, e) :: r => if g = f then (g, d) :: r else (g, e) :: ZV f d r
theorem zcR {E : Addr -> Prop} {H : Hp} {f : Nat} {v : V} {d : D} (hf : f < fNames.length) (rv : Rep Γ E H v d) : ∀ {gs : List (Str × V)} {fs : List (Nat × D)}, (gs.map (·.1) = fs.map fun x => yy x.1) -> Reps Γ E H (gs.map (·.2)) (fs.map (·.2)) ->
    ((jN (yy f) v gs).map (·.1) = (ZV f d fs).map fun x => yy x.1) /\ Reps Γ E H ((jN (yy f) v gs).map (·.2)) ((ZV f d fs).map (·.2))
  | [], [], _, _ => ⟨rfl, .cons rv .nil⟩
  | [], _ :: _, h, _ => by cases h
  | _ :: _, [], h, _ => by cases h
  | (a, w) :: gs, (b, e) :: fs, h, r => by
    simp only [List.map_cons, List.cons.injEq] at h
    obtain ⟨rfl, h⟩ := h
    have r' : Reps Γ E H (w :: gs.map (·.2)) (e :: fs.map (·.2)) := r
    by_cases q : b = f
    · subst q
      rw [show jN (yy b) v ((yy b, w) :: gs) = (yy b, v) :: gs from if_pos rfl, show ZV b d ((b, e) :: fs) = (b, d) :: fs from if_pos rfl]
      exact ⟨by simp [h], .cons rv r'.tail⟩
    · have hne : ¬ yy b = yy f := fun z => q (zeD b f hf z)
      rw [show jN (yy f) v ((yy b, w) :: gs) = (yy b, w) :: jN (yy f) v gs from if_neg hne, show ZV f d ((b, e) :: fs) = (b, e) :: ZV f d fs from if_neg q]
      obtain ⟨i1, i2⟩ := zcR hf rv h r'.tail
      exact ⟨by rw [List.map_cons, List.map_cons, i1], .cons r'.head i2⟩
def zfX (s : Option Slot) (k : Nat -> List (Nat × D) -> Prop) : Prop := match s with | some (.own (.obj c fs)) => k c fs | _ => False
theorem zll {s : Option Slot} {k : Nat -> List (Nat × D) -> Prop} (h : zfX s k) : ∃ c fs, s = some (.own (.obj c fs)) /\ k c fs := by
  unfold zfX at h
  split at h
  · exact ⟨_, _, rfl, h⟩
  · exact False.elim h
def zcg (i : Nat) (f : Nat) (m : ME) : MS := fun N ρ => m ρ fun d ρ1 => zfX ρ1[i]? fun c fs => 11 <= c /\ fs.length < 100 /\ N.nx (ρ1.set i (.own (.obj c (ZV f d fs))))
theorem zlm {i f : Nat} {tv : TE} {m : ME} (hf : f < fNames.length) (hn : Zo Γ (yy f)) (hv : JE Γ pn tv m) : JS Γ pn fr (zmD Γ.K (Qn i) tv (yy f)) (zcg i f m) := fun S σ ρ H τ D N hp R hm hnx hr hb hc =>
  hv S σ ρ H τ _ _ hp R hm fun w d H1 ρ1 R1 r1 q1 => by
    obtain ⟨c, fs, h1, h11, hl, q1⟩ := zll q1
    obtain ⟨p, e, ⟨C, dx, gs, hc', hx, hk, rs⟩, _⟩ := R1.own i _ h1
    have hlen : gs.length = fs.length := by have := congrArg List.length hk; simpa using this
    have keep : ∀ b u, b ≠ p -> H1 b = some u -> zX H1 p (.ins C dx (jN (yy f) w gs)) b = some u := fun b u n q => by rw [zM n]; exact q
    obtain ⟨k1, k2⟩ := zcR hf r1 hk rs
    refine ⟨_, e, p, C, dx, gs, rfl, hx, (hn c C h11 hc').1, (hn c C h11 hc').2, by omega, hnx _ _ _ (R1.write (o' := .obj c (ZV f d fs)) h1 e keep ⟨C, dx, _, hc', je, k1, k2.up (fun _ _ z => z) fun b o n q => keep b o (fun z => n ?_) q⟩) q1⟩
    rw [z]; exact .inr ⟨i, ⟨_, h1⟩, e⟩
end
end M
namespace M
open PySem L2
abbrev JQ := List Slot -> (D -> List D -> Prop) -> (D -> List D -> Prop) -> Prop
def Uj : List Nat -> Env -> (List D -> Prop) -> Prop
  | [], _, k => k []
  | i :: r, ρ, k => match ρ[i]? with | some (.own o) => Uj r ρ fun os => k (o :: os) | _ => False
def zjb (pn : List Nat) (ρ : Env) (os : List D) : Prop := os.length = pn.length /\ ∀ (k i : Nat) o, pn[k]? = some i -> os[k]? = some o -> ρ[i]? = some (.own o)
theorem zeH : ∀ {pn : List Nat} {ρ : Env} {k : List D -> Prop}, Uj pn ρ k -> ∃ os, zjb pn ρ os /\ k os
  | [], ρ, k, h => ⟨[], ⟨rfl, fun k i o h => by simp at h⟩, h⟩
  | i :: r, ρ, k, h => by
    unfold Uj at h
    split at h
    · rename_i o ho
      obtain ⟨os, ⟨hl, hp⟩, hk⟩ := zeH h
      refine ⟨o :: os, ⟨by simp [hl], fun j x u h1 h2 => ?_⟩, hk⟩
      cases j with
      | zero => simp at h1 h2; subst h1 h2; exact ho
      | succ j => simp at h1 h2; exact hp j x u h1 h2
    · exact False.elim h
def Z0 : D -> List D -> Prop := fun _ _ => False
def z9 (Γ : Cn) (pn : List Nat) (fr : Bool) (n : Nat) (p : JQ) : Sp := fun vs H Q _ => vs.length = n /\ ∃ (S : Fs) (ss : List Slot) (q : D -> List D -> Prop), Jd pn S /\ S.H0 = H /\ Rel Γ S H (vs.map some) ss [] /\ p ss q Z0 /\
  ∀ v d H' σ' ρ' os, RR Γ fr S σ' ρ' H' [] v d -> zjb pn ρ' os -> q d os -> Q v H'
section
variable {Γ : Cn} {pn : List Nat} {fr : Bool}
theorem QN {α : Type} {l : List α} {n i : Nat} {x y : α} (h : (l ++ List.replicate n x)[i]? = some y) (hy : y ≠ x) : l[i]? = some y := by
  by_cases hi : i < l.length
  · rwa [List.getElem?_append_left hi] at h
  · rw [List.getElem?_append_right (by omega), List.getElem?_replicate] at h
    split at h
    · cases h; exact absurd rfl hy
    · cases h
theorem Uk {α : Type} {l m : List α} {i : Nat} {y : α} (h : l[i]? = some y) : (l ++ m)[i]? = some y := by
  rw [List.getElem?_append_left (List.getElem?_eq_some_iff.mp h).1]; exact h
theorem Rel.ext {S : Fs} {H : Hp} {σ : St} {ρ : Env} {τ : List (V × D)} (R : Rel Γ S H σ ρ τ) (n : Nat) : Rel Γ S H (σ ++ List.replicate n none) (ρ ++ List.replicate n .no) τ := by
  have ow : ∀ i, yG (ρ ++ List.replicate n .no) i -> yG ρ i := fun i ⟨o, h⟩ => ⟨o, QN h (by simp)⟩
  have he : ∀ b, zD S (σ ++ List.replicate n none) (ρ ++ List.replicate n .no) b -> zD S σ ρ b := fun b h => by
    rcases h with h | ⟨i, hi, e⟩
    · exact .inl h
    · exact .inr ⟨i, ow i hi, QN e (by simp)⟩
  exact {
    len := by simp [R.len]
    val := fun i d h => let ⟨v, e, r⟩ := R.val i d (QN h (by simp)); ⟨v, Uk e, r.up (fun b _ => he b) fun _ _ _ z => z⟩
    own := fun i o h => let ⟨p, e, r, q⟩ := R.own i o (QN h (by simp)); ⟨p, Uk e, r.up (fun _ z => z) (fun b _ => he b) fun _ _ _ z => z, q⟩
    pin := fun i p h => let ⟨e, o, q⟩ := R.pin i p h; ⟨Uk e, o, Uk q⟩
    inj := fun i j p hi hj e1 e2 => R.inj i j p (ow i hi) (ow j hj) (QN e1 (by simp)) (QN e2 (by simp))
    dom := R.dom
    fr := R.fr
    tmp := fun x hx => (R.tmp x hx).up (fun b _ => he b) fun _ _ _ z => z }
theorem Ul {S : Fs} {H : Hp} {σ : St} {ρ : Env} {τ : List (V × D)} {vs : List V} {ds : List D} (R : Rel Γ S H σ ρ τ) (r : Reps Γ (zD S σ ρ) H vs ds) :
    Rel Γ ⟨zD S σ ρ, H, fun _ => none⟩ H (vs.map some) (ds.map .val) [] := by
  have no : ∀ i, ¬ yG (ds.map Slot.val) i := fun i ⟨o, h⟩ => by
    rw [List.getElem?_map] at h
    cases e : ds[i]? with
    | none => rw [e] at h; cases h
    | some d => rw [e] at h; cases h
  have he : ∀ b, zD ⟨zD S σ ρ, H, fun _ => none⟩ (vs.map some) (ds.map .val) b -> zD S σ ρ b := fun b h => h.elim id fun ⟨i, hi, _⟩ => absurd hi (no i)
  exact {
    len := by simp [r.1]
    val := fun i d h => by
      rw [List.getElem?_map] at h
      cases e : ds[i]? with
      | none => rw [e] at h; cases h
      | some d' =>
        rw [e] at h; cases h
        obtain ⟨v, h1, h2⟩ := r.get e
        exact ⟨v, by rw [List.getElem?_map, h1]; rfl, h2.up (fun b _ => he b) fun _ _ _ z => z⟩
    own := fun i o h => absurd ⟨o, h⟩ (no i)
    pin := fun i p h => by cases h
    inj := fun i j p hi => absurd hi (no i)
    dom := fun a h => yY R h
    fr := fun b o h _ => h
    tmp := fun x h => nomatch h }
def V8 (p : JQ) (a : MA) : ME := fun ρ q => a ρ fun ds ρ1 => p (ds.map .val) (fun d _ => q d ρ1) Z0
theorem Um {S : Fs} {H H' : Hp} {σ σ' : St} {ρ ρ' : Env} {τ : List (V × D)} {v : V} {d : D} (R : Rel Γ S H σ ρ τ) (R' : Rel Γ ⟨zD S σ ρ, H, fun _ => none⟩ H' σ' ρ' []) (r : Rep Γ (zD ⟨zD S σ ρ, H, fun _ => none⟩ σ' ρ') H' v d) :
    Rel Γ S H' σ ρ τ /\ Rep Γ (zD S σ ρ) H' v d :=
  ⟨R.grow fun b o h => R'.fr b o h fun i => by simp, r.up (fun b _ z => .inl z) fun _ _ _ z => z⟩
theorem je_call {n : Nat} {p : JQ} {ta : TA} {a : MA} (ha : JA Γ pn ta a) (hn : ∀ ss q, p ss q Z0 -> ss.length = n) : JE Γ pn (V0 (z9 Γ [] false n p) [] E0 ta) (V8 p a) := fun S σ ρ H τ Q q hp R hm hq =>
  ha S σ ρ H τ _ _ hp R hm fun vs ds H1 ρ1 R1 r1 q1 => by
    rw [List.append_nil]
    have hl := hn _ _ q1
    refine ⟨by rw [r1.1]; simpa using hl, ⟨zD S σ ρ1, H1, fun _ => none⟩, ds.map .val, _, fun _ _ => rfl, rfl, Ul R1 r1, q1, fun v d H' σ' ρ' os ⟨R', r'⟩ _ q' => ?_⟩
    obtain ⟨a, b⟩ := Um R1 R' r'
    exact hq v d H' ρ1 a b q'
def Vc (j : Nat) (p : JQ) (a : MA) : ME := fun ρ q => match ρ[j]? with
  | some (.own _) => a ρ fun ds ρ1 => match ρ1[j]? with
    | some (.own o) => p (.own o :: ds.map .val) (fun d os => match os with | [o'] => q d (ρ1.set j (.own o')) | _ => False) Z0
    | _ => False
  | _ => False
def Vd (x : Addr) : Nat -> Option Addr := fun i => if i = 0 then some x else none
theorem zbq {S : Fs} {H : Hp} {σ : St} {ρ : Env} {τ : List (V × D)} {vs : List V} {ds : List D} {E : Addr -> Prop} {x : Addr} {o : D} (hd : ∀ a, E a -> H a ≠ none) (r : Reps Γ (fun a => E a \/ a = x) H vs ds) (ow : OwnAt Γ (fun a => E a \/ a = x) H x o) (nx : ¬ E x) :
    Rel Γ ⟨E, H, Vd x⟩ H (some (.ref x) :: vs.map some) (.own o :: ds.map .val) [] := by
  have no : ∀ i, yG (.own o :: ds.map Slot.val) i -> i = 0 := fun i ⟨u, h⟩ => by
    cases i with
    | zero => rfl
    | succ i =>
      rw [List.getElem?_cons_succ, List.getElem?_map] at h
      cases e : ds[i]? with
      | none => rw [e] at h; cases h
      | some d => rw [e] at h; cases h
  have he : ∀ b, zD ⟨E, H, Vd x⟩ (some (.ref x) :: vs.map some) (.own o :: ds.map .val) b -> E b \/ b = x := fun b h => h.elim .inl fun ⟨i, hi, e⟩ => by
    have := no i hi
    subst this
    simp at e
    exact .inr e.symm
  exact {
    len := by simp [r.1]
    val := fun i d h => by
      cases i with
      | zero => simp at h
      | succ i =>
        rw [List.getElem?_cons_succ, List.getElem?_map] at h
        cases e : ds[i]? with
        | none => rw [e] at h; cases h
        | some d' =>
          rw [e] at h; cases h
          obtain ⟨v, h1, h2⟩ := r.get e
          exact ⟨v, by rw [List.getElem?_cons_succ, List.getElem?_map, h1]; rfl, h2.up (fun b _ => he b) fun _ _ _ z => z⟩
    own := fun i u h => by
      have := no i ⟨u, h⟩
      subst this
      simp at h
      subst h
      exact ⟨x, rfl, ow.up (fun _ z => z) (fun b _ => he b) fun _ _ _ z => z, nx, .inl rfl⟩
    pin := fun i p h => by
      unfold Vd at h
      dsimp only at h
      split at h
      · cases h; rename_i hi; subst hi; exact ⟨rfl, o, rfl⟩
      · cases h
    inj := fun i j p hi hj _ _ => by rw [no i hi, no j hj]
    dom := hd
    fr := fun b u h _ => h
    tmp := fun y h => nomatch h }
theorem zkm {ρ' : Env} {os : List D} (h : zjb [0] ρ' os) : ∃ o, os = [o] /\ ρ'[0]? = some (.own o) := by
  obtain ⟨hl, hp⟩ := h
  match os, hl with
  | [o], _ => exact ⟨o, rfl, hp 0 0 o rfl rfl⟩
theorem zbr {H H' : Hp} {E : Addr -> Prop} {x : Addr} {σ' : St} {ρ' : Env} {o : D} (R' : Rel Γ ⟨E, H, Vd x⟩ H' σ' ρ' []) (ho : ρ'[0]? = some (.own o)) :
    (∀ b u, b ≠ x -> H b = some u -> H' b = some u) /\ OwnAt Γ (zD ⟨E, H, Vd x⟩ σ' ρ') H' x o /\ ∀ b, (E b \/ b = x) -> zD ⟨E, H, Vd x⟩ σ' ρ' b := by
  obtain ⟨e0, w0⟩ := R'.pin 0 x (by show (if (0 : Nat) = 0 then some x else none) = _; rfl)
  obtain ⟨p, e1, ow, _⟩ := R'.own 0 o ho
  rw [e0] at e1; cases e1
  refine ⟨fun b u hb h => R'.fr b u h fun i => ?_, ow, fun b hb => ?_⟩
  · show (if i = 0 then some x else none) ≠ some b
    split
    · intro z; cases z; exact hb rfl
    · intro z; cases z
  · rcases hb with hb | hb
    · exact .inl hb
    · subst hb; exact .inr ⟨0, w0, e0⟩
theorem zjc {n j : Nat} {p : JQ} {ta : TA} {a : MA} (ha : JA Γ pn ta a) (hn : ∀ ss q, p ss q Z0 -> ss.length = n) : JE Γ pn (V0 (z9 Γ [0] false n p) [] E0 (JC (Qn j) ta)) (Vc j p a) := fun S σ ρ H τ Q q hp R hm hq => by
  unfold Vc at hm
  split at hm
  · rename_i o0 h0
    obtain ⟨x, e, _⟩ := R.own j o0 h0
    refine ⟨_, e, ?_⟩
    refine ha S σ ρ H τ _ _ hp R hm fun vs ds H1 ρ1 R1 r1 q1 => ?_
    show z9 Γ [0] false n p ((V.ref x :: vs) ++ []) H1 Q E0
    rw [List.append_nil]
    split at q1
    · rename_i o h1
      obtain ⟨x', e', ow, nC, _⟩ := R1.own j o h1
      rw [e] at e'; cases e'
      have ex1 : ∀ b, (zD S σ ρ1 b /\ b ≠ x) \/ b = x -> zD S σ ρ1 b := fun b h => h.elim And.left fun z => by rw [z]; exact .inr ⟨j, ⟨o, h1⟩, e⟩
      have ex2 : ∀ b, zD S σ ρ1 b -> (zD S σ ρ1 b /\ b ≠ x) \/ b = x := fun b h => by
        by_cases z : b = x
        · exact .inr z
        · exact .inl ⟨h, z⟩
      have hl := hn _ _ q1
      refine ⟨by have := r1.1; simp at hl; simp; omega, ⟨fun a => zD S σ ρ1 a /\ a ≠ x, H1, Vd x⟩, _, _, fun i hi => ?_, rfl,
        zbq (S := S) (σ := σ) (ρ := ρ1) (τ := τ) (fun a h => yY R1 h.1) (r1.up (fun b _ => ex1 b) fun _ _ _ z => z) (ow.up (fun _ z => z) (fun b _ => ex1 b) fun _ _ _ z => z) (fun z => z.2 rfl), q1, fun v d H' σ' ρ' os ⟨R', r'⟩ ps q' => ?_⟩
      · show (if i = 0 then some x else none) = none
        rw [if_neg (by simpa using hi)]
      · obtain ⟨o', rfl, ho'⟩ := zkm ps
        obtain ⟨k1, k2, k3⟩ := zbr R' ho'
        have k2' : OwnAt Γ (zD S σ ρ1) H' x o' := k2.up (fun _ z => z) (fun b _ z => k3 b (ex2 b z)) fun _ _ _ z => z
        refine hq v d H' _ (R1.write h1 e k1 k2') (r'.up (fun b _ z => k3 b (ex2 b ?_)) fun _ _ _ z => z) q'
        rcases z with z | ⟨i, ⟨u, hu⟩, ei⟩
        · exact .inl z
        · by_cases ij : j = i
          · subst ij; exact .inr ⟨j, ⟨o, h1⟩, ei⟩
          · rw [getElem?_set_ne ij] at hu; exact .inr ⟨i, ⟨u, hu⟩, ei⟩
    · exact False.elim q1
  · exact False.elim hm
def zch (c : Nat) (p : JQ) (a : MA) : ME := fun ρ q => a ρ fun ds ρ1 => p (.own (.obj c []) :: ds.map .val) (fun d os => match d, os with | .non, [o] => q o ρ1 | _, _ => False) Z0
theorem Rel.addS {S : Fs} {H H' : Hp} {σ : St} {ρ : Env} {τ : List (V × D)} (R : Rel Γ S H σ ρ τ) {p : Addr} (hp : H p = none) (g : Same H H') (hn : H' p ≠ none) : Rel Γ (S.add p) H' σ ρ τ := by
  have he : ∀ b, H b ≠ none -> zD (S.add p) σ ρ b -> zD S σ ρ b := fun b hb h => by
    rcases h with (h | h) | h
    · exact .inl h
    · subst h; exact absurd hp hb
    · exact .inr h
  exact {
    len := R.len
    val := fun i d h => let ⟨v, e, r⟩ := R.val i d h; ⟨v, e, r.up he fun b o _ q => g b o q⟩
    own := fun i o h => by
      obtain ⟨q, e, r, n, pn⟩ := R.own i o h
      refine ⟨q, e, r.up (fun u => g q u) he fun b o _ q => g b o q, ?_, pn⟩
      rintro (z | z)
      · exact n z
      · subst z; exact r.ne0 hp
    pin := R.pin
    inj := R.inj
    dom := fun a h => by
      rcases h with h | h
      · cases e : H a with
        | none => exact absurd e (R.dom a h)
        | some u => rw [g a u e]; simp
      · subst h; exact hn
    fr := fun b o h n => g b o (R.fr b o h n)
    tmp := fun x hx => (R.tmp x hx).up he fun b o _ q => g b o q }
theorem zln {n : Nat} {p : JQ} {ta : TA} {a : MA} (ha : JA Γ pn ta a) (hn : ∀ ss q, p ss q Z0 -> ss.length = n) : JF Γ pn (V0 (z9 Γ [] true n p) [] E0 ta) (V8 p a) := fun S σ ρ H τ Q q hp R hm hq =>
  ha S σ ρ H τ _ _ hp R hm fun vs ds H1 ρ1 R1 r1 q1 => by
    rw [List.append_nil]
    have hl := hn _ _ q1
    refine ⟨by rw [r1.1]; simpa using hl, ⟨zD S σ ρ1, H1, fun _ => none⟩, ds.map .val, _, fun _ _ => rfl, rfl, Ul R1 r1, q1, fun v d H' σ' ρ' os ⟨p, e, R', ow, h0, ne⟩ _ q' => ?_⟩
    subst e
    have h0 : H1 p = none := h0
    have same : Same H1 H' := fun b o h => R'.fr b o h fun i => by show (none : Option Addr) ≠ some b; simp
    refine hq p d H' ρ1 (R1.addS h0 same ow.ne0) (ow.up (fun _ z => z) (fun b _ z => ?_) fun _ _ _ z => z) (R1.new h0) (fun z => yY R1 z h0) q'
    rcases z with (z | z) | z
    · exact .inl (.inl (.inl z))
    · exact .inl (.inr z)
    · exact .inl (.inl (.inr z))
theorem zlo {n c : Nat} {C : Addr} {p : JQ} {ta : TA} {a : MA} (hC : Γ.cls c = some C) (ha : JA Γ pn ta a) (hn : ∀ ss q, p ss q Z0 -> ss.length = n) : JF Γ pn (zkc C (z9 Γ [0] false n p) [] E0 ta) (zch c p a) := fun S σ ρ H τ Q q hp R hm hq =>
  ha S σ ρ H τ _ _ hp R hm fun vs ds H1 ρ1 R1 r1 q1 => by
    intro x dx hx hdx hne
    rw [List.append_nil]
    have hl := hn _ _ q1
    have g1 : Same H1 (zX (zX H1 dx (.own x)) x (.ins C dx [])) := fun b o h => by rw [zM (zV h hx), zM (zV h hdx)]; exact h
    have hxE : ¬ zD S σ ρ1 x := fun z => yY R1 z hx
    refine ⟨by have := r1.1; simp at hl; simp; omega, ⟨zD S σ ρ1, _, Vd x⟩, _, _, fun i hi => ?_, rfl,
      zbq (S := S) (σ := σ) (ρ := ρ1) (τ := τ) (o := .obj c []) (fun a h => ?_) (r1.up (fun b hb z => z.elim id fun w => by subst w; exact absurd hx hb) fun b o _ z => g1 b o z) ⟨C, dx, [], hC, je, rfl, .nil⟩ hxE, q1, fun v d H' σ' ρ' os ⟨R', r'⟩ ps q' => ?_⟩
    · show (if i = 0 then some x else none) = none
      rw [if_neg (by simpa using hi)]
    · cases e : H1 a with
      | none => exact absurd e (yY R1 h)
      | some u => exact fun z => absurd ((g1 a u e).symm.trans z) (by simp)
    · obtain ⟨o', rfl, ho'⟩ := zkm ps
      obtain ⟨k1, k2, k3⟩ := zbr R' ho'
      cases d with
      | non =>
        cases r'
        have same : Same H1 H' := fun b u h => k1 b u (zV h hx) (g1 b u h)
        refine ⟨rfl, hq x o' H' ρ1 (R1.addS hx same k2.ne0) (k2.up (fun _ z => z) (fun b _ z => k3 b ?_) fun _ _ _ z => z) (R1.new hx) hxE q'⟩
        rcases z with (z | z) | z
        · exact .inl (.inl z)
        · exact .inr z
        · exact .inl (.inr z)
      | _ => exact False.elim q'
def zcS (m : Str) (disp : Addr -> Sp -> Prop) (ta : TE) (t : TA) : TE := fun σ H Q => ta σ H fun x H1 => ∃ a C dx fs sp, x = .ref a /\ H1 a = some (.ins C dx fs) /\ fs.lookup m = none /\ disp C sp /\ t σ H1 fun vs H2 => sp (x :: vs) H2 Q E0
def RA (tbl : Nat -> Option JQ) (a : ME) (r : MA) : ME := fun ρ q => a ρ fun x ρ1 => match x with
  | .obj c fs => match tbl c with
    | some p => r ρ1 fun ds ρ2 => p (.val (.obj c fs) :: ds.map .val) (fun d _ => q d ρ2) Z0
    | none => False
  | _ => False
def zhn (Γ : Cn) (tbl : Nat -> Option JQ) (n : Nat) : Addr -> Sp -> Prop := fun C sp => ∃ c p, Γ.cls c = some C /\ tbl c = some p /\ sp = z9 Γ [] false n p
theorem zbs {m : Str} (hm : ∀ n, yy n ≠ m) : ∀ {gs : List (Str × V)} {fs : List (Nat × D)}, (gs.map (·.1) = fs.map fun x => yy x.1) -> gs.lookup m = none
  | [], _, _ => rfl
  | _ :: _, [], h => by cases h
  | (a, v) :: gs, (b, e) :: fs, h => by
    simp only [List.map_cons, List.cons.injEq] at h
    obtain ⟨rfl, h⟩ := h
    rw [List.lookup_cons, beq_eq_false_iff_ne.mpr fun z => hm b z.symm]
    exact zbs hm h
theorem zeI {n : Nat} {m : Str} {tbl : Nat -> Option JQ} {ta : TE} {a : ME} {tr : TA} {r : MA} (hm : ∀ n, yy n ≠ m) (ha : JE Γ pn ta a) (hr : JA Γ pn tr r) (hn : ∀ c p ss q, tbl c = some p -> p ss q Z0 -> ss.length = n) :
    JE Γ pn (zcS m (zhn Γ tbl n) ta tr) (RA tbl a r) := fun S σ ρ H τ Q q hp R hmm hq =>
  ha S σ ρ H τ _ _ hp R hmm fun v x H1 ρ1 R1 r1 q1 => by
    cases x with
    | obj c fs =>
      dsimp only at q1
      split at q1
      · rename_i p hp'
        cases id r1 with
        | obj ne hc h l rs =>
          refine ⟨_, _, _, _, _, rfl, h, zbs hm l, ⟨c, p, hc, hp', rfl⟩, ?_⟩
          refine hr S σ ρ1 H1 (_ :: τ) _ _ hp (R1.push r1) q1 fun vs ds H2 ρ2 R2 r2 q2 => ?_
          have hl := hn _ _ _ _ hp' q2
          have rr : Reps Γ (zD S σ ρ2) H2 (_ :: vs) (.obj c fs :: ds) := .cons R2.pop.2 r2
          refine ⟨by rw [rr.1]; simpa using hl, ⟨zD S σ ρ2, H2, fun _ => none⟩, _, _, fun _ _ => rfl, rfl, Ul R2.pop.1 rr, q2, fun v d H' σ' ρ' os ⟨R', r'⟩ _ q' => ?_⟩
          obtain ⟨a, b⟩ := Um R2.pop.1 R' r'
          exact hq v d H' ρ2 a b q'
      · exact False.elim q1
    | _ => exact False.elim q1
end
section
variable {X : Cx} {m : Str} {disp : Addr -> Sp -> Prop} {pos apos : Pos} {e o : Expr} {es : List Expr} {ta : TE} {t : TA}
def zcT (X : Cx) (m : Str) (disp : Addr -> Sp -> Prop) : Prop := ∀ C sp, disp C sp -> Cls X.K C /\ ∃ k f fd ps, ziL X.K C m f /\ FnOk X.prog X.w X.K X.mg X.base yg k f fd ps sp /\ Room k X.A /\ Binds X.K fd ps []
theorem zjd {pl : Sem Bool} (he : PE X o ta) (hD : zcT X m disp) (ha : PA X (e :: es) t)
    (hst : starEach (e :: es) X.env = (false, eval e X.env) :: starEach es X.env := by rfl) (hpl : (backTo pos (starEach es X.env)).any (·.1) = false := by rfl)
    (ht : eval (.Call (.Attribute o m apos) (e :: es) [] pos) X.env = (do
      let ov ← eval o X.env
      standAt apos.atName
      let (f, first) ← holding [ov] (getMethod ov m pl)
      callWith pos f first (backTo pos (starEach (e :: es) X.env)) (backToKw pos (keywordEach [] X.env))) := by rfl) :
    PE X (.Call (.Attribute o m apos) (e :: es) [] pos) (zcS m disp ta t) := by
  intro pins s σ H Q I h
  refine PySem.W.methodCall_KW (pl := pl) (zO (he pins s σ H _ I h) fun u s1 ⟨x, H1, I1, rx, a, C, dx, fs, sp, ex, ea, l, hd, q⟩ => ?_) ht
  subst ex
  obtain rfl : u = Value.ref a := rx
  obtain ⟨c, k, f, fd, ps, hm, F, hr, hb⟩ := hD C sp hd
  refine Rr I1 ea c hm l ?_
  refine PySem.W.callWith_K (first := [.ref a]) (h₀ := X.base) I.ok.mod.kin hm.kp (zO (ha pos pins s1 σ H1 _ I1 q) fun us s2 ⟨vs, H2, I2, r, q2⟩ => ⟨I2.kIn, ?_⟩) hst hpl
  exact zcz (us := .ref a :: us) (vs := .ref a :: vs) (dvs := []) (ds := []) F hr hb .nil zb_ I2 (.cons rfl r) (by rw [List.append_nil]; exact q2)
theorem zho {pl : Sem Bool} (he : PE X o ta) (hD : zcT X m disp)
    (ht : eval (.Call (.Attribute o m apos) [] [] pos) X.env = (do
      let ov ← eval o X.env
      standAt apos.atName
      let (f, first) ← holding [ov] (getMethod ov m pl)
      callWith pos f first (backTo pos (starEach [] X.env)) (backToKw pos (keywordEach [] X.env))) := by rfl) :
    PE X (.Call (.Attribute o m apos) [] [] pos) (zcS m disp ta Zm) := by
  intro pins s σ H Q I h
  refine PySem.W.methodCall_KW (pl := pl) (zO (he pins s σ H _ I h) fun u s1 ⟨x, H1, I1, rx, a, C, dx, fs, sp, ex, ea, l, hd, q⟩ => ?_) ht
  subst ex
  obtain rfl : u = Value.ref a := rx
  obtain ⟨c, k, f, fd, ps, hm, F, hr, hb⟩ := hD C sp hd
  refine Rr I1 ea c hm l ?_
  exact PySem.W.callWith_K0 (first := [.ref a]) I1.kIn hm.kp (zcz (us := [.ref a]) (vs := [.ref a]) (dvs := []) (ds := []) F hr hb .nil zb_ I1 (.cons rfl .nil) q)
end
end M
namespace M
open PySem L2
section
variable {Γ : Cn} {pn : List Nat}
theorem zG {E : Addr -> Prop} {H : Hp} {v : V} {d : D} (r : jY Γ E H v d) (h : Jp d = true) : v = vD d := by
  cases d with
  | non => exact Rep.flat (show Rep Γ E H v .non from r) rfl
  | bl b => exact Rep.flat (show Rep Γ E H v (.bl b) from r) rfl
  | int b => exact Rep.flat (show Rep Γ E H v (.int b) from r) rfl
  | str b => exact Rep.flat (show Rep Γ E H v (.str b) from r) rfl
  | ty b => exact Rep.flat (show Rep Γ E H v (.ty b) from r) rfl
  | _ => cases h
theorem jE {E : Addr -> Prop} {H : Hp} {v : V} {i : Int} (r : jY Γ E H v (.int i)) : v = .int i := zG r rfl
theorem QO {E : Addr -> Prop} {H : Hp} {v : V} {i : Str} (r : jY Γ E H v (.str i)) : v = .str i := zG r rfl
theorem zlp {E : Addr -> Prop} {H : Hp} {v : V} {i : Bool} (r : jY Γ E H v (.bl i)) : v = .bl i := zG r rfl
def Qd (g : Int -> Int -> D) : F2 := fun x y q => match x, y with | .int i, .int j => q (g i j) | _, _ => False
def fI (C : Int -> Int -> Prop) (g : Int -> Int -> D) : F2 := fun x y q => match x, y with | .int i, .int j => C i j /\ q (g i j) | _, _ => False
theorem Uo {gv : Int -> Int -> V} {g : Int -> Int -> D} (hf : ∀ i j, Jp (g i j) = true) (hv : ∀ i j, gv i j = vD (g i j)) : yM Γ (Yf gv) (Qd g) := fun E H x y dx dy Q q _ rx ry h k => by
  unfold Qd at h
  split at h
  · rename_i i j
    refine ⟨i, j, jE rx, jE ry, k _ _ H (Same.refl H) ?_ h⟩
    rw [hv]; exact ZS (hf i j)
  · exact False.elim h
theorem zaR {C : Int -> Int -> Prop} {gv : Int -> Int -> V} {g : Int -> Int -> D} (hf : ∀ i j, Jp (g i j) = true) (hv : ∀ i j, gv i j = vD (g i j)) : yM Γ (rI C gv) (fI C g) := fun E H x y dx dy Q q _ rx ry h k => by
  unfold fI at h
  split at h
  · rename_i i j
    refine ⟨i, j, jE rx, jE ry, h.1, k _ _ H (Same.refl H) ?_ h.2⟩
    rw [hv]; exact ZS (hf i j)
  · exact False.elim h
def Ve : D -> D -> Option Bool
  | .non, .non => some true
  | .non, .int _ => some false | .int _, .non => some false | .non, .bl _ => some false | .bl _, .non => some false | .non, .str _ => some false | .str _, .non => some false
  | .int i, .int j => some (decide (i = j))
  | .bl a, .bl b => some (decide (a = b))
  | .str a, .str b => some (decide (a = b))
  | .int _, .str _ => some false | .str _, .int _ => some false | .bl _, .str _ => some false | .str _, .bl _ => some false
  | _, _ => none
theorem zne {α β : Type} [DecidableEq α] [DecidableEq β] {f : α -> β} (hf : ∀ a b, f a = f b -> a = b) (a b : α) : decide (f a = f b) = decide (a = b) := by
  by_cases h : a = b
  · subst h; simp
  · rw [decide_eq_false h, decide_eq_false fun z => h (hf a b z)]
theorem zhp {x y : D} {b : Bool} (h : Ve x y = some b) : Jp x = true /\ Jp y = true /\ ziD (vD x) (vD y) = true /\ decide (vD x = vD y) = b := by
  unfold Ve at h
  split at h <;> first
    | (cases h; refine ⟨rfl, rfl, rfl, ?_⟩; first | rfl | (simp [vD]) | exact zne (fun _ _ z => by injection z) _ _)
    | cases h
def fEq : F2 := fun x y q => match Ve x y with | some b => q (.bl b) | none => False
def fNe : F2 := fun x y q => match Ve x y with | some b => q (.bl (!b)) | none => False
theorem J0 : yM Γ rEq fEq := fun E H x y dx dy Q q _ rx ry h k => by
  unfold fEq at h
  split at h
  · rename_i b hb
    obtain ⟨f1, f2, s, e⟩ := zhp hb
    rw [zG rx f1, zG ry f2]
    exact ⟨s, by rw [e]; exact k _ _ H (Same.refl H) (.bl _) h⟩
  · exact False.elim h
theorem zoh : yM Γ rNe fNe := fun E H x y dx dy Q q _ rx ry h k => by
  unfold fNe at h
  split at h
  · rename_i b hb
    obtain ⟨f1, f2, s, e⟩ := zhp hb
    rw [zG rx f1, zG ry f2]
    exact ⟨s, by rw [e]; exact k _ _ H (Same.refl H) (.bl _) h⟩
  · exact False.elim h
def J1 : D -> Bool | .non => true | _ => false
def znf : F2 := fun x y q => match y with | .non => q (.bl (J1 x)) | _ => False
def zkp : F2 := fun x y q => match y with | .non => q (.bl (!J1 x)) | _ => False
theorem zcU {E : Addr -> Prop} {H : Hp} {v : V} {d : D} (r : jY Γ E H v d) : decide (v = .non) = J1 d := by
  cases d with
  | non => rw [zG r rfl]; rfl
  | bl b => rw [zG r rfl]; rfl
  | int b => rw [zG r rfl]; rfl
  | str b => rw [zG r rfl]; rfl
  | ty b => rw [zG r rfl]; rfl
  | lst ds => obtain ⟨a, _, rfl, _⟩ := r; rfl
  | tup ds => obtain ⟨a, _, rfl, _⟩ := Rep.tuple r; rfl
  | fz ds => obtain ⟨a, rfl, _⟩ := Rep.script r; rfl
  | dK ds => obtain ⟨a, _, rfl, _⟩ := r; rfl
  | dT ds => obtain ⟨a, _, rfl, _⟩ := r; rfl
  | obj c fs => obtain ⟨a, _, _, _, rfl, _⟩ := r; rfl
  | exc k => cases r; rfl
theorem zhq : yM Γ (fun x y H Q => y = .non /\ Q (.bl (decide (x = .non))) H) znf := fun E H x y dx dy Q q _ rx ry h k => by
  cases dy with
  | non => refine ⟨zG ry rfl, ?_⟩; rw [zcU rx]; exact k _ _ H (Same.refl H) (.bl _) h
  | _ => exact False.elim h
theorem zeJ : yM Γ (fun x y H Q => y = .non /\ Q (.bl (!decide (x = .non))) H) zkp := fun E H x y dx dy Q q _ rx ry h k => by
  cases dy with
  | non => refine ⟨zG ry rfl, ?_⟩; rw [zcU rx]; exact k _ _ H (Same.refl H) (.bl _) h
  | _ => exact False.elim h
def zci : F2 := fun x y q => match x, y with | .str a, .str b => a.length + b.length <= 100000 /\ q (.str (a ++ b)) | _, _ => False
theorem zlq : yM Γ (fun x y H Q => ∃ i j, x = .str i /\ y = .str j /\ i.length + j.length <= sizeLine /\ Q (.str (i ++ j)) H) zci := fun E H x y dx dy Q q _ rx ry h k => by
  unfold zci at h
  split at h
  · exact ⟨_, _, QO rx, QO ry, Nat.le_trans h.1 (by decide), k _ _ H (Same.refl H) (.str _) h.2⟩
  · exact False.elim h
def zje : F2 := fun x y q => match x, y with | .str a, .str b => q (.bl (!decide (b.cps.toList < a.cps.toList))) | _, _ => False
theorem zhr : yM Γ (fun x y H Q => ∃ i j, x = .str i /\ y = .str j /\ Q (.bl (!(decide (j.cps.toList < i.cps.toList)))) H) zje := fun E H x y dx dy Q q _ rx ry h k => by
  unfold zje at h
  split at h
  · exact ⟨_, _, QO rx, QO ry, k _ _ H (Same.refl H) (.bl _) h⟩
  · exact False.elim h
def eqF : D -> D -> Bool
  | .non, .non => true
  | .bl a, .bl b => a == b
  | .bl a, .int b => (if a then 1 else 0) == b
  | .int a, .bl b => a == (if b then 1 else 0)
  | .int a, .int b => a == b
  | .str a, .str b => a == b
  | _, _ => false
def J2 : D -> Bool | .non => true | .bl _ => true | .int _ => true | .str _ => true | _ => false
theorem Qr {d : D} (h : J2 d = true) : Jp d = true := by cases d <;> first | rfl | cases h
theorem zng {x y : D} (h1 : J2 x = true) (h2 : J2 y = true) : Qb (vD x) (vD y) = eqF x y := by
  cases x <;> cases y <;> first | rfl | (exact absurd h1 Bool.false_ne_true) | (exact absurd h2 Bool.false_ne_true)
theorem V9 {d : D} (h : J2 d = true) : JD (vD d) = true := by cases d <;> first | rfl | cases h
theorem Vf {E : Addr -> Prop} {H : Hp} : ∀ {xs : List V} {ds : List D}, Reps Γ E H xs ds -> ds.all J2 = true -> xs = ds.map vD
  | [], [], _, _ => rfl
  | [], _ :: _, r, _ => by have h := r.1; simp at h
  | _ :: _, [], r, _ => by have h := r.1; simp at h
  | v :: xs, d :: ds, r, h => by
    rw [List.all_cons, Bool.and_eq_true] at h
    rw [List.map_cons, ← Vf r.tail h.2, ← Rep.flat r.head (Qr h.1)]
def inD (x : D) (ds : List D) : Bool := ds.any fun y => eqF y x
theorem zhs {x : D} {ds : List D} (h1 : J2 x = true) (h2 : ds.all J2 = true) : inV (vD x) (ds.map vD) = inD x ds := by
  unfold inV inD
  rw [List.any_map]
  induction ds with
  | nil => rfl
  | cons d ds ih =>
    rw [List.all_cons, Bool.and_eq_true] at h2
    rw [List.any_cons, List.any_cons, ih h2.2]
    show (Qb (vD d) (vD x) || _) = _
    rw [zng h2.1 h1]
def Wa : D -> Option (List D)
  | .lst ds => some ds
  | .tup ds => some ds
  | _ => none
def fIn (neg : Bool) : F2 := fun x y q => match Wa y with
  | some ds => J2 x = true /\ ds.all J2 = true /\ q (.bl (if neg then !inD x ds else inD x ds))
  | none => False
theorem Up {neg : Bool} : yM Γ (rIn Γ.K neg) (fIn neg) := fun E H x y dx dy Q q _ rx ry h k => by
  unfold fIn at h
  cases dy with
  | lst ds =>
    obtain ⟨f1, f2, h⟩ := h
    obtain ⟨a, xs, rfl, ha, rs⟩ := ry
    have e := Vf rs f2
    subst e
    refine ⟨a, _, rfl, .inl (.inl (.inl ha)), ?_, ?_, ?_⟩
    · rw [zG rx (Qr f1)]; exact V9 f1
    · rw [List.all_map, List.all_eq_true]; exact fun d hd => V9 (List.all_eq_true.mp f2 d hd)
    · rw [zG rx (Qr f1), zhs f1 f2]; exact k _ _ H (Same.refl H) (.bl _) h
  | tup ds =>
    obtain ⟨f1, f2, h⟩ := h
    obtain ⟨a, xs, rfl, ha, rs⟩ := Rep.tuple ry
    have e := Vf rs f2
    subst e
    refine ⟨a, _, rfl, .inr (SqT.of ha), ?_, ?_, ?_⟩
    · rw [zG rx (Qr f1)]; exact V9 f1
    · rw [List.all_map, List.all_eq_true]; exact fun d hd => V9 (List.all_eq_true.mp f2 d hd)
    · rw [zG rx (Qr f1), zhs f1 f2]; exact k _ _ H (Same.refl H) (.bl _) h
  | _ => exact False.elim h
def WT : F2 := fun x y q => match x, y with
  | .lst ds, .int i => match JN ds.length i with | some j => q (ds.getD j .non) | none => False
  | .fz ns, .int i => match JN ns.length i with | some j => q (.int (ns.getD j 0)) | none => False
  | _, _ => False
theorem RB {n : Nat} {i : Int} {j : Nat} (h : JN n i = some j) : j < n := by
  unfold JN at h
  split at h
  · split at h
    · cases h; omega
    · cases h
  · split at h
    · cases h; omega
    · cases h
theorem znh : yM Γ (ziO Γ.K) WT := fun E H x y dx dy Q q _ rx ry h k => by
  unfold WT at h
  split at h
  · rename_i ds i
    split at h
    · rename_i j hj
      obtain ⟨a, xs, rfl, ha, rs⟩ := rx
      have hl := RB hj
      have hl' : j < xs.length := by rw [rs.1]; exact hl
      refine ⟨a, xs, i, xs[j], rfl, jE ry, .inl (.inl ha), ?_, k _ _ H (Same.refl H) (rs.2 j _ _ (List.getElem?_eq_getElem hl') ?_) h⟩
      · unfold Rs; rw [rs.1, hj]; exact List.getElem?_eq_getElem hl'
      · rw [List.getD_eq_getElem?_getD, List.getElem?_eq_getElem hl]; rfl
    · exact False.elim h
  · rename_i ns i
    split at h
    · rename_i j hj
      obtain ⟨a, rfl, ha⟩ := Rep.script rx
      have hl := RB hj
      refine ⟨a, _, i, .int (ns.getD j 0), rfl, jE ry, ha, ?_, k _ _ H (Same.refl H) (.int _) h⟩
      unfold Rs
      rw [List.length_map, hj]
      show (ns.map V.int)[j]? = _
      rw [List.getElem?_map, List.getD_eq_getElem?_getD, List.getElem?_eq_getElem hl]; rfl
    · exact False.elim h
  · exact False.elim h
def zcV : F2 := fun x y q => match x, y with
  | .tup ds, .int i => match JN ds.length i with | some j => q (ds.getD j .non) | none => False
  | _, _ => False
theorem zni : yM Γ (ziP Γ.K) zcV := fun E H x y dx dy Q q _ rx ry h k => by
  unfold zcV at h
  split at h
  · rename_i ds i
    split at h
    · rename_i j hj
      obtain ⟨a, xs, rfl, ha, rs⟩ := Rep.tuple rx
      have hl := RB hj
      have hl' : j < xs.length := by rw [rs.1]; exact hl
      refine ⟨a, xs, i, xs[j], rfl, jE ry, SqT.of ha, ?_, k _ _ H (Same.refl H) (rs.2 j _ _ (List.getElem?_eq_getElem hl') ?_) h⟩
      · unfold Rs; rw [rs.1, hj]; exact List.getElem?_eq_getElem hl'
      · rw [List.getD_eq_getElem?_getD, List.getElem?_eq_getElem hl]; rfl
    · exact False.elim h
  · exact False.elim h
def zcW : F2 := fun x y q => match x, y with
  | .str z, .int i => z.length <= 100000 /\ match JN z.cps.toList.length i with | some j => q (.str ⟨#[z.cps.toList.getD j 0]⟩) | none => False
  | _, _ => False
theorem znj : yM Γ ziQ zcW := fun E H x y dx dy Q q _ rx ry h k => by
  unfold zcW at h
  split at h
  · rename_i z i
    obtain ⟨hz, h⟩ := h
    split at h
    · rename_i j hj
      refine ⟨z, i, z.cps.toList.getD j 0, QO rx, jE ry, Nat.le_trans hz (by decide), ?_, k _ _ H (Same.refl H) (.str _) h⟩
      unfold Rs
      rw [hj]
      show z.cps.toList[j]? = _
      rw [List.getD_eq_getElem?_getD, List.getElem?_eq_getElem (RB hj)]; rfl
    · exact False.elim h
  · exact False.elim h
def zjf : F1 := fun x q => match x with
  | .lst ds => q (.int ds.length)
  | .tup ds => q (.int ds.length)
  | .fz ns => q (.int ns.length)
  | .str z => z.length <= 100000 /\ q (.int z.length)
  | _ => False
theorem znk : Yi Γ (fun x H Q => ∃ y n, [x] = [y] /\ zmB Γ.K y H n /\ Q (.int n) H) zjf := fun E H x dx Q q _ rx h k => by
  cases dx with
  | lst ds =>
    obtain ⟨a, xs, rfl, ha, rs⟩ := rx
    refine ⟨_, xs.length, rfl, .inl ⟨xs, .inl (.inl ha), rfl⟩, ?_⟩
    rw [rs.1]; exact k _ _ H (Same.refl H) (.int _) h
  | tup ds =>
    obtain ⟨a, xs, rfl, ha, rs⟩ := Rep.tuple rx
    refine ⟨_, xs.length, rfl, .inr ⟨xs, SqT.of ha, rfl⟩, ?_⟩
    rw [rs.1]; exact k _ _ H (Same.refl H) (.int _) h
  | fz ns =>
    obtain ⟨a, rfl, ha⟩ := Rep.script rx
    refine ⟨_, _, rfl, .inl ⟨_, ha, rfl⟩, ?_⟩
    rw [List.length_map]; exact k _ _ H (Same.refl H) (.int _) h
  | str z =>
    rw [QO rx]
    exact ⟨_, z.length, rfl, ⟨Nat.le_trans h.1 (by decide), rfl⟩, k _ _ H (Same.refl H) (.int _) h.2⟩
  | _ => exact False.elim h
def jF {α : Type} (xs : List α) (lo hi : Option Int) : List α := (xs.drop (HT.sIx xs.length 0 lo)).take (HT.sIx xs.length xs.length hi - HT.sIx xs.length 0 lo)
theorem zcX {E : Addr -> Prop} {H : Hp} {xs : List V} {ds : List D} {lo hi : Option Int} (r : Reps Γ E H xs ds) : Reps Γ E H (zaG xs lo hi) (jF ds lo hi) := by
  unfold zaG jF
  rw [r.1]
  exact (r.drop _).take _
abbrev MOI := Env -> (Option Int -> Env -> Prop) -> Prop
def JOI (Γ : Cn) (pn : List Nat) (t : TO) (m : MOI) : Prop :=
  ∀ (S : Fs) (σ : St) (ρ : Env) (H : Hp) (τ : List (V × D)) (Q : Option Int -> Hp -> Prop) (q : Option Int -> Env -> Prop), Jd pn S -> Rel Γ S H σ ρ τ -> m ρ q -> (∀ i H' ρ', Rel Γ S H' σ ρ' τ -> q i ρ' -> Q i H') -> t σ H Q
def zaS : MOI := fun ρ q => q none ρ
def zcj (m : ME) : MOI := fun ρ q => m ρ fun d ρ' => match d with | .int i => q (some i) ρ' | _ => False
theorem zlr : JOI Γ pn zer zaS := fun S σ ρ H τ Q q hp R hm hq => hq none H ρ R hm
theorem zls {t : TE} {m : ME} (h : JE Γ pn t m) : JOI Γ pn (zkd t) (zcj m) := fun S σ ρ H τ Q q hp R hm hq =>
  h S σ ρ H τ _ _ hp R hm fun v d H1 ρ1 R1 r1 q1 => by
    cases d with
    | int i => exact ⟨i, YQ r1, hq _ H1 ρ1 R1 q1⟩
    | _ => exact False.elim q1
def zfY (a : MO) (l u : MOI) : ME := fun ρ q => a ρ fun r ρ1 => l ρ1 fun lo ρ2 => u ρ2 fun hi ρ3 => r.on ρ3 fun x => match x with
  | .lst ds => q (.lst (jF ds lo hi)) ρ3
  | .fz ns => q (.lst ((jF ns lo hi).map D.int)) ρ3
  | _ => False
theorem zlt {α β : Type} (f : α -> β) (xs : List α) (lo hi : Option Int) : jF (xs.map f) lo hi = (jF xs lo hi).map f := by
  unfold jF; rw [List.length_map, List.map_take, List.map_drop]
theorem zhu {E : Addr -> Prop} {H : Hp} (ns : List Int) : Reps Γ E H (ns.map V.int) (ns.map D.int) := ⟨by simp, fun i v d h1 h2 => by
  rw [List.getElem?_map] at h1 h2
  cases e : ns[i]? with
  | none => rw [e] at h1; cases h1
  | some n => rw [e] at h1 h2; cases h1; cases h2; exact .int n⟩
theorem znl {ta : TE} {tl tu : TO} {a : MO} {l u : MOI} (ha : JO Γ pn ta a) (hl : JOI Γ pn tl l) (hu : JOI Γ pn tu u) : JF Γ pn (tSl (zmN Γ.K) ta tl tu) (zfY a l u) := fun S σ ρ H τ Q q hp R hm hq =>
  ha S σ ρ H τ _ _ hp R hm fun v r1 H1 ρ1 τ1 R1 o1 q1 => hl S σ ρ1 H1 (τ1 ++ τ) _ _ hp R1 q1 fun lo H2 ρ2 R2 q2 => hu S σ ρ2 H2 (τ1 ++ τ) _ _ hp R2 q2 fun hi H3 ρ3 R3 q3 => by
    obtain ⟨dx, rx, q3⟩ := R3.read o1 q3
    cases dx with
    | lst ds =>
      obtain ⟨b, xs, rfl, hb, rs⟩ := rx
      refine ⟨b, xs, rfl, .inl (.inl hb), fun p hn => ?_⟩
      obtain ⟨k1, k2, k3, k4⟩ := Jv R3 (zcX (lo := lo) (hi := hi) rs) hn
      exact hq p _ _ ρ3 k1.cut k2 k3 k4 q3
    | fz ns =>
      obtain ⟨b, rfl, hb⟩ := Rep.script rx
      refine ⟨b, _, rfl, hb, fun p hn => ?_⟩
      have r := zcX (lo := lo) (hi := hi) (zhu (Γ := Γ) (E := zD S σ ρ3) (H := H3) ns)
      rw [zlt] at r
      obtain ⟨k1, k2, k3, k4⟩ := Jv R3 r hn
      exact hq p _ _ ρ3 k1.cut k2 k3 k4 q3
    | _ => exact False.elim q3
def zfZ : FL2 := fun x y q => match x, y with | .lst a, .lst b => a.length + b.length <= 100000 /\ q (a ++ b) | _, _ => False
theorem znm : zfN Γ zmQ zfZ := fun E H x y dx dy Q q rx ry h k => by
  unfold zfZ at h
  split at h
  · obtain ⟨a, xs, rfl, ha, ra⟩ := rx
    obtain ⟨b, ys, rfl, hb, rb⟩ := ry
    exact ⟨a, b, xs, ys, rfl, rfl, ha, hb, by rw [ra.1, rb.1]; exact Nat.le_trans h.1 (by decide), fun p hp => k p _ _ H (Same.refl H) hp (ra.append rb) h.2⟩
  · exact False.elim h
def zck : FL1 := fun x q => match x with | .lst a => q a | .tup a => q a | _ => False
theorem zlu : zcI Γ (fun x H Q => ∃ p ys, [x] = [.ref p] /\ (jf Γ.K H p ys \/ SqT Γ.K H p ys) /\ ∀ l, H l = none -> Q (.ref l) (zX H l (.lst ys))) zck := fun E H x dx Q q rx h k => by
  unfold zck at h
  split at h
  · obtain ⟨a, xs, rfl, ha, ra⟩ := rx
    exact ⟨a, xs, rfl, .inl (.inl (.inl ha)), fun p hp => k p _ _ H (Same.refl H) hp ra h⟩
  · obtain ⟨a, xs, rfl, ha, ra⟩ := Rep.tuple rx
    exact ⟨a, xs, rfl, .inr (SqT.of ha), fun p hp => k p _ _ H (Same.refl H) hp ra h⟩
  · exact False.elim h
def zcl : F2 := Qd fun i j => .int (if j > i then j else i)
theorem zlv : yM Γ (fun x y H Q => ∃ i j, [x, y] = [.int i, .int j] /\ Q (.int (if j > i then j else i)) H) zcl := fun E H x y dx dy Q q _ rx ry h k => by
  unfold zcl Qd at h
  split at h
  · exact ⟨_, _, by rw [jE rx, jE ry], k _ _ H (Same.refl H) (.int _) h⟩
  · exact False.elim h
def zjg : F1 := fun x q => match x with | .int i => q (.int i) | .bl b => q (.int (if b then 1 else 0)) | _ => False
theorem znn : Yi Γ (fun x H Q => (∃ i, [x] = [.int i] /\ Q (.int i) H) \/ ∃ k, [x] = [.bl k] /\ Q (.int (if k then 1 else 0)) H) zjg := fun E H x dx Q q _ rx h k => by
  cases dx with
  | int i => exact .inl ⟨i, by rw [jE rx], k _ _ H (Same.refl H) (.int _) h⟩
  | bl i => exact .inr ⟨i, by rw [zlp rx], k _ _ H (Same.refl H) (.int _) h⟩
  | _ => exact False.elim h
def Zp : List D -> Option (List Bool)
  | [] => some []
  | .bl b :: r => (Zp r).map (b :: ·)
  | _ => none
theorem zeK {E : Addr -> Prop} {H : Hp} : ∀ {xs : List V} {ds : List D} {bs : List Bool}, Reps Γ E H xs ds -> Zp ds = some bs -> xs = bs.map V.bl
  | [], [], bs, _, h => by cases h; rfl
  | [], _ :: _, _, r, _ => by have h := r.1; simp at h
  | _ :: _, [], _, r, _ => by have h := r.1; simp at h
  | v :: xs, d :: ds, bs, r, h => by
    cases d with
    | bl b =>
      have h : (Zp ds).map (b :: ·) = some bs := h
      cases e : Zp ds with
      | none => rw [e] at h; cases h
      | some r' =>
        rw [e] at h; cases h
        rw [List.map_cons, ← zeK r.tail e, ← ZT r.head]
    | _ => cases h
def zf0 : F1 := fun x q => match x with | .lst ds => (match Zp ds with | some bs => q (.bl (bs.all id)) | none => False) | _ => False
theorem zno : Yi Γ (fun x H Q => ∃ (a : Addr) (bs : List Bool), [x] = [.ref a] /\ jf Γ.K H a (bs.map V.bl) /\ Q (.bl (bs.all id)) H) zf0 := fun E H x dx Q q _ rx h k => by
  cases dx with
  | lst ds =>
    obtain ⟨a, xs, rfl, ha, rs⟩ := rx
    dsimp only [zf0] at h
    split at h
    · rename_i bs hb
      have e := zeK rs hb
      subst e
      exact ⟨a, bs, rfl, .inl (.inl ha), k _ _ H (Same.refl H) (.bl _) h⟩
    · exact False.elim h
  | _ => exact False.elim h
def Yk : D -> Option String
  | .non => some "NoneType" | .bl _ => some "bool" | .int _ => some "int" | .str _ => some "str" | .lst _ => some "list" | .tup _ => some "tuple" | .dK _ => some "dict" | .dT _ => some "dict" | _ => none
def ZW (a b : String) : Option Bool := if ["NoneType", "bool", "int", "str", "list", "tuple", "dict"].contains a && ["bool", "int", "str", "list", "tuple", "dict"].contains b then some (a == b || (a == "bool" && b == "int")) else none
theorem zhv {K : PySem.W.Frag} {a b : String} {r : Bool} (h : ZW a b = some r) : PySem.W.kitOne K (.type a) (.type b) = some r := by
  unfold ZW at h
  split at h
  · rename_i hc
    simp only [Bool.and_eq_true, List.contains_iff_mem, List.mem_cons, List.not_mem_nil, or_false] at hc
    cases h
    obtain ⟨h1, h2⟩ := hc
    rcases h1 with rfl | rfl | rfl | rfl | rfl | rfl | rfl <;> rcases h2 with rfl | rfl | rfl | rfl | rfl | rfl <;> kernel_rfl
  · cases h
def RC : F2 := fun x y q => match Yk x, y with
  | some a, .ty b => (match ZW a b with | some r => q (.bl r) | none => False)
  | _, _ => False
theorem zlw {E : Addr -> Prop} {H : Hp} {v : V} {d : D} {a : String} (r : jY Γ E H v d) (h : Yk d = some a) : Rv Γ.K H v (.type a) := by
  cases d with
  | non => cases h; rw [zG r rfl]; exact .of .non
  | bl b => cases h; rw [zG r rfl]; exact .of (.bl b)
  | int b => cases h; rw [zG r rfl]; exact .of (.int b)
  | str b => cases h; rw [zG r rfl]; exact .of (.str b)
  | lst ds => cases h; obtain ⟨a, xs, rfl, ha, _⟩ := r; exact .of (.lst ha)
  | tup ds => cases h; obtain ⟨a, xs, rfl, ha, _⟩ := Rep.tuple r; exact .of (.tup ha)
  | dK ds => cases h; obtain ⟨a, xs, rfl, ha, _⟩ := r; exact .of (.dK ha)
  | dT ds => cases h; obtain ⟨a, xs, rfl, ha, _⟩ := r; exact .of (.dT ha)
  | _ => cases h
theorem zlx : yM Γ (fun x y H Q => ∃ z t c b, [x, y] = [z, .ty c] /\ Rv Γ.K H z t /\ PySem.W.kitOne Γ.K t (.type c) = some b /\ Q (.bl b) H) RC := fun E H x y dx dy Q q _ rx ry h k => by
  unfold RC at h
  split at h
  · rename_i a b ha
    split at h
    · rename_i r hr
      exact ⟨x, _, b, r, by rw [zG ry rfl]; rfl, zlw rx ha, zhv hr, k _ _ H (Same.refl H) (.bl _) h⟩
    · exact False.elim h
  · exact False.elim h
def Vg (f f' : F2) (a b c : ME) : ME := fun ρ q => a ρ fun x ρ1 => b ρ1 fun y ρ2 => f x y fun d => match d with
  | .bl k => if k = true then c ρ2 fun z ρ3 => f' y z fun e => q e ρ3 else q (.bl false) ρ2
  | _ => False
theorem zcY {r r' : R2} {f f' : F2} {ta tb tc : TE} {a b c : ME} (h1 : yM Γ r f) (h2 : yM Γ r' f') (ha : JE Γ pn ta a) (hb : JE Γ pn tb b) (hc : JE Γ pn tc c) : JE Γ pn (zcy r r' ta tb tc) (Vg f f' a b c) := fun S σ ρ H τ Q q hp R hm hq =>
  ha S σ ρ H τ _ _ hp R hm fun v x H1 ρ1 R1 r1 q1 => hb S σ ρ1 H1 ((v, x) :: τ) _ _ hp (R1.push r1) q1 fun w y H2 ρ2 R2 r2 q2 =>
    h1 _ H2 v w x y _ _ (fun a z => yY R2 z) R2.pop.2.b r2.b q2 fun u d H3 g r3 q3 => by
      cases d with
      | bl k =>
        refine ⟨k, ZT r3, ?_⟩
        have R3 := (R2.pop.1.push r2).grow g
        dsimp only at q3
        cases k with
        | false => rw [if_neg Bool.false_ne_true] at q3 ⊢; exact hq _ _ H3 ρ2 R3.pop.1 (.bl false) q3
        | true =>
          rw [if_pos rfl] at q3 ⊢
          refine hc S σ ρ2 H3 _ _ _ hp R3 q3 fun w' z H4 ρ4 R4 r4 q4 => ?_
          exact h2 _ H4 w w' y z Q _ (fun a z => yY R4 z) R4.pop.2.b r4.b q4 fun u' e H5 g' r5 q5 => hq u' e H5 ρ4 (R4.pop.1.grow g') r5 q5
      | _ => exact False.elim q3
def zf1 : D -> Option Bool
  | .non => some false | .bl b => some b | .int i => some (i != 0) | .lst ds => some (!ds.isEmpty) | .tup ds => some (!ds.isEmpty) | .dK ds => some (!ds.isEmpty)
  | .str y => some ((y.length : Int) != 0)
  | _ => none
def zf2 (a : MO) : MT := fun ρ q => a ρ fun r ρ1 => r.on ρ1 fun x => (match x with | .str y => y.length <= 100000 | _ => True) /\ match zf1 x with | some b => q b ρ1 | none => False
theorem Yz {α β : Type} {xs : List α} {ys : List β} (h : xs.length = ys.length) : xs.isEmpty = ys.isEmpty := by
  cases xs <;> cases ys <;> first | rfl | simp at h
theorem znp {ta : TE} {a : MO} (ha : JO Γ pn ta a) : JT Γ pn (fun σ H Q => ta σ H fun x H' => ∃ k, ziG Γ.K x H' k /\ Q k H') (zf2 a) := fun S σ ρ H τ Q q hp R hm hq =>
  ha S σ ρ H τ _ _ hp R hm fun v r1 H1 ρ1 τ1 R1 o1 q1 => by
    obtain ⟨dx, rx, hs, q1⟩ := R1.read o1 q1
    cases dx with
    | non => rw [zG rx rfl]; exact ⟨false, rfl, hq _ H1 ρ1 R1.cut q1⟩
    | bl b => rw [zG rx rfl]; exact ⟨b, rfl, hq _ H1 ρ1 R1.cut q1⟩
    | int i => rw [zG rx rfl]; exact ⟨_, rfl, hq _ H1 ρ1 R1.cut q1⟩
    | str y => rw [zG rx rfl]; exact ⟨_, ⟨Nat.le_trans hs (by decide), rfl⟩, hq _ H1 ρ1 R1.cut q1⟩
    | lst ds => obtain ⟨a, xs, rfl, h, rs⟩ := rx; exact ⟨_, .inl ⟨xs, .inl (.inl h), by rw [Yz rs.1]⟩, hq _ H1 ρ1 R1.cut q1⟩
    | tup ds => obtain ⟨a, xs, rfl, h, rs⟩ := Rep.tuple rx; exact ⟨_, .inr (.inl ⟨xs, SqT.of h, by rw [Yz rs.1]⟩), hq _ H1 ρ1 R1.cut q1⟩
    | dK ds => obtain ⟨a, xs, rfl, h, hk, rs⟩ := rx; exact ⟨_, .inr (.inr ⟨xs, h, by rw [Yz (show xs.length = ds.length by have := congrArg List.length hk; simpa using this)]⟩), hq _ H1 ρ1 R1.cut q1⟩
    | _ => exact False.elim q1
end
end M
namespace M
open PySem L2
structure DE (X : Cx) (cls : Nat -> Option Addr) (pn : List Nat) (e : Expr) (m : ME) : Prop where
  h : ∃ t, PE X e t /\ JE ⟨X.K, cls⟩ pn t m
structure DF (X : Cx) (cls : Nat -> Option Addr) (pn : List Nat) (e : Expr) (m : ME) : Prop where
  h : ∃ t, PE X e t /\ JF ⟨X.K, cls⟩ pn t m
structure DO (X : Cx) (cls : Nat -> Option Addr) (pn : List Nat) (e : Expr) (m : MO) : Prop where
  h : ∃ t, PE X e t /\ JO ⟨X.K, cls⟩ pn t m
structure DT (X : Cx) (cls : Nat -> Option Addr) (pn : List Nat) (e : Expr) (m : MT) : Prop where
  h : ∃ t, PT X e t /\ JT ⟨X.K, cls⟩ pn t m
structure DW (X : Cx) (cls : Nat -> Option Addr) (pn : List Nat) (e : Expr) (m : MT) : Prop where
  h : ∃ t, PW X e t /\ JT ⟨X.K, cls⟩ pn t m
structure DTs (X : Cx) (cls : Nat -> Option Addr) (pn : List Nat) (e : List Expr) (m : MT) : Prop where
  h : ∃ t, PTs X e t /\ JT ⟨X.K, cls⟩ pn t m
structure DA (X : Cx) (cls : Nat -> Option Addr) (pn : List Nat) (e : List Expr) (m : MA) : Prop where
  h : ∃ t, PA X e t /\ JA ⟨X.K, cls⟩ pn t m
structure DS (X : Cx) (cls : Nat -> Option Addr) (pn : List Nat) (fr : Bool) (e : Stmt) (m : MS) : Prop where
  h : ∃ t, PS X e t /\ JS ⟨X.K, cls⟩ pn fr t m
structure RD (X : Cx) (cls : Nat -> Option Addr) (pn : List Nat) (fr : Bool) (e : List Stmt) (m : MS) : Prop where
  h : ∃ t, PSs X e t /\ JS ⟨X.K, cls⟩ pn fr t m
structure DG (X : Cx) (cls : Nat -> Option Addr) (pn : List Nat) (e : Expr) (m : MG) : Prop where
  h : ∃ t, PG X e t /\ JG ⟨X.K, cls⟩ pn t m
structure DGs (X : Cx) (cls : Nat -> Option Addr) (pn : List Nat) (e : List Expr) (m : YS) : Prop where
  h : ∃ t, PGs X e t /\ JGs ⟨X.K, cls⟩ pn t m
structure DI (X : Cx) (cls : Nat -> Option Addr) (pn : List Nat) (tg e : Expr) (m : MI) : Prop where
  h : ∃ t, PI X tg e t /\ JI ⟨X.K, cls⟩ pn t m
structure DP (X : Cx) (cls : Nat -> Option Addr) (pn : List Nat) (e : Option Expr) (m : MOI) : Prop where
  h : ∃ t, PO X e t /\ JOI ⟨X.K, cls⟩ pn t m
section
variable {X : Cx} {cls : Nat -> Option Addr} {pn : List Nat} {a b c e : Expr} {es : List Expr} {pos p : Pos} {x : Str}
theorem zi {i j pos} : DE X cls pn (.Constant (.int i) j pos) (mC (.int i)) := ⟨_, zl7, zaJ rfl rfl⟩
theorem Uq {i j pos} : DE X cls pn (.Constant (.bool i) j pos) (mC (.bl i)) := ⟨_, zn0, zaJ rfl rfl⟩
theorem Zd {j pos} : DE X cls pn (.Constant .none j pos) (mC .non) := ⟨_, zl8, zaJ rfl rfl⟩
theorem yt {i j pos} : DE X cls pn (.Constant (.str i) j pos) (mC (.str i)) := ⟨_, zgN, zaJ rfl rfl⟩
theorem ZJ {i : Int} (hg : Gl X x) (hm : ∃ t, X.mg x = some (.int i t)) (hd : (x == ("__debug__" : Str)) = false := by decide) : DE X cls pn (.Name x pos) (mC (.int i)) := by
  obtain ⟨t, hm⟩ := hm
  exact ⟨_, zkO hg hm (v := .int i) ⟨t, rfl⟩ hd, zaJ rfl rfl⟩
theorem Ur {n : String} (hg : Gl X x) (hm : X.mg x = none) (hv : bootBuiltins x = some (.type n)) (hn : x ≠ "__name__" := by decide) (hd : (x == ("__debug__" : Str)) = false := by decide) : DE X cls pn (.Name x pos) (mC (.ty n)) :=
  ⟨_, zkP (v := .ty n) hg hm hv rfl hn hd, zaJ rfl rfl⟩
theorem dv (i : Nat) (hi : i ∉ pn) (hN : X.N[i]? = some x := by kernel_rfl) (hv : ZN X.env.scope x := by first | exact Or.inl rfl | exact Or.inr (Or.inl rfl) | exact Or.inr (Or.inr rfl)) (hd : (x == ("__debug__" : Str)) = false := by decide)
    (hcd : (x == ("__classdict__" : Str)) = false := by decide) : DE X cls pn (.Name x pos) (zcE i) := ⟨_, Qo hN hv hd hcd, zmY hi⟩
theorem zE (i : Nat) (hN : X.N[i]? = some x := by kernel_rfl) (hv : ZN X.env.scope x := by first | exact Or.inl rfl | exact Or.inr (Or.inl rfl) | exact Or.inr (Or.inr rfl)) (hd : (x == ("__debug__" : Str)) = false := by decide)
    (hcd : (x == ("__classdict__" : Str)) = false := by decide) : DE X cls pn (.Name x pos) (Rw i) := ⟨_, Qo hN hv hd hcd, zlb⟩
theorem zn (i : Nat) (hN : X.N[i]? = some x := by kernel_rfl) (hv : ZN X.env.scope x := by first | exact Or.inl rfl | exact Or.inr (Or.inl rfl) | exact Or.inr (Or.inr rfl)) (hd : (x == ("__debug__" : Str)) = false := by decide)
    (hcd : (x == ("__classdict__" : Str)) = false := by decide) : DO X cls pn (.Name x pos) (mOv i) := ⟨_, Qo hN hv hd hcd, zmZ⟩
theorem ze {m : ME} (h : DE X cls pn e m) : DO X cls pn e (mO m) := let ⟨t, a, b⟩ := h.h; ⟨t, a, zob b⟩
theorem zW {m : ME} (h : DF X cls pn e m) : DE X cls pn e m := let ⟨t, a, b⟩ := h.h; ⟨t, a, Wv b⟩
theorem zj : DA X cls pn [] zfJ := ⟨_, jR, zhf⟩
theorem zc {m : ME} {n : MA} (h : DE X cls pn e m) (r : DA X cls pn es n) (hs : starEach (e :: es) X.env = (false, eval e X.env) :: starEach es X.env := by kernel_rfl) : DA X cls pn (e :: es) (zcb m n) :=
  let ⟨_, a, b⟩ := h.h; let ⟨_, c, d⟩ := r.h; ⟨_, jk a c hs, zlc b d⟩
theorem zly {ss : List Str} (h : Zb es = some ss) : DA X cls pn es (zfK ss) := ⟨_, zeB h, zld⟩
theorem jG {m : MA} (h : DA X cls pn es m) : DF X cls pn (.List es pos) (zfL m) := let ⟨_, a, b⟩ := h.h; ⟨_, zmJ a, zm0 b⟩
theorem Vh {m : MA} {x1} (h : DA X cls pn es m) : DE X cls pn (.Tuple es x1 pos) (zfM m) := let ⟨_, a, b⟩ := h.h; ⟨_, zmI a, zm1 b⟩
theorem Q3 {op : Operator} {r : R2} {f : F2} {ma mb : MO} (ho : y6 X (binaryOp op) r) (hk : yM ⟨X.K, cls⟩ r f) (ha : DO X cls pn a ma) (hb : DO X cls pn b mb) : DE X cls pn (.BinOp a op b pos) (JP f ma mb) :=
  let ⟨_, pa, ja⟩ := ha.h; let ⟨_, pb, jb⟩ := hb.h; ⟨_, zkb ho pa pb, V2 hk ja jb⟩
theorem zoi {op : Operator} {r : R2} {f : FL2} {ma mb : MO} (ho : y6 X (binaryOp op) r) (hk : zfN ⟨X.K, cls⟩ r f) (ha : DO X cls pn a ma) (hb : DO X cls pn b mb) : DF X cls pn (.BinOp a op b pos) (zcH f ma mb) :=
  let ⟨_, pa, ja⟩ := ha.h; let ⟨_, pb, jb⟩ := hb.h; ⟨_, zkb ho pa pb, zoc hk ja jb⟩
def znq : F2 := Qd fun i j => .int (i + j)
def znr : F2 := Qd fun i j => .int (i - j)
def zns : F2 := fI CMul fun i j => .int (i * j)
def znt : F2 := fI (fun _ j => 0 < j) fun i j => .int (i % j)
def znu : F2 := fI ZP fun i j => .int (i ^ j.toNat)
def znv : F2 := fI ZP fun i j => .int (i * 2 ^ j.toNat)
def znw : F2 := fI (fun _ j => 0 <= j) fun i j => .int (i / 2 ^ j.toNat)
def zks : F2 := Qd fun i j => .int (Builtin.bitAnd i j)
variable {ma mb : MO}
theorem yJ (ha : DO X cls pn a ma) (hb : DO X cls pn b mb) : DE X cls pn (.BinOp a .Add b pos) (JP znq ma mb) := Q3 zms (Uo (fun _ _ => rfl) fun _ _ => rfl) ha hb
theorem RE (ha : DO X cls pn a ma) (hb : DO X cls pn b mb) : DE X cls pn (.BinOp a .Sub b pos) (JP znr ma mb) := Q3 zmt (Uo (fun _ _ => rfl) fun _ _ => rfl) ha hb
theorem YW (ha : DO X cls pn a ma) (hb : DO X cls pn b mb) : DE X cls pn (.BinOp a .Mult b pos) (JP zns ma mb) := Q3 zmu (zaR (fun _ _ => rfl) fun _ _ => rfl) ha hb
theorem ZX (ha : DO X cls pn a ma) (hb : DO X cls pn b mb) : DE X cls pn (.BinOp a .Mod b pos) (JP znt ma mb) := Q3 zmv (zaR (fun _ _ => rfl) fun _ _ => rfl) ha hb
theorem zhw (ha : DO X cls pn a ma) (hb : DO X cls pn b mb) : DE X cls pn (.BinOp a .Pow b pos) (JP znu ma mb) := Q3 zmw (zaR (fun _ _ => rfl) fun _ _ => rfl) ha hb
theorem znx (ha : DO X cls pn a ma) (hb : DO X cls pn b mb) : DE X cls pn (.BinOp a .LShift b pos) (JP znv ma mb) := Q3 zmx (zaR (fun _ _ => rfl) fun _ _ => rfl) ha hb
theorem zny (ha : DO X cls pn a ma) (hb : DO X cls pn b mb) : DE X cls pn (.BinOp a .RShift b pos) (JP znw ma mb) := Q3 zmy (zaR (fun _ _ => rfl) fun _ _ => rfl) ha hb
theorem zlz (ha : DO X cls pn a ma) (hb : DO X cls pn b mb) : DE X cls pn (.BinOp a .BitAnd b pos) (JP zks ma mb) := Q3 zmz (Uo (fun _ _ => rfl) fun _ _ => rfl) ha hb
theorem zlA (ha : DO X cls pn a ma) (hb : DO X cls pn b mb) : DE X cls pn (.BinOp a .Add b pos) (JP zci ma mb) := Q3 zfB zlq ha hb
theorem zcZ (ha : DO X cls pn a ma) (hb : DO X cls pn b mb) : DF X cls pn (.BinOp a .Add b pos) (zcH zfZ ma mb) := zoi zmR znm ha hb
theorem jH {op : CmpOp} {r : R2} {f : F2} (ho : y6 X (compareOp op) r) (hk : yM ⟨X.K, cls⟩ r f) (ha : DO X cls pn a ma) (hb : DO X cls pn b mb) (hm : behindInMarks op b = false) : DE X cls pn (.Compare a [op] [b] pos) (JP f ma mb) :=
  let ⟨_, pa, ja⟩ := ha.h; let ⟨_, pb, jb⟩ := hb.h; ⟨_, zkX ho pa pb hm, V2 hk ja jb⟩
theorem yK {op : CmpOp} {r : R2} {f : F2} (ho : y6 X (compareOp op) r) (hk : yM ⟨X.K, cls⟩ r f) (ha : DO X cls pn a ma) (hb : DO X cls pn b mb) (hm : behindInMarks op b = false) : DT X cls pn (.Compare a [op] [b] pos) (mB (JP f ma mb)) :=
  let ⟨_, pa, ja⟩ := ha.h; let ⟨_, pb, jb⟩ := hb.h; ⟨_, zkY ho pa pb hm, zeG (V2 hk ja jb)⟩
def fLt : F2 := Qd fun i j => .bl (decide (i < j))
def fLe : F2 := Qd fun i j => .bl (decide (i <= j))
def fGt : F2 := Qd fun i j => .bl (decide (j < i))
def fGe : F2 := Qd fun i j => .bl (decide (j <= i))
theorem zoj : yM ⟨X.K, cls⟩ (Yf fun i j => .bl (decide (i < j))) fLt := Uo (fun _ _ => rfl) fun _ _ => rfl
theorem ZD : yM ⟨X.K, cls⟩ (Yf fun i j => .bl (decide (i <= j))) fLe := Uo (fun _ _ => rfl) fun _ _ => rfl
theorem zok : yM ⟨X.K, cls⟩ (Yf fun i j => .bl (decide (j < i))) fGt := Uo (fun _ _ => rfl) fun _ _ => rfl
theorem Wb : yM ⟨X.K, cls⟩ (Yf fun i j => .bl (decide (j <= i))) fGe := Uo (fun _ _ => rfl) fun _ _ => rfl
theorem WU {op op' : CmpOp} {r r' : R2} {f f' : F2} {m1 m2 m3 : ME} (ho : y6 X (compareOp op) r) (hk : yM ⟨X.K, cls⟩ r f) (ho' : y6 X (compareOp op') r') (hk' : yM ⟨X.K, cls⟩ r' f') (ha : DE X cls pn a m1) (hb : DE X cls pn b m2) (hc : DE X cls pn c m3)
    (hm : lastMarks [op, op'] [b, c] = false := by with_unfolding_all rfl) : DE X cls pn (.Compare a [op, op'] [b, c] pos) (Vg f f' m1 m2 m3) :=
  let ⟨_, pa, ja⟩ := ha.h; let ⟨_, pb, jb⟩ := hb.h; let ⟨_, pc, jc⟩ := hc.h; ⟨_, ziE ho ho' pa pb pc hm, zcY hk hk' ja jb jc⟩
theorem zjh {op op' : CmpOp} {r r' : R2} {f f' : F2} {m1 m2 m3 : ME} (ho : y6 X (compareOp op) r) (hk : yM ⟨X.K, cls⟩ r f) (ho' : y6 X (compareOp op') r') (hk' : yM ⟨X.K, cls⟩ r' f') (ha : DE X cls pn a m1) (hb : DE X cls pn b m2) (hc : DE X cls pn c m3)
    (hm : lastMarks [op, op'] [b, c] = false := by with_unfolding_all rfl) : DT X cls pn (.Compare a [op, op'] [b, c] pos) (mB (Vg f f' m1 m2 m3)) :=
  let ⟨_, pa, ja⟩ := ha.h; let ⟨_, pb, jb⟩ := hb.h; let ⟨_, pc, jc⟩ := hc.h; ⟨_, ziF ho ho' pa pb pc hm, zeG (zcY hk hk' ja jb jc)⟩
theorem Qs {m : ME} (h : DE X cls pn e m) (he : ∀ whole, isTrue e X.env whole = (do let v ← whole; standAt e.pos; holding [v] (truthy v)) := by intro _; kernel_rfl) : DT X cls pn e (mB m) := let ⟨_, a, b⟩ := h.h; ⟨_, zl9 a he, zo8 b⟩
theorem znz {m : MO} (h : DO X cls pn e m) (he : ∀ whole, isTrue e X.env whole = (do let v ← whole; standAt e.pos; holding [v] (truthy v)) := by intro _; kernel_rfl) : DT X cls pn e (zf2 m) := let ⟨_, a, b⟩ := h.h; ⟨_, ziH a he, znp b⟩
theorem Qt {m : MT} (h : DT X cls pn a m) : DT X cls pn (.UnaryOp .Not a pos) (zfP m) := let ⟨_, a, b⟩ := h.h; ⟨_, zmd a, zm3 b⟩
theorem zji {m : MT} (h : DW X cls pn e m) : DT X cls pn e m := let ⟨_, a, b⟩ := h.h; ⟨_, a.pt, b⟩
theorem zlB {m : MT} (h : DT X cls pn a m) : DW X cls pn (.BoolOp .And [a] pos) m := let ⟨_, a, b⟩ := h.h; ⟨_, zkQ a, b⟩
theorem zhx {m : MT} (h : DT X cls pn a m) : DW X cls pn (.BoolOp .Or [a] pos) m := let ⟨_, a, b⟩ := h.h; ⟨_, zmb a, b⟩
theorem znA {m n : MT} (h : DT X cls pn a m) (r : DW X cls pn (.BoolOp .And (b :: es) pos) n) : DW X cls pn (.BoolOp .And (a :: b :: es) pos) (zfO m n) := let ⟨_, a, b⟩ := h.h; let ⟨_, c, d⟩ := r.h; ⟨_, zmc a c, zm2 b d⟩
theorem zkt {m n : MT} (h : DT X cls pn a m) (r : DW X cls pn (.BoolOp .Or (b :: es) pos) n) : DW X cls pn (.BoolOp .Or (a :: b :: es) pos) (mOr m n) := let ⟨_, a, b⟩ := h.h; let ⟨_, c, d⟩ := r.h; ⟨_, zn1 a c, zod b d⟩
theorem ZY {op} {m : ME} (h : DE X cls pn a m) : DE X cls pn (.BoolOp op [a] pos) m := let ⟨_, a, b⟩ := h.h; ⟨_, zme a, b⟩
theorem Ze {m n : ME} (h : DE X cls pn a m) (r : DE X cls pn (.BoolOp .And (b :: es) pos) n) : DE X cls pn (.BoolOp .And (a :: b :: es) pos) (zcc m n) := let ⟨_, a, b⟩ := h.h; let ⟨_, c, d⟩ := r.h; ⟨_, zmf a c, zm4 b d⟩
theorem znB {m : ME} (h : DE X cls pn a m) : DE X cls pn (.UnaryOp .Not a pos) (zcd m) := let ⟨_, a, b⟩ := h.h; ⟨_, zmg a, zm5 b⟩
theorem zol {t : MT} {m n : ME} (h : DT X cls pn c t) (h1 : DE X cls pn a m) (h2 : DE X cls pn b n) : DE X cls pn (.IfExp c a b pos) (mIf t m n) := let ⟨_, a, b⟩ := h.h; let ⟨_, c, d⟩ := h1.h; let ⟨_, e, f⟩ := h2.h; ⟨_, ziu a c e, zoe b d f⟩
def fIx : F2 := fun x y q => match x with | .tup _ => zcV x y q | .str _ => zcW x y q | _ => WT x y q
theorem zom : yM ⟨X.K, cls⟩ (rIx X.K) fIx := fun E H x y dx dy Q q hE rx ry h k => by
  unfold fIx at h
  split at h
  · exact .inr (.inl (zni E H x y _ dy Q q hE rx ry h k))
  · exact .inr (.inr (znj E H x y _ dy Q q hE rx ry h k))
  · exact .inl (znh E H x y _ dy Q q hE rx ry h k)
theorem zN (ha : DO X cls pn a ma) (hb : DO X cls pn b mb) (hs : zet b) : DE X cls pn (.Subscript a b pos) (JP fIx ma mb) :=
  let ⟨_, pa, ja⟩ := ha.h; let ⟨_, pb, jb⟩ := hb.h; ⟨_, zn8 zmM pa pb hs, V2 zom ja jb⟩
theorem YX : DP X cls pn none zaS := ⟨_, zk4, zlr⟩
theorem JH {m : ME} (h : DE X cls pn e m) : DP X cls pn (some e) (zcj m) := let ⟨_, a, b⟩ := h.h; ⟨_, zk5 a, zls b⟩
theorem ZZ {lo hi : Option Expr} {l u : MOI} {p2 : Pos} (ha : DO X cls pn a ma) (hl : DP X cls pn lo l) (hu : DP X cls pn hi u) : DF X cls pn (.Subscript a (.Slice lo hi none p2) pos) (zfY ma l u) :=
  let ⟨_, a, b⟩ := ha.h; let ⟨_, c, d⟩ := hl.h; let ⟨_, e, f⟩ := hu.h; ⟨_, ziN zk6 a c e, znl b d f⟩
theorem zcm {id : String} {r : List V -> Hp -> VK -> Prop} {f : F1} (hc : jL X (.builtin id) r) (hk : Yi ⟨X.K, cls⟩ (fun y => r [y]) f) (hg : Gl X x) (hm : X.mg x = none) (hv : bootBuiltins x = some (.builtin id)) (ha : DO X cls pn a ma)
    (hs : starEach [a] X.env = [(false, eval a X.env)] := by kernel_rfl) (hn : x ≠ "__name__" := by decide) (hd : (x == ("__debug__" : Str)) = false := by decide) : DE X cls pn (.Call (.Name x p) [a] [] pos) (QM f ma) :=
  let ⟨_, pa, ja⟩ := ha.h; ⟨_, Ud hc hg hm hv (jk pa jR hs) hn hd hs rfl, zcF hk ja⟩
theorem zon {id : String} {r : List V -> Hp -> VK -> Prop} {f : F1} (hc : jL X (.type id) r) (hk : Yi ⟨X.K, cls⟩ (fun y => r [y]) f) (hg : Gl X x) (hm : X.mg x = none) (hv : bootBuiltins x = some (.type id)) (ha : DO X cls pn a ma)
    (hs : starEach [a] X.env = [(false, eval a X.env)] := by kernel_rfl) (hn : x ≠ "__name__" := by decide) (hd : (x == ("__debug__" : Str)) = false := by decide) : DE X cls pn (.Call (.Name x p) [a] [] pos) (QM f ma) :=
  let ⟨_, pa, ja⟩ := ha.h; ⟨_, Yh hc hg hm hv (jk pa jR hs) hn hd hs rfl, zcF hk ja⟩
theorem zoo {id : String} {r : List V -> Hp -> VK -> Prop} {f : FL1} (hc : jL X (.type id) r) (hk : zcI ⟨X.K, cls⟩ (fun y => r [y]) f) (hg : Gl X x) (hm : X.mg x = none) (hv : bootBuiltins x = some (.type id)) (ha : DO X cls pn a ma)
    (hs : starEach [a] X.env = [(false, eval a X.env)] := by kernel_rfl) (hn : x ≠ "__name__" := by decide) (hd : (x == ("__debug__" : Str)) = false := by decide) : DF X cls pn (.Call (.Name x p) [a] [] pos) (V3 f ma) :=
  let ⟨_, pa, ja⟩ := ha.h; ⟨_, Yh hc hg hm hv (jk pa jR hs) hn hd hs rfl, zi0 hk ja⟩
theorem zkv {id : String} {r : List V -> Hp -> VK -> Prop} {f : F2} (hc : jL X (.builtin id) r) (hk : yM ⟨X.K, cls⟩ (fun y z => r [y, z]) f) (hg : Gl X x) (hm : X.mg x = none) (hv : bootBuiltins x = some (.builtin id)) (ha : DO X cls pn a ma) (hb : DO X cls pn b mb)
    (hs : starEach [a, b] X.env = (false, eval a X.env) :: starEach [b] X.env := by kernel_rfl) (hs2 : starEach [b] X.env = [(false, eval b X.env)] := by kernel_rfl) (hp : (backTo pos (starEach [b] X.env)).any (·.1) = false := by kernel_rfl)
    (hn : x ≠ "__name__" := by decide) (hd : (x == ("__debug__" : Str)) = false := by decide) : DE X cls pn (.Call (.Name x p) [a, b] [] pos) (JP f ma mb) :=
  let ⟨_, pa, ja⟩ := ha.h; let ⟨_, pb, jb⟩ := hb.h; ⟨_, Ud hc hg hm hv (jk pa (jk pb jR hs2) hs) hn hd hs hp, ziZ hk ja jb⟩
theorem yL (hg : Gl X "len") (hm : X.mg "len" = none) (ha : DO X cls pn a ma) (hs : starEach [a] X.env = [(false, eval a X.env)] := by kernel_rfl) : DE X cls pn (.Call (.Name "len" p) [a] [] pos) (QM zjf ma) :=
  zcm ziI znk hg hm (by kernel_rfl) ha hs
theorem RG (hc : X.calm = true) (hg : Gl X "all") (hm : X.mg "all" = none) (ha : DO X cls pn a ma) (hs : starEach [a] X.env = [(false, eval a X.env)] := by kernel_rfl) : DE X cls pn (.Call (.Name "all" p) [a] [] pos) (QM zf0 ma) :=
  zcm (ziX hc) zno hg hm (by kernel_rfl) ha hs
theorem zaT (hg : Gl X "int") (hm : X.mg "int" = none) (ha : DO X cls pn a ma) (hs : starEach [a] X.env = [(false, eval a X.env)] := by kernel_rfl) : DE X cls pn (.Call (.Name "int" p) [a] [] pos) (QM zjg ma) :=
  zon zg0 znn hg hm (by kernel_rfl) ha hs
theorem Jo (hg : Gl X "list") (hm : X.mg "list" = none) (ha : DO X cls pn a ma) (hs : starEach [a] X.env = [(false, eval a X.env)] := by kernel_rfl) : DF X cls pn (.Call (.Name "list" p) [a] [] pos) (V3 zck ma) :=
  zoo zcC zlu hg hm (by kernel_rfl) ha hs
theorem zlC (hc : X.calm = true) (hg : Gl X "max") (hm : X.mg "max" = none) (ha : DO X cls pn a ma) (hb : DO X cls pn b mb) (hs : starEach [a, b] X.env = (false, eval a X.env) :: starEach [b] X.env := by kernel_rfl) (hs2 : starEach [b] X.env = [(false, eval b X.env)] := by kernel_rfl)
    (hp : (backTo pos (starEach [b] X.env)).any (·.1) = false := by kernel_rfl) : DE X cls pn (.Call (.Name "max" p) [a, b] [] pos) (JP zcl ma mb) := zkv (zgZ hc) zlv hg hm (by kernel_rfl) ha hb hs hs2 hp
theorem QP (hg : Gl X "isinstance") (hm : X.mg "isinstance" = none) (ha : DO X cls pn a ma) (hb : DO X cls pn b mb) (hs : starEach [a, b] X.env = (false, eval a X.env) :: starEach [b] X.env := by kernel_rfl) (hs2 : starEach [b] X.env = [(false, eval b X.env)] := by kernel_rfl)
    (hp : (backTo pos (starEach [b] X.env)).any (·.1) = false := by kernel_rfl) : DE X cls pn (.Call (.Name "isinstance" p) [a, b] [] pos) (JP RC ma mb) := zkv zcD zlx hg hm (by kernel_rfl) ha hb hs hs2 hp
end
end M
namespace M
open PySem L2
structure HM (P : Program) (w : World) (K : PySem.W.Frag) (mg : Str -> Option Value) (base : Heap) (cls : Nat -> Option Addr) (x : Str) (k : Nat) (ps : List Str) (pn : List Nat) (fr : Bool) (p : JQ) : Prop where
  has : Has P w K mg base x k ps (z9 ⟨K, cls⟩ pn fr ps.length p)
  len : ∀ ss q, p ss q Z0 -> ss.length = ps.length
section
variable {X : Cx} {cls : Nat -> Option Addr} {pn : List Nat} {a b c e o tg iter : Expr} {es : List Expr} {pos p pos' apos cpos : Pos} {x : Str} {ma mb : MO} {st : Stmt} {sts : List Stmt} {fr : Bool}
theorem yA : RD X cls pn fr [] zfQ := ⟨_, zkR, zlf⟩
theorem zh {m n : MS} (h : DS X cls pn fr st m) (r : RD X cls pn fr sts n) : RD X cls pn fr (st :: sts) (zi1 m n) := let ⟨_, a, b⟩ := h.h; let ⟨_, c, d⟩ := r.h; ⟨_, ziv a c, zm6 b d⟩
theorem zo {m : MS} (h : DS X cls pn fr st m) : RD X cls pn fr [st] m := let ⟨_, a, b⟩ := h.h; ⟨_, zkS a, b⟩
theorem Je : DS X cls pn fr st zcJ := ⟨_, zix, zi2⟩
theorem yQ {m : ME} (h : DE X cls pn e m) (hs : swapsWith e none pos.line X.env = pure false := by kernel_rfl) : DS X cls pn fr (.Expr e pos) (zce m) := let ⟨_, a, b⟩ := h.h; ⟨_, zkT a hs, zlg b⟩
theorem zB {m : ME} (h : DE X cls pn e m) : DS X cls pn false (.Return (some e) pos) (zaK m) := let ⟨_, a, b⟩ := h.h; ⟨_, zgO a, zm7 b⟩
theorem zlD {m : ME} (h : DF X cls pn e m) : DS X cls pn true (.Return (some e) pos) (zaK m) := let ⟨_, a, b⟩ := h.h; ⟨_, zgO a, zlh b⟩
theorem jq {t : MT} {m n : MS} {s1 s2 : List Stmt} (h : DT X cls pn c t) (h1 : RD X cls pn fr s1 m) (h2 : RD X cls pn fr s2 n) : DS X cls pn fr (.If c s1 s2 pos) (zfR t m n) :=
  let ⟨_, a, b⟩ := h.h; let ⟨_, c, d⟩ := h1.h; let ⟨_, e, f⟩ := h2.h; ⟨_, zn2 a c e, zof b d f⟩
theorem ye {i : Nat} {m : ME} (hi' : i ∉ pn) (hN : X.N.Nodup) (hi : X.N[i]? = some x) (hx : Loc X.env.scope x) (he : DE X cls pn e m) (hs : swapsWith e (some (.Name x pos')) pos.line X.env = pure false := by kernel_rfl)
    (hf : X.fn x = true \/ X.env.scope.names.lookup x = some .local := by first | exact .inl rfl | exact .inr rfl | assumption) : DS X cls pn fr (.Assign [.Name x pos'] e pos) (zcK i m) :=
  let ⟨_, a, b⟩ := he.h; ⟨_, zgQ hN hi hx a hs hf, zhg hi' b⟩
theorem Jc {i : Nat} {m : ME} (hi' : i ∉ pn) (hN : X.N.Nodup) (hi : X.N[i]? = some x) (hx : Loc X.env.scope x) (he : DF X cls pn e m) (hs : swapsWith e (some (.Name x pos')) pos.line X.env = pure false := by kernel_rfl)
    (hf : X.fn x = true \/ X.env.scope.names.lookup x = some .local := by first | exact .inl rfl | exact .inr rfl | assumption) : DS X cls pn fr (.Assign [.Name x pos'] e pos) (YR i m) :=
  let ⟨_, a, b⟩ := he.h; ⟨_, zgQ hN hi hx a hs hf, zbm hi' b⟩
theorem zJ {i : Nat} (hi' : i ∉ pn) (hN : X.N.Nodup) (hi : X.N[i]? = some x) (hx : Loc X.env.scope x) (hf : X.fn x = true \/ X.env.scope.names.lookup x = some .local := by first | exact .inl rfl | exact .inr rfl | assumption) : DG X cls pn (.Name x pos) (zcL i) :=
  ⟨_, zkU hN hi hx hf, zli hi'⟩
theorem zaU : DGs X cls pn [] zfS := ⟨_, zkV, zlj⟩
theorem QQ {m : MG} {n : YS} (h : DG X cls pn e m) (r : DGs X cls pn es n) (hs : (assignEach (e :: es) X.env).map (·.2) = assign e X.env :: (assignEach es X.env).map (·.2) := by kernel_rfl) : DGs X cls pn (e :: es) (zcM m n) :=
  let ⟨_, a, b⟩ := h.h; let ⟨_, c, d⟩ := r.h; ⟨_, ziz a c hs, zi3 b d⟩
theorem zc0 {k n : Nat} {m : YS} (hc : X.calm = true) (h : DGs X cls pn es m) (hn : (assignEach es X.env).length = n := by kernel_rfl) (hst : (assignEach es X.env).findIdx? (·.1) = none := by kernel_rfl) : DG X cls pn (.Tuple es k pos) (zfT m n) :=
  let ⟨_, a, b⟩ := h.h; ⟨_, zml hc a hn hst, zm8 b⟩
theorem z4 {m : ME} (h : DE X cls pn iter m) : DI X cls pn tg iter (Rx m) := let ⟨_, a, b⟩ := h.h; ⟨_, zkW a, zlk b⟩
theorem znC {m : ME} (h : DE X cls pn iter m) : DI X cls pn tg iter (zcf m) := let ⟨_, a, b⟩ := h.h; ⟨_, zmU a, zm_ b⟩
theorem Qe {m : MA} (hg : Gl X "range") (hm : X.mg "range" = none) (h : DA X cls pn [a] m) (hs : starEach [a] X.env = [(false, eval a X.env)] := by kernel_rfl) : DI X cls pn tg (.Call (.Name "range" p) [a] [] pos) (Ug m) :=
  let ⟨_, a, b⟩ := h.h; ⟨_, zgU hg hm a hs, zhi b⟩
theorem zhy {m : MA} (hg : Gl X "range") (hm : X.mg "range" = none) (h : DA X cls pn [a, b] m) (hs : starEach [a, b] X.env = [(false, eval a X.env), (false, eval b X.env)] := by kernel_rfl) (hs2 : starEach [b] X.env = [(false, eval b X.env)] := by kernel_rfl) :
    DI X cls pn tg (.Call (.Name "range" p) [a, b] [] pos) (Uh m) := let ⟨_, a, b⟩ := h.h; ⟨_, zgV hg hm a hs hs2, zhj b⟩
theorem Jx {mi : MI} {mg : MG} {m : MS} (hp : PassesOwn (model X.prog X.w) X.A X.env X.xe) (hc : X.calm = true) (hi : DI X cls pn tg iter mi) (hg : DG X cls pn tg mg) (hb : RD X cls pn fr sts m) (hs : ∀ x, foldedSetIterable iter X.env x = pure x := by intro _; kernel_rfl) :
    DS X cls pn fr (.For tg iter sts [] pos) (zfU mi mg m) := let ⟨_, a, b⟩ := hi.h; let ⟨_, c, d⟩ := hg.h; let ⟨_, e, f⟩ := hb.h; ⟨_, zmr hp hc a c e hs, zna b d f⟩
theorem zjj {t : MT} {m : MS} (hp : PassesOwn (model X.prog X.w) X.A X.env X.xe) (hc : DT X cls pn c t) (hb : RD X cls pn fr sts m) : DS X cls pn fr (.While c sts [] pos) (zcP t m) :=
  let ⟨_, a, b⟩ := hc.h; let ⟨_, e, f⟩ := hb.h; ⟨_, ziA hp a e, zi5 b f⟩
theorem yR : DTs X cls pn [] mTT := ⟨_, zk7, zog⟩
theorem QR {m : MT} (h : DT X cls pn c m) : DTs X cls pn [c] m := let ⟨_, a, b⟩ := h.h; ⟨_, zk8 a, b⟩
def Us (js : List (Option Nat)) : Bool := decide ((js.filterMap id).Nodup)
theorem Once.of_b : ∀ {js : List (Option Nat)}, Us js = true -> Once js
  | [], _ => fun k k' j h => by simp at h
  | none :: js, h => fun k k' j h1 h2 => by
    have ih := Once.of_b (js := js) (by simpa [Us] using h)
    cases k with
    | zero => simp at h1
    | succ k => cases k' with
      | zero => simp at h2
      | succ k' => rw [ih k k' j (by simpa using h1) (by simpa using h2)]
  | some i :: js, h => fun k k' j h1 h2 => by
    have h' : ¬ i ∈ js.filterMap id /\ (js.filterMap id).Nodup := by simpa [Us] using h
    have ih := Once.of_b (js := js) (by simpa [Us] using h'.2)
    have no : ∀ k, js[k]? = some (some i) -> False := fun k hk => h'.1 (List.mem_filterMap.mpr ⟨some i, List.mem_of_getElem? hk, rfl⟩)
    cases k with
    | zero =>
      simp at h1; subst h1
      cases k' with
      | zero => rfl
      | succ k' => exact (no k' (by simpa using h2)).elim
    | succ k => cases k' with
      | zero => simp at h2; subst h2; exact (no k (by simpa using h1)).elim
      | succ k' => rw [ih k k' j (by simpa using h1) (by simpa using h2)]
variable {N' : List Str} {js : List (Option Nat)} {scope : Scope} {elt : Expr} {ifs : List Expr}
def znD (Γ : Cn) (pn : List Nat) (m : ME) : TE := fun σ H Q => ∃ (S : Fs) (ρ : Env) (τ : List (V × D)) (q : EK), Jd pn S /\ Rel Γ S H σ ρ τ /\ m ρ q /\ ∀ v d H' ρ', Rel Γ S H' σ ρ' τ -> Rep Γ (zD S σ ρ') H' v d -> q d ρ' -> Q v H'
def znE (Γ : Cn) (pn : List Nat) (m : MT) : TT := fun σ H Q => ∃ (S : Fs) (ρ : Env) (τ : List (V × D)) (q : Bool -> Env -> Prop), Jd pn S /\ Rel Γ S H σ ρ τ /\ m ρ q /\ ∀ b H' ρ', Rel Γ S H' σ ρ' τ -> q b ρ' -> Q b H'
def znF (Γ : Cn) (pn : List Nat) (m : MG) : TG := fun v σ H Q => ∃ (S : Fs) (ρ : Env) (τ : List (V × D)) (d : D) (q : Env -> Prop), Jd pn S /\ Rel Γ S H σ ρ τ /\ Rep Γ (zD S σ ρ) H v d /\ m d ρ q /\ ∀ σ' H' ρ', Rel Γ S H' σ' ρ' τ -> q ρ' -> Q σ' H'
theorem zc1 {Γ : Cn} {m : ME} : JE Γ pn (znD Γ pn m) m := fun S σ ρ H τ Q q hp R hm hq => ⟨S, ρ, τ, q, hp, R, hm, hq⟩
theorem zc2 {Γ : Cn} {m : MT} : JT Γ pn (znE Γ pn m) m := fun S σ ρ H τ Q q hp R hm hq => ⟨S, ρ, τ, q, hp, R, hm, hq⟩
theorem zc3 {Γ : Cn} {m : MG} : JG Γ pn (znF Γ pn m) m := fun S σ ρ H τ v d Q q hp R r hm hq => ⟨S, ρ, τ, d, q, hp, R, r, hm, hq⟩
theorem DE.pe {m : ME} (h : DE X cls pn e m) : PE X e (znD ⟨X.K, cls⟩ pn m) := fun pins s σ H Q I ⟨S, ρ, τ, q, hp, R, hm, hq⟩ => let ⟨t, a, b⟩ := h.h; a pins s σ H Q I (b S σ ρ H τ Q q hp R hm hq)
theorem DTs.pt {m : MT} (h : DTs X cls pn es m) : PTs X es (znE ⟨X.K, cls⟩ pn m) := fun pins s σ H Q I ⟨S, ρ, τ, q, hp, R, hm, hq⟩ => let ⟨t, a, b⟩ := h.h; a pins s σ H Q I (b S σ ρ H τ Q q hp R hm hq)
theorem DG.pg {m : MG} (h : DG X cls pn e m) : PG X e (znF ⟨X.K, cls⟩ pn m) := fun pins s σ H v u Q I r ⟨S, ρ, τ, d, q, hp, R, rd, hm, hq⟩ => let ⟨t, a, b⟩ := h.h; a pins s σ H v u Q I r (b S σ ρ H τ v d Q q hp R rd hm hq)
theorem yB {mi : MI} {g : MG} {t : MT} {m : ME} (hc : X.calm = true) (K : CompOk X N' js scope) (h1 : Us js = true) (hi : DI X cls pn tg iter mi) (hg : ∀ s2 H2 fp C cl, DG (yq X N' scope cl C s2 H2 fp) cls (YU js) tg g)
    (ht : ∀ s2 H2 fp C cl, DTs (yq X N' scope cl C s2 H2 fp) cls (YU js) ifs t) (he : ∀ s2 H2 fp C cl, DE (yq X N' scope cl C s2 H2 fp) cls (YU js) elt m)
    (hs : ∀ x, foldedSetIterable iter X.env x = pure x := by intro _; kernel_rfl) : DF X cls pn (.ListComp elt [⟨tg, iter, ifs, 0⟩] scope pos) (V5 mi js g t m) :=
  let ⟨_, a, b⟩ := hi.h
  ⟨_, zk9 hc K a (fun s2 H2 fp C cl => ⟨(hg s2 H2 fp C cl).pg, (ht s2 H2 fp C cl).pt, (he s2 H2 fp C cl).pe⟩) hs, zaN (Once.of_b h1) b zc3 zc2 zc1⟩
theorem zaV {i : Nat} {y : Str} {py spos : Pos} {mi : MI} {g : MG} {t : MT} {m : ME} (hi' : i ∉ pn) (hc : X.calm = true) (hN : X.N.Nodup) (hi0 : X.N[i]? = some y) (hy : X.env.scope.names.lookup y = some .local) (K : CompOk X N' js scope) (h1 : Us js = true) (hi : DI X cls pn tg iter mi)
    (hg : ∀ s2 H2 fp C cl, DG (yq X N' scope cl C s2 H2 fp) cls (YU js) tg g) (ht : ∀ s2 H2 fp C cl, DTs (yq X N' scope cl C s2 H2 fp) cls (YU js) ifs t) (he : ∀ s2 H2 fp C cl, DE (yq X N' scope cl C s2 H2 fp) cls (YU js) elt m)
    (hsw : swapsWith (.ListComp elt [⟨tg, iter, ifs, 0⟩] scope pos) (some (.Name y py)) spos.line X.env = pure true := by kernel_rfl) (hs : ∀ x, foldedSetIterable iter X.env x = pure x := by intro _; kernel_rfl) :
    DS X cls pn fr (.Assign [.Name y py] (.ListComp elt [⟨tg, iter, ifs, 0⟩] scope pos) spos) (zcK i (V5 mi js g t m)) :=
  let ⟨_, a, b⟩ := hi.h
  ⟨_, zez hc hN hi0 hy K a (fun s2 H2 fp C cl => ⟨(hg s2 H2 fp C cl).pg, (ht s2 H2 fp C cl).pt, (he s2 H2 fp C cl).pe⟩) hsw hs, zhg hi' (Wv (zaN (Once.of_b h1) b zc3 zc2 zc1))⟩
theorem zf3 {i : Nat} {y : Str} {py spos : Pos} {mi : MI} {g : MG} {t : MT} {m : ME} (hi' : i ∉ pn) (hc : X.calm = true) (hN : X.N.Nodup) (hi0 : X.N[i]? = some y) (hy : X.env.scope.names.lookup y = some .local) (K : CompOk X N' js scope) (h1 : Us js = true) (hi : DI X cls pn tg iter mi)
    (hg : ∀ s2 H2 fp C cl, DG (yq X N' scope cl C s2 H2 fp) cls (YU js) tg g) (ht : ∀ s2 H2 fp C cl, DTs (yq X N' scope cl C s2 H2 fp) cls (YU js) ifs t) (he : ∀ s2 H2 fp C cl, DE (yq X N' scope cl C s2 H2 fp) cls (YU js) elt m)
    (hsw : swapsWith (.ListComp elt [⟨tg, iter, ifs, 0⟩] scope pos) (some (.Name y py)) spos.line X.env = pure true := by kernel_rfl) (hs : ∀ x, foldedSetIterable iter X.env x = pure x := by intro _; kernel_rfl) :
    DS X cls pn fr (.Assign [.Name y py] (.ListComp elt [⟨tg, iter, ifs, 0⟩] scope pos) spos) (YR i (V5 mi js g t m)) :=
  let ⟨_, a, b⟩ := hi.h
  ⟨_, zez hc hN hi0 hy K a (fun s2 H2 fp C cl => ⟨(hg s2 H2 fp C cl).pg, (ht s2 H2 fp C cl).pt, (he s2 H2 fp C cl).pe⟩) hsw hs, zbm hi' (zaN (Once.of_b h1) b zc3 zc2 zc1)⟩
theorem zaW {id : String} {r : V -> List V -> Hp -> VK -> Prop} {m : ME} {i : Nat} {name : Str} {mm : ME} (slot : PySem.Slot "list" name id) (hty : typeOf (.builtin id) = pure (.type "method_descriptor")) (hm : MtR X id r) (i' : X.N[i]? = some x) (hj : ∀ ta, JE ⟨X.K, cls⟩ pn ta m -> JE ⟨X.K, cls⟩ pn (tBM X.K "list" r (Qn i) (JC ta Zm)) mm) (ha : DE X cls pn e m)
    (hv : ZN X.env.scope x) (hd : (x == ("__debug__" : Str)) = false) (hcd : (x == ("__classdict__" : Str)) = false)
    (hbase : attributeBase (.Name x p) name X.env (eval (.Name x p) X.env) = eval (.Name x p) X.env) (hfew : ((backTo cpos (starEach [e] X.env)).all (fun x => !x.1) && (backToKw cpos (keywordEach [] X.env)).all (fun x => x.1.isSome)
      && decide (([e] : List Expr).length + ([] : List Keyword).length + (if ([] : List Keyword).isEmpty then 0 else 1) < 30)) = true) (hline : (apos.endLine == cpos.line) = true) (hs : starEach [e] X.env = [(false, eval e X.env)]) :
    DE X cls pn (.Call (.Attribute (.Name x p) name apos) [e] [] cpos) mm :=
  let ⟨_, a, b⟩ := ha.h; ⟨_, zkg PySem.F.plainAttrs_list slot hty hm (Qo i' hv hd hcd) (jk a jR hs) hbase hfew hline hs rfl, hj _ b⟩
theorem Vi (i : Nat) {m : ME} (ha : DE X cls pn e m) (i' : X.N[i]? = some x := by kernel_rfl) (hv : ZN X.env.scope x := by first | exact Or.inl rfl | exact Or.inr (Or.inl rfl) | exact Or.inr (Or.inr rfl)) (hd : (x == ("__debug__" : Str)) = false := by decide) (hcd : (x == ("__classdict__" : Str)) = false := by decide)
    (hbase : attributeBase (.Name x p) "append" X.env (eval (.Name x p) X.env) = eval (.Name x p) X.env := by kernel_rfl) (hfew : ((backTo cpos (starEach [e] X.env)).all (fun x => !x.1) && (backToKw cpos (keywordEach [] X.env)).all (fun x => x.1.isSome)
      && decide (([e] : List Expr).length + ([] : List Keyword).length + (if ([] : List Keyword).isEmpty then 0 else 1) < 30)) = true := by kernel_rfl) (hline : (apos.endLine == cpos.line) = true := by kernel_rfl) (hs : starEach [e] X.env = [(false, eval e X.env)] := by kernel_rfl) :
    DE X cls pn (.Call (.Attribute (.Name x p) "append" apos) [e] [] cpos) (Yj zaP i m) := zaW PySem.F.slot_list_append PySem.F.type_list_append zg8 i' (fun _ => zhl) ha hv hd hcd hbase hfew hline hs
theorem zhz (i : Nat) {m : ME} (ha : DE X cls pn e m) (i' : X.N[i]? = some x := by kernel_rfl) (hv : ZN X.env.scope x := by first | exact Or.inl rfl | exact Or.inr (Or.inl rfl) | exact Or.inr (Or.inr rfl)) (hd : (x == ("__debug__" : Str)) = false := by decide) (hcd : (x == ("__classdict__" : Str)) = false := by decide)
    (hbase : attributeBase (.Name x p) "extend" X.env (eval (.Name x p) X.env) = eval (.Name x p) X.env := by kernel_rfl) (hfew : ((backTo cpos (starEach [e] X.env)).all (fun x => !x.1) && (backToKw cpos (keywordEach [] X.env)).all (fun x => x.1.isSome)
      && decide (([e] : List Expr).length + ([] : List Keyword).length + (if ([] : List Keyword).isEmpty then 0 else 1) < 30)) = true := by kernel_rfl) (hline : (apos.endLine == cpos.line) = true := by kernel_rfl) (hs : starEach [e] X.env = [(false, eval e X.env)] := by kernel_rfl) :
    DE X cls pn (.Call (.Attribute (.Name x p) "extend" apos) [e] [] cpos) (Yj zaQ i m) := zaW PySem.F.slot_list_extend PySem.F.type_list_extend zg9 i' (fun _ => zhm) ha hv hd hcd hbase hfew hline hs
theorem zc4 (i : Nat) {m : ME} (ha : DE X cls pn e m) (i' : X.N[i]? = some x := by kernel_rfl) (hv : ZN X.env.scope x := by first | exact Or.inl rfl | exact Or.inr (Or.inl rfl) | exact Or.inr (Or.inr rfl)) (hd : (x == ("__debug__" : Str)) = false := by decide) (hcd : (x == ("__classdict__" : Str)) = false := by decide)
    (hbase : attributeBase (.Name x p) "pop" X.env (eval (.Name x p) X.env) = eval (.Name x p) X.env := by kernel_rfl) (hfew : ((backTo cpos (starEach [e] X.env)).all (fun x => !x.1) && (backToKw cpos (keywordEach [] X.env)).all (fun x => x.1.isSome)
      && decide (([e] : List Expr).length + ([] : List Keyword).length + (if ([] : List Keyword).isEmpty then 0 else 1) < 30)) = true := by kernel_rfl) (hline : (apos.endLine == cpos.line) = true := by kernel_rfl) (hs : starEach [e] X.env = [(false, eval e X.env)] := by kernel_rfl) :
    DE X cls pn (.Call (.Attribute (.Name x p) "pop" apos) [e] [] cpos) (Yj zi9 i m) := zaW PySem.F.slot_list_pop PySem.F.type_list_pop ziT i' (fun _ => znc) ha hv hd hcd hbase hfew hline hs
theorem zc5 (i : Nat) {m v : ME} {value : Expr} {pn' : Pos} (hv : DE X cls pn value v) (hi : DE X cls pn a m) (i' : X.N[i]? = some x := by kernel_rfl) (hvis : ZN X.env.scope x := by first | exact Or.inl rfl | exact Or.inr (Or.inl rfl) | exact Or.inr (Or.inr rfl))
    (hd : (x == ("__debug__" : Str)) = false := by decide) (hcd : (x == ("__classdict__" : Str)) = false := by decide)
    (ha : ∀ v, assign (.Subscript (.Name x p) a pos) X.env v = (do
      let ov ← holding [v] (eval (.Name x p) X.env)
      let iv ← holding [v, ov] (eval a X.env)
      standAt pos
      holding [v, ov, iv] (setItem ov iv v)
      release [v, ov, iv] []) := by intro _; kernel_rfl) (hs : swapsWithSole [.Subscript (.Name x p) a pos] value pn'.line X.env = pure false := by kernel_rfl) (hw : swappedStores [.Subscript (.Name x p) a pos] value X.env = pure none := by kernel_rfl)
    (h1 : (assignEach [.Subscript (.Name x p) a pos] X.env).map (·.2) = [assign (.Subscript (.Name x p) a pos) X.env] := by kernel_rfl) : DS X cls pn fr (.Assign [.Subscript (.Name x p) a pos] value pn') (Rz i m v) :=
  let ⟨_, pa, ja⟩ := hv.h; let ⟨_, pb, jb⟩ := hi.h; ⟨_, zmo pa (zmn (Qo i' hvis hd hcd) pb ziR ha) hs hw h1, zi_ ja jb⟩
theorem jT {f : Nat} {fx : Str} (ef : fx = yy f) (hf : f < fNames.length) (hn : Zo ⟨X.K, cls⟩ (yy f)) (ha : DO X cls pn a ma) (hb : attributeBase a fx X.env (eval a X.env) = eval a X.env := by kernel_rfl) : DE X cls pn (.Attribute a fx pos) (QM (zja f) ma) := by
  subst ef
  exact let ⟨_, pa, ja⟩ := ha.h; ⟨_, zmE pa hb, znd hf hn ja⟩
theorem QS {f i : Nat} {fx : Str} {m : ME} {value : Expr} (ef : fx = yy f) (hf : f < fNames.length) (hn : Zo ⟨X.K, cls⟩ (yy f)) (hv : DE X cls pn value m) (i' : X.N[i]? = some x := by kernel_rfl)
    (hvis : ZN X.env.scope x := by first | exact Or.inl rfl | exact Or.inr (Or.inl rfl) | exact Or.inr (Or.inr rfl)) (hd : (x == ("__debug__" : Str)) = false := by decide) (hcd : (x == ("__classdict__" : Str)) = false := by decide)
    (hs : swapsWith value (some (.Attribute (.Name x p) fx pos')) pos.line X.env = pure false := by kernel_rfl) : DS X cls pn fr (.Assign [.Attribute (.Name x p) fx pos'] value pos) (zcg i f m) := by
  subst ef
  exact let ⟨_, pa, ja⟩ := hv.h; ⟨_, zmF (Qo i' hvis hd hcd) pa hs, zlm hf hn ja⟩
theorem zF {k : Nat} {ps : List Str} {sp : JQ} {m : MA} (h : HM X.prog X.w X.K X.mg X.base cls x k ps [] false sp) (hr : Room k X.A) (hg : Gl X x) (ha : DA X cls pn (e :: es) m) (hd : (x == ("__debug__" : Str)) = false := by decide)
    (hs : starEach (e :: es) X.env = (false, eval e X.env) :: starEach es X.env := by kernel_rfl) (hp : (backTo pos (starEach es X.env)).any (·.1) = false := by kernel_rfl) : DE X cls pn (.Call (.Name x p) (e :: es) [] pos) (V8 sp m) :=
  let ⟨_, pa, ja⟩ := ha.h; ⟨_, Ue h.has hr hg pa hd hs hp, M.je_call ja h.len⟩
theorem zlE {k : Nat} {ps : List Str} {sp : JQ} {m : MA} (h : HM X.prog X.w X.K X.mg X.base cls x k ps [] true sp) (hr : Room k X.A) (hg : Gl X x) (ha : DA X cls pn (e :: es) m) (hd : (x == ("__debug__" : Str)) = false := by decide)
    (hs : starEach (e :: es) X.env = (false, eval e X.env) :: starEach es X.env := by kernel_rfl) (hp : (backTo pos (starEach es X.env)).any (·.1) = false := by kernel_rfl) : DF X cls pn (.Call (.Name x p) (e :: es) [] pos) (V8 sp m) :=
  let ⟨_, pa, ja⟩ := ha.h; ⟨_, Ue h.has hr hg pa hd hs hp, zln ja h.len⟩
theorem zU {k j : Nat} {ps : List Str} {sp : JQ} {m : MA} {y : Str} {py : Pos} (h : HM X.prog X.w X.K X.mg X.base cls x k ps [0] false sp) (hr : Room k X.A) (hg : Gl X x) (ha : DA X cls pn es m) (j' : X.N[j]? = some y := by kernel_rfl)
    (hvis : ZN X.env.scope y := by first | exact Or.inl rfl | exact Or.inr (Or.inl rfl) | exact Or.inr (Or.inr rfl)) (hyd : (y == ("__debug__" : Str)) = false := by decide) (hcd : (y == ("__classdict__" : Str)) = false := by decide) (hd : (x == ("__debug__" : Str)) = false := by decide)
    (hs : starEach (.Name y py :: es) X.env = (false, eval (.Name y py) X.env) :: starEach es X.env := by kernel_rfl) (hp : (backTo pos (starEach es X.env)).any (·.1) = false := by kernel_rfl) : DE X cls pn (.Call (.Name x p) (.Name y py :: es) [] pos) (Vc j sp m) :=
  let ⟨_, pa, ja⟩ := ha.h; ⟨_, Ue h.has hr hg (jk (Qo j' hvis hyd hcd) pa hs) hd hs hp, zjc ja h.len⟩
structure HK (P : Program) (w : World) (K : PySem.W.Frag) (mg : Str -> Option Value) (base : Heap) (cls : Nat -> Option Addr) (x : Str) (c k : Nat) (ps : List Str) (p : JQ) : Prop where
  has : ∃ C f fd, cls c = some C /\ Mk K C f /\ FnOk P w K mg base yg k f fd ps (z9 ⟨K, cls⟩ [0] false ps.length p) /\ Binds K fd ps [] /\ mg x = some (.ref C)
  len : ∀ ss q, p ss q Z0 -> ss.length = ps.length
theorem Wc {c k : Nat} {ps : List Str} {sp : JQ} {m : MA} (h : HK X.prog X.w X.K X.mg X.base cls x c k ps sp) (hr : Room (k + 1) X.A) (hg : Gl X x) (ha : DA X cls pn (e :: es) m) (hd : (x == ("__debug__" : Str)) = false := by decide)
    (hs : starEach (e :: es) X.env = (false, eval e X.env) :: starEach es X.env := by kernel_rfl) (hp : (backTo pos (starEach es X.env)).any (·.1) = false := by kernel_rfl) : DF X cls pn (.Call (.Name x p) (e :: es) [] pos) (zch c sp m) := by
  obtain ⟨C, f, fd, hC, M, F, B, hm⟩ := h.has
  exact let ⟨_, pa, ja⟩ := ha.h; ⟨_, zk3 M F hr hg hm B .nil zb_ pa hd hs hp, zlo hC ja h.len⟩
end
end M
namespace M
open PySem L2
section
variable {Γ : Cn} {pn : List Nat} {fr : Bool} {E : St -> XK} {z : Nat -> Env -> Prop}
end
end M
namespace M
open PySem L2
section
variable {X : Cx} {cls : Nat -> Option Addr} {pn : List Nat} {a b c e o tg iter : Expr} {es : List Expr} {pos p pos' apos cpos : Pos} {x : Str} {ma mb : MO} {st : Stmt} {sts : List Stmt} {fr : Bool} {E : St -> XK} {z : Nat -> Env -> Prop}
end
end M
namespace M
open PySem L2
section
variable {X : Cx} {cls : Nat -> Option Addr} {pn : List Nat} {pos p np pc tp : Pos} {x n : Str}
end
end M
namespace M
open PySem L2
def Z1 : D -> Bool | .non => true | .bl _ => true | .int _ => true | .str _ => true | _ => false
def Ut : List (Option Bool) -> Option Bool
  | [] => some true
  | some b :: r => (match Ut r with | some c => some (b && c) | none => none)
  | none :: _ => none
def j8 : Nat -> D -> D -> Option Bool
  | 0, x, y => if Z1 x && Z1 y then some (Qb (vD x) (vD y)) else none
  | n + 1, x, y => if Z1 x && Z1 y then some (Qb (vD x) (vD y)) else match x, y with
    | .lst xs, .lst ys => if xs.length = ys.length then Ut (List.zipWith (j8 n) xs ys) else some false
    | .tup xs, .tup ys => (match Ut (List.zipWith (j8 n) xs ys) with | some b => some (b && xs.length == ys.length) | none => none)
    | .lst _, .tup _ => some false
    | .tup _, .lst _ => some false
    | _, _ => none
def eOf (l : List (Option Bool)) (j : Nat) : Bool := match l[j]? with | some (some c) => c | _ => true
theorem Vj : ∀ {l : List (Option Bool)} {b : Bool}, Ut l = some b -> (∀ j o, l[j]? = some o -> o = some (eOf l j)) /\ b = (List.range l.length).all (eOf l)
  | [], b, h => by cases h; exact ⟨fun j o h => by simp at h, rfl⟩
  | some c :: r, b, h => by
    unfold Ut at h
    split at h
    · rename_i d hd
      cases h
      obtain ⟨h1, h2⟩ := Vj hd
      refine ⟨fun j o h => ?_, ?_⟩
      · cases j with
        | zero => simp at h; subst h; rfl
        | succ j => simp at h; rw [h1 j o h]; show _ = some (eOf (some c :: r) (j + 1)); unfold eOf; simp
      · rw [h2, List.length_cons, List.range_succ_eq_map, List.all_cons, List.all_map]
        congr 1
    · cases h
  | none :: r, b, h => by cases h
section
variable {Γ : Cn} {E : Addr -> Prop} {H : Hp}
theorem jP {d : D} (h : Z1 d = true) : Jp d = true /\ JD (vD d) = true := by
  cases d <;> first | exact ⟨rfl, rfl⟩ | cases h
theorem zeM {n : Nat} {x y : D} {v w : V} {b : Bool} (hp : (Z1 x && Z1 y) = true) (hv : v = vD x) (hw : w = vD y) (h : some (Qb (vD x) (vD y)) = some b) : DQ H n v w b := by
  rw [Bool.and_eq_true] at hp
  cases h
  subst hv hw
  exact .fl (jP hp.1).2 (jP hp.2).2
theorem RH {n : Nat} {xs ys : List D} {vs ws : List V} {l : List (Option Bool)} (ih : ∀ (x y : D) (v w : V) (b : Bool), j8 n x y = some b -> Rep Γ E H v x -> Rep Γ E H w y -> DQ H n v w b) (rx : Reps Γ E H vs xs) (ry : Reps Γ E H ws ys) (hl : l = List.zipWith (j8 n) xs ys)
    (ha : ∀ j o, l[j]? = some o -> o = some (eOf l j)) (j : Nat) (v w : V) (hv : vs[j]? = some v) (hw : ws[j]? = some w) : DQ H n v w (eOf l j) := by
  have lx := rx.1
  have ly := ry.1
  have j1 : j < xs.length := by rw [← lx]; exact (List.getElem?_eq_some_iff.mp hv).1
  have j2 : j < ys.length := by rw [← ly]; exact (List.getElem?_eq_some_iff.mp hw).1
  have e : l[j]? = some (j8 n xs[j] ys[j]) := by
    rw [hl, List.getElem?_zipWith, List.getElem?_eq_getElem j1, List.getElem?_eq_getElem j2]
  exact ih _ _ v w _ (ha j _ e) (rx.2 j v _ hv (List.getElem?_eq_getElem j1)) (ry.2 j w _ hw (List.getElem?_eq_getElem j2))
theorem zeN : ∀ (n : Nat) (x y : D) (v w : V) (b : Bool), j8 n x y = some b -> jY Γ E H v x -> jY Γ E H w y -> DQ H n v w b
  | 0, x, y, v, w, b, h, rx, ry => by
    unfold j8 at h
    split at h
    · rename_i hp
      have hp' := hp
      rw [Bool.and_eq_true] at hp'
      exact zeM hp (zG rx (jP hp'.1).1) (zG ry (jP hp'.2).1) h
    · cases h
  | n + 1, x, y, v, w, b, h, rx, ry => by
    have ih : ∀ (x y : D) (v w : V) (b : Bool), j8 n x y = some b -> Rep Γ E H v x -> Rep Γ E H w y -> DQ H n v w b := fun x y v w b h r1 r2 => zeN n x y v w b h r1.b r2.b
    unfold j8 at h
    split at h
    · rename_i hp
      have hp' := hp
      rw [Bool.and_eq_true] at hp'
      exact zeM hp (zG rx (jP hp'.1).1) (zG ry (jP hp'.2).1) h
    · split at h
      · rename_i xs ys _
        obtain ⟨a, vs, rfl, ha, r1⟩ := rx
        obtain ⟨c, ws, rfl, hc, r2⟩ := ry
        have l1 := r1.1
        have l2 := r2.1
        split at h
        · rename_i hl
          obtain ⟨h1, h2⟩ := Vj h
          have hlen : (List.zipWith (j8 n) xs ys).length = vs.length := by rw [List.length_zipWith]; omega
          rw [h2, hlen]
          exact .ll _ ha hc (by omega) fun j v w hv hw => RH ih r1 r2 rfl h1 j v w hv hw
        · cases h
          exact .ln ha hc (by omega)
      · rename_i xs ys _
        obtain ⟨a, vs, rfl, ha, r1⟩ := Rep.tuple rx
        obtain ⟨c, ws, rfl, hc, r2⟩ := Rep.tuple ry
        have l1 := r1.1
        have l2 := r2.1
        split at h
        · rename_i d hd
          cases h
          obtain ⟨h1, h2⟩ := Vj hd
          have hlen : (List.zipWith (j8 n) xs ys).length = min vs.length ws.length := by rw [List.length_zipWith, l1, l2]
          rw [h2, hlen, ← l1, ← l2]
          exact .tt _ ha hc fun j v w hv hw => RH ih r1 r2 rfl h1 j v w hv hw
        · cases h
      · obtain ⟨a, vs, rfl, ha, r1⟩ := rx
        obtain ⟨c, ws, rfl, hc, r2⟩ := Rep.tuple ry
        cases h
        exact .lt ha hc
      · obtain ⟨a, vs, rfl, ha, r1⟩ := Rep.tuple rx
        obtain ⟨c, ws, rfl, hc, r2⟩ := ry
        cases h
        exact .tl ha hc
      · cases h
def zc6 : D -> Bool | .lst _ => true | .tup _ => true | _ => false
def zf4 (neg : Bool) : F2 := fun x y q => match zc6 x && zc6 y, j8 40 x y with | true, some b => q (.bl (if neg then !b else b)) | _, _ => False
theorem RI {v : V} {d : D} (h : zc6 d = true) (r : jY Γ E H v d) : zfI v = true := by
  cases d with
  | lst ds => obtain ⟨a, _, rfl, _⟩ := r; rfl
  | tup ds => obtain ⟨a, _, rfl, _⟩ := Rep.tuple r; rfl
  | _ => cases h
theorem zhA {neg : Bool} : yM Γ (ziY neg) (zf4 neg) := fun E H x y dx dy Q q _ rx ry h k => by
  unfold zf4 at h
  split at h
  · rename_i b hs hb
    rw [Bool.and_eq_true] at hs
    exact ⟨b, zeN 40 dx dy x y b hb rx ry, RI hs.1 rx, RI hs.2 ry, k _ _ H (Same.refl H) (.bl _) h⟩
  · exact False.elim h
end
end M
namespace L2
open PySem PySem.Spec PyProof.Rows
section
variable {prog : Program} {w : World} {A : Around} {E : Value -> Shared -> Prop} {s : Shared}
end
section
variable {X : Cx} {pos : Pos}
end
end L2
namespace M
open PySem L2
section
variable {Γ : Cn} {pn : List Nat} {X : Cx} {cls : Nat -> Option Addr} {es : List Expr} {pos : Pos}
end
end M
namespace M
open PySem L2
def zlF : JQ := fun ss q _ => ∃ ns : List Int, ss = [.val (.fz ns)] /\ ns.length <= 63 /\ q (.bl true) []
def RJ (K : PySem.W.Frag) : Sp := fun vs H Q _ => ∃ (a : Addr) (ns : List Int), vs = [.ref a] /\ jf K H a (ns.map V.int) /\ ns.length <= 63 /\ ∀ H', Q (.bl true) H'
theorem zhB {K : PySem.W.Frag} {cls : Nat -> Option Addr} {vs : List V} {H : Hp} {Q : VK} {E : XK} (h : RJ K vs H Q E) : z9 ⟨K, cls⟩ [] false 1 zlF vs H Q E := by
  obtain ⟨a, ns, rfl, hS, hl, hQ⟩ := h
  have rep : Rep ⟨K, cls⟩ (fun _ => False) H (.ref a) (.fz ns) := .fz (hS.imp (fun z => ⟨id, z⟩) id)
  have no : ∀ i, ¬ yG [Slot.val (D.fz ns)] i := fun i ⟨o, h⟩ => by
    cases i with
    | zero => simp at h
    | succ i => simp at h
  have he : ∀ b, zD ⟨fun _ => False, H, fun _ => none⟩ [some (.ref a)] [Slot.val (D.fz ns)] b -> False := fun b h => h.elim id fun ⟨i, hi, _⟩ => no i hi
  refine ⟨rfl, ⟨fun _ => False, H, fun _ => none⟩, [.val (.fz ns)], fun d _ => d = .bl true, fun _ _ => rfl, rfl, ?_, ⟨ns, rfl, hl, rfl⟩, fun v d H' σ' ρ' os ⟨R', r'⟩ _ q' => ?_⟩
  · exact {
      len := rfl
      val := fun i d h => by
        cases i with
        | zero => simp at h; subst h; exact ⟨_, rfl, rep.up (fun b _ z => he b z) fun _ _ _ z => z⟩
        | succ i => simp at h
      own := fun i o h => absurd ⟨o, h⟩ (no i)
      pin := fun i p h => by cases h
      inj := fun i j p hi => absurd hi (no i)
      dom := fun a h => False.elim h
      fr := fun b o h _ => h
      tmp := fun x h => nomatch h }
  · subst q'
    rw [ZT r']
    exact hQ H'
end M
namespace M
open PySem L2
inductive O (α : Type) where
  | no | ex (k : Nat) (ρ : Env) | ok (a : α) (ρ : Env)
section
variable {α β : Type}
def O.bind : O α -> (α -> Env -> O β) -> O β
  | .no, _ => .no
  | .ex k ρ, _ => .ex k ρ
  | .ok a ρ, f => f a ρ
def O.on (z : Nat -> Env -> Prop) (q : α -> Env -> Prop) : O α -> Prop
  | .no => False
  | .ex k ρ => z k ρ
  | .ok a ρ => q a ρ
def jA (q : α -> Prop) : Option α -> Prop
  | none => False
  | some a => q a
def yD (r : Option α) (ρ : Env) : O α := match r with | none => .no | some a => .ok a ρ
def gd (c : Prop) [Decidable c] (r : O α) : O α := if c then r else .no
theorem jU {z : Nat -> Env -> Prop} {q : α -> Env -> Prop} {r : Option α} {ρ : Env} : (yD r ρ).on z q -> jA (fun a => q a ρ) r := by
  cases r <;> exact id
theorem zf5 {z : Nat -> Env -> Prop} {q : α -> Env -> Prop} {c : Prop} [Decidable c] {r : O α} (h : (gd c r).on z q) : c /\ r.on z q := by
  unfold gd at h
  split at h
  · exact ⟨‹_›, h⟩
  · exact False.elim h
abbrev G (α : Type) := Env -> O α
abbrev Mi (α : Type) := Env -> (α -> Env -> Prop) -> Prop
class Ag (z : Nat -> Env -> Prop) (m : Mi α) (g : G α) : Prop where
  h : ∀ ρ q, (g ρ).on z q -> m ρ q
theorem Ag.step {z : Nat -> Env -> Prop} {m : Mi α} {g : G α} [i : Ag z m g] {ρ : Env} {f : α -> Env -> O β} {q : β -> Env -> Prop} {k : α -> Env -> Prop} (h : ((g ρ).bind f).on z q) (hk : ∀ a ρ', (f a ρ').on z q -> k a ρ') : m ρ k := by
  refine i.h ρ k ?_
  cases e : g ρ with
  | no => rw [e] at h; exact h
  | ex j ρ' => rw [e] at h; exact h
  | ok a ρ' => rw [e] at h; exact hk a ρ' h
end
def Zf : Nat -> Env -> Prop := fun _ _ => False
variable {z : Nat -> Env -> Prop}
class Uu (f : F1) (h : D -> Option D) : Prop where
  h : ∀ x q, jA q (h x) -> f x q
class yf (f : F2) (h : D -> D -> Option D) : Prop where
  h : ∀ x y q, jA q (h x y) -> f x y q
class zjk (f : FL1) (h : D -> Option (List D)) : Prop where
  h : ∀ x q, jA q (h x) -> f x q
class znG (f : FL2) (h : D -> D -> Option (List D)) : Prop where
  h : ∀ x y q, jA q (h x y) -> f x y q
def Qf (g : Int -> Int -> D) : D -> D -> Option D
  | .int i, .int j => some (g i j)
  | _, _ => none
instance {g : Int -> Int -> D} : yf (Qd g) (Qf g) := ⟨fun x y q h => by
  unfold Qf at h
  split at h
  · exact h
  · exact False.elim h⟩
def hI (C : Int -> Int -> Prop) [∀ i j, Decidable (C i j)] (g : Int -> Int -> D) : D -> D -> Option D
  | .int i, .int j => if C i j then some (g i j) else none
  | _, _ => none
instance {C : Int -> Int -> Prop} [∀ i j, Decidable (C i j)] {g : Int -> Int -> D} : yf (fI C g) (hI C g) := ⟨fun x y q h => by
  unfold hI at h
  split at h
  · split at h
    · exact ⟨‹_›, h⟩
    · exact False.elim h
  · exact False.elim h⟩
instance {i j : Int} : Decidable (CMul i j) := inferInstanceAs (Decidable (_ \/ _))
instance {i j : Int} : Decidable (ZP i j) := inferInstanceAs (Decidable (_ /\ _))
def yv := Qf fun i j => .int (i + j)
def WV := Qf fun i j => .int (i - j)
def Uv := hI CMul fun i j => .int (i * j)
def Qu := hI (fun _ j => 0 < j) fun i j => .int (i % j)
def Vk := hI ZP fun i j => .int (i ^ j.toNat)
def zc7 := hI ZP fun i j => .int (i * 2 ^ j.toNat)
def Uw := hI (fun _ j => 0 <= j) fun i j => .int (i / 2 ^ j.toNat)
def RK := Qf fun i j => .int (Builtin.bitAnd i j)
def hLt := Qf fun i j => .bl (decide (i < j))
def U0 := Qf fun i j => .bl (decide (i <= j))
def hGt := Qf fun i j => .bl (decide (j < i))
def YY := Qf fun i j => .bl (decide (j <= i))
def zcn := Qf fun i j => .int (if j > i then j else i)
instance : yf znq yv := inferInstanceAs (yf (Qd _) (Qf _))
instance : yf znr WV := inferInstanceAs (yf (Qd _) (Qf _))
instance : yf zns Uv := inferInstanceAs (yf (fI _ _) (hI _ _))
instance : yf znt Qu := inferInstanceAs (yf (fI _ _) (hI _ _))
instance : yf znu Vk := inferInstanceAs (yf (fI _ _) (hI _ _))
instance : yf znv zc7 := inferInstanceAs (yf (fI _ _) (hI _ _))
instance : yf znw Uw := inferInstanceAs (yf (fI _ _) (hI _ _))
instance : yf zks RK := inferInstanceAs (yf (Qd _) (Qf _))
instance : yf fLt hLt := inferInstanceAs (yf (Qd _) (Qf _))
instance : yf fLe U0 := inferInstanceAs (yf (Qd _) (Qf _))
instance : yf fGt hGt := inferInstanceAs (yf (Qd _) (Qf _))
instance : yf fGe YY := inferInstanceAs (yf (Qd _) (Qf _))
instance : yf zcl zcn := inferInstanceAs (yf (Qd _) (Qf _))
def jp (x y : D) : Option D := (Ve x y).map D.bl
def hNe (x y : D) : Option D := (Ve x y).map fun b => D.bl (!b)
instance : yf fEq jp := ⟨fun x y q h => by
  unfold jp at h; unfold fEq
  cases e : Ve x y with
  | none => rw [e] at h; exact h
  | some b => rw [e] at h; exact h⟩
instance : yf fNe hNe := ⟨fun x y q h => by
  unfold hNe at h; unfold fNe
  cases e : Ve x y with
  | none => rw [e] at h; exact h
  | some b => rw [e] at h; exact h⟩
def zc8 (x y : D) : Option D := match y with | .non => some (.bl (J1 x)) | _ => none
def Ux (x y : D) : Option D := match y with | .non => some (.bl (!J1 x)) | _ => none
instance : yf znf zc8 := ⟨fun x y q h => by cases y <;> first | exact h | exact False.elim h⟩
instance : yf zkp Ux := ⟨fun x y q h => by cases y <;> first | exact h | exact False.elim h⟩
def RL (x y : D) : Option D := match x, y with | .str a, .str b => if a.length + b.length <= 100000 then some (.str (a ++ b)) else none | _, _ => none
instance : yf zci RL := ⟨fun x y q h => by
  unfold RL at h
  split at h
  · split at h
    · exact ⟨‹_›, h⟩
    · exact False.elim h
  · exact False.elim h⟩
def Zq (x y : D) : Option D := match x, y with | .str a, .str b => some (.bl (!decide (b.cps.toList < a.cps.toList))) | _, _ => none
instance : yf zje Zq := ⟨fun x y q h => by
  unfold Zq at h
  split at h
  · exact h
  · exact False.elim h⟩
def Zs (neg : Bool) (x y : D) : Option D := match Wa y with
  | some ds => if J2 x = true /\ ds.all J2 = true then some (.bl (if neg then !inD x ds else inD x ds)) else none
  | none => none
instance {neg : Bool} : yf (fIn neg) (Zs neg) := ⟨fun x y q h => by
  unfold Zs at h; unfold fIn
  cases e : Wa y with
  | none => rw [e] at h; exact h
  | some ds =>
    rw [e] at h
    dsimp only at h ⊢
    split at h
    · rename_i c; exact ⟨c.1, c.2, h⟩
    · exact False.elim h⟩
def zy (x y : D) : Option D := match x, y with
  | .lst ds, .int i => (JN ds.length i).map fun j => ds.getD j .non
  | .tup ds, .int i => (JN ds.length i).map fun j => ds.getD j .non
  | .fz ns, .int i => (JN ns.length i).map fun j => .int (ns.getD j 0)
  | .str w, .int i => if w.length <= 100000 then (JN w.cps.toList.length i).map fun j => .str ⟨#[w.cps.toList.getD j 0]⟩ else none
  | _, _ => none
instance : yf fIx zy := ⟨fun x y q h => by
  unfold zy at h
  split at h
  · rename_i ds i
    show WT (.lst ds) (.int i) q
    unfold WT
    dsimp only
    cases e : JN ds.length i with
    | none => rw [e] at h; exact h
    | some j => rw [e] at h; exact h
  · rename_i ds i
    show zcV (.tup ds) (.int i) q
    unfold zcV
    dsimp only
    cases e : JN ds.length i with
    | none => rw [e] at h; exact h
    | some j => rw [e] at h; exact h
  · rename_i ds i
    show WT (.fz ds) (.int i) q
    unfold WT
    dsimp only
    cases e : JN ds.length i with
    | none => rw [e] at h; exact h
    | some j => rw [e] at h; exact h
  · rename_i w i
    show zcW (.str w) (.int i) q
    unfold zcW
    dsimp only
    split at h
    · refine ⟨‹_›, ?_⟩
      cases e : JN w.cps.toList.length i with
      | none => rw [e] at h; exact h
      | some j => rw [e] at h; exact h
    · exact False.elim h
  · exact False.elim h⟩
def ya : D -> Option D
  | .lst ds => some (.int ds.length)
  | .tup ds => some (.int ds.length)
  | .fz ns => some (.int ns.length)
  | .str w => if w.length <= 100000 then some (.int w.length) else none
  | _ => none
instance : Uu zjf ya := ⟨fun x q h => by
  cases x with
  | str w =>
    unfold ya at h
    dsimp only at h
    split at h
    · exact ⟨‹_›, h⟩
    · exact False.elim h
  | _ => first | exact h | exact False.elim h⟩
def QT (x y : D) : Option (List D) := match x, y with | .lst a, .lst b => if a.length + b.length <= 100000 then some (a ++ b) else none | _, _ => none
instance : znG zfZ QT := ⟨fun x y q h => by
  unfold QT at h
  split at h
  · split at h
    · exact ⟨‹_›, h⟩
    · exact False.elim h
  · exact False.elim h⟩
def jM : D -> Option (List D) | .lst a => some a | .tup a => some a | _ => none
instance : zjk zck jM := ⟨fun x q h => by cases x <;> first | exact h | exact False.elim h⟩
def zaX : D -> Option D | .int i => some (.int i) | .bl b => some (.int (if b then 1 else 0)) | _ => none
instance : Uu zjg zaX := ⟨fun x q h => by cases x <;> first | exact h | exact False.elim h⟩
def YA : D -> Option D | .lst ds => (Zp ds).map fun bs => .bl (bs.all id) | _ => none
instance : Uu zf0 YA := ⟨fun x q h => by
  cases x with
  | lst ds =>
    unfold YA at h
    show match Zp ds with | some bs => q (.bl (bs.all id)) | none => False
    dsimp only at h
    cases e : Zp ds with
    | none => rw [e] at h; exact h
    | some bs => rw [e] at h; exact h
  | _ => exact False.elim h⟩
def Qv (x y : D) : Option D := match Yk x, y with
  | some a, .ty b => (ZW a b).map D.bl
  | _, _ => none
instance : yf RC Qv := ⟨fun x y q h => by
  unfold Qv at h
  unfold RC
  split at h
  · rename_i a b e
    try rw [e]
    try dsimp only
    cases e2 : ZW a b with
    | none => rw [e2] at h; exact h
    | some r => rw [e2] at h; exact h
  · exact False.elim h⟩
def Uy : List (Nat × D) -> Nat -> Option D
  | [], _ => none
  | (g, d) :: r, f => if g = f then some d else Uy r f
theorem zc9 {q : D -> Prop} : ∀ {fs : List (Nat × D)} {f : Nat}, jA q (Uy fs f) -> V7 fs f q
  | [], _, h => h
  | (g, d) :: r, f, h => by
    unfold Uy at h; unfold V7
    split
    · rename_i e; rw [if_pos e] at h; exact h
    · rename_i e; rw [if_neg e] at h; exact zc9 h
def jI (f : Nat) : D -> Option D | .obj c fs => if 11 <= c then Uy fs f else none | _ => none
instance {f : Nat} : Uu (zja f) (jI f) := ⟨fun x q h => by
  cases x with
  | obj c fs =>
    unfold jI at h
    dsimp only at h
    split at h
    · exact ⟨‹_›, zc9 h⟩
    · exact False.elim h
  | _ => exact False.elim h⟩
def Uz (neg : Bool) (x y : D) : Option D := if (zc6 x && zc6 y) = true then (j8 40 x y).map fun b => .bl (if neg then !b else b) else none
instance {neg : Bool} : yf (zf4 neg) (Uz neg) := ⟨fun x y q h => by
  unfold Uz at h
  unfold zf4
  split at h
  · rename_i e
    rw [e]
    cases e2 : j8 40 x y with
    | none => rw [e2] at h; exact h
    | some b => rw [e2] at h; exact h
  · exact False.elim h⟩
def gC (d : D) : G D := fun ρ => .ok d ρ
instance {d : D} : Ag z (mC d) (gC d) := ⟨fun ρ q h => h⟩
def Vl (i : Nat) : G D := fun ρ => match ρ[i]? with
  | some (.val d) => .ok d ρ
  | some (.own o) => .ok o (ρ.set i (.val o))
  | _ => .no
instance {i : Nat} : Ag z (zcE i) (Vl i) := ⟨fun ρ q h => by
  unfold Vl at h; unfold zcE
  split at h
  · rename_i e; (try rw [e]); exact h
  · rename_i e; (try rw [e]); exact h
  · exact False.elim h⟩
def zd (i : Nat) : G D := fun ρ => match ρ[i]? with
  | some (.val d) => .ok d ρ
  | _ => .no
instance {i : Nat} : Ag z (Rw i) (zd i) := ⟨fun ρ q h => by
  unfold zd at h; unfold Rw
  split at h
  · rename_i e; (try rw [e]); exact h
  · exact False.elim h⟩
def zf (i : Nat) : G Opd := fun ρ => match ρ[i]? with
  | some (.val _) => .ok (.v i) ρ
  | some (.own _) => .ok (.v i) ρ
  | _ => .no
instance {i : Nat} : Ag z (mOv i) (zf i) := ⟨fun ρ q h => by
  unfold zf at h; unfold mOv
  split at h
  · rename_i e; (try rw [e]); exact h
  · rename_i e; (try rw [e]); exact h
  · exact False.elim h⟩
def gO (g : G D) : G Opd := fun ρ => (g ρ).bind fun d ρ' => .ok (.d d) ρ'
instance {m : ME} {g : G D} [Ag z m g] : Ag z (mO m) (gO g) := ⟨fun ρ q h => by
 unfold gO at h
 unfold mO
 exact Ag.step h fun _ _ h => h⟩
def Q4 : Option Slot -> Option D
  | some (.val d) => some d
  | some (.own d) => some d
  | _ => none
def Opd.get (r : Opd) (ρ : Env) : Option D := match r with
  | .d x => some x
  | .v i => Q4 ρ[i]?
theorem Qw {r : Opd} {ρ : Env} {k : D -> Prop} (h : jA k (r.get ρ)) : r.on ρ k := by
  cases r with
  | d x => exact h
  | v i =>
    show V1 ρ[i]? k
    have h : jA k (Q4 ρ[i]?) := h
    unfold Q4 at h
    split at h
    · rename_i e; (try rw [e]); exact h
    · rename_i e; (try rw [e]); exact h
    · exact False.elim h
theorem jZ {α β : Type} {r : Option α} {f : α -> Option β} {q : β -> Prop} (h : jA q (r.bind f)) : jA (fun a => jA q (f a)) r := by
  cases r <;> exact h
theorem yw {α : Type} {r : Option α} {p q : α -> Prop} (h : jA p r) (k : ∀ a, p a -> q a) : jA q r := by
  cases r with
  | none => exact h
  | some a => exact k a h
def gNil : G (List D) := fun ρ => .ok [] ρ
def gCons (a : G D) (r : G (List D)) : G (List D) := fun ρ => (a ρ).bind fun d ρ1 => (r ρ1).bind fun ds ρ2 => .ok (d :: ds) ρ2
def zco (ss : List Str) : G (List D) := fun ρ => .ok (ss.map D.str) ρ
instance : Ag z zfJ gNil := ⟨fun ρ q h => h⟩
instance {m : ME} {n : MA} {g : G D} {k : G (List D)} [Ag z m g] [Ag z n k] : Ag z (zcb m n) (gCons g k) := ⟨fun ρ q h => by
 unfold gCons at h
 unfold zcb
 exact Ag.step h fun _ _ h => Ag.step h fun _ _ h => h⟩
instance {ss : List Str} : Ag z (zfK ss) (zco ss) := ⟨fun ρ q h => h⟩
def yU (g : G (List D)) : G D := fun ρ => (g ρ).bind fun ds ρ' => gd (ds.length <= 1000) (.ok (.lst ds) ρ')
def gTup (g : G (List D)) : G D := fun ρ => (g ρ).bind fun ds ρ' => gd (ds.length <= 1000) (.ok (.tup ds) ρ')
instance {m : MA} {g : G (List D)} [Ag z m g] : Ag z (zfL m) (yU g) := ⟨fun ρ q h => by
 unfold yU at h
 unfold zfL
 exact Ag.step h fun _ _ h => zf5 h⟩
instance {m : MA} {g : G (List D)} [Ag z m g] : Ag z (zfM m) (gTup g) := ⟨fun ρ q h => by
 unfold gTup at h
 unfold zfM
 exact Ag.step h fun _ _ h => zf5 h⟩
def zg (f : D -> D -> Option D) (a b : G Opd) : G D := fun ρ => (a ρ).bind fun r ρ1 => (b ρ1).bind fun s ρ2 => yD ((r.get ρ2).bind fun x => (s.get ρ2).bind fun y => f x y) ρ2
instance {f : F2} {k : D -> D -> Option D} {a b : MO} {ga gb : G Opd} [i : yf f k] [Ag z a ga] [Ag z b gb] : Ag z (JP f a b) (zg k ga gb) :=
  ⟨fun ρ q h => by
 unfold zg at h
 unfold JP
 exact Ag.step h fun _ _ h => Ag.step h fun _ _ h => Qw (yw (jZ (jU h)) fun _ h => Qw (yw (jZ h) fun _ h => i.h _ _ _ h))⟩
def zC (f : D -> Option D) (a : G Opd) : G D := fun ρ => (a ρ).bind fun r ρ1 => yD ((r.get ρ1).bind fun x => f x) ρ1
instance {f : F1} {k : D -> Option D} {a : MO} {ga : G Opd} [i : Uu f k] [Ag z a ga] : Ag z (QM f a) (zC k ga) :=
  ⟨fun ρ q h => by
 unfold zC at h
 unfold QM
 exact Ag.step h fun _ _ h => Qw (yw (jZ (jU h)) fun _ h => i.h _ _ h)⟩
def Zr (f : D -> D -> Option (List D)) (a b : G Opd) : G D := fun ρ => (a ρ).bind fun r ρ1 => (b ρ1).bind fun s ρ2 => yD ((r.get ρ2).bind fun x => (s.get ρ2).bind fun y => (f x y).map D.lst) ρ2
theorem zaY {α β : Type} {r : Option α} {f : α -> β} {q : β -> Prop} (h : jA q (r.map f)) : jA (fun a => q (f a)) r := by
  cases r <;> exact h
instance {f : FL2} {k : D -> D -> Option (List D)} {a b : MO} {ga gb : G Opd} [i : znG f k] [Ag z a ga] [Ag z b gb] : Ag z (zcH f a b) (Zr k ga gb) :=
  ⟨fun ρ q h => by
 unfold Zr at h
 unfold zcH
 exact Ag.step h fun _ _ h => Ag.step h fun _ _ h => Qw (yw (jZ (jU h)) fun _ h => Qw (yw (jZ h) fun _ h => i.h _ _ _ (zaY h)))⟩
def jv (f : D -> Option (List D)) (a : G Opd) : G D := fun ρ => (a ρ).bind fun r ρ1 => yD ((r.get ρ1).bind fun x => (f x).map D.lst) ρ1
instance {f : FL1} {k : D -> Option (List D)} {a : MO} {ga : G Opd} [i : zjk f k] [Ag z a ga] : Ag z (V3 f a) (jv k ga) :=
  ⟨fun ρ q h => by
 unfold jv at h
 unfold V3
 exact Ag.step h fun _ _ h => Qw (yw (jZ (jU h)) fun _ h => i.h _ _ (zaY h))⟩
def asB (d : D) (ρ : Env) : O Bool := match d with | .bl b => .ok b ρ | _ => .no
def gB (g : G D) : G Bool := fun ρ => (g ρ).bind asB
instance {m : ME} {g : G D} [Ag z m g] : Ag z (mB m) (gB g) := ⟨fun ρ q h => by
 unfold gB at h
 unfold mB
 exact Ag.step h fun d _ h => by cases d <;> first | exact h | exact False.elim h⟩
def WW (a b : G Bool) : G Bool := fun ρ => (a ρ).bind fun c ρ1 => if c = true then b ρ1 else .ok false ρ1
def gOr (a b : G Bool) : G Bool := fun ρ => (a ρ).bind fun c ρ1 => if c = true then .ok true ρ1 else b ρ1
def j9 (a : G Bool) : G Bool := fun ρ => (a ρ).bind fun c ρ1 => .ok (!c) ρ1
instance {a b : MT} {ga gb : G Bool} [Ag z a ga] [i : Ag z b gb] : Ag z (zfO a b) (WW ga gb) := ⟨fun ρ q h => by
 unfold WW at h
 unfold zfO
 exact Ag.step h fun c _ h => by
  cases c with
  | true => exact i.h _ _ h
  | false => exact h⟩
instance {a b : MT} {ga gb : G Bool} [Ag z a ga] [i : Ag z b gb] : Ag z (mOr a b) (gOr ga gb) := ⟨fun ρ q h => by
 unfold gOr at h
 unfold mOr
 exact Ag.step h fun c _ h => by
  cases c with
  | true => exact h
  | false => exact i.h _ _ h⟩
instance {a : MT} {ga : G Bool} [Ag z a ga] : Ag z (zfP a) (j9 ga) := ⟨fun ρ q h => by
 unfold j9 at h
 unfold zfP
 exact Ag.step h fun c _ h => h⟩
def Jq (a b : G D) : G D := fun ρ => (a ρ).bind fun d ρ1 => (asB d ρ1).bind fun c ρ1 => if c = true then b ρ1 else .ok (.bl false) ρ1
def RM (a : G D) : G D := fun ρ => (a ρ).bind fun d ρ1 => (asB d ρ1).bind fun c ρ1 => .ok (.bl (!c)) ρ1
instance {a b : ME} {ga gb : G D} [Ag z a ga] [i : Ag z b gb] : Ag z (zcc a b) (Jq ga gb) := ⟨fun ρ q h => by
 unfold Jq at h
 unfold zcc
 exact Ag.step h fun d _ h => by
  cases d with
  | bl c =>
    cases c with
    | true => exact i.h _ _ h
    | false => exact h
  | _ => exact False.elim h⟩
instance {a : ME} {ga : G D} [Ag z a ga] : Ag z (zcd a) (RM ga) := ⟨fun ρ q h => by
 unfold RM at h
 unfold zcd
 exact Ag.step h fun d _ h => by
  cases d <;> first | exact h | exact False.elim h⟩
def gIf (c : G Bool) (a b : G D) : G D := fun ρ => (c ρ).bind fun k ρ1 => if k = true then a ρ1 else b ρ1
instance {c : MT} {a b : ME} {gc : G Bool} {ga gb : G D} [Ag z c gc] [i : Ag z a ga] [j : Ag z b gb] : Ag z (mIf c a b) (gIf gc ga gb) := ⟨fun ρ q h => by
 unfold gIf at h
 unfold mIf
 exact Ag.step h fun k _ h => by
  cases k with
  | true => exact i.h _ _ h
  | false => exact j.h _ _ h⟩
def JV (f f' : D -> D -> Option D) (a b c : G D) : G D := fun ρ => (a ρ).bind fun x ρ1 => (b ρ1).bind fun y ρ2 => (yD (f x y) ρ2).bind fun d ρ2 => (asB d ρ2).bind fun k ρ2 => if k = true then (c ρ2).bind fun z ρ3 => yD (f' y z) ρ3 else .ok (.bl false) ρ2
theorem O.on_bind {α β : Type} {r : O α} {f : α -> Env -> O β} {q : β -> Env -> Prop} (h : (r.bind f).on z q) : r.on z fun a ρ => (f a ρ).on z q := by cases r <;> exact h
instance {f f' : F2} {k k' : D -> D -> Option D} {a b c : ME} {ga gb gc : G D} [i : yf f k] [j : yf f' k'] [Ag z a ga] [Ag z b gb] [Ag z c gc] : Ag z (Vg f f' a b c) (JV k k' ga gb gc) :=
  ⟨fun ρ q h => by
 unfold JV at h
 unfold Vg
 exact Ag.step h fun x _ h => Ag.step h fun y ρ2 h => by
    refine i.h _ _ _ (yw (jU (O.on_bind h)) fun d h => ?_)
    cases d with
    | bl b =>
      cases b with
      | true =>
        show c ρ2 fun z ρ3 => f' y z fun e => q e ρ3
        have h : ((gc ρ2).bind fun z ρ3 => yD (k' y z) ρ3).on z q := h
        exact Ag.step h fun w ρ3 h => j.h _ _ _ (jU h)
      | false => exact h
    | _ => exact False.elim h⟩
def zf6 (x : D) : Option Bool := match x with | .str y => if y.length <= 100000 then some ((y.length : Int) != 0) else none | x => zf1 x
def zc_ (a : G Opd) : G Bool := fun ρ => (a ρ).bind fun r ρ1 => yD ((r.get ρ1).bind zf6) ρ1
instance {a : MO} {ga : G Opd} [Ag z a ga] : Ag z (zf2 a) (zc_ ga) := ⟨fun ρ q h => by
 unfold zc_ at h
 unfold zf2
 exact Ag.step h fun r ρ1 h => Qw (yw (jZ (jU h)) fun x h => by
  cases x with
  | str y =>
    unfold zf6 at h
    dsimp only at h
    split at h
    · exact ⟨‹_›, h⟩
    · exact False.elim h
  | _ => first | exact ⟨trivial, h⟩ | exact False.elim h)⟩
def jm : G (Option Int) := fun ρ => .ok none ρ
def asI (d : D) (ρ : Env) : O (Option Int) := match d with | .int i => .ok (some i) ρ | _ => .no
def yz (g : G D) : G (Option Int) := fun ρ => (g ρ).bind asI
instance : Ag z zaS jm := ⟨fun ρ q h => h⟩
instance {m : ME} {g : G D} [Ag z m g] : Ag z (zcj m) (yz g) := ⟨fun ρ q h => by
 unfold yz at h
 unfold zcj
 exact Ag.step h fun d _ h => by cases d <;> first | exact h | exact False.elim h⟩
def zjl (x : D) (lo hi : Option Int) : Option D := match x with | .lst ds => some (.lst (jF ds lo hi)) | .fz ns => some (.lst ((jF ns lo hi).map D.int)) | _ => none
def jJ (a : G Opd) (l u : G (Option Int)) : G D := fun ρ => (a ρ).bind fun r ρ1 => (l ρ1).bind fun lo ρ2 => (u ρ2).bind fun hi ρ3 => yD ((r.get ρ3).bind fun x => zjl x lo hi) ρ3
instance {a : MO} {l u : MOI} {ga : G Opd} {gl gu : G (Option Int)} [Ag z a ga] [Ag z l gl] [Ag z u gu] : Ag z (zfY a l u) (jJ ga gl gu) :=
  ⟨fun ρ q h => by
 unfold jJ at h
 unfold zfY
 exact Ag.step h fun _ _ h => Ag.step h fun _ _ h => Ag.step h fun _ _ h => Qw (yw (jZ (jU h)) fun x h => by cases x <;> first | exact h | exact False.elim h)⟩
class AgG (m : MG) (g : D -> Env -> Option Env) : Prop where
  h : ∀ d ρ q, jA q (g d ρ) -> m d ρ q
class zf7 (m : YS) (g : List D -> Env -> Option Env) : Prop where
  h : ∀ d ρ q, jA q (g d ρ) -> m d ρ q
def zq (i : Nat) : D -> Env -> Option Env := fun d ρ => some (ρ.set i (.val d))
instance {i : Nat} : AgG (zcL i) (zq i) := ⟨fun d ρ q h => h⟩
def J3 : List D -> Env -> Option Env := fun ds ρ => match ds with | [] => some ρ | _ => none
def yV (g : D -> Env -> Option Env) (r : List D -> Env -> Option Env) : List D -> Env -> Option Env := fun ds ρ => match ds with | d :: ds => (g d ρ).bind fun ρ1 => r ds ρ1 | [] => none
instance : zf7 zfS J3 := ⟨fun d ρ q h => by cases d <;> exact h⟩
instance {g : MG} {r : YS} {k : D -> Env -> Option Env} {l : List D -> Env -> Option Env} [i : AgG g k] [j : zf7 r l] : zf7 (zcM g r) (yV k l) := ⟨fun d ρ q h => by
  cases d with
  | nil => exact h
  | cons d ds => exact i.h _ _ _ (yw (jZ h) fun ρ1 h => j.h _ _ _ h)⟩
def JJ (g : List D -> Env -> Option Env) (n : Nat) : D -> Env -> Option Env := fun d ρ => match d with | .tup ds => if ds.length = n then g ds ρ else none | _ => none
instance {m : YS} {n : Nat} {g : List D -> Env -> Option Env} [i : zf7 m g] : AgG (zfT m n) (JJ g n) := ⟨fun d ρ q h => by
  cases d with
  | tup ds =>
    unfold JJ at h
    dsimp only at h
    split at h
    · exact ⟨‹_›, i.h _ _ _ h⟩
    · exact False.elim h
  | _ => exact False.elim h⟩
def itL : D -> Option (List D) | .lst ds => some ds | .fz ns => some (ns.map D.int) | _ => none
def zI (g : G D) : G (List D) := fun ρ => (g ρ).bind fun d ρ' => yD (itL d) ρ'
instance {m : ME} {g : G D} [Ag z m g] : Ag z (Rx m) (zI g) := ⟨fun ρ q h => by
 unfold zI at h
 unfold Rx
 exact Ag.step h fun d _ h => by cases d <;> first | exact h | exact False.elim h⟩
def itS : D -> Option (List D) | .str x => some (x.cps.toList.map fun c => D.str ⟨#[c]⟩) | _ => none
def Wd (g : G D) : G (List D) := fun ρ => (g ρ).bind fun d ρ' => yD (itS d) ρ'
instance {m : ME} {g : G D} [Ag z m g] : Ag z (zcf m) (Wd g) := ⟨fun ρ q h => by
 unfold Wd at h
 unfold zcf
 exact Ag.step h fun d _ h => by cases d <;> first | exact h | exact False.elim h⟩
def UA : List D -> Option (List D) | [.int j] => if -1000000 <= j /\ j <= 1000000 then some (yr 0 j.toNat) else none | _ => none
def jg (g : G (List D)) : G (List D) := fun ρ => (g ρ).bind fun ds ρ' => yD (UA ds) ρ'
instance {m : MA} {g : G (List D)} [Ag z m g] : Ag z (Ug m) (jg g) := ⟨fun ρ q h => by
 unfold jg at h
 unfold Ug
 exact Ag.step h fun ds _ h => by
  unfold UA at h
  split at h
  · try dsimp only
    split at h
    · exact ⟨‹_›, h⟩
    · exact False.elim h
  · exact False.elim h⟩
def zdb : List D -> Option (List D) | [.int i, .int j] => if -1000000 <= i /\ i <= 1000000 /\ -1000000 <= j /\ j <= 1000000 then some (yr i (j - i).toNat) else none | _ => none
def Jf (g : G (List D)) : G (List D) := fun ρ => (g ρ).bind fun ds ρ' => yD (zdb ds) ρ'
instance {m : MA} {g : G (List D)} [Ag z m g] : Ag z (Uh m) (Jf g) := ⟨fun ρ q h => by
 unfold Jf at h
 unfold Uh
 exact Ag.step h fun ds _ h => by
  unfold zdb at h
  split at h
  · try dsimp only
    split at h
    · exact ⟨‹_›, h⟩
    · exact False.elim h
  · exact False.elim h⟩
def z0 (g : D -> Env -> Option Env) (c : G Bool) (e : G D) : List D -> Env -> O (List D)
  | [], ρ => .ok [] ρ
  | d :: ds, ρ => (yD (g d ρ) ρ).bind fun ρ1 _ => (c ρ1).bind fun b ρ2 => if b = true then (e ρ2).bind fun y ρ3 => (z0 g c e ds ρ3).bind fun ys ρ4 => .ok (y :: ys) ρ4 else z0 g c e ds ρ2
theorem WX {g : MG} {c : MT} {e : ME} {k : D -> Env -> Option Env} {gc : G Bool} {ge : G D} [i : AgG g k] [Ag z c gc] [Ag z e ge] : ∀ (ds acc : List D) (ρ : Env) (q : List D -> Env -> Prop), (z0 k gc ge ds ρ).on z (fun ys ρ' => q (acc ++ ys) ρ') -> V4 g c e ds acc ρ q
  | [], acc, ρ, q, h => by
    have h : q (acc ++ []) ρ := h
    rw [List.append_nil] at h
    exact h
  | d :: ds, acc, ρ, q, h => by
    have h := jU (O.on_bind h)
    refine i.h _ _ _ (yw h fun ρ1 h => Ag.step h fun b ρ2 h => ?_)
    cases b with
    | true =>
      rw [if_pos rfl] at h ⊢
      refine Ag.step (g := ge) h fun y ρ3 h => ?_
      refine WX (k := k) (gc := gc) (ge := ge) ds (acc ++ [y]) ρ3 q ?_
      have h := O.on_bind h
      have e : ∀ ys, acc ++ [y] ++ ys = acc ++ y :: ys := fun ys => by simp
      simp only [e]
      exact h
    | false =>
      rw [if_neg Bool.false_ne_true] at h ⊢
      exact WX (k := k) (gc := gc) (ge := ge) ds acc ρ2 q h
def jl : G Bool := fun ρ => .ok true ρ
instance : Ag z mTT jl := ⟨fun ρ q h => h⟩
def zf8 (js : List (Option Nat)) (ρ1 : Env) : O (List D) -> O D
  | .ok ys ρb => .ok (.lst ys) (zZ js ρb ρ1)
  | _ => .no
def z3 (gi : G (List D)) (js : List (Option Nat)) (g : D -> Env -> Option Env) (c : G Bool) (e : G D) : G D := fun ρ => (gi ρ).bind fun ds ρ1 => gd (ds.length <= 100000) (zf8 js ρ1 (z0 g c e ds (JR js ρ1)))
instance {mi : MI} {js : List (Option Nat)} {g : MG} {c : MT} {e : ME} {gi : G (List D)} {k : D -> Env -> Option Env} {gc : G Bool} {ge : G D} [Ag z mi gi] [AgG g k] [Ag Zf c gc] [Ag Zf e ge] : Ag z (V5 mi js g c e) (z3 gi js k gc ge) :=
  ⟨fun ρ q h => by
 unfold z3 at h
 unfold V5
 exact Ag.step h fun ds ρ1 h => by
    obtain ⟨a, h⟩ := zf5 h
    refine ⟨a, WX (z := Zf) (k := k) (gc := gc) (ge := ge) ds [] _ _ ?_⟩
    cases hc : z0 k gc ge ds (JR js ρ1) with
    | no => rw [hc] at h; exact False.elim h
    | ex j ρ' => rw [hc] at h; exact False.elim h
    | ok ys ρb => rw [hc] at h; exact h⟩
inductive RF where
  | no | ex (k : Nat) | ok (d : D) (os : List D)
abbrev Fn := List Slot -> RF
def zt (F : Fn) : JQ := fun ss q z => match F ss with
  | .no => False
  | .ex k => z (.exc k) []
  | .ok d os => q d os
def zcp (r : RF) (ρ : Env) : O D := match r with | .ok d _ => .ok d ρ | _ => .no
def zA (F : Fn) (a : G (List D)) : G D := fun ρ => (a ρ).bind fun ds ρ1 => zcp (F (ds.map .val)) ρ1
instance {F : Fn} {a : MA} {ga : G (List D)} [Ag z a ga] : Ag z (V8 (zt F) a) (zA F ga) := ⟨fun ρ q h => by
 unfold zA at h
 unfold V8
 exact Ag.step h fun ds ρ1 h => by
  unfold zt
  cases e : F (ds.map .val) with
  | no => rw [e] at h; exact h
  | ex k => rw [e] at h; exact False.elim h
  | ok d os => rw [e] at h; exact h⟩
def YB : Option Slot -> Option D | some (.own o) => some o | _ => none
def RN (j : Nat) (r : RF) (ρ : Env) : O D := match r with | .ok d [o] => .ok d (ρ.set j (.own o)) | _ => .no
def zv (j : Nat) (F : Fn) (a : G (List D)) : G D := fun ρ => (yD (YB ρ[j]?) ρ).bind fun _ ρ => (a ρ).bind fun ds ρ1 => (yD (YB ρ1[j]?) ρ1).bind fun o ρ1 => RN j (F (.own o :: ds.map .val)) ρ1
theorem Vm {s : Option Slot} {o : D} (h : YB s = some o) : s = some (.own o) := by
  unfold YB at h
  split at h
  · cases h; rfl
  · cases h
instance {j : Nat} {F : Fn} {a : MA} {ga : G (List D)} [Ag z a ga] : Ag z (Vc j (zt F) a) (zv j F ga) := ⟨fun ρ q h => by
  unfold zv at h; unfold Vc
  cases e : YB ρ[j]? with
  | none => rw [e] at h; exact False.elim h
  | some o =>
    rw [Vm e]
    rw [e] at h
    have h : ((ga ρ).bind fun ds ρ1 => (yD (YB ρ1[j]?) ρ1).bind fun o ρ1 => RN j (F (.own o :: ds.map .val)) ρ1).on z q := h
    refine Ag.step h fun ds ρ1 h => ?_
    cases e1 : YB ρ1[j]? with
    | none => rw [e1] at h; exact False.elim h
    | some o1 =>
      rw [Vm e1]
      rw [e1] at h
      have h : (RN j (F (.own o1 :: ds.map .val)) ρ1).on z q := h
      show zt F (.own o1 :: ds.map .val) _ Z0
      unfold zt
      cases e2 : F (.own o1 :: ds.map .val) with
      | no => rw [e2] at h; exact h
      | ex k => rw [e2] at h; exact False.elim h
      | ok d os =>
        rw [e2] at h
        match os, h with
        | [], h => exact False.elim h
        | [o'], h => exact h
        | _ :: _ :: _, h => exact False.elim h⟩
def zf9 (r : RF) (ρ : Env) : O D := match r with | .ok .non [o] => .ok o ρ | _ => .no
def Yl (c : Nat) (F : Fn) (a : G (List D)) : G D := fun ρ => (a ρ).bind fun ds ρ1 => zf9 (F (.own (.obj c []) :: ds.map .val)) ρ1
instance {c : Nat} {F : Fn} {a : MA} {ga : G (List D)} [Ag z a ga] : Ag z (zch c (zt F) a) (Yl c F ga) := ⟨fun ρ q h => by
 unfold Yl at h
 unfold zch
 exact Ag.step h fun ds ρ1 h => by
  unfold zt
  unfold zf9 at h
  split at h
  · rename_i e; (try rw [e]); exact h
  · exact False.elim h⟩
def yW (tbl : Nat -> Option Fn) (a : G D) (r : G (List D)) : G D := fun ρ => (a ρ).bind fun x ρ1 => match x with
  | .obj c fs => (match tbl c with
    | some F => (r ρ1).bind fun ds ρ2 => zcp (F (.val (.obj c fs) :: ds.map .val)) ρ2
    | none => .no)
  | _ => .no
instance {tbl : Nat -> Option Fn} {a : ME} {r : MA} {ga : G D} {gr : G (List D)} [Ag z a ga] [Ag z r gr] : Ag z (RA (fun c => (tbl c).map zt) a r) (yW tbl ga gr) := ⟨fun ρ q h => by
 unfold yW at h
 unfold RA
 exact Ag.step h fun x ρ1 h => by
  cases x with
  | obj c fs =>
    dsimp only at h ⊢
    cases e : tbl c with
    | none => rw [e] at h; exact False.elim h
    | some F =>
      rw [e] at h
      dsimp only [Option.map] at h ⊢
      refine Ag.step h fun ds ρ2 h => ?_
      unfold zt
      cases e : F (.val (.obj c fs) :: ds.map .val) with
      | no => rw [e] at h; exact h
      | ex k => rw [e] at h; exact False.elim h
      | ok d os => rw [e] at h; exact h
  | _ => exact False.elim h⟩
class AgM (f : List D -> D -> (D -> List D -> Prop) -> Prop) (h : List D -> D -> Option (D × List D)) : Prop where
  h : ∀ ds d q, jA (fun r => q r.1 r.2) (h ds d) -> f ds d q
def jC (ds : List D) (d : D) : Option (D × List D) := if ds.length < 100000 then some (.non, ds ++ [d]) else none
instance : AgM zaP jC := ⟨fun ds d q h => by
  unfold jC at h
  split at h
  · exact ⟨‹_›, h⟩
  · exact False.elim h⟩
def Qg (ds : List D) (d : D) : Option (D × List D) := match d with | .lst es => if ds.length + es.length <= 100000 then some (.non, ds ++ es) else none | _ => none
instance : AgM zaQ Qg := ⟨fun ds d q h => by
  cases d with
  | lst es =>
    unfold Qg at h
    dsimp only at h
    split at h
    · exact ⟨‹_›, h⟩
    · exact False.elim h
  | _ => exact False.elim h⟩
def QU (ds : List D) (d : D) : Option (D × List D) := match d with | .int j => if 0 <= j /\ j.toNat < ds.length /\ ds.length < 100000 then some (ds.getD j.toNat .non, ds.eraseIdx j.toNat) else none | _ => none
instance : AgM zi9 QU := ⟨fun ds d q h => by
  cases d with
  | int j =>
    unfold QU at h
    dsimp only at h
    split at h
    · exact ⟨‹_›, h⟩
    · exact False.elim h
  | _ => exact False.elim h⟩
def UB : Option Slot -> Option (List D) | some (.own (.lst ds)) => some ds | _ => none
theorem UC {s : Option Slot} {k : List D -> Prop} (h : jA k (UB s)) : WS s k := by
  unfold UB at h
  split at h
  · exact h
  · exact False.elim h
def yX (f : List D -> D -> Option (D × List D)) (i : Nat) (a : G D) : G D := fun ρ => (yD (UB ρ[i]?) ρ).bind fun _ ρ => (a ρ).bind fun d ρ1 => (yD (UB ρ1[i]?) ρ1).bind fun ds ρ1 => (yD (f ds d) ρ1).bind fun r ρ1 => .ok r.1 (ρ1.set i (.own (.lst r.2)))
instance {f : List D -> D -> (D -> List D -> Prop) -> Prop} {k : List D -> D -> Option (D × List D)} {i : Nat} {a : ME} {ga : G D} [j : AgM f k] [Ag z a ga] : Ag z (Yj f i a) (yX k i ga) := ⟨fun ρ q h =>
  UC (yw (jU (O.on_bind h)) fun _ h => Ag.step h fun d ρ1 h => UC (yw (jU (O.on_bind h)) fun ds h => j.h _ _ _ (jU (O.on_bind h))))⟩
inductive zp where
  | nx | rt (d : D) | bk | ct
def Vn (z : Nat -> Env -> Prop) (N : Qq) : O zp -> Prop
  | .no => False
  | .ex k ρ => z k ρ
  | .ok .nx ρ => N.nx ρ
  | .ok (.rt d) ρ => N.rt d ρ
  | .ok .bk ρ => N.bk ρ
  | .ok .ct ρ => N.ct ρ
class Jr (z : Nat -> Env -> Prop) (m : MS) (g : G zp) : Prop where
  h : ∀ N ρ, Vn z N (g ρ) -> m N ρ
theorem Ag.stepS {α : Type} {m : Mi α} {g : G α} [i : Ag z m g] {ρ : Env} {f : α -> Env -> O zp} {N : Qq} {k : α -> Env -> Prop} (h : Vn z N ((g ρ).bind f)) (hk : ∀ a ρ', Vn z N (f a ρ') -> k a ρ') : m ρ k := by
  refine i.h ρ k ?_
  cases e : g ρ with
  | no => rw [e] at h; exact h
  | ex j ρ' => rw [e] at h; exact h
  | ok a ρ' => rw [e] at h; exact hk a ρ' h
theorem We {α : Type} {N : Qq} {r : Option α} {ρ : Env} {f : α -> Env -> O zp} (h : Vn z N ((yD r ρ).bind f)) : jA (fun a => Vn z N (f a ρ)) r := by
  cases r <;> exact h
theorem zhF {N : Qq} {c : Prop} [Decidable c] {r : O zp} (h : Vn z N (gd c r)) : c /\ Vn z N r := by
  unfold gd at h
  split at h
  · exact ⟨‹_›, h⟩
  · exact False.elim h
def y9 : G zp := fun ρ => .ok .nx ρ
def JW : G zp := fun _ => .no
instance : Jr z zfQ y9 := ⟨fun N ρ h => h⟩
instance : Jr z zcJ JW := ⟨fun N ρ h => h⟩
def WY (r : O zp) (b : G zp) : O zp := match r with | .ok .nx ρ => b ρ | r => r
def zw (a b : G zp) : G zp := fun ρ => WY (a ρ) b
instance {a b : MS} {ga gb : G zp} [i : Jr z a ga] [j : Jr z b gb] : Jr z (zi1 a b) (zw ga gb) := ⟨fun N ρ h => by
  refine i.h _ _ ?_
  unfold zw at h
  cases e : ga ρ with
  | no => rw [e] at h; exact h
  | ex k ρ' => rw [e] at h; exact h
  | ok n ρ' =>
    rw [e] at h
    cases n with
    | nx => exact j.h _ _ h
    | rt d => exact h
    | bk => exact h
    | ct => exact h⟩
def yi (g : G D) : G zp := fun ρ => (g ρ).bind fun _ ρ' => .ok .nx ρ'
def zP (g : G D) : G zp := fun ρ => (g ρ).bind fun d ρ' => .ok (.rt d) ρ'
instance {m : ME} {g : G D} [Ag z m g] : Jr z (zce m) (yi g) := ⟨fun N ρ h => by
 unfold yi at h
 unfold zce
 exact Ag.stepS h fun _ _ h => h⟩
instance {m : ME} {g : G D} [Ag z m g] : Jr z (zaK m) (zP g) := ⟨fun N ρ h => by
 unfold zP at h
 unfold zaK
 exact Ag.stepS h fun _ _ h => h⟩
def jd (c : G Bool) (a b : G zp) : G zp := fun ρ => (c ρ).bind fun k ρ1 => if k = true then a ρ1 else b ρ1
instance {c : MT} {a b : MS} {gc : G Bool} {ga gb : G zp} [Ag z c gc] [i : Jr z a ga] [j : Jr z b gb] : Jr z (zfR c a b) (jd gc ga gb) := ⟨fun N ρ h => by
 unfold jd at h
 unfold zfR
 exact Ag.stepS h fun k _ h => by
  cases k with
  | true => exact i.h _ _ h
  | false => exact j.h _ _ h⟩
def z6 (i : Nat) (g : G D) : G zp := fun ρ => (g ρ).bind fun d ρ' => .ok .nx (ρ'.set i (.val d))
def jD (i : Nat) (g : G D) : G zp := fun ρ => (g ρ).bind fun d ρ' => .ok .nx (ρ'.set i (.own d))
instance {i : Nat} {m : ME} {g : G D} [Ag z m g] : Jr z (zcK i m) (z6 i g) := ⟨fun N ρ h => by
 unfold z6 at h
 unfold zcK
 exact Ag.stepS h fun _ _ h => h⟩
instance {i : Nat} {m : ME} {g : G D} [Ag z m g] : Jr z (YR i m) (jD i g) := ⟨fun N ρ h => by
 unfold jD at h
 unfold YR
 exact Ag.stepS h fun _ _ h => h⟩
def YZ (i : Nat) (a v : G D) : G zp := fun ρ => (v ρ).bind fun d ρ0 => (yD (UB ρ0[i]?) ρ0).bind fun _ ρ0 => (a ρ0).bind fun x ρ1 => (yD (UB ρ1[i]?) ρ1).bind fun ds ρ1 => match x with
  | .int j => gd (0 <= j /\ j.toNat < ds.length) (.ok .nx (ρ1.set i (.own (.lst (ds.set j.toNat d)))))
  | _ => .no
instance {i : Nat} {a v : ME} {ga gv : G D} [Ag z a ga] [Ag z v gv] : Jr z (Rz i a v) (YZ i ga gv) := ⟨fun N ρ h => by
 unfold YZ at h
 unfold Rz
 exact Ag.stepS h fun d ρ0 h =>
  UC (yw (We h) fun _ h => Ag.stepS h fun x ρ1 h => UC (yw (We h) fun ds h => by
    cases x with
    | int j => exact zhF h
    | _ => exact False.elim h))⟩
def zcq : Option Slot -> Option (Nat × List (Nat × D)) | some (.own (.obj c fs)) => some (c, fs) | _ => none
theorem zjm {s : Option Slot} {k : Nat -> List (Nat × D) -> Prop} (h : jA (fun r => k r.1 r.2) (zcq s)) : zfX s k := by
  unfold zcq at h
  split at h
  · exact h
  · exact False.elim h
def J4 (i f : Nat) (g : G D) : G zp := fun ρ => (g ρ).bind fun d ρ1 => (yD (zcq ρ1[i]?) ρ1).bind fun r ρ1 => gd (11 <= r.1 /\ r.2.length < 100) (.ok .nx (ρ1.set i (.own (.obj r.1 (ZV f d r.2)))))
instance {i f : Nat} {m : ME} {g : G D} [Ag z m g] : Jr z (zcg i f m) (J4 i f g) := ⟨fun N ρ h => by
 unfold J4 at h
 unfold zcg
 exact Ag.stepS h fun d ρ1 h => zjm (yw (We h) fun r h => let ⟨a, b⟩ := zhF h; ⟨a.1, a.2, b⟩)⟩
def Js (r : O zp) (k : G zp) : O zp := match r with
  | .ok .nx ρ => k ρ
  | .ok .ct ρ => k ρ
  | .ok .bk ρ => .ok .nx ρ
  | r => r
theorem zdc {N : Qq} {b : MS} {gb : G zp} [i : Jr z b gb] {ρ : Env} {k : G zp} {p : Env -> Prop} (h : Vn z N (Js (gb ρ) k)) (hk : ∀ ρ', Vn z N (k ρ') -> p ρ') : b { nx := p, rt := N.rt, bk := N.nx, ct := p } ρ := by
  refine i.h _ _ ?_
  cases e : gb ρ with
  | no => rw [e] at h; exact h
  | ex k ρ' => rw [e] at h; exact h
  | ok n ρ' =>
    rw [e] at h
    cases n with
    | nx => exact hk _ h
    | rt d => exact h
    | bk => exact h
    | ct => exact hk _ h
def yI (g : D -> Env -> Option Env) (b : G zp) : List D -> G zp
  | [], ρ => .ok .nx ρ
  | d :: ds, ρ => (yD (g d ρ) ρ).bind fun ρ1 _ => Js (b ρ1) (yI g b ds)
theorem zeP {N : Qq} {g : MG} {b : MS} {k : D -> Env -> Option Env} {gb : G zp} [i : AgG g k] [Jr z b gb] : ∀ (ds : List D) (ρ : Env), Vn z N (yI k gb ds ρ) -> zaL g b ds N ρ
  | [], ρ, h => h
  | d :: ds, ρ, h => i.h _ _ _ (yw (We h) fun ρ1 h => zdc h fun ρ' h => zeP ds ρ' h)
def Jg (gi : G (List D)) (g : D -> Env -> Option Env) (b : G zp) : G zp := fun ρ => (gi ρ).bind fun ds ρ1 => yI g b ds ρ1
instance {mi : MI} {g : MG} {b : MS} {gi : G (List D)} {k : D -> Env -> Option Env} {gb : G zp} [Ag z mi gi] [AgG g k] [Jr z b gb] : Jr z (zfU mi g b) (Jg gi k gb) := ⟨fun N ρ h => by
 unfold Jg at h
 unfold zfU
 exact Ag.stepS h fun ds ρ1 h => zeP ds ρ1 h⟩
def Y0 (c : G Bool) (b : G zp) : Nat -> G zp
  | 0, _ => .no
  | n + 1, ρ => (c ρ).bind fun k ρ1 => if k = true then Js (b ρ1) (Y0 c b n) else .ok .nx ρ1
theorem zbv {N : Qq} {c : MT} {b : MS} {gc : G Bool} {gb : G zp} [Ag z c gc] [Jr z b gb] : ∀ (n : Nat) (ρ : Env), Vn z N (Y0 gc gb n ρ) -> YT c b n N ρ
  | 0, ρ, h => h
  | n + 1, ρ, h => Ag.stepS h fun k ρ1 h => by
    cases k with
    | true => exact zdc h fun ρ' h => zbv n ρ' h
    | false => exact h
def zdd (n : Nat) (c : G Bool) (b : G zp) : G zp := Y0 c b n
instance {n : Nat} {c : MT} {b : MS} {gc : G Bool} {gb : G zp} [Ag z c gc] [Jr z b gb] : Jr z (zcP c b) (zdd n gc gb) := ⟨fun N ρ h => ⟨n, zbv n ρ h⟩⟩
def zde : List Nat -> Env -> Option (List D)
  | [], _ => some []
  | i :: r, ρ => (YB ρ[i]?).bind fun o => (zde r ρ).map (o :: ·)
theorem zeQ : ∀ {pn : List Nat} {ρ : Env} {k : List D -> Prop}, jA k (zde pn ρ) -> Uj pn ρ k
  | [], ρ, k, h => h
  | i :: r, ρ, k, h => by
    unfold zde at h
    unfold Uj
    cases e : YB ρ[i]? with
    | none => rw [e] at h; exact False.elim h
    | some o =>
      rw [e] at h
      rw [Vm e]
      exact zeQ (zaY h)
def Vo (pn : List Nat) (d : D) (ρ : Env) : RF := match zde pn ρ with | some os => .ok d os | none => .no
def zf_ (pn : List Nat) (fr : Bool) : O zp -> RF
  | .ok .nx ρ => if fr = true then .no else Vo pn .non ρ
  | .ok (.rt d) ρ => Vo pn d ρ
  | .ex k _ => .ex k
  | _ => .no
def zQ (pn : List Nat) (n nl : Nat) (fr : Bool) (g : G zp) : Fn := fun ss => if ss.length = n then zf_ pn fr (g (ss ++ List.replicate nl .no)) else .no
theorem zH {pn : List Nat} {n nl : Nat} {fr : Bool} {g : G zp} {ss : List Slot} {q : D -> List D -> Prop} {z : D -> List D -> Prop} (h : zt (zQ pn n nl fr g) ss q z) : ss.length = n := by
  unfold zt zQ at h
  by_cases e : ss.length = n
  · exact e
  · rw [if_neg e] at h; exact False.elim h
theorem zeR {pn : List Nat} {d : D} {ρ : Env} {q : D -> List D -> Prop} {z : D -> List D -> Prop} (h : match Vo pn d ρ with | .no => False | .ex k => z (.exc k) [] | .ok d os => q d os) : Uj pn ρ (q d) := by
  refine zeQ ?_
  unfold Vo at h
  cases e : zde pn ρ with
  | none => rw [e] at h; exact h
  | some os => rw [e] at h; exact h
theorem zga {pn : List Nat} {n nl : Nat} {fr : Bool} {g : G zp} {b : MS} {ss : List Slot} {q z : D -> List D -> Prop} [i : Jr (fun k _ => z (.exc k) []) b g] (h : zt (zQ pn n nl fr g) ss q z) :
    b { nx := fun ρ => fr = false /\ Uj pn ρ (q .non), rt := fun d ρ => Uj pn ρ (q d), bk := fun _ => False, ct := fun _ => False } (ss ++ List.replicate nl .no) := by
  have hl := zH h
  unfold zt zQ at h
  rw [if_pos hl] at h
  refine i.h _ _ ?_
  cases e : g (ss ++ List.replicate nl .no) with
  | no => rw [e] at h; exact h
  | ex k ρ => rw [e] at h; exact h
  | ok n ρ =>
    rw [e] at h
    cases n with
    | nx =>
      cases fr with
      | true => exact False.elim h
      | false => exact ⟨rfl, zeR h⟩
    | rt d => exact zeR h
    | bk => exact h
    | ct => exact h
theorem yb {P : Program} {w : World} {K : PySem.W.Frag} {mg : Str -> Option Value} {base : Heap} {cls : Nat -> Option Addr} {x qual : Str} {st : Stmt} {f : Addr} {fd : FuncData} {N ps : List Str} {pn : List Nat} {fr : Bool} {k n : Nat} {g : G zp} (F : Fun K x qual st f fd) (S : zz N ps (zr st)) (hn : ps.length = n)
    (hb : ∀ (cdv : Value) (A : Around) (outer : List PySem.Env) (s : Shared) (H : Hp) (E : XK), Room k (A.deeper (PyProof.Rows.envOfC qual (zr st) s.heap.objs.size f cdv)) ->
      ∃ b, RD (WP yg P w K mg base N qual (zr st) f cdv A outer s H E).nox cls pn fr (Qc st) b /\ Jr Zf b g) : FnOk P w K mg base yg (k + 1) f fd ps (z9 ⟨K, cls⟩ pn fr n (zt (zQ pn n (N.length - n) fr g))) := by
  subst hn
  refine F.ok S (fun vs H Q E h => h.1) fun cdv A outer s H vs Q E hr h => ?_
  obtain ⟨b, hd, ag⟩ := hb cdv A outer s H E hr
  obtain ⟨t, a, c⟩ := hd.h
  refine ⟨t, a, ?_⟩
  obtain ⟨hl, S, ss, q, hpin, h0, R, hq, hQ⟩ := h
  have hsl : ss.length = ps.length := by have := R.len; simp at this; omega
  have hm := zga (i := (ag : Jr (fun k _ => Z0 (.exc k) []) b g)) hq
  unfold L2.start
  rw [hl]
  have rt : ∀ v d σ' H' ρ', RR ⟨K, cls⟩ fr S σ' ρ' H' [] v d -> Uj pn ρ' (q d) -> Q v H' := fun v d σ' H' ρ' r' q' => by
    obtain ⟨os, a, b⟩ := zeH q'
    exact hQ _ _ _ _ _ os r' a b
  refine c S _ _ H [] _ _ hpin (R.ext _) hm (fun σ' H' ρ' R' q' => ?_) rt (fun _ _ _ _ z => False.elim z) fun _ _ _ _ z => False.elim z
  obtain ⟨e, q'⟩ := q'
  subst e
  exact rt _ _ _ _ _ ⟨R', .non⟩ q'
end M
namespace M
open PySem L2
theorem zhG {C : Addr} {n : Nat} : ∀ {l : List (Nat × Addr)}, l.lookup n = some C -> (n, C) ∈ l
  | [], h => by cases h
  | (m, B) :: r, h => by
    rw [List.lookup_cons] at h
    split at h
    · rename_i e
      cases h
      have : n = m := by simpa using e
      subst this
      exact List.mem_cons_self
    · exact List.mem_cons_of_mem _ (zhG h)
theorem znI {k : Nat} {A : Around} (r : Room k A) : A.units + 41 < cLine := by have := r.un; omega
theorem zgb {F : Fn} (hF : ∀ ns : List Int, ns.length <= 63 -> F [.val (.fz ns)] = .ok (.bl true) []) {K : PySem.W.Frag} {cls : Nat -> Option Addr} {vs : List V} {H : Hp} {Q : VK} {E : XK} (h : RJ K vs H Q E) : z9 ⟨K, cls⟩ [] false 1 (zt F) vs H Q E := by
  obtain ⟨hl, S, ss, q, a, b, c, ⟨ns, e, hn, hq⟩, d⟩ := zhB (cls := cls) h
  refine ⟨hl, S, ss, q, a, b, c, ?_, d⟩
  subst e
  unfold zt
  rw [hF ns hn]
  exact hq
end M
namespace M
open PySem L2
section
variable {α β : Type}
theorem zm {a : α} {ρ : Env} {f : α -> Env -> O β} : (O.ok a ρ).bind f = f a ρ := rfl
theorem zeS {f : α -> Env -> O β} : (O.no : O α).bind f = .no := rfl
theorem zeT {k : Nat} {ρ : Env} {f : α -> Env -> O β} : (O.ex k ρ : O α).bind f = .ex k ρ := rfl
theorem zR {a : α} {ρ : Env} : yD (some a) ρ = .ok a ρ := rfl
theorem zdf {ρ : Env} : yD (none : Option α) ρ = .no := rfl
theorem zeU {r : O α} : gd True r = r := rfl
theorem Vp {c : Prop} [Decidable c] {r : O α} (h : c) : gd c r = r := if_pos h
theorem zeV {ρ : Env} {b : G zp} : WY (.ok .nx ρ) b = b ρ := rfl
theorem zeW {d : D} {ρ : Env} {b : G zp} : WY (.ok (.rt d) ρ) b = .ok (.rt d) ρ := rfl
theorem zeX {ρ : Env} {b : G zp} : WY (.ok .bk ρ) b = .ok .bk ρ := rfl
theorem zeY {ρ : Env} {b : G zp} : WY (.ok .ct ρ) b = .ok .ct ρ := rfl
theorem zeZ {k : Nat} {ρ : Env} {b : G zp} : WY (.ex k ρ) b = .ex k ρ := rfl
theorem zdg {ρ : Env} {b : G zp} : Js (.ok .nx ρ) b = b ρ := rfl
theorem zdh {d : D} {ρ : Env} {b : G zp} : Js (.ok (.rt d) ρ) b = .ok (.rt d) ρ := rfl
theorem zdi {ρ : Env} {b : G zp} : Js (.ok .bk ρ) b = .ok .nx ρ := rfl
theorem zdj {ρ : Env} {b : G zp} : Js (.ok .ct ρ) b = b ρ := rfl
theorem zgc {x : D} {ρ : Env} : (Opd.d x).get ρ = some x := rfl
theorem zkA {i : Nat} {ρ : Env} : (Opd.v i).get ρ = Q4 ρ[i]? := rfl
theorem zbw {d : D} : Q4 (some (.val d)) = some d := rfl
theorem zbx {d : D} : Q4 (some (.own d)) = some d := rfl
theorem UD {d : D} : YB (some (.own d)) = some d := rfl
theorem zby {ds : List D} : UB (some (.own (.lst ds))) = some ds := rfl
theorem zbz {c : Nat} {fs : List (Nat × D)} : zcq (some (.own (.obj c fs))) = some (c, fs) := rfl
theorem zdk {b : Bool} {ρ : Env} : asB (.bl b) ρ = .ok b ρ := rfl
theorem ze0 {b : Int} {ρ : Env} : asI (.int b) ρ = .ok (some b) ρ := rfl
theorem zdl {d : D} {os : List D} {ρ : Env} : zcp (.ok d os) ρ = .ok d ρ := rfl
theorem Ym {j : Nat} {d o : D} {ρ : Env} : RN j (.ok d [o]) ρ = .ok d (ρ.set j (.own o)) := rfl
theorem zdm {o : D} {ρ : Env} : zf9 (.ok .non [o]) ρ = .ok o ρ := rfl
theorem ze1 {pn : List Nat} {ρ : Env} : zf_ pn false (.ok .nx ρ) = Vo pn .non ρ := rfl
theorem zaZ {pn : List Nat} {fr : Bool} {d : D} {ρ : Env} : zf_ pn fr (.ok (.rt d) ρ) = Vo pn d ρ := rfl
theorem ze2 {pn : List Nat} {fr : Bool} {k : Nat} {ρ : Env} : zf_ pn fr (.ex k ρ) = .ex k := rfl
theorem WZ {d : D} {ρ : Env} : Vo [] d ρ = .ok d [] := rfl
theorem zhH {d o : D} {ρ : Env} : Vo [0] d (.own o :: ρ) = .ok d [o] := rfl
theorem RO {n : Nat} {r : Int} (h0 : 0 <= r) (h1 : r < n) : JN n r = some r.toNat := by
  unfold JN
  rw [if_pos h0, if_pos h1]
theorem Yn {ds : List D} {r : Int} (h0 : 0 <= r) (h1 : r < ds.length) : zy (.lst ds) (.int r) = some (ds.getD r.toNat .non) := by
  unfold zy; dsimp only; rw [RO h0 h1]; rfl
theorem Yo {ds : List D} {r : Int} (h0 : 0 <= r) (h1 : r < ds.length) : zy (.tup ds) (.int r) = some (ds.getD r.toNat .non) := by
  unfold zy; dsimp only; rw [RO h0 h1]; rfl
theorem zop {ns : List Int} {r : Int} (h0 : 0 <= r) (h1 : r < ns.length) : zy (.fz ns) (.int r) = some (.int (ns.getD r.toNat 0)) := by
  unfold zy; dsimp only; rw [RO h0 h1]; rfl
theorem zoq {w : Str} {r : Int} (hl : w.length <= 100000) (h0 : 0 <= r) (h1 : r < w.cps.toList.length) : zy (.str w) (.int r) = some (.str ⟨#[w.cps.toList.getD r.toNat 0]⟩) := by
  unfold zy; dsimp only; rw [if_pos hl, RO h0 h1]; rfl
section
variable {a b c d e f g h : D} {ds : List D}
theorem ix0 : zy (.lst (a :: ds)) (.int 0) = some a := Yn (by omega) (by simp only [List.length_cons]; omega)
theorem ix1 : zy (.lst (a :: b :: ds)) (.int 1) = some b := Yn (by omega) (by simp only [List.length_cons]; omega)
theorem ix2 : zy (.lst (a :: b :: c :: ds)) (.int 2) = some c := Yn (by omega) (by simp only [List.length_cons]; omega)
theorem ix3 : zy (.lst (a :: b :: c :: d :: ds)) (.int 3) = some d := Yn (by omega) (by simp only [List.length_cons]; omega)
theorem ix4 : zy (.lst (a :: b :: c :: d :: e :: ds)) (.int 4) = some e := Yn (by omega) (by simp only [List.length_cons]; omega)
theorem ix5 : zy (.lst (a :: b :: c :: d :: e :: f :: ds)) (.int 5) = some f := Yn (by omega) (by simp only [List.length_cons]; omega)
theorem ix6 : zy (.lst (a :: b :: c :: d :: e :: f :: g :: ds)) (.int 6) = some g := Yn (by omega) (by simp only [List.length_cons]; omega)
theorem ix7 : zy (.lst (a :: b :: c :: d :: e :: f :: g :: h :: ds)) (.int 7) = some h := Yn (by omega) (by simp only [List.length_cons]; omega)
theorem it0 : zy (.tup (a :: ds)) (.int 0) = some a := Yo (by omega) (by simp only [List.length_cons]; omega)
theorem it1 : zy (.tup (a :: b :: ds)) (.int 1) = some b := Yo (by omega) (by simp only [List.length_cons]; omega)
theorem it2 : zy (.tup (a :: b :: c :: ds)) (.int 2) = some c := Yo (by omega) (by simp only [List.length_cons]; omega)
theorem it3 : zy (.tup (a :: b :: c :: d :: ds)) (.int 3) = some d := Yo (by omega) (by simp only [List.length_cons]; omega)
theorem it4 : zy (.tup (a :: b :: c :: d :: e :: ds)) (.int 4) = some e := Yo (by omega) (by simp only [List.length_cons]; omega)
theorem it5 : zy (.tup (a :: b :: c :: d :: e :: f :: ds)) (.int 5) = some f := Yo (by omega) (by simp only [List.length_cons]; omega)
theorem it6 : zy (.tup (a :: b :: c :: d :: e :: f :: g :: ds)) (.int 6) = some g := Yo (by omega) (by simp only [List.length_cons]; omega)
theorem it7 : zy (.tup (a :: b :: c :: d :: e :: f :: g :: h :: ds)) (.int 7) = some h := Yo (by omega) (by simp only [List.length_cons]; omega)
end
theorem ze3 : J1 .non = true := rfl
theorem ze4 {b : Bool} : J1 (.bl b) = false := rfl
theorem ze5 {i : Int} : J1 (.int i) = false := rfl
theorem ze6 {x : Str} : J1 (.str x) = false := rfl
theorem ze7 {l : List D} : J1 (.lst l) = false := rfl
theorem ze8 {l : List D} : J1 (.tup l) = false := rfl
theorem ze9 {c : Nat} {fs : List (Nat × D)} : J1 (.obj c fs) = false := rfl
theorem zhI {ρb ρ : Env} : zZ [none] ρb ρ = ρ := by
  match ρb with
  | [] => rfl
  | [_] => rfl
  | _ :: _ :: _ => rfl
theorem U1 : ∀ {a b : List Char}, a.map Char.toNat = b.map Char.toNat -> a = b
  | [], [], _ => rfl
  | [], _ :: _, h => by simp at h
  | _ :: _, [], h => by simp at h
  | x :: a, y :: b, h => by
    simp only [List.map_cons, List.cons.injEq] at h
    rw [U1 h.2, Char.toNat_inj.mp h.1]
theorem Vq {a b : String} : (Str.ofString a = Str.ofString b) = (a = b) := by
  apply propext
  constructor
  · intro h
    rw [Str.ofString_eq_toList, Str.ofString_eq_toList] at h
    have h : (a.toList.map Char.toNat) = (b.toList.map Char.toNat) := by
      have := congrArg (fun s => s.cps.toList) h
      simpa using this
    exact String.toList_inj.mp (U1 h)
  · intro h; rw [h]
end
end M
namespace L2
open PySem PySem.Spec PyProof.Rows
theorem RP (t : SetTable) (n : Nat) : (t.orStandIn n).led = t.led /\ (t.plain = false -> (t.orStandIn n).plain = false) := by
  unfold SetTable.orStandIn
  split
  · exact ⟨rfl, id⟩
  · exact ⟨rfl, fun _ => rfl⟩
theorem zdn (t : SetTable) (es : Array (Int × Value)) (h : Int) (x : Value) : (layNew t es h x).2.1.led = t.led /\ (t.plain = false -> (layNew t es h x).2.1.plain = false) := by
  unfold layNew
  split
  · exact RP _ _
  · exact ⟨rfl, fun _ => rfl⟩
theorem zdo {t u : SetTable} {hs : Array Int} {n : Nat} {ord : Array Nat} (h : t.relaid hs n = some (u, ord)) : u.led = t.led /\ u.plain = t.plain := by
  unfold SetTable.relaid SetTable.laid at h
  cases e : SetTable.layClean (SetTable.sizeAbove n - 1) hs with
  | none => rw [e] at h; cases h
  | some ow => rw [e] at h; cases h; exact ⟨rfl, rfl⟩
theorem za0 (t : SetTable) (es : Array (Int × Value)) (n : Nat) : (relayAll t es n).2.1.led = t.led /\ (t.plain = false -> (relayAll t es n).2.1.plain = false) := by
  unfold relayAll
  split
  · rename_i u ord e
    have m := zdo e
    dsimp only
    split
    · exact ⟨m.1, fun z => m.2.trans z⟩
    · exact ⟨rfl, fun _ => rfl⟩
  · exact ⟨rfl, fun _ => rfl⟩
def TxSet (P : Program) (w : World) (h : Heap) (a : Addr) (S : yF -> Bool) (n : Nat) (led : Bool) : Prop :=
  ∃ ob es ep t, h.get? a = some ob /\ ob.ExactSet /\ ob.data = .set es ep t /\ ElemsOf (yd P w) es.toList /\ (∀ k, S k = true ↔ ∃ e ∈ es.toList, (yd P w).is k e.2 = true) /\ es.size < scanBound /\ t.fits es.size = true /\ es.size = n /\ t.led = led /\ (1 <= n -> t.plain = false)
theorem TxSet.set {P : Program} {w : World} {h : Heap} {a : Addr} {S : yF -> Bool} {n : Nat} {led : Bool} (x : TxSet P w h a S n led) : h.SetOf (yd P w) a S n :=
  let ⟨ob, es, ep, t, h1, h2, h3, h4, h5, h6, h7, h8, _⟩ := x; ⟨ob, es, ep, t, h1, h2, h3, h4, h5, h6, h7, h8⟩
theorem TxSet.at {P : Program} {w : World} {h h' : Heap} {a : Addr} {S : yF -> Bool} {n : Nat} {led : Bool} (x : TxSet P w h a S n led) (k : ∀ o, h.get? a = some o -> h'.get? a = some o) : TxSet P w h' a S n led :=
  let ⟨ob, es, ep, t, h1, r⟩ := x; ⟨ob, es, ep, t, k _ h1, r⟩
theorem TxSet.eq {P : Program} {w : World} {h : Heap} {a : Addr} {S S' : yF -> Bool} {n n' : Nat} {led : Bool} (x : TxSet P w h a S n led) (e : ∀ k, S k = S' k) (en : n = n') : TxSet P w h a S' n' led := by
  cases (funext e : S = S'); cases en; exact x
section
variable {prog : Program} {w : World} {A : Around} {E : Value -> Shared -> Prop} {s : Shared}
theorem RQ {h : Heap} {a : Addr} {ob : Obj} {es : Array (Int × Value)} {ep : Nat} {t : SetTable} {led : Bool} (ho : h.get? a = some ob) (hx : ob.ExactSet) (hd : ob.data = .set es ep t) {fs : Array (Int × Value)} {u : SetTable} {S : yF -> Bool}
    (h1 : ElemsOf (yd prog w) fs.toList) (h2 : ∀ k, S k = true ↔ ∃ e ∈ fs.toList, (yd prog w).is k e.2 = true) (h3 : fs.size < scanBound) (h4 : u.fits fs.size = true) (h5 : u.led = led) (h6 : u.plain = false) :
    (h.update a (Obj.putSet fs u)).get? a = some { ob with data := .set fs (ep + 1) u } /\ TxSet prog w (h.update a (Obj.putSet fs u)) a S fs.size led := by
  have g := (SetOf_store (knd := yd prog w) ho hx hd h1 h2 h3 h4).1
  exact ⟨g, _, fs, ep + 1, u, g, hx, rfl, h1, h2, h3, h4, rfl, h5, fun _ => h6⟩
theorem ze_ {gw : Bool -> Sem Unit} (hg : ∀ (b : Bool) (s1 : Shared) (Q1 : Unit -> Shared -> Prop), Q1 () s1 -> wpAny (model prog w) A (gw b) Q1 E s1) {a : Addr} {ob : Obj} {es fs : Array (Int × Value)} {ep : Nat} {t u : SetTable} {S : yF -> Bool} {led : Bool}
    (ho : s.heap.get? a = some ob) (hx : ob.ExactSet) (hd : ob.data = .set es ep t) (h1 : ElemsOf (yd prog w) fs.toList) (h2 : ∀ k, S k = true ↔ ∃ e ∈ fs.toList, (yd prog w).is k e.2 = true) (h3 : fs.size < scanBound) (h4 : u.fits fs.size = true)
    (h5 : u.led = led) (h6 : u.plain = false) {dm : Bool} {R : Option Bool -> Shared -> Prop} (hR : ∀ h', Heap.SameBut a s.heap h' -> TxSet prog w h' a S fs.size led -> R (some true) { s with heap := h' }) :
    wpAny (model prog w) A (do
      storeSet a fs u
      if (!dm && u.tooFull) = true then do
        gw (relayAll u fs (SetTable.grown fs.size)).2.2
        storeSet a (relayAll u fs (SetTable.grown fs.size)).1 (relayAll u fs (SetTable.grown fs.size)).2.1
        pure (some true)
      else pure (some true)) R E s := by
  obtain ⟨g1, T1⟩ := RQ (w := w) (prog := prog) ho hx hd h1 h2 h3 h4 h5 h6
  have same := Heap.SameBut.update s.heap a (Obj.putSet fs u)
  refine wpAny_bind (wpAny_storeSet_of ho hd ?_ (fits_of_scanBound h3))
  split
  · have perm := relayAll_perm u fs (SetTable.grown fs.size)
    have fits := relayAll_fits u fs (SetTable.grown fs.size)
    have mark := za0 u fs (SetTable.grown fs.size)
    revert perm fits mark
    generalize relayAll u fs (SetTable.grown fs.size) = r
    obtain ⟨gs, v, gave⟩ := r
    intro perm fits mark
    dsimp only at perm fits mark ⊢
    have k1 : ElemsOf (yd prog w) gs.toList := h1.perm perm
    have k2 : ∀ k, S k = true ↔ ∃ e ∈ gs.toList, (yd prog w).is k e.2 = true := fun k => by
      rw [h2 k]
      exact ⟨fun ⟨e, m, q⟩ => ⟨e, perm.mem_iff.mpr m, q⟩, fun ⟨e, m, q⟩ => ⟨e, perm.mem_iff.mp m, q⟩⟩
    have k3 : gs.size = fs.size := by have := perm.length_eq; simpa using this
    refine wpAny_bind (hg _ _ _ (wpAny_bind (wpAny_storeSet_of g1 rfl ?_ (fits_of_scanBound (by rw [k3]; exact h3)))))
    obtain ⟨_, T2⟩ := RQ (w := w) (prog := prog) g1 hx rfl k1 k2 (by rw [k3]; exact h3) fits (mark.1.trans h5) (mark.2 h6)
    rw [k3] at T2
    exact wpAny_pure (hR _ (same.trans (Heap.SameBut.update _ a _)) T2)
  · exact wpAny_pure (hR _ same T1)
theorem zjn {a : Addr} {S : yF -> Bool} {n : Nat} {led : Bool} {x : Str} {tk : Tok} {Q : Bool -> Shared -> Prop} (hS : TxSet prog w s.heap a S n led) (hr : n + 1 < scanBound)
    (hQ : ∀ h', Heap.SameBut a s.heap h' -> TxSet prog w h' a (fun k => S k || decide (k = .inr x)) (if S (.inr x) then n else n + 1) led -> Q (!S (.inr x)) { s with heap := h' }) :
    wpAny (model prog w) A (setAddHashed a (.str x tk) ((yd prog w).hash (.inr x))) Q E s := by
  obtain ⟨ob, es, ep, t, ho, hx, hd, hel, hmem, hb, hf, hn, hled, hpl⟩ := id hS
  have hk : (yd prog w).is (.inr x) (.str x tk) = true := zbb x tk
  have hsc : (Value.str x tk).scannable = true := rfl
  unfold setAddHashed setAddHashedIn
  refine wpAny_holding (wpAny_bind (wpAny_setState_of ho hd hf ?_))
  dsimp only
  rw [byScan_of hsc hb hel, if_pos rfl]
  unfold setAddByScan
  refine wpAny_bind (wpAny_bind (wpAny_rule (wpAny_bind (wpAny_setScan_of hk ho hd hf hel ?_))))
  cases q : List.findIdx? (fun e => (yd prog w).is (.inr x) e.2) es.toList with
  | some j =>
    obtain ⟨hj, pj, _⟩ := List.findIdx?_eq_some_iff_getElem.mp q
    have there : S (.inr x) = true := (hmem _).mpr ⟨_, List.getElem_mem hj, pj⟩
    have z := hQ s.heap (Heap.SameBut.refl a s.heap) (hS.eq (fun k => by
      by_cases e : k = .inr x
      · rw [e, there]; rfl
      · rw [decide_eq_false e, Bool.or_false]) (by rw [there]; rfl))
    rw [there] at z
    exact wpAny_pure (wpAny_pure z)
  | none =>
    have away : S (.inr x) = false := by
      cases e : S (.inr x) with
      | false => rfl
      | true =>
        obtain ⟨y, hy, py⟩ := (hmem _).mp e
        have := List.findIdx?_eq_none_iff.mp q y hy
        rw [py] at this; cases this
    have perm := layNew_perm t es ((yd prog w).hash (.inr x)) (.str x tk)
    have fits := layNew_fits t es ((yd prog w).hash (.inr x)) (.str x tk)
    have mark := zdn t es ((yd prog w).hash (.inr x)) (.str x tk)
    dsimp only
    revert perm fits mark
    generalize layNew t es ((yd prog w).hash (.inr x)) (.str x tk) = r
    obtain ⟨fs, u, dm, gave⟩ := r
    intro perm fits mark
    dsimp only at perm fits mark ⊢
    rw [Array.toList_push] at perm
    have len : fs.size = n + 1 := by have := perm.length_eq; simp at this; omega
    have k1 : ElemsOf (yd prog w) fs.toList := (hel.push hk hsc).perm perm
    have k2 := mem_push_iff hk hmem perm
    have gwh : ∀ (b : Bool) (s1 : Shared) (Q1 : Unit -> Shared -> Prop), Q1 () s1 -> wpAny (model prog w) A (match b with | true => rule "set.scan.the-table-gave-way" | false => pure ()) Q1 E s1 := fun b s1 Q1 z => by
      cases b
      · exact wpAny_pure z
      · exact wpAny_rule z
    refine wpAny_bind (gwh _ _ _ ?_)
    have last : ∀ h', Heap.SameBut a s.heap h' -> TxSet prog w h' a (fun k => S k || decide (k = .inr x)) fs.size led -> Q true { s with heap := h' } := fun h' z1 z2 => by
      have := hQ h' z1
      rw [away] at this
      rw [len] at z2
      exact this z2
    split
    · refine wpAny_bind ?_
      rw [hashByValue_scannable 8 hsc]
      refine wpAny_pure ?_
      refine ze_ gwh ho hx hd k1 k2 (by omega) (u := { u with plain := false }) (SetTable.fits_plain_off fits) (mark.1.trans hled) rfl fun h' z1 z2 => wpAny_pure (last h' z1 z2)
    · rename_i np
      refine wpAny_bind (wpAny_pure ?_)
      rw [if_pos rfl]
      exact ze_ gwh ho hx hd k1 k2 (by omega) fits (mark.1.trans hled) (by simpa using np) fun h' z1 z2 => wpAny_pure (last h' z1 z2)
end
end L2
namespace L2
open PySem PySem.Spec PyProof.Rows
inductive Txs : List Str -> List Value -> Prop where
  | nil : Txs [] []
  | cons (x : Str) (t : Tok) {xs vs} (r : Txs xs vs) : Txs (x :: xs) (.str x t :: vs)
theorem zhJ : ∀ {xs : List Str} {us : List Value}, Vals (xs.map V.str) us -> Txs xs us
  | [], _, r => by cases r; exact .nil
  | x :: xs, _, r => by
    cases r with
    | cons r1 r2 => obtain ⟨t, rfl⟩ := r1; exact .cons x t (zhJ r2)
abbrev kx (xs : List Str) : List yF := xs.map Sum.inr
section
variable {prog : Program} {w : World} {A : Around} {R : Result -> Shared -> Prop}
theorem zhK {I l S : Addr} {its : List Value} {led : Bool} (hh : A.handled = none) (hne : l ≠ I) (hSI : S ≠ I) (hSl : S ≠ l) (hb : its.length + 1 < scanBound) :
    ∀ (rs : List Value) (rk pre : List Str) (us : List Value) (s : Shared) (n : Nat), its = us ++ rs -> pre.length = us.length -> Txs rk rs -> n <= us.length ->
      s.heap.IsListIter I l us.length -> s.heap.IsList l its.toArray -> TxSet prog w s.heap S (Qp (kx pre)) n led ->
      (∀ h' tk, (∀ b o, b ∉ [S, I] -> s.heap.get? b = some o -> h'.get? b = some o) -> TxSet prog w h' S (Qp (kx (pre ++ rk))) (n + jt (kx pre) (kx rk)) led -> R (.ok (.ret .none)) { s with heap := h', toks := tk }) ->
      codeAny (model prog w) A (.builtin "set.update.loop" ⟨[.ref S, .ref I], []⟩) R s := by
  intro rs
  have W := Walks.list (prog := prog) (w := w) (A := A.in1) (by simpa using hh) I l hne its.toArray
  induction rs with
  | nil =>
    intro rk pre us s n e hl hp hn hit hls hS hR
    cases hp
    have eu : us.length = its.toArray.size := by rw [e]; simp
    refine codeAny_builtin PyProof.Rows.F.entry_set_update_loop ?_
    rw [Around.under_plainId PyProof.Rows.F.plain_set_update_loop _]
    show wpAny _ A.in1 (pyNext (.ref I) >>= _) _ _ s
    refine wpAny_bind (W.done s _ _ ⟨by rw [← eu]; exact hit, hls⟩ fun h' tk kk => ?_)
    refine wpAny_pure ?_
    exact hR h' tk (fun b o hb ho => kk b o (fun z => hb (List.mem_cons_of_mem _ z)) ho) (by
      simp only [List.append_nil, kx, List.map_nil, jt, Nat.add_zero]
      exact hS.at fun o ho => kk S o (by simpa using hSI) ho)
  | cons v rs ih =>
    intro rk pre us s n e hl hp hn hit hls hS hR
    cases hp with
    | @cons x tx rk _ hp =>
    have hi : us.length < its.toArray.size := by rw [e]; simp
    refine codeAny_builtin PyProof.Rows.F.entry_set_update_loop ?_
    rw [Around.under_plainId PyProof.Rows.F.plain_set_update_loop _]
    show wpAny _ A.in1 (pyNext (.ref I) >>= _) _ _ s
    refine wpAny_bind (W.item us.length s _ _ hi ⟨hit, hls⟩ fun v' h' tk hv' st' kk => ?_)
    have ev : v' = .str x tx := by
      have z : its[us.length]? = some (.str x tx) := by rw [e]; simp
      have z' : its[us.length]? = some v' := by simpa using hv'
      rw [z] at z'; cases z'; rfl
    subst ev
    have hS1 := hS.at (h' := h') fun o ho => kk S o (by simpa using hSI) ho
    show wpAny _ A.in1 (holding [.str x tx] (setAdd S (.str x tx)) >>= _) _ _ _
    refine wpAny_bind (wpAny_holding ?_)
    unfold setAdd
    refine wpAny_holding ?_
    refine wpAny_bind ((yd prog w).pyHash (k := .inr x) (zbb x tx) ?_)
    have hlt : us.length < its.length := by simpa using hi
    refine zjn hS1 (by omega) fun h2 hsb hS2 => ?_
    have keep2 : ∀ b o, b ∉ [S, I] -> s.heap.get? b = some o -> h2.get? b = some o := fun b o hb ho =>
      (hsb.2 b (fun z => hb (by simp [z]))).trans (kk b o (fun z => hb (List.mem_cons_of_mem _ z)) ho)
    refine wpAny_pure ⟨plainId_quiet PyProof.Rows.F.plain_set_update_loop _, ih rk (pre ++ [x]) (us ++ [.str x tx]) _ (if Qp (kx pre) (.inr x) then n else n + 1) (by rw [e]; simp) (by simp [hl]) hp ?_ ?_ ?_ ?_ ?_⟩
    · rw [List.length_append, List.length_singleton]; split <;> omega
    · rw [List.length_append, List.length_singleton]
      exact st'.1.at fun o ho => (hsb.2 I (Ne.symm hSI)).trans ho
    · exact st'.2.at fun o ho => (hsb.2 l (Ne.symm hSl)).trans ho
    · refine hS2.eq (fun k' => ?_) rfl
      rw [Bool.eq_iff_iff, Bool.or_eq_true, isIn_iff, isIn_iff, decide_eq_true_eq]
      unfold kx
      rw [List.map_append, List.mem_append, List.map_cons, List.map_nil, List.mem_singleton]
    · intro h3 tk3 k3 hS3
      refine hR h3 tk3 (fun b o hb ho => k3 b o hb (keep2 b o hb ho)) (hS3.eq (fun k' => by rw [List.append_assoc]; rfl) ?_)
      simp only [kx, List.map_cons, List.map_append, List.map_nil, jt]
      split <;> omega
end
section
variable {prog : Program} {w : World} {A : Around} {E : Value -> Shared -> Prop} {s : Shared}
abbrev Jh (w : World) : Bool := w.params.followText "set-order"
theorem zlG (v : Value) {Q1 : Value -> Shared -> Prop} (h : Q1 (.ref s.heap.objs.size) { s with heap := s.heap.push (Jn (!Jh w)) }) :
    codeAny (model prog w) A (.call (.builtin "set.__new__") ⟨[.type "set", v], []⟩) (wants Q1 E) s := by
  refine codeAny_of_tree ?_
  show wpAny _ A.in1 (checkBuiltinCall "set.__new__" ⟨[.type "set", v], []⟩ >>= fun _ => again (.builtin "set.__new__" ⟨[.type "set", v], []⟩)) _ _ s
  refine wpAny_bind (wpAny_of_eq (PySem.F.newCall_set_1 v) (wpAny_pure ⟨plainId_quiet PySem.F.plain_set_new _, codeAny_builtin PySem.F.entry_set_new ?_⟩))
  rw [Around.under_plainId PySem.F.plain_set_new _]
  unfold Builtin.«set.__new__» Builtin.Frozenset.newClass
  have sub1 := sub_set_self
  obtain ⟨hp, g, d, tk, os⟩ := s
  dsimp only
  wp_walk
  refine wpAny_askSetting (wpAny_pure ?_)
  dsimp only
  simp only [newObj]
  exact wpAny_bind (wpAny_alloc (wpAny_pure (wpAny_pure h)))
theorem zdp {l : Addr} {its : List Value} {xs : List Str} {Q : Value -> Shared -> Prop} (hh : A.handled = none) (hl : s.heap.IsList l its.toArray) (hp : Txs xs its) (hb : its.length + 1 < scanBound)
    (h : ∀ (h' : Heap) (tk : Nat), TxSet prog w h' s.heap.objs.size (Qp (kx xs)) (jt [] (kx xs)) (!Jh w) -> (∀ b o, b < s.heap.objs.size -> s.heap.get? b = some o -> h'.get? b = some o) -> Q (.ref s.heap.objs.size) { s with heap := h', toks := tk }) :
    wpAny (model prog w) A (call (.type "set") [.ref l]) Q E s := by
  obtain ⟨c, tl, hmro⟩ := PySem.F.called_set.mro
  have hmade := PySem.F.called_set.made
  have hsub := PySem.F.called_set.sub
  refine wpAny_call (codeAny_of_tree ?_)
  show wpAny _ _ (callAny (.type "set") _) _ _ _
  refine wpAny_pure ⟨Code.quiet_builtin _ (by decide +kernel), codeAny_builtin PySem.F.entry_type_call ?_⟩
  rw [Around.under_plain (weight_type_call_type "set" [.ref l] []) rfl]
  have h1 := PySem.F.called_set.notType
  have h2 := PySem.F.called_set.canCreate
  have hct := PySem.F.typeCall_set_1 (.ref l)
  repeat (any_goals (first | assumption | wp_step))
  refine codeAny_mono (zlG (.ref l) (E := E) (Q1 := fun obj s₁ => obj = .ref s.heap.objs.size /\ s₁ = { s with heap := s.heap.push (Jn (!Jh w)) }) ⟨rfl, rfl⟩) fun r s₁ hr => ?_
  match r, hr with
  | .error e, hr => exact hr
  | .ok (.ret obj), hr =>
    obtain ⟨rfl, rfl⟩ := hr
    generalize hled : (!Jh w) = led at h ⊢
    have hS : (s.heap.push (Jn led)).get? s.heap.objs.size = some (Jn led) := Heap.get?_push_size _ rfl
    have hT : Shared.TypeIs { s with heap := s.heap.push (Jn led) } (.ref s.heap.objs.size) "set" := ⟨_, hS, rfl⟩
    have hli := PySem.F.called_set.init.lookup
    have hbi := PySem.F.called_set.init.bind (.ref s.heap.objs.size)
    repeat (any_goals (first | assumption | wp_step))
    refine codeAny_mono (codeAny_call_builtin (R := wants (fun r s₂ => r = .none /\ ∃ h' tk, s₂ = { s with heap := h', toks := tk } /\ TxSet prog w h' s.heap.objs.size (Qp (kx xs)) (jt [] (kx xs)) led /\
        (∀ b o, b < s.heap.objs.size -> s.heap.get? b = some o -> h'.get? b = some o)) E) PySem.F.called_set.init.plain PySem.F.entry_set_init (check_set_init_1 hT ?_)) fun r₂ s₂ hr₂ => ?_
    · obtain ⟨ol, hol, hcl, nl, hdl⟩ := id hl
      obtain ⟨ocls, odict, odata, oslots⟩ := ol
      simp only at hcl hdl
      subst hcl; subst hdl
      have hol' : (s.heap.push (Jn led)).get? l = some { cls := .type "list", dict := odict, data := .seq its.toArray nl, slots := oslots } := Heap.get?_push_of_some _ hol
      have hsls := PySem.F.sub_list_set
      have hslf := PySem.F.sub_list_frozenset
      have hne : (Value.type "list" == Value.type "dict") = false := by decide
      have hl1 : (s.heap.push (Jn led)).IsList l its.toArray := ⟨_, hol', rfl, nl, rfl⟩
      unfold Builtin.«set.__init__» noKeywords Builtin.Frozenset.updateFrom
      generalize hPI : pyIter = PI
      wp_walk
      subst hPI
      refine wpAny_pyIter_list hl1 (wpAny_bind (wpAny_runValue ?_))
      have hlS : l < s.heap.objs.size := Heap.lt_size hol
      have sz : (s.heap.push (Jn led)).objs.size = s.heap.objs.size + 1 := Heap.size_push ..
      refine zhK (its := its) (led := led) (by simp [hh]) (by rw [sz]; exact Nat.ne_of_lt (Nat.lt_succ_of_lt hlS)) (by rw [sz]; exact Nat.ne_of_lt (Nat.lt_succ_self _)) (Nat.ne_of_gt hlS) hb its xs [] [] _ 0 rfl rfl hp (Nat.le_refl _)
        ⟨_, Heap.get?_push_size _ rfl, rfl, rfl⟩ (hl1.push _) ?_ ?_
      · refine ⟨Jn led, #[], 0, _, Heap.get?_push_of_some _ hS, ⟨rfl, rfl, rfl⟩, rfl, fun e he => by simp at he, fun k => by simp [Qp], by decide, by rfl, rfl, rfl, fun z => absurd z (by decide)⟩
      · intro h' tk' kk hS'
        refine wpAny_pure ?_
        show wpAny _ _ (ret Value.none) _ _ _
        refine wpAny_pure ⟨rfl, h', tk', rfl, hS'.eq (fun _ => rfl) (by simp), fun b o hb e => ?_⟩
        refine kk b o (fun z => ?_) (Heap.get?_push_of_some _ (Heap.get?_push_of_some _ e))
        rcases List.mem_cons.mp z with z | z
        · exact absurd z (Nat.ne_of_lt hb)
        · have z' : b = (s.heap.push (Jn led)).objs.size := by simpa using z
          rw [sz] at z'
          exact absurd z' (Nat.ne_of_lt (Nat.lt_succ_of_lt hb))
    · match r₂, hr₂ with
      | .error e, hr₂ => exact hr₂
      | .ok (.ret r), hr₂ =>
        obtain ⟨rfl, h', tk, rfl, hS', hk'⟩ := hr₂
        repeat (any_goals (first | assumption | wp_step))
        exact h _ _ hS' hk'
      | .ok .next, hr₂ => exact hr₂.elim
      | .ok .brk, hr₂ => exact hr₂.elim
      | .ok .cont, hr₂ => exact hr₂.elim
  | .ok .next, hr => exact hr.elim
  | .ok .brk, hr => exact hr.elim
  | .ok .cont, hr => exact hr.elim
end
end L2
namespace L2
open PySem PySem.Spec PyProof.Rows
theorem sit_next : Slot "set_iterator" "__next__" "set_iterator.__next__" := .of (owner := "set_iterator") (n := "__next__") (by rw [typeLookup_type, builtinLookup_eq_fast]; kernel_rfl) (by decide +kernel) (by decide +kernel) (by decide +kernel) (by first | exact .inl (by decide +kernel) | exact .inr (by decide +kernel)) (by rw [isSubtype_type]; kernel_rfl)
theorem zdq : Slot "set_iterator" "__iter__" "set_iterator.__iter__" := .of (owner := "set_iterator") (n := "__iter__") (by rw [typeLookup_type, builtinLookup_eq_fast]; kernel_rfl) (by decide +kernel) (by decide +kernel) (by decide +kernel) (by first | exact .inl (by decide +kernel) | exact .inr (by decide +kernel)) (by rw [isSubtype_type]; kernel_rfl)
theorem W0 : entryFor table "set_iterator.__next__" = some Builtin.«set_iterator.__next__» := entryFor_of_tree (by kernel_rfl)
theorem zjo : entryFor table "set_iterator.__iter__" = some Builtin.«dict_keyiterator.__iter__» := entryFor_alias (id' := "dict_keyiterator.__iter__") (by kernel_rfl) rfl (by decide +kernel) (by kernel_rfl)
theorem zjp : entryFor table "set.__iter__" = some Builtin.«frozenset.__iter__» := entryFor_alias (id' := "frozenset.__iter__") (by kernel_rfl) rfl (by decide +kernel) (by kernel_rfl)
theorem Vr (a : Value) : argsOk "set_iterator.__next__" ⟨[a], []⟩ := by
  unfold argsOk; kernel_rfl
theorem zhL (a : Value) : argsOk "set_iterator.__iter__" ⟨[a], []⟩ := by
  unfold argsOk; kernel_rfl
theorem zhM (a : Value) : argsOk "set.__iter__" ⟨[a], []⟩ := by
  unfold argsOk; kernel_rfl
section
variable {prog : Program} {w : World} {A : Around} {E : Value -> Shared -> Prop} {s : Shared}
theorem zgd {n : Nat} {Q : Nat -> Shared -> Prop} (h0 : 0 < n) (h : ∀ i dr, i < n -> Q i { s with drawn := dr }) : wpAny (model prog w) A (choose .order n) Q E s := fun Γ p hΓ => by
  unfold choose
  rw [Sem.wp_choose]
  refine ⟨Nat.ne_of_gt h0, ?_⟩
  exact h _ _ (Nat.mod_lt _ h0)
theorem UE {α : Type} : ∀ {l : List α} {i : Nat} (h : i < l.length), (l[i] :: l.eraseIdx i).Perm l
  | x :: l, 0, _ => List.Perm.refl _
  | x :: l, i + 1, h => by
    have := UE (l := l) (i := i) (by simpa using h)
    show ((l[i]'(by simpa using h)) :: x :: l.eraseIdx i).Perm _
    exact (List.Perm.swap _ _ _).trans (this.cons x)
theorem zbA {α : Type} : ∀ (n : Nat) (xs : List α) (s : Shared) (Q : List α -> Shared -> Prop), n = xs.length -> (∀ ys dr, ys.Perm xs -> Q ys { s with drawn := dr }) -> wpAny (model prog w) A (drawOrder n xs) Q E s
  | 0, [], s, Q, _, h => by
    unfold drawOrder
    exact wpAny_pure (h [] s.drawn (List.Perm.refl _))
  | 0, _ :: _, _, _, e, _ => by simp at e
  | n + 1, [], _, _, e, _ => by simp at e
  | n + 1, x :: xs, s, Q, e, h => by
    unfold drawOrder
    refine wpAny_bind (zgd (by simp) fun i dr hi => ?_)
    have hg : (x :: xs)[i]? = some (x :: xs)[i] := List.getElem?_eq_getElem hi
    rw [hg]
    refine wpAny_bind (zbA n _ _ _ (by rw [List.length_eraseIdx, if_pos hi]; simp at e ⊢; exact e) fun ys dr' hp => wpAny_pure ?_)
    refine h _ dr' ?_
    exact (hp.cons _).trans (UE hi)
def SIter (h : Heap) (I : Addr) (first : Value) (i : Nat) (a : Addr) (n ep : Nat) : Prop := h.get? I = some { cls := .type "set_iterator", dict := none, data := .fields #[first, .int i 0, .ref a, .int n 0, .int ep 0], slots := #[] }
theorem SIter.ty {h : Heap} {I : Addr} {first : Value} {i : Nat} {a : Addr} {n ep : Nat} (x : SIter h I first i a n ep) : ∀ {s : Shared}, s.heap = h -> s.TypeIs (.ref I) "set_iterator" := fun {s} e => ⟨_, by rw [e]; exact x, rfl⟩
theorem zge {I a T : Addr} {i n ep : Nat} {ob : Obj} {es : Array (Int × Value)} {t : SetTable} {pl : Array Value} {j : Nat} {x : Int × Value} {Q : Option Value -> Shared -> Prop} (hI : SIter s.heap I (.ref T) i a n ep) (ho : s.heap.get? a = some ob) (hd : ob.data = .set es ep t) (hf : t.fits es.size = true) (hn : es.size = n)
    (hT : s.heap.IsTuple T pl) (hp : pl[i]? = some (.int j 0)) (hx : es[j]? = some x) (h : ∀ h', SIter h' I (.ref T) (i + 1) a n ep -> Heap.SameBut I s.heap h' -> Q (some x.2) { s with heap := h' }) : wpAny (model prog w) A (pyNext (.ref I)) Q E s := by
  unfold pyNext
  refine wpAny_bind (wpAny_attempt (wpAny_callSpecial?_slot (name := Str.ofString "__next__") (hI.ty rfl) sit_next (wpAny_call_entry sit_next (hI.ty rfl) W0 ?_ (Vr _))))
  unfold Builtin.«set_iterator.__next__» slotArgs; simp only [List.isEmpty_nil, Bool.not_true, Bool.false_eq_true, ↓reduceIte, bind_assoc, List.length_nil, bne_self_eq_false]
  refine wpAny_bind (wpAny_pure ?_)
  refine wpAny_bind (wpAny_fieldsOf hI rfl ?_)
  dsimp only
  refine wpAny_bind (wpAny_setEntries_of ho hd hf ?_)
  rw [hn, if_neg (by simp)]
  obtain ⟨ot, hot, _, nt, hdt⟩ := id hT
  refine wpAny_bind (wpAny_seqItems hot hdt ?_)
  simp only [Int.toNat_natCast, hp]
  unfold setNextDrawn
  refine wpAny_bind (wpAny_bind (wpAny_setState_of ho hd hf ?_))
  simp only [Int.toNat_natCast, bne_self_eq_false, Bool.false_eq_true, if_false, hx]
  refine wpAny_pure (wpAny_bind (wpAny_setField_rec hI (by simp) fun h' hI' hs => ?_))
  exact wpAny_pure ⟨_, rfl, wpAny_pure (h h' hI' hs)⟩
theorem zbB {hh : A.handled = none} {Q : Option Value -> Shared -> Prop} (h : ∀ h', (∀ b o, s.heap.get? b = some o -> h'.get? b = some o) -> Q none { s with heap := h' }) :
    wpAny (model prog w) A.in1 (newExc (.type "StopIteration") [] >>= fun e => raiseNew (α := Fin) e) (fun fin s' => ∃ v, fin = Fin.done (Flow.ret v) /\ wpAny (model prog w) A (pure (some v)) Q E s')
      (fun e s' => wpAny (model prog w) A (isInstance e (.type "StopIteration") >>= fun b => if b = true then pure none else throw e) Q E s') s := by
  refine wpAny_bind ?_; simp only [newExc, newTuple]; refine wpAny_bind (wpAny_newObj_type ?_ (by size_fits)); refine wpAny_bind (m := firstArgMember _ _) (wpAny_of_eq (a := Value.none) (by first | rfl | (simp only [firstArgMember]; rfl)) ?_); refine wpAny_newObj_type ?_ (by size_fits)
  simp only [raiseNew]; refine wpAny_bind (wpAny_handled ?_); rw [show A.in1.handled = none from hh]; refine wpAny_bind (wpAny_pure (wpAny_throw ?_)); refine wpAny_bind (wpAny_isInstance (T := "StopIteration") (b := true) ⟨_, Heap.get?_push_size _ rfl, rfl⟩ isSubtype_stop ?_)
  exact wpAny_pure (h _ fun b o e => Heap.get?_push_of_some _ (Heap.get?_push_of_some _ e))
theorem zhN {I a T : Addr} {n ep : Nat} {ob : Obj} {es : Array (Int × Value)} {t : SetTable} {pl : Array Value} {Q : Option Value -> Shared -> Prop} (hh : A.handled = none) (hI : SIter s.heap I (.ref T) n a n ep) (ho : s.heap.get? a = some ob) (hd : ob.data = .set es ep t) (hf : t.fits es.size = true) (hn : es.size = n)
    (hT : s.heap.IsTuple T pl) (hp : pl[n]? = none) (h : ∀ h', (∀ b o, b ≠ I -> s.heap.get? b = some o -> h'.get? b = some o) -> Q none { s with heap := h' }) : wpAny (model prog w) A (pyNext (.ref I)) Q E s := by
  unfold pyNext
  refine wpAny_bind (wpAny_attempt (wpAny_callSpecial?_slot (name := Str.ofString "__next__") (hI.ty rfl) sit_next (wpAny_call_entry sit_next (hI.ty rfl) W0 ?_ (Vr _))))
  unfold Builtin.«set_iterator.__next__» slotArgs; simp only [List.isEmpty_nil, Bool.not_true, Bool.false_eq_true, ↓reduceIte, bind_assoc, List.length_nil, bne_self_eq_false]
  refine wpAny_bind (wpAny_pure ?_)
  refine wpAny_bind (wpAny_fieldsOf hI rfl ?_)
  dsimp only
  refine wpAny_bind (wpAny_setEntries_of ho hd hf ?_)
  rw [hn, if_neg (by simp)]
  obtain ⟨ot, hot, _, nt, hdt⟩ := id hT
  refine wpAny_bind (wpAny_seqItems hot hdt ?_)
  simp only [Int.toNat_natCast, hp]
  refine wpAny_bind (wpAny_setField_rec hI (by simp) fun h1 hI1 hs1 => ?_)
  refine wpAny_bind (wpAny_setField_rec hI1 (by simp) fun h2 hI2 hs2 => ?_)
  refine zbB (hh := hh) fun h' hk => h h' fun b o hb e => hk b o ((hs2.2 b hb).trans ((hs1.2 b hb).trans e))
theorem Qx {I a : Addr} {sl i n ep : Nat} {ob : Obj} {es : Array (Int × Value)} {t : SetTable} {Q : Option Value -> Shared -> Prop} {r : Option (Value × Nat)} (hh : A.handled = none) (hI : SIter s.heap I (.int sl 0) i a n ep) (ho : s.heap.get? a = some ob) (hd : ob.data = .set es ep t) (hf : t.fits es.size = true) (hn : es.size = n)
    (hr : ∀ (Q' : Option (Value × Nat) -> Shared -> Prop) (E' : Value -> Shared -> Prop), Q' r s -> wpAny (model prog w) A.in1 (setNext a sl i ep) Q' E' s)
    (h1 : ∀ x nx, r = some (x, nx) -> ∀ h', SIter h' I (.int nx 0) (i + 1) a n ep -> Heap.SameBut I s.heap h' -> Q (some x) { s with heap := h' })
    (h2 : r = none -> ∀ h', (∀ b o, b ≠ I -> s.heap.get? b = some o -> h'.get? b = some o) -> Q none { s with heap := h' }) : wpAny (model prog w) A (pyNext (.ref I)) Q E s := by
  unfold pyNext
  refine wpAny_bind (wpAny_attempt (wpAny_callSpecial?_slot (name := Str.ofString "__next__") (hI.ty rfl) sit_next (wpAny_call_entry sit_next (hI.ty rfl) W0 ?_ (Vr _))))
  unfold Builtin.«set_iterator.__next__» slotArgs; simp only [List.isEmpty_nil, Bool.not_true, Bool.false_eq_true, ↓reduceIte, bind_assoc, List.length_nil, bne_self_eq_false]
  refine wpAny_bind (wpAny_pure ?_)
  refine wpAny_bind (wpAny_fieldsOf hI rfl ?_)
  dsimp only
  refine wpAny_bind (wpAny_setEntries_of ho hd hf ?_)
  rw [hn, if_neg (by simp)]
  simp only [Int.toNat_natCast]
  refine wpAny_bind (hr _ _ ?_)
  cases e : r with
  | none =>
    dsimp only
    refine wpAny_bind (wpAny_setField_rec hI (by simp) fun h3 hI3 hs3 => ?_)
    exact zbB (hh := hh) fun h' hk => h2 e h' fun b o hb z => hk b o ((hs3.2 b hb).trans z)
  | some y =>
    obtain ⟨x, nx⟩ := y
    dsimp only
    refine wpAny_bind (wpAny_setField_rec hI (by simp) fun h3 hI3 hs3 => ?_)
    refine wpAny_bind (wpAny_setField_rec hI3 (by simp) fun h4 hI4 hs4 => ?_)
    exact wpAny_pure ⟨_, rfl, wpAny_pure (h1 x nx e h4 hI4 (hs3.trans hs4))⟩
end
end L2
namespace L2
open PySem PySem.Spec PyProof.Rows
theorem zfb {α : Type} (f : Nat -> Nat) : ∀ (n k : Nat) (l : List α) (out : Array α), n = l.length -> ∃ ys, ys.Perm l /\ (pickOrder.go f n k l out).toList = out.toList ++ ys
  | 0, k, [], out, _ => ⟨[], List.Perm.refl _, by simp [pickOrder.go]⟩
  | 0, _, _ :: _, _, e => by simp at e
  | n + 1, _, [], _, e => by simp at e
  | n + 1, k, x :: l, out, e => by
    have hi : f k % (x :: l).length < (x :: l).length := Nat.mod_lt _ (by simp)
    obtain ⟨ys, p, q⟩ := zfb f n (k + 1) ((x :: l).eraseIdx (f k % (x :: l).length)) (out.push ((x :: l)[f k % (x :: l).length])) (by rw [List.length_eraseIdx, if_pos hi]; simp at e ⊢; exact e)
    refine ⟨(x :: l)[f k % (x :: l).length] :: ys, (p.cons _).trans (UE hi), ?_⟩
    rw [pickOrder.go, List.getElem?_eq_getElem hi]
    dsimp only
    rw [q, Array.toList_push, List.append_assoc]
    rfl
theorem Yp {α : Type} (f : Nat -> Nat) (xs : Array α) : (pickOrder f xs).toList.Perm xs.toList := by
  obtain ⟨ys, p, q⟩ := zfb f xs.size 0 xs.toList #[] (by simp)
  unfold pickOrder
  rw [q]
  simpa using p
section
variable {prog : Program} {w : World} {A : Around} {E : Value -> Shared -> Prop} {s : Shared}
theorem Yq {Q : Bool -> Shared -> Prop} (h : Q (Jh w) s) : wpAny (model prog w) A setsByText Q E s := by
  unfold setsByText
  exact wpAny_bind (wpAny_askSetting (wpAny_pure h))
structure SetAt (h : Heap) (a : Addr) (ob : Obj) (es : Array (Int × Value)) (ep : Nat) (t : SetTable) : Prop where
  g : h.get? a = some ob
  d : ob.data = .set es ep t
  f : t.fits es.size = true
theorem SetAt.keep {h h' : Heap} {a : Addr} {ob : Obj} {es : Array (Int × Value)} {ep : Nat} {t : SetTable} (x : SetAt h a ob es ep t) (k : ∀ o, h.get? a = some o -> h'.get? a = some o) : SetAt h' a ob es ep t := ⟨k _ x.g, x.d, x.f⟩
theorem Wx {a : Addr} {sl i ep : Nat} {ob : Obj} {es : Array (Int × Value)} {t : SetTable} (hb : Jh w = true) (x : SetAt s.heap a ob es ep t) (Q : Option (Value × Nat) -> Shared -> Prop) (E : Value -> Shared -> Prop) (h : Q (((pickOrder (w.params.setOrder a ep) es)[i]?).map fun e => (e.2, sl)) s) : wpAny (model prog w) A (setNext a sl i ep) Q E s := by
  unfold setNext
  refine wpAny_bind (wpAny_setState_of x.g x.d x.f (wpAny_bind (Yq ?_)))
  rw [hb]
  simp only [if_true, bne_self_eq_false, Bool.false_eq_true, if_false]
  unfold setWalk
  refine wpAny_bind (wpAny_bind (wpAny_setState_of x.g x.d x.f (wpAny_bind (Yq ?_))))
  rw [hb]
  simp only [if_true]
  refine wpAny_bind (wpAny_askSetting (wpAny_pure (wpAny_pure h)))
theorem W1 {a : Addr} {sl i ep : Nat} {ob : Obj} {es : Array (Int × Value)} {t : SetTable} (hb : Jh w = false) (x : SetAt s.heap a ob es ep t) (h1 : es.size <= 1) (hl : t.led = true) (Q : Option (Value × Nat) -> Shared -> Prop) (E : Value -> Shared -> Prop)
    (h : Q (match es[SetTable.below t.place sl]?, t.place[SetTable.below t.place sl]? with | some (_, x), some j => some (x, j + 1) | _, _ => none) s) : wpAny (model prog w) A (setNext a sl i ep) Q E s := by
  unfold setNext
  refine wpAny_bind (wpAny_setState_of x.g x.d x.f (wpAny_bind (Yq ?_)))
  rw [hb]
  simp only [Bool.false_eq_true, if_false]
  rw [if_neg ?nd]
  case nd =>
    show ¬ (!t.plain && decide (es.size > 1)) = true
    rw [decide_eq_false (by omega), Bool.and_false]
    exact Bool.false_ne_true
  refine wpAny_bind (show wpAny (model prog w) A (if (!t.led && !es.isEmpty) = true then unsupported "set:maker-not-led" else pure ()) _ _ s from ?_)
  rw [hl, Bool.not_true, Bool.false_and, if_neg Bool.false_ne_true]
  exact wpAny_pure (wpAny_pure h)
theorem Vs {p j : Nat} : SetTable.below #[p] j = if p < j then 1 else 0 := by
  unfold SetTable.below
  show SetTable.below.go #[p] j 1 0 1 = _
  unfold SetTable.below.go
  simp only [Nat.lt_irrefl, Nat.zero_lt_one, if_true]
  show (if (#[p] : Array Nat).getD 0 j < j then SetTable.below.go #[p] j 0 1 1 else SetTable.below.go #[p] j 0 0 0) = _
  rfl
theorem Yr {I : Addr} {first : Value} {i : Nat} {a : Addr} {n ep : Nat} {Q : Value -> Shared -> Prop} (x : SIter s.heap I first i a n ep) (h : Q (.ref I) s) : wpAny (model prog w) A (pyIter (.ref I)) Q E s := by
  refine wpAny_pyIter_slot (x.ty rfl) zdq (wpAny_call_entry zdq (x.ty rfl) zjo ?_ (zhL _))
  show wpAny _ _ (ret (.ref I)) _ _ s
  exact wpAny_pure ⟨_, rfl, "set_iterator", _, x.ty rfl, sit_next.lookup, h⟩
theorem zd4 {I a : Addr} {ob : Obj} {es : Array (Int × Value)} {ep : Nat} {t : SetTable} (hb : Jh w = true) (hne : a ≠ I) (hh : A.handled = none) :
    Walks prog w A I [I, a] [I] es.size (fun i v => ((pickOrder (w.params.setOrder a ep) es).map (·.2))[i]? = some v) (fun i h => SIter h I (.int 0 0) i a es.size ep /\ SetAt h a ob es ep t) where
  sub := fun b hb => by simp at hb; simp [hb]
  frame := fun i h h' st k => ⟨k I (by simp) _ st.1, st.2.keep fun o e => k a (by simp) o e⟩
  item := fun i s Q E hi st hQ => by
    have hsz : (pickOrder (w.params.setOrder a ep) es).size = es.size := by have := (Yp (w.params.setOrder a ep) es).length_eq; simpa using this
    have hg : (pickOrder (w.params.setOrder a ep) es)[i]? = some ((pickOrder (w.params.setOrder a ep) es)[i]'(by omega)) := Array.getElem?_eq_getElem _
    refine Qx (sl := 0) hh st.1 st.2.g st.2.d st.2.f rfl (fun Q' E' h => Wx hb st.2 Q' E' h) (fun x nx e h' hI hs => ?_) fun e => ?_
    · rw [hg] at e
      cases e
      exact hQ _ h' s.toks (by rw [Array.getElem?_map, hg]; rfl) ⟨hI, st.2.keep fun o e => (hs.2 a hne).trans e⟩ fun b o hb e => (hs.2 b (fun z => hb (by simp [z]))).trans e
    · rw [hg] at e; cases e
  done := fun s Q E st hQ => by
    have hsz : (pickOrder (w.params.setOrder a ep) es).size = es.size := by have := (Yp (w.params.setOrder a ep) es).length_eq; simpa using this
    have hg : (pickOrder (w.params.setOrder a ep) es)[es.size]? = none := Array.getElem?_eq_none (by omega)
    refine Qx (sl := 0) hh st.1 st.2.g st.2.d st.2.f rfl (fun Q' E' h => Wx hb st.2 Q' E' h) (fun x nx e => ?_) fun e h' hk => hQ h' s.toks fun b o hb z => hk b o (fun y => hb (by simp [y])) z
    rw [hg] at e; cases e
  self := fun i s Q E st hQ => Yr st.1 hQ
theorem zgf {I a T : Addr} {ob : Obj} {es : Array (Int × Value)} {ep : Nat} {t : SetTable} {pl : List Nat} (hne : a ≠ I) (hT : T ≠ I) (hp : pl.Perm (List.range es.size)) (hh : A.handled = none) :
    Walks prog w A I [I, a, T] [I] es.size (fun i v => ∃ j, pl[i]? = some j /\ (es[j]?).map (·.2) = some v) (fun i h => SIter h I (.ref T) i a es.size ep /\ SetAt h a ob es ep t /\ h.IsTuple T ((pl.map fun (i : Nat) => Value.int i 0).toArray)) where
  sub := fun b hb => by simp at hb; simp [hb]
  frame := fun i h h' st k => ⟨k I (by simp) _ st.1, st.2.1.keep fun o e => k a (by simp) o e, st.2.2.at fun o e => k T (by simp) o e⟩
  item := fun i s Q E hi st hQ => by
    have hl : pl.length = es.size := by have := hp.length_eq; simpa using this
    have hg : pl[i]? = some (pl[i]'(by omega)) := List.getElem?_eq_getElem _
    have hj : pl[i]'(by omega) < es.size := by have := hp.mem_iff.mp (List.getElem_mem (l := pl) (n := i) (by omega)); simpa using this
    have hx : es[pl[i]'(by omega)]? = some (es[pl[i]'(by omega)]) := Array.getElem?_eq_getElem hj
    refine zge st.1 st.2.1.g st.2.1.d st.2.1.f rfl st.2.2 (j := pl[i]'(by omega)) (by simp [hg]) hx fun h' hI hs => ?_
    exact hQ _ h' s.toks ⟨_, hg, by rw [hx]; rfl⟩ ⟨hI, st.2.1.keep fun o e => (hs.2 a hne).trans e, st.2.2.at fun o e => (hs.2 T hT).trans e⟩ fun b o hb e => (hs.2 b (fun z => hb (by simp [z]))).trans e
  done := fun s Q E st hQ => by
    have hl : pl.length = es.size := by have := hp.length_eq; simpa using this
    exact zhN hh st.1 st.2.1.g st.2.1.d st.2.1.f rfl st.2.2 (by simp [hl]) fun h' hk => hQ h' s.toks fun b o hb z => hk b o (fun y => hb (by simp [y])) z
  self := fun i s Q E st hQ => Yr st.1 hQ
theorem zhO {I a : Addr} {ob : Obj} {ep : Nat} {t : SetTable} (hb : Jh w = false) (hl : t.led = true) (hh : A.handled = none) :
    Walks prog w A I [I, a] [I] 0 (fun i v => False) (fun i h => SIter h I (.int 0 0) i a 0 ep /\ SetAt h a ob #[] ep t) where
  sub := fun b hb => by simp at hb; simp [hb]
  frame := fun i h h' st k => ⟨k I (by simp) _ st.1, st.2.keep fun o e => k a (by simp) o e⟩
  item := fun i s Q E hi st hQ => absurd hi (Nat.not_lt_zero _)
  done := fun s Q E st hQ => by
    refine Qx (sl := 0) hh st.1 st.2.g st.2.d st.2.f rfl (fun Q' E' h => W1 hb st.2 (by simp) hl Q' E' h) (fun x nx e => ?_) fun e h' hk => hQ h' s.toks fun b o hb z => hk b o (fun y => hb (by simp [y])) z
    simp at e
  self := fun i s Q E st hQ => Yr st.1 hQ
theorem zjq {I a : Addr} {ob : Obj} {ep p : Nat} {t : SetTable} {x : Int × Value} (hb : Jh w = false) (hl : t.led = true) (hp : t.place = #[p]) (hne : a ≠ I) (hh : A.handled = none) :
    Walks prog w A I [I, a] [I] 1 (fun i v => v = x.2) (fun i h => SIter h I (.int (if i = 0 then 0 else p + 1 : Nat) 0) i a 1 ep /\ SetAt h a ob #[x] ep t) where
  sub := fun b hb => by simp at hb; simp [hb]
  frame := fun i h h' st k => ⟨k I (by simp) _ st.1, st.2.keep fun o e => k a (by simp) o e⟩
  item := fun i s Q E hi st hQ => by
    have : i = 0 := by omega
    subst this
    refine Qx (sl := 0) hh st.1 st.2.g st.2.d st.2.f rfl (fun Q' E' h => W1 hb st.2 (by simp) hl Q' E' h) (fun y nx e h' hI hs => ?_) fun e => ?_
    · rw [hp, Vs, if_neg (by omega)] at e
      simp at e
      obtain ⟨e1, e2⟩ := e
      subst e1 e2
      exact hQ _ h' s.toks rfl ⟨hI, st.2.keep fun o e => (hs.2 a hne).trans e⟩ fun b o hb e => (hs.2 b (fun z => hb (by simp [z]))).trans e
    · rw [hp, Vs, if_neg (by omega)] at e
      simp at e
  done := fun s Q E st hQ => by
    refine Qx (sl := p + 1) hh st.1 st.2.g st.2.d st.2.f rfl (fun Q' E' h => W1 hb st.2 (by simp) hl Q' E' h) (fun x nx e => ?_) fun e h' hk => hQ h' s.toks fun b o hb z => hk b o (fun y => hb (by simp [y])) z
    rw [hp, Vs, if_pos (by omega)] at e
    simp at e
  self := fun i s Q E st hQ => Yr st.1 hQ
end
end L2
namespace L2
open PySem PySem.Spec PyProof.Rows
section
variable {prog : Program} {w : World} {A : Around} {E : Value -> Shared -> Prop} {s : Shared}
theorem zgg {α β : Type} {es : Array α} {f : α -> β} {pl : List Nat} {acc : Array β} (hp : pl.Perm (List.range es.size)) (h : acc.size = es.size) (ha : ∀ (i : Nat) v, acc[i]? = some v -> ∃ j : Nat, pl[i]? = some j /\ (es[j]?).map f = some v) : acc.toList.Perm (es.toList.map f) := by
  have hl : pl.length = es.size := by have := hp.length_eq; simpa using this
  have e : acc.toList.map some = pl.map fun j => (es[j]?).map f := by
    apply List.ext_getElem?
    intro i
    rw [List.getElem?_map, List.getElem?_map]
    by_cases hi : i < es.size
    · have g : acc[i]? = some (acc[i]'(by omega)) := Array.getElem?_eq_getElem _
      obtain ⟨j, p1, p2⟩ := ha i _ g
      rw [p1, Array.getElem?_toList, g]
      simp only [Option.map_some]
      rw [p2]
    · rw [List.getElem?_eq_none (by simp; omega), List.getElem?_eq_none (by omega)]; rfl
  have p1 := hp.map fun j => (es[j]?).map f
  rw [← e] at p1
  have e2 : (List.range es.size).map (fun j => (es[j]?).map f) = (es.toList.map f).map some := by
    apply List.ext_getElem?
    intro i
    rw [List.getElem?_map, List.getElem?_map, List.getElem?_map]
    by_cases hi : i < es.size
    · rw [List.getElem?_range hi]
      simp [hi]
    · rw [List.getElem?_eq_none (by simp; omega), List.getElem?_eq_none (by simp; omega)]; rfl
  rw [e2] at p1
  have p2 := p1.filterMap id
  simpa using p2
theorem zjr {a : Addr} {ob : Obj} {es : Array (Int × Value)} {ep : Nat} {t : SetTable} {Q : Value -> Shared -> Prop} (hx : ob.ExactSet) (x : SetAt s.heap a ob es ep t) (hl : t.led = !Jh w) (hpl : 1 <= es.size -> t.plain = false) (hb : es.size < scanBound)
    (hQ : ∀ h' dr I fp P St, (∀ A' : Around, A'.handled = none -> Walks prog w A' I fp [I] es.size P St) -> St 0 h' -> (∀ acc : Array Value, ItemsOf P acc es.size -> acc.toList.Perm (es.toList.map (·.2))) -> (∀ b o, s.heap.get? b = some o -> h'.get? b = some o) -> s.heap.objs.size <= I -> (∀ b ∈ fp, b = a \/ s.heap.objs.size <= b) -> Q (.ref I) { s with heap := h', drawn := dr }) :
    wpAny (model prog w) A (pyIter (.ref a)) Q E s := by
  have hT : s.TypeIs (.ref a) "set" := ⟨ob, x.g, hx.1⟩
  have alt : a < s.heap.objs.size := Heap.lt_size x.g
  refine wpAny_pyIter_slot hT PySem.F.slot_set_iter (wpAny_call_entry PySem.F.slot_set_iter hT zjp ?_ (zhM _))
  unfold Builtin.«frozenset.__iter__» Builtin.Frozenset.slot0 slotArgs; simp only [List.isEmpty_nil, Bool.not_true, Bool.false_eq_true, ↓reduceIte, bind_assoc, List.length_nil, bne_self_eq_false]
  unfold Builtin.Frozenset.addrOf Builtin.Frozenset.sizeOf
  refine wpAny_bind (wpAny_pure (wpAny_bind (wpAny_pure ?_)))
  refine wpAny_bind (wpAny_bind (wpAny_setEntries_of x.g x.d x.f (wpAny_pure ?_)))
  unfold setDrawn
  refine wpAny_bind (wpAny_bind (wpAny_setState_of x.g x.d x.f (wpAny_bind (Yq (wpAny_pure ?_)))))
  have ends : ∀ (h1 : Heap) (dr : Drawn) (first : Value) (fp : List Addr) (P : Nat -> Value -> Prop) (St : Nat -> Heap -> Prop), SetAt h1 a ob es ep t -> (∀ b o, s.heap.get? b = some o -> h1.get? b = some o) -> s.heap.objs.size <= h1.objs.size ->
      (∀ A' : Around, A'.handled = none -> Walks prog w A' h1.objs.size fp [h1.objs.size] es.size P St) -> (∀ h2, SIter h2 h1.objs.size first 0 a es.size ep -> (∀ b o, h1.get? b = some o -> h2.get? b = some o) -> St 0 h2) -> (∀ acc : Array Value, ItemsOf P acc es.size -> acc.toList.Perm (es.toList.map (·.2))) -> (∀ b ∈ fp, b = a \/ s.heap.objs.size <= b) ->
      wpAny (model prog w) A.in1 (setEpoch a >>= fun e => newFields "set_iterator" [first, rawInt 0, .ref a, rawInt (es.size : Nat), rawInt (e : Nat)] >>= fun v => ret v) (fun fin s' => ∃ v, fin = Fin.done (Flow.ret v) /\ ∃ T' r, s'.TypeIs v T' /\ typeLookup (.type T') (Str.ofString "__next__") = pure (some r) /\ Q v s') E { s with heap := h1, drawn := dr } := by
    intro h1 dr first fp P St x1 k1 z1 W hst hacc hfp
    unfold setEpoch
    refine wpAny_bind (wpAny_bind (wpAny_setState_of x1.g x1.d x1.f (wpAny_pure ?_)))
    refine wpAny_bind (wpAny_newObj_type ?_)
    have hI : SIter (h1.push { cls := .type "set_iterator", dict := none, data := .fields #[first, .int (0 : Nat) 0, .ref a, .int (es.size : Nat) 0, .int (ep : Nat) 0], slots := #[] }) h1.objs.size first 0 a es.size ep := Heap.get?_push_size _ rfl
    refine wpAny_pure ⟨_, rfl, "set_iterator", _, ⟨_, hI, rfl⟩, sit_next.lookup, ?_⟩
    exact hQ _ dr h1.objs.size fp P St W (hst _ hI fun b o e => Heap.get?_push_of_some _ e) hacc (fun b o e => Heap.get?_push_of_some _ (k1 b o e)) z1 hfp
  have same : s = { s with heap := s.heap, drawn := s.drawn } := rfl
  cases hbt : Jh w with
  | true =>
    rw [if_neg (by simp)]
    refine wpAny_bind (wpAny_pure ?_)
    rw [same]
    refine ends s.heap s.drawn _ _ _ _ x (fun _ _ e => e) (Nat.le_refl _) (fun A' hA => zd4 (ob := ob) (t := t) (ep := ep) hbt (Nat.ne_of_lt alt) hA) (fun h2 hI k => ⟨hI, x.keep fun o e => k _ o e⟩) (fun acc ha => ?_) (fun b hb => by simp at hb; rcases hb with h | h <;> simp [h])
    have hsz : (pickOrder (w.params.setOrder a ep) es).size = es.size := by have := (Yp (w.params.setOrder a ep) es).length_eq; simpa using this
    have e : acc = (pickOrder (w.params.setOrder a ep) es).map (·.2) := by
      apply Array.ext_getElem?
      intro i
      by_cases hi : i < es.size
      · have g : acc[i]? = some (acc[i]'(by have := ha.1; omega)) := Array.getElem?_eq_getElem _
        rw [g]
        exact (ha.2 i _ g).symm
      · rw [Array.getElem?_eq_none (by have := ha.1; omega), Array.getElem?_eq_none (by simp; omega)]
    rw [e, Array.toList_map]
    exact (Yp _ es).map _
  | false =>
    rw [hbt] at hl
    by_cases h1 : 1 < es.size
    · rw [if_pos ?yes]
      case yes =>
        show (!false && (!t.plain && decide (es.size > 1))) = true
        rw [hpl (by omega), decide_eq_true h1]; rfl
      refine wpAny_bind (zbA es.size (List.range es.size) _ _ (by simp) fun pl dr hp => ?_)
      have hlen : pl.length = es.size := by have := hp.length_eq; simpa using this
      have fits : (pl.map fun (i : Nat) => rawInt i).length <= sizeLine := by rw [List.length_map, hlen]; exact fits_of_scanBound hb
      refine wpAny_bind (wpAny_newTuple ?_ fits)
      have sz : (s.heap.push { cls := .type "tuple", data := .seq (pl.map fun (i : Nat) => rawInt i).toArray }).objs.size = s.heap.objs.size + 1 := Heap.size_push ..
      refine ends _ dr _ [(s.heap.push { cls := .type "tuple", data := .seq (pl.map fun (i : Nat) => rawInt i).toArray }).objs.size, a, s.heap.objs.size] _ _ (x.keep fun o e => Heap.get?_push_of_some _ e) (fun b o e => Heap.get?_push_of_some _ e) (by rw [sz]; omega)
        (fun A' hA => zgf (T := s.heap.objs.size) (ob := ob) (t := t) (ep := ep) (pl := pl) (by rw [sz]; exact Nat.ne_of_lt (Nat.lt_succ_of_lt alt)) (by rw [sz]; exact Nat.ne_of_lt (Nat.lt_succ_self _)) hp hA) (fun h2 hI k => ⟨hI, x.keep fun o e => k _ o (Heap.get?_push_of_some _ e), ⟨_, k _ _ (Heap.get?_push_size _ rfl), rfl, _, rfl⟩⟩) (fun acc ha => zgg hp ha.1 ha.2) (fun b hb => by
          simp only [List.mem_cons, List.not_mem_nil, or_false] at hb
          rcases hb with h | h | h
          · rw [h, sz]; exact .inr (by omega)
          · exact .inl h
          · rw [h]; exact .inr (Nat.le_refl _))
    · rw [if_neg ?no]
      case no =>
        show ¬ (!false && (!t.plain && decide (es.size > 1))) = true
        rw [decide_eq_false (by omega)]; simp
      refine wpAny_bind (wpAny_pure ?_)
      rw [same]
      have led : t.led = true := by rw [hl]; rfl
      by_cases h0 : es.size = 0
      · have e0 : es = #[] := Array.eq_empty_of_size_eq_zero h0
        subst e0
        refine ends s.heap s.drawn _ _ _ _ x (fun _ _ e => e) (Nat.le_refl _) (fun A' hA => zhO (ob := ob) (t := t) (ep := ep) hbt led hA) (fun h2 hI k => ⟨hI, x.keep fun o e => k _ o e⟩) (fun acc ha => ?_) (fun b hb => by simp at hb; rcases hb with h | h <;> simp [h])
        have : acc = #[] := Array.eq_empty_of_size_eq_zero ha.1
        rw [this]
        exact List.Perm.refl _
      · have e1 : es.size = 1 := by omega
        have ee : es = #[es[0]'(by omega)] := by
          apply Array.ext
          · simpa using e1
          · intro i h1 h2
            have : i = 0 := by omega
            subst this
            rfl
        generalize es[0]'(by omega) = y at ee
        subst ee
        have hpz : t.place.size = 1 := by have := x.f; unfold SetTable.fits at this; simp at this; exact this.1
        have ep1 : t.place = #[t.place[0]'(by omega)] := by
          apply Array.ext
          · simpa using hpz
          · intro i h1 h2
            have : i = 0 := by omega
            subst this
            rfl
        refine ends s.heap s.drawn _ _ _ _ x (fun _ _ e => e) (Nat.le_refl _) (fun A' hA => zjq (ob := ob) (t := t) (ep := ep) hbt led ep1 (Nat.ne_of_lt alt) hA) (fun h2 hI k => ⟨hI, x.keep fun o e => k _ o e⟩) (fun acc ha => ?_) (fun b hb => by simp at hb; rcases hb with h | h <;> simp [h])
        have hs1 : acc.size = 1 := ha.1
        have ga : acc[0]? = some (acc[0]'(by omega)) := Array.getElem?_eq_getElem _
        have v0 := ha.2 0 _ ga
        have : acc = #[y.2] := by
          apply Array.ext
          · simpa using hs1
          · intro i h1 h2
            have : i = 0 := by omega
            subst this
            exact v0
        rw [this]
        exact List.Perm.refl _
end
end L2
namespace L2
open PySem PySem.Spec PyProof.Rows
theorem zdr : typeLookup (.type "set") "__len__" = pure (some (.builtin "set.__len__")) := by rw [typeLookup_type, builtinLookup_eq_fast]; kernel_rfl
section
variable {prog : Program} {w : World} {A : Around} {E : Value -> Shared -> Prop} {s : Shared}
theorem zd5 {a : Addr} {ob : Obj} {es : Array (Int × Value)} {ep : Nat} {t : SetTable} {Q : List Value -> Shared -> Prop} (hh : A.handled = none) (hx : ob.ExactSet) (x : SetAt s.heap a ob es ep t) (hl : t.led = !Jh w) (hpl : 1 <= es.size -> t.plain = false) (hb : es.size < scanBound)
    (hQ : ∀ s' (acc : Array Value), (∀ b o, s.heap.get? b = some o -> s'.heap.get? b = some o) -> s'.gens = s.gens -> s'.os = s.os -> s.heap.objs.size < s'.heap.objs.size -> acc.toList.Perm (es.toList.map (·.2)) -> Q acc.toList s') : wpAny (model prog w) A (collect (.ref a)) Q E s := by
  have alt : a < s.heap.objs.size := Heap.lt_size x.g
  unfold collect; refine wpAny_bind (wpAny_runValue (codeAny_builtin PySem.F.entry_proto_collect ?_))
  rw [Around.under_plainId PySem.F.plain_proto_collect _]; show wpAny _ A.in1 (newList [] >>= fun l => again (.builtin "list.__iadd__" ⟨[l, .ref a], []⟩)) _ _ s
  refine wpAny_bind (wpAny_newObj_type ?_); refine wpAny_pure ⟨plainId_quiet PySem.F.plain_list_iadd _, codeAny_builtin PySem.F.entry_list_iadd ?_⟩
  rw [Around.under_plainId PySem.F.plain_list_iadd _]; show wpAny _ A.in1 (Builtin.List.listExtendWith (.ref s.heap.objs.size) (.ref a) (.ref s.heap.objs.size)) _ _ _
  unfold Builtin.List.listExtendWith
  generalize hH : s.heap.push { cls := .type "list", data := .seq ([] : List Value).toArray } = H
  have x1 : SetAt H a ob es ep t := x.keep fun o e => hH ▸ Heap.get?_push_of_some _ e
  have hT : Shared.TypeIs { s with heap := H } (.ref a) "set" := ⟨ob, x1.g, hx.1⟩
  refine wpAny_bind (wpAny_typeOf (T := "set") hT ?_)
  have h1 : Builtin.List.listSameRef (.ref s.heap.objs.size) (.ref a) = false := by
    show (s.heap.objs.size == a) = false
    exact beq_eq_false_iff_ne.mpr (Nat.ne_of_gt alt)
  have h2 : (Value.type "set" == Value.type "list") = false /\ (Value.type "set" == Value.type "tuple") = false := ⟨by decide, by decide⟩
  simp only [h1, h2.1, h2.2, Bool.or_false, Bool.false_eq_true, if_false]
  refine wpAny_bind (zjr (s := { s with heap := H }) hx x1 hl hpl hb fun h' dr I fp P St W hst hacc hk hI hfp => ?_)
  refine wpAny_bind (wpAny_holding ?_)
  unfold Builtin.List.listLengthHint
  have x2 : SetAt h' a ob es ep t := x1.keep fun o e => hk _ o e
  have hT2 : Shared.TypeIs { s with heap := h', drawn := dr } (.ref a) "set" := ⟨ob, x2.g, hx.1⟩
  refine wpAny_bind (wpAny_specialOf (T := "set") hT2 zdr ?_)
  wp_delta
  refine wpAny_bind (wpAny_isInstance (T := "set") (b := true) hT2 (by rw [isSubtype_type]; kernel_rfl) ?_)
  show wpAny _ A.in1 (typeOf (.ref a) >>= _) _ _ _
  refine wpAny_bind (wpAny_typeOf (T := "set") hT2 ?_)
  refine wpAny_pure ?_
  rw [if_pos (by decide)]
  refine wpAny_bind (wpAny_rule ?_)
  unfold Builtin.List.listTouch
  have hS0 : h'.get? s.heap.objs.size = some (seqObj "list" #[] 0) := hk _ _ (hH ▸ Heap.get?_push_size _ rfl)
  have hHs : H.objs.size = s.heap.objs.size + 1 := by rw [← hH, Heap.size_push]
  have notS : ∀ b ∈ fp, b ≠ s.heap.objs.size := fun b hm e => by
    rcases hfp b hm with z | z
    · exact absurd (z.symm.trans e) (Nat.ne_of_lt alt)
    · have z : H.objs.size <= b := z
      rw [hHs, e] at z
      exact Nat.not_succ_le_self _ z
  obtain ⟨c1, hS1⟩ : ∃ c1, (h'.update s.heap.objs.size (Obj.mapSeq fun x => x.push Value.none)).get? s.heap.objs.size = some (seqObj "list" #[Value.none] c1) := ⟨_, get?_update_seq hS0 _⟩
  obtain ⟨c2, hS2⟩ : ∃ c2, ((h'.update s.heap.objs.size (Obj.mapSeq fun x => x.push Value.none)).update s.heap.objs.size (Obj.mapSeq fun x => x.pop)).get? s.heap.objs.size = some (seqObj "list" #[] c2) := ⟨_, get?_update_seq hS1 _⟩
  have oth : ∀ b o, b ≠ s.heap.objs.size -> h'.get? b = some o -> ((h'.update s.heap.objs.size (Obj.mapSeq fun x => x.push Value.none)).update s.heap.objs.size (Obj.mapSeq fun x => x.pop)).get? b = some o := fun b o hb e => by
    rw [Heap.get?_update_other _ _ (Ne.symm hb), Heap.get?_update_other _ _ (Ne.symm hb)]; exact e
  refine wpAny_bind (wpAny_bind (listUpdate_at hS0 rfl (listUpdate_at (s := { s with heap := h'.update s.heap.objs.size (Obj.mapSeq fun x => x.push Value.none), drawn := dr }) hS1 rfl ?_)))
  generalize (h'.update s.heap.objs.size (Obj.mapSeq fun x => x.push Value.none)).update s.heap.objs.size (Obj.mapSeq fun x => x.pop) = h2 at hS2 oth
  have hst2 : St 0 h2 := (W A hh).frame 0 h' h2 hst fun b hm o e => oth b o (notS b hm) e
  have hn : es.size <= sizeLine := fits_of_scanBound hb
  refine wpAny_pure ⟨plainId_quiet PySem.F.plain_extend_loop _, codeAny_extend_loopS (W A.in1 (by simpa using hh)).toS hn _ (fun z => notS _ z rfl) _ es.size 0 { s with heap := h2, drawn := dr } #[] c2 rfl (Nat.zero_le _) hst2 hS2 (ItemsOf.nil _) fun s' acc c hm hS' ha => ?_⟩
  show wpAny _ A (load s.heap.objs.size >>= _) _ _ s'
  refine wpAny_bind (wpAny_load hS' (wpAny_pure (hQ s' acc (fun b o e => ?_) hm.gens hm.os (Heap.lt_size hS') (hacc acc ha))))
  have blt := Heap.lt_size e
  refine hm.heap b o (fun z => ?_) (oth b o (Nat.ne_of_lt blt) (hk b o (hH ▸ Heap.get?_push_of_some _ e)))
  rcases List.mem_cons.mp z with z | z
  · exact absurd z (Nat.ne_of_lt blt)
  · have z : b = I := by simpa using z
    have hI : H.objs.size <= I := hI
    rw [hHs, ← z] at hI
    exact absurd blt (Nat.not_lt.mpr (Nat.le_of_succ_le hI))
end
end L2
namespace L2
open PySem PySem.Spec PyProof.Rows
def Qz (a b : Str) : Bool := !decide (b.cps.toList < a.cps.toList)
theorem leS_iff {a b : Str} : Qz a b = true ↔ a.cps.toList <= b.cps.toList := by
  unfold Qz
  simp [List.not_lt]
theorem zbC {a b c : Str} (h1 : Qz a b = true) (h2 : Qz b c = true) : Qz a c = true := leS_iff.mpr (List.le_trans (leS_iff.mp h1) (leS_iff.mp h2))
theorem zhP (a b : Str) : Qz a b = true \/ Qz b a = true := (List.le_total a.cps.toList b.cps.toList).imp leS_iff.mpr leS_iff.mpr
theorem zjs {a b : Str} (h1 : Qz a b = true) (h2 : Qz b a = true) : a = b := by
  have := List.le_antisymm (leS_iff.mp h1) (leS_iff.mp h2)
  cases a; cases b
  simp at this
  rw [this]
def W2 (x : Str) : List Str -> List Str
  | [] => [x]
  | y :: r => if Qz x y = true then x :: y :: r else y :: W2 x r
def Ji : List Str -> List Str
  | [] => []
  | x :: r => W2 x (Ji r)
theorem Vt (x : Str) : ∀ l : List Str, (W2 x l).Perm (x :: l)
  | [] => List.Perm.refl _
  | y :: r => by
    unfold W2
    split
    · exact List.Perm.refl _
    · exact ((Vt x r).cons y).trans (List.Perm.swap x y r)
theorem ZE : ∀ l : List Str, (Ji l).Perm l
  | [] => List.Perm.refl _
  | x :: r => (Vt x _).trans ((ZE r).cons x)
theorem Wy (x : Str) : ∀ {l : List Str}, l.Pairwise (fun a b => Qz a b = true) -> (W2 x l).Pairwise (fun a b => Qz a b = true)
  | [], _ => by simp [W2]
  | y :: r, h => by
    obtain ⟨h1, h2⟩ := List.pairwise_cons.mp h
    unfold W2
    split
    · rename_i e
      refine List.pairwise_cons.mpr ⟨fun z hz => ?_, h⟩
      rcases List.mem_cons.mp hz with rfl | hz
      · exact e
      · exact zbC e (h1 z hz)
    · rename_i e
      refine List.pairwise_cons.mpr ⟨fun z hz => ?_, Wy x h2⟩
      rcases List.mem_cons.mp ((Vt x r).mem_iff.mp hz) with rfl | hz
      · exact (zhP _ _).resolve_left e
      · exact h1 z hz
theorem Vu : ∀ l : List Str, (Ji l).Pairwise (fun a b => Qz a b = true)
  | [] => .nil
  | x :: r => Wy x (Vu r)
theorem zds {l m : List Str} (hp : m.Perm l) (hs : m.Pairwise (fun a b => Qz a b = true)) : m = Ji l :=
  List.Perm.eq_of_pairwise (le := fun a b => Qz a b = true) (fun a b _ _ => zjs) hs (Vu l) (hp.trans (ZE l).symm)
def Wz : List yF -> List Str -> List Str
  | _, [] => []
  | pre, x :: r => if Qp pre (.inr x) = true then Wz (pre ++ [.inr x]) r else x :: Wz (pre ++ [.inr x]) r
theorem zfc : ∀ (r : List Str) (pre : List yF), (Wz pre r).length = jt pre (kx r)
  | [], _ => rfl
  | x :: r, pre => by
    have ih := zfc r (pre ++ [.inr x])
    unfold Wz
    simp only [kx, List.map_cons, jt]
    split
    · rw [ih]; simp [kx]
    · rw [List.length_cons, ih]; simp [kx]; omega
theorem za1 : ∀ (r : List Str) (pre : List yF) (y : Str), y ∈ Wz pre r ↔ y ∈ r /\ Sum.inr y ∉ pre
  | [], _, _ => by simp [Wz]
  | x :: r, pre, y => by
    have ih := za1 r (pre ++ [.inr x]) y
    unfold Wz
    split
    · rename_i e
      rw [ih]
      have hx : Sum.inr x ∈ pre := isIn_iff.mp e
      simp only [List.mem_append, List.mem_cons, List.not_mem_nil, or_false, Sum.inr.injEq, not_or]
      constructor
      · rintro ⟨a, b, c⟩; exact ⟨.inr a, b⟩
      · rintro ⟨a, b⟩
        rcases a with rfl | a
        · exact absurd hx b
        · exact ⟨a, b, fun z => b (by rw [z]; exact hx)⟩
    · rename_i e
      have hx : Sum.inr x ∉ pre := fun z => e (isIn_iff.mpr z)
      rw [List.mem_cons, ih]
      simp only [List.mem_append, List.mem_cons, List.not_mem_nil, or_false, Sum.inr.injEq, not_or]
      constructor
      · rintro (rfl | ⟨a, b, c⟩)
        · exact ⟨.inl rfl, hx⟩
        · exact ⟨.inr a, b⟩
      · rintro ⟨a, b⟩
        by_cases z : y = x
        · exact .inl z
        · exact .inr ⟨a.resolve_left z, b, z⟩
theorem Vv : ∀ (r : List Str) (pre : List yF), (Wz pre r).Nodup
  | [], _ => .nil
  | x :: r, pre => by
    unfold Wz
    split
    · exact Vv r _
    · refine List.nodup_cons.mpr ⟨fun z => ?_, Vv r _⟩
      have := ((za1 r _ x).mp z).2
      simp at this
def dd (xs : List Str) : List Str := Wz [] xs
theorem dd_mem {xs : List Str} {y : Str} : y ∈ dd xs ↔ y ∈ xs := by unfold dd; rw [za1]; simp
theorem W3 {xs : List Str} : (dd xs).Nodup := Vv _ _
theorem zdt {xs : List Str} : (dd xs).length = jt [] (kx xs) := zfc _ _
theorem WA : ∀ {l m : List Str}, l.Nodup -> (∀ x ∈ l, x ∈ m) -> m.length = l.length -> m.Perm l
  | [], m, _, _, h => by rw [List.eq_nil_of_length_eq_zero h]
  | x :: l, m, hn, hs, h => by
    have hx := hs x List.mem_cons_self
    obtain ⟨n1, n2⟩ := List.nodup_cons.mp hn
    refine (List.perm_cons_erase hx).trans (List.Perm.cons x (WA n2 (fun y hy => ?_) ?_))
    · exact (List.mem_erase_of_ne (fun z => n1 (by rw [← z]; exact hy))).mpr (hs y (List.mem_cons_of_mem _ hy))
    · rw [List.length_erase_of_mem hx, h]; rfl
theorem zdu {vs us : List Value} {ss : List Str} (h : StrsAre vs ss) (p : us.Perm vs) : ∃ tt, StrsAre us tt /\ tt.Perm ss := by
  induction p generalizing ss with
  | nil => cases h; exact ⟨[], .nil, List.Perm.refl _⟩
  | cons x p ih =>
    cases h with
    | cons y t h => obtain ⟨tt, a, b⟩ := ih h; exact ⟨y :: tt, .cons y t a, b.cons y⟩
  | swap x y l =>
    cases h with
    | cons y1 t1 h =>
      cases h with
      | cons y2 t2 h => exact ⟨_, .cons y2 t2 (.cons y1 t1 h), List.Perm.swap _ _ _⟩
  | trans p q ih1 ih2 =>
    obtain ⟨tt, a, b⟩ := ih2 h
    obtain ⟨uu, c, d⟩ := ih1 a
    exact ⟨uu, c, d.trans b⟩
theorem zbD : ∀ (l : List Str) (p : Str), risingS p l = true -> (∀ x ∈ l, Qz p x = true) /\ l.Pairwise (fun a b => Qz a b = true)
  | [], _, _ => ⟨(fun x h => by cases h), .nil⟩
  | x :: r, p, h => by
    have h : (!ltCps x.cps.toList p.cps.toList && risingS x r) = true := h
    rw [Bool.and_eq_true, ltCps_eq] at h
    obtain ⟨h1, h2⟩ := zbD r x h.2
    refine ⟨fun y hy => ?_, List.pairwise_cons.mpr ⟨h1, h2⟩⟩
    rcases List.mem_cons.mp hy with rfl | hy
    · exact h.1
    · exact zbC h.1 (h1 y hy)
theorem U3 : ∀ (l : List Str), sortedS l = true -> l.Pairwise (fun a b => Qz a b = true)
  | [], _ => .nil
  | x :: r, h => let ⟨a, b⟩ := zbD r x h; List.pairwise_cons.mpr ⟨a, b⟩
section
variable {prog : Program} {w : World} {A : Around} {E : Value -> Shared -> Prop} {s : Shared}
theorem zhQ {es : List (Int × Value)} {xs : List Str} (he : ElemsOf (yd prog w) es) (hm : ∀ k, Qp (kx xs) k = true ↔ ∃ e ∈ es, (yd prog w).is k e.2 = true) : ∃ ss, StrsAre (es.map (·.2)) ss /\ (∀ x ∈ xs, x ∈ ss) /\ ss.length = es.length := by
  have all : ∀ e ∈ es, ∃ x t, e.2 = .str x t /\ x ∈ xs := fun e hx => by
    obtain ⟨⟨k, hk, _⟩, _⟩ := he e hx
    have := (hm k).mpr ⟨e, hx, hk⟩
    rw [isIn_iff] at this
    obtain ⟨x, hxs, rfl⟩ := List.mem_map.mp this
    have hk : VW (.inr x) e.2 = true := hk
    rcases yT hk with ⟨i, t, h1, h2⟩ | ⟨y, t, h1, h2⟩
    · cases h1
    · cases h1; exact ⟨x, t, h2, hxs⟩
  have mk : ∀ (l : List (Int × Value)), (∀ e ∈ l, ∃ x t, e.2 = .str x t /\ x ∈ xs) -> ∃ ss, StrsAre (l.map (·.2)) ss /\ ss.length = l.length /\ ∀ x t, (∃ e ∈ l, e.2 = .str x t) -> x ∈ ss := by
    intro l
    induction l with
    | nil => intro _; exact ⟨[], .nil, rfl, fun x t h => by obtain ⟨e, h, _⟩ := h; cases h⟩
    | cons e l ih =>
      intro h
      obtain ⟨x, t, e1, _⟩ := h e List.mem_cons_self
      obtain ⟨ss, a, b, c⟩ := ih fun e' h' => h e' (List.mem_cons_of_mem _ h')
      refine ⟨x :: ss, ?_, by simp [b], fun y u hy => ?_⟩
      · rw [List.map_cons, e1]; exact .cons x t a
      · obtain ⟨e', h1, h2⟩ := hy
        rcases List.mem_cons.mp h1 with rfl | h1
        · rw [e1] at h2; cases h2; exact List.mem_cons_self
        · exact List.mem_cons_of_mem _ (c y u ⟨e', h1, h2⟩)
  obtain ⟨ss, a, b, c⟩ := mk es all
  refine ⟨ss, a, fun x hx => ?_, b⟩
  obtain ⟨e, h1, h2⟩ := (hm (.inr x)).mp (isIn_iff.mpr (List.mem_map.mpr ⟨x, hx, rfl⟩))
  have h2 : VW (.inr x) e.2 = true := h2
  rcases yT h2 with ⟨i, t, z, _⟩ | ⟨y, t, z, h3⟩
  · cases z
  · cases z; exact c x t ⟨e, h1, h3⟩
theorem zgh {a : Addr} {xs : List Str} {Q : Value -> Shared -> Prop} (hh : A.handled = none) (hS : TxSet prog w s.heap a (Qp (kx xs)) (jt [] (kx xs)) (!Jh w)) (h64 : xs.length < 64)
    (h : ∀ s' L out e, (∀ b o, s.heap.get? b = some o -> s'.heap.get? b = some o) -> s'.gens = s.gens -> s'.os = s.os -> s.heap.objs.size <= L -> s'.heap.get? L = some (seqObj "list" out e) -> StrsAre out.toList (Ji (dd xs)) -> Q (.ref L) s') :
    wpAny (model prog w) A (call (.builtin "sorted") [.ref a]) Q E s := by
  obtain ⟨ob, es, ep, t, ho, hx, hd, hel, hmem, hb, hf, hn, hled, hpl⟩ := hS
  refine Calls.call_function_entry kind_sorted plain_sorted entry_sorted (args_sorted1 _) ?_
  unfold Builtin.«sorted»; refine wpAny_bind (m := checkCount "sorted" 1 1 _) (wpAny_pure ?_)
  refine wpAny_bind (zd5 (by simpa using hh) hx ⟨ho, hd, hf⟩ hled (fun z => hpl (hn ▸ z)) hb fun s1 acc k1 g1 o1 sz pa => ?_)
  obtain ⟨ss, sa, sx, sl⟩ := zhQ hel hmem
  obtain ⟨tt, ta, tp⟩ := zdu sa pa
  have hle : jt [] (kx xs) <= xs.length := by have := U9 (kx xs) []; simpa [kx] using this
  have lent : acc.toList.length < 64 := by
    have := pa.length_eq
    simp at this
    simp; omega
  refine wpAny_bind (wpAny_newList ?_ (by rw [sizeLine_eq]; omega))
  have hoL : (s1.heap.push (seqObj "list" acc.toList.toArray 0)).get? s1.heap.objs.size = some (seqObj "list" acc.toList.toArray 0) := Heap.get?_push_size _ rfl
  refine wpAny_bind (wpAny_holding (wpAny_call_entry slot_list_sort ⟨_, hoL, rfl⟩ entry_list_sort (list_sort_treeK (s := { s1 with heap := s1.heap.push (seqObj "list" acc.toList.toArray 0) }) strKind_oneLt hoL ta.keysOf (fun v1 v2 r e => keyKind_strs (by rw [← e]; exact ta)) lent fun st' a1 a2 => ⟨_, rfl, ?_⟩) (args_list_sort _)))
  obtain ⟨uu, u1, u2, u3⟩ := sorted_out_str ta a1 a2
  obtain ⟨e, he⟩ := sortedHeap_at (vs := acc.toList) (out := (arrOf st').map (·.2)) hoL
  have pw : uu.Pairwise (fun a b => Qz a b = true) := by
    refine U3 uu u3
  have pe : uu.Perm (dd xs) := u2.trans (tp.trans (WA W3 (fun x z => sx x (dd_mem.mp z)) (by rw [sl, zdt, ← hn]; simp)))
  rw [zds pe pw] at u1
  refine wpAny_pure ⟨_, rfl, h _ s1.heap.objs.size _ e (fun b o z => ?_) g1 o1 (Nat.le_of_lt sz) he u1⟩
  have z1 := k1 b o z
  have lt := Heap.lt_size z1
  rw [sortedHeap_old (Nat.ne_of_lt lt) (by rw [size_push']; exact Nat.lt_succ_of_lt lt)]
  exact Heap.get?_push_of_some _ z1
end
end L2
namespace L2
open PySem PySem.Spec PyProof.Rows
def za2 (P : Program) (w : World) (a : Addr) (xs : List Str) : HO := .ext fun h => TxSet P w h a (Qp (kx xs)) (jt [] (kx xs)) (!Jh w)
section
variable {X : Cx}
theorem Inv.like {pins : List (Addr × Obj)} {σ : St} {H : Hp} {s s' : Shared} (I : Inv X pins σ H s) (h : s'.heap = s.heap) (o : s'.os = s.os) (g : s'.gens = s.gens) : Inv X pins σ H s' := by
  obtain ⟨hp, gn, dr, tk, os⟩ := s
  obtain ⟨hp', gn', dr', tk', os'⟩ := s'
  cases h; cases o; cases g
  exact ⟨I.ok, I.os, I.bare, I.base, I.loc, I.cell, I.free, I.freeC, I.pin, I.hok, I.len⟩
theorem zbE (hc : X.calm = true) : jL X (.type "set") (fun vs H Q => ∃ (a : Addr) (xs : List Str), vs = [.ref a] /\ jf X.K H a (xs.map V.str) /\ xs.length < 1000 /\ ∀ p, H p = none -> Q (.ref p) (zX H p (za2 X.prog X.w p xs))) := by
  intro pins s σ H vs us Q I rv h
  obtain ⟨a, xs, rfl, hq, hz, q⟩ := h
  obtain ⟨u, rfl, ru⟩ := rv.one
  cases ru
  obtain ⟨its, r, pl, _⟩ := I.list hq
  have hl := r.length
  rw [List.length_map] at hl
  refine zdp (I.ok.hd hc) pl.isList (zhJ r) (by unfold scanBound; omega) fun h' tk hS kk => ?_
  obtain ⟨o, es, ep, t, ho, rest⟩ := id hS
  refine ⟨.ref s.heap.objs.size, zX H s.heap.objs.size (za2 X.prog X.w s.heap.objs.size xs), I.laid (fun b ob e => kk b ob (Heap.lt_size e) e) (Nat.le_refl _) ?_, rfl, q _ (I.hok.fresh (Nat.le_refl _))⟩
  exact ⟨hS, ⟨o, ho⟩, fun h1 h2 p k => p.at k⟩
theorem zb5 : jL X (.builtin "len") (fun vs H Q => ∃ (a : Addr) (xs : List Str), vs = [.ref a] /\ H a = some (za2 X.prog X.w a xs) /\ Q (.int (jt [] (kx xs))) H) := by
  intro pins s σ H vs us Q I rv h
  obtain ⟨a, xs, rfl, hq, q⟩ := h
  obtain ⟨u, rfl, ru⟩ := rv.one
  cases ru
  obtain ⟨hS, _, _⟩ := (show ObjOk X.prog X.w H s.heap a (za2 X.prog X.w a xs) from I.hok a _ hq)
  obtain ⟨o, es, ep, t, ho, hex, hd, hel, hmem, hb, hf, hn⟩ := hS.set
  have hb' : (es.size : Int) < 2 ^ 63 := by unfold scanBound at hb; omega
  have q' : Q (.int es.size) H := by rw [hn]; exact q
  exact PySem.call_len_set ho hex hd hf hb' ⟨.int es.size, H, I.tok _, ⟨_, rfl⟩, q'⟩
theorem zbF : ∀ {vs : List Value} {ss : List Str}, StrsAre vs ss -> Vals (ss.map V.str) vs
  | _, _, .nil => .nil
  | _, _, .cons y t r => .cons ⟨t, rfl⟩ (zbF r)
theorem za3 (hc : X.calm = true) : jL X (.builtin "sorted") (fun vs H Q => ∃ (a : Addr) (xs : List Str), vs = [.ref a] /\ H a = some (za2 X.prog X.w a xs) /\ xs.length < 64 /\ ∀ l, H l = none -> Q (.ref l) (zX H l (.lst ((Ji (dd xs)).map V.str)))) := by
  intro pins s σ H vs us Q I rv h
  obtain ⟨a, xs, rfl, hq, hz, q⟩ := h
  obtain ⟨u, rfl, ru⟩ := rv.one
  cases ru
  obtain ⟨hS, _, _⟩ := (show ObjOk X.prog X.w H s.heap a (za2 X.prog X.w a xs) from I.hok a _ hq)
  refine zgh (I.ok.hd hc) hS hz fun s' L out e k g o hL hg hs => ?_
  have len : (Ji (dd xs)).length <= xs.length := by rw [(ZE _).length_eq, zdt]; have := U9 (kx xs) []; simpa [kx] using this
  have I1 := I.laid (a := L) (o := .lst ((Ji (dd xs)).map V.str)) (t' := s.toks) k hL ⟨by rw [List.length_map, sizeLine_eq]; omega, out.toList, e, zbF hs, hg⟩
  exact ⟨.ref L, _, I1.like rfl o g, rfl, q L (I.hok.fresh hL)⟩
end
end L2
namespace L2
open PySem PySem.Spec PyProof.Rows
theorem Zg {ns : List Int} {its : List Value} {i : Nat} {v : Value} (r : Vals (ns.map V.int) its) (h : its.toArray[i]? = some v) : ∃ t, v = .int (ns.getD i 0) t := by
  have hv : its[i]? = some v := by simpa using h
  have hi : i < its.length := (List.getElem?_eq_some_iff.mp hv).1
  have hl := r.length
  rw [List.length_map] at hl
  obtain ⟨u, hu, ru⟩ := r.get (i := i) (x := .int (ns.getD i 0)) (by
    rw [List.getElem?_map, List.getElem?_eq_getElem (by omega), List.getD_eq_getElem?_getD, List.getElem?_eq_getElem (by omega)]; rfl)
  rw [hv] at hu; cases hu
  exact ru
theorem WB (ns : List Int) : ∀ n, n <= ns.length -> preSum (fun i => ns.getD i 0) n = (ns.take n).sum
  | 0, _ => by simp [preSum]
  | n + 1, h => by
    rw [preSum, WB ns n (by omega), List.take_succ_eq_append_getElem (by omega), List.sum_append, List.getD_eq_getElem?_getD, List.getElem?_eq_getElem (by omega)]
    simp
section
variable {X : Cx}
theorem zjt (hc : X.calm = true) : jL X (.builtin "sum") (fun vs H Q => ∃ (a : Addr) (ns : List Int), vs = [.ref a] /\ jf X.K H a (ns.map V.int) /\ Q (.int ns.sum) H) := by
  intro pins s σ H vs us Q I rv h
  obtain ⟨a, ns, rfl, hq, q⟩ := h
  obtain ⟨u, rfl, ru⟩ := rv.one
  cases ru
  obtain ⟨its, r, pl, hz⟩ := I.list hq
  have hl := r.length
  rw [List.length_map] at hl
  have hlt : a < s.heap.objs.size := by obtain ⟨o, n, e, _⟩ := pl; exact Heap.lt_size e
  refine call_sum_walkAnyS (wpAny_pyIter_list pl.isList ⟨_, _, _, _, _, _, _, fun i => ns.getD i 0, rfl, (Walks.list (by simpa using I.ok.hd hc) s.heap.objs.size a (Nat.ne_of_lt hlt) its.toArray).toS, ⟨⟨_, Heap.get?_push_size _ rfl, rfl, rfl⟩, pl.isList.push _⟩, ?_, fun i v hv => Zg r hv, fun s' t' hm => ?_⟩)
  · intro b hb
    have sz : (s.heap.push { cls := .type "list_iterator", data := .fields #[Value.ref a, Value.int 0 0] }).objs.size = s.heap.objs.size + 1 := Heap.size_push ..
    show b < (s.heap.push _).objs.size
    rw [Heap.size_push]
    simp at hb
    rcases hb with rfl | rfl
    · exact Nat.lt_succ_self _
    · exact Nat.lt_succ_of_lt hlt
  · have e : preSum (fun i => ns.getD i 0) its.toArray.size = ns.sum := by
      rw [List.size_toArray, ← hl, WB ns _ (Nat.le_refl _), List.take_length]
    rw [e]
    have I1 : Inv X pins σ H { s with heap := s'.heap, toks := s'.toks } := I.kept fun b o e => hm.heap b o (by simp only [List.mem_singleton]; exact Nat.ne_of_lt (Heap.lt_size e)) (Heap.get?_push_of_some _ e)
    exact ⟨.int ns.sum, H, I1.like rfl hm.os hm.gens, ⟨_, rfl⟩, q⟩
end
section
variable {prog : Program} {w : World} {A : Around} {R : Result -> Shared -> Prop} {I : Addr} {fp wr : List Addr} {G : Array GenState -> Array GenState -> Prop} {n : Nat} {P : Nat -> Value -> Prop} {St : Nat -> Shared -> Prop}
theorem zju (W : WalksS prog w A.in1 I fp wr G n P St) (bt : Nat -> Nat -> Bool) (cm : CmpOf prog w A.in1 .Gt P bt) (S : Addr) (sf : S ∉ fp) (kw : List (Str × Value)) :
    ∀ (k j : Nat) (s : Shared) (b : Value) (c : Nat), n - (j + 1) = k -> j + 1 <= n -> St (j + 1) s -> P (argBest bt j) b -> s.heap.get? S = some { cls := .type "list", dict := none, data := .seq #[b, b] c, slots := #[] } ->
    (∀ v s', P (argBest bt (n - 1)) v -> Moved (S :: wr) G s s' -> R (.ok (.ret v)) s') -> codeAny (model prog w) A (.builtin "max.loop" ⟨[.ref I, .none, .ref S], kw⟩) R s := by
  have sw : S ∉ wr := fun z => sf (W.sub _ z)
  have up : ∀ b ∈ wr, b ∈ S :: wr := fun b hb => List.mem_cons_of_mem _ hb
  have nm : (toString "max" ++ toString ".loop" : String) = "max.loop" := by decide
  have ns : ∀ {b : Addr}, b ∉ S :: wr -> S ≠ b := fun hb z => hb (by rw [z]; exact List.mem_cons_self)
  intro k
  induction k with
  | zero =>
    intro j s b c hk hj st pb hS hR
    have hn : j + 1 = n := by omega
    refine codeAny_builtin PySem.F.entry_max_loop ?_; rw [Around.under_plainId PySem.F.plain_max_loop _]; show wpAny _ A.in1 (seqItems? (.ref S) >>= _) _ _ s
    refine wpAny_bind (wpAny_seqItems hS rfl ?_); show wpAny _ A.in1 (tryCatch (pyNext (.ref I)) _ >>= _) _ _ s
    refine wpAny_bind (wpAny_tryCatch (W.done s _ _ (hn ▸ st) fun s1 m1 => ?_))
    have hS1 := m1.heap S _ sw hS
    show wpAny _ A.in1 (updateSeq S (fun _ => #[]) >>= _) _ _ _; refine wpAny_bind ?_
    refine wpAny_updateSeq hS1 rfl (wpAny_bind (wpAny_letGo (wpAny_pure (hR b _ (by rw [← hn]; exact pb) ((m1.mono up).then_heap (tk := s1.toks) (Nat.le_refl _) fun d o hd e => (Heap.get?_update_other _ _ (ns hd)).trans e)))))
  | succ k ih =>
    intro j s b c hk hj st pb hS hR
    have lt : j + 1 < n := by omega
    refine codeAny_builtin PySem.F.entry_max_loop ?_; rw [Around.under_plainId PySem.F.plain_max_loop _]; show wpAny _ A.in1 (seqItems? (.ref S) >>= _) _ _ s
    refine wpAny_bind (wpAny_seqItems hS rfl ?_); show wpAny _ A.in1 (tryCatch (pyNext (.ref I)) _ >>= _) _ _ s
    refine wpAny_bind (wpAny_tryCatch (W.item (j + 1) s _ _ lt st fun v s1 pv st1 m1 => ?_))
    have hS1 := m1.heap S _ sw hS
    show wpAny _ A.in1 (tryCatch (holding [v, v] (richCompare .Gt v b >>= _)) _ >>= _) _ _ _
    refine wpAny_bind (wpAny_tryCatch (wpAny_holding (wpAny_bind (cm (j + 1) (argBest bt j) v b _ _ _ pv pb (wpAny_bind (wpAny_holding (wpAny_truthy_bool (wpAny_bind (wpAny_letGo (wpAny_pure ?_))))))))))
    cases hb : bt (j + 1) (argBest bt j) with
    | true =>
      rw [if_pos rfl]
      refine wpAny_bind ?_; refine wpAny_updateSeq hS1 rfl (wpAny_bind (wpAny_letGo ?_)); rw [nm]
      refine wpAny_pure ⟨plainId_quiet PySem.F.plain_max_loop _, ih (j + 1) _ v _ (by omega) lt (W.frame _ s1 _ s1.toks st1 (Nat.le_refl _) fun d hd o e => (Heap.get?_update_other _ _ (fun z : S = d => sf (by rw [z]; exact hd))).trans e) (by rw [argBest, hb, if_pos rfl]; exact pv) (Heap.get?_update_self _ hS1 rfl) fun v' s2 p2 m2 => ?_⟩
      exact hR v' s2 p2 (Moved.trans W.gtrans ((m1.mono up).then_heap (by first | exact Nat.le_refl _ | exact Nat.le_succ _ | omega) fun d o hd e => (Heap.get?_update_other _ _ (ns hd)).trans e) m2)
    | false =>
      rw [if_neg Bool.false_ne_true]
      refine wpAny_bind (wpAny_letGo ?_); rw [nm]
      exact wpAny_pure ⟨plainId_quiet PySem.F.plain_max_loop _, ih (j + 1) _ b c (by omega) lt st1 (by rw [argBest, hb, if_neg Bool.false_ne_true]; exact pb) hS1 fun v' s2 p2 m2 => hR v' s2 p2 (Moved.trans W.gtrans (m1.mono up) m2)⟩
theorem zhR (W : WalksS prog w A.in1 I fp wr G n P St) (bt : Nat -> Nat -> Bool) (cm : CmpOf prog w A.in1 .Gt P bt) (S : Addr) (sf : S ∉ fp) {kw : List (Str × Value)} (hn : 0 < n) {s : Shared} {c : Nat} (st : St 0 s) (hS : s.heap.get? S = some { cls := .type "list", dict := none, data := .seq #[] c, slots := #[] })
    (hR : ∀ v s', P (argBest bt (n - 1)) v -> Moved (S :: wr) G s s' -> R (.ok (.ret v)) s') : codeAny (model prog w) A (.builtin "max.loop" ⟨[.ref I, .none, .ref S], kw⟩) R s := by
  have sw : S ∉ wr := fun z => sf (W.sub _ z)
  have up : ∀ b ∈ wr, b ∈ S :: wr := fun b hb => List.mem_cons_of_mem _ hb
  have nm : (toString "max" ++ toString ".loop" : String) = "max.loop" := by decide
  have ns : ∀ {b : Addr}, b ∉ S :: wr -> S ≠ b := fun hb z => hb (by rw [z]; exact List.mem_cons_self)
  refine codeAny_builtin PySem.F.entry_max_loop ?_; rw [Around.under_plainId PySem.F.plain_max_loop _]; show wpAny _ A.in1 (seqItems? (.ref S) >>= _) _ _ s
  refine wpAny_bind (wpAny_seqItems hS rfl ?_); show wpAny _ A.in1 (tryCatch (pyNext (.ref I)) _ >>= _) _ _ s
  refine wpAny_bind (wpAny_tryCatch (W.item 0 s _ _ hn st fun v s1 pv st1 m1 => ?_))
  have hS1 := m1.heap S _ sw hS
  show wpAny _ A.in1 (updateSeq S (fun _ => #[v, v]) >>= _) _ _ _; refine wpAny_bind ?_
  refine wpAny_updateSeq hS1 rfl ?_; rw [nm]
  refine wpAny_pure ⟨plainId_quiet PySem.F.plain_max_loop _, zju W bt cm S sf kw _ 0 _ v _ rfl hn (W.frame _ s1 _ s1.toks st1 (Nat.le_refl _) fun d hd o e => (Heap.get?_update_other _ _ (fun z : S = d => sf (by rw [z]; exact hd))).trans e) pv (Heap.get?_update_self _ hS1 rfl) fun v' s2 p2 m2 => ?_⟩
  exact hR v' s2 p2 (Moved.trans W.gtrans ((m1.mono up).then_heap (by first | exact Nat.le_refl _ | exact Nat.le_succ _ | omega) fun d o hd e => (Heap.get?_update_other _ _ (ns hd)).trans e) m2)
theorem zjv (W : WalksS prog w A.in1 I fp wr G 0 P St) (S : Addr) (sf : S ∉ fp) {x : Str} {d : Value} {kw : List (Str × Value)} {s : Shared} {c : Nat} (st : St 0 s) (hS : s.heap.get? S = some { cls := .type "list", dict := none, data := .seq #[] c, slots := #[] })
    (hR : ∀ s', Moved (S :: wr) G s s' -> R (.ok (.ret d)) s') : codeAny (model prog w) A (.builtin "max.loop" ⟨[.ref I, .none, .ref S], (x, d) :: kw⟩) R s := by
  have sw : S ∉ wr := fun z => sf (W.sub _ z)
  have up : ∀ b ∈ wr, b ∈ S :: wr := fun b hb => List.mem_cons_of_mem _ hb
  refine codeAny_builtin PySem.F.entry_max_loop ?_; rw [Around.under_plainId PySem.F.plain_max_loop _]; show wpAny _ A.in1 (seqItems? (.ref S) >>= _) _ _ s
  refine wpAny_bind (wpAny_seqItems hS rfl ?_); show wpAny _ A.in1 (tryCatch (pyNext (.ref I)) _ >>= _) _ _ s
  refine wpAny_bind (wpAny_tryCatch (W.done s _ _ st fun s1 m1 => ?_))
  exact wpAny_bind (wpAny_rule (wpAny_pure (hR s1 (m1.mono up))))
end
theorem zhS (a d : Value) : argsOk "max" ⟨[a], [("default", d)]⟩ := by
  unfold argsOk; kernel_rfl
section
variable {prog : Program} {w : World} {A : Around} {E : Value -> Shared -> Prop} {s : Shared}
theorem zhT {args : List Value} {kw : List (Str × Value)} {b : Builtin} {Q : Value -> Shared -> Prop} (hb : entryFor table "max" = some b) (ha : argsOk "max" ⟨args, kw⟩)
    (hc : wpAny (model prog w) A.in1 (b ⟨args, kw⟩) (fun fin s' => match fin with
      | .done f => (match (Except.ok f : Result) with | .ok (.ret v) => Q v s' | .ok _ => False | .error e => E e s')
      | .again c' => c'.quiet = true /\ codeAny (model prog w) A c' (fun r s' => match r with | .ok (.ret v) => Q v s' | .ok _ => False | .error e => E e s') s') E s) : wpAny (model prog w) A (call (.builtin "max") args kw) Q E s := by
  refine wpAny_call (codeAny_call_builtin PySem.F.plain_max hb ?_); simp only [checkBuiltinCall, PySem.F.kind_max]
  cases q : Manifest.signature? "max" with
  | none => exact wpAny_pure hc
  | some sg =>
    have z : Bind.checkArgs "max" sg ⟨args, kw⟩ = pure () := by simpa only [argsOk, q] using ha
    simp only [z]
    exact wpAny_pure hc
theorem zhU {l : Addr} {vs : List Value} {ns : List Int} {d : Value} {Q : Value -> Shared -> Prop} (hh : A.handled = none) (hl : s.heap.IsList l vs.toArray) (r : Vals (ns.map V.int) vs)
    (hQ : ∀ v s', (if ns = [] then v = d else ∃ t, v = .int (ns.getD (argBest (fun i j => decide (ns.getD i 0 > ns.getD j 0)) (ns.length - 1)) 0) t) -> (∀ b o, s.heap.get? b = some o -> s'.heap.get? b = some o) -> s'.gens = s.gens -> s'.os = s.os -> Q v s') :
    wpAny (model prog w) A (call (.builtin "max") [.ref l] [("default", d)]) Q E s := by
  have nm : (toString "max" ++ toString ".loop" : String) = "max.loop" := by decide
  have hlen := r.length
  rw [List.length_map] at hlen
  have llt : l < s.heap.objs.size := by obtain ⟨o, e, _⟩ := id hl; exact Heap.lt_size e
  refine zhT PySem.F.entry_max (zhS _ _) ?_
  show wpAny _ A.in1 (Builtin.Builtins.bindParams "max" ["key", "default"] 0 ⟨[], [("default", d)]⟩ >>= _) _ _ s
  refine wpAny_bind (wpAny_of_eq (show Builtin.Builtins.bindParams "max" ["key", "default"] 0 ⟨[], [("default", d)]⟩ = pure [none, some d] from by kernel_rfl) ?_)
  refine wpAny_bind (wpAny_pure ?_)
  refine wpAny_bind (wpAny_pyIter_list hl ?_)
  have W := (Walks.list (prog := prog) (w := w) (A := A.in1) (by simpa using hh) s.heap.objs.size l (Nat.ne_of_lt llt) vs.toArray).toS
  have iter : (s.heap.push { cls := .type "list_iterator", data := .fields #[Value.ref l, Value.int 0 0] }).IsListIter s.heap.objs.size l 0 /\ (s.heap.push { cls := .type "list_iterator", data := .fields #[Value.ref l, Value.int 0 0] }).IsList l vs.toArray := ⟨⟨_, Heap.get?_push_size _ rfl, rfl, rfl⟩, hl.push _⟩
  have sz : (s.heap.push { cls := .type "list_iterator", data := .fields #[Value.ref l, Value.int 0 0] }).objs.size = s.heap.objs.size + 1 := Heap.size_push ..
  refine wpAny_bind (wpAny_newObj_type ?_)
  generalize hH : (s.heap.push { cls := .type "list_iterator", data := .fields #[Value.ref l, Value.int 0 0] }) = H1 at iter sz
  have sf : H1.objs.size ∉ [s.heap.objs.size, l] := fun z => by
    rw [sz] at z
    have z : s.heap.objs.size + 1 = s.heap.objs.size \/ s.heap.objs.size + 1 = l := by simpa only [List.mem_cons, List.not_mem_nil, or_false] using z
    rcases z with z | z
    · exact absurd z (Nat.succ_ne_self _)
    · exact absurd z.symm (Nat.ne_of_lt (Nat.lt_succ_of_lt llt))
  have keep : ∀ (s' : Shared), Moved (H1.objs.size :: [s.heap.objs.size]) (fun a b => b = a) { s with heap := H1.push { cls := .type "list", data := .seq ([] : List Value).toArray } } s' -> ∀ b o, s.heap.get? b = some o -> s'.heap.get? b = some o := fun s' m b o e => by
    have lt := Heap.lt_size e
    refine m.heap b o (fun z => ?_) (Heap.get?_push_of_some _ (hH ▸ Heap.get?_push_of_some _ e))
    rw [sz] at z
    simp at z
    rcases z with z | z
    · exact absurd z (Nat.ne_of_lt (Nat.lt_succ_of_lt lt))
    · exact absurd z (Nat.ne_of_lt lt)
  rw [nm]
  have st2 : (H1.push { cls := .type "list", data := .seq ([] : List Value).toArray }).IsListIter s.heap.objs.size l 0 /\ (H1.push { cls := .type "list", data := .seq ([] : List Value).toArray }).IsList l vs.toArray := ⟨iter.1.at fun o e => Heap.get?_push_of_some _ e, iter.2.push _⟩
  have hS : (H1.push { cls := .type "list", data := .seq ([] : List Value).toArray }).get? H1.objs.size = some { cls := .type "list", dict := none, data := .seq #[] 0, slots := #[] } := Heap.get?_push_size _ rfl
  by_cases h0 : ns = []
  · have v0 : vs = [] := by subst h0; exact List.eq_nil_of_length_eq_zero (by simpa using hlen.symm)
    subst v0
    refine wpAny_pure ⟨plainId_quiet PySem.F.plain_max_loop _, zjv (A := A) W _ sf (s := { s with heap := _ }) st2 hS fun s' m => ?_⟩
    exact hQ d s' (by rw [if_pos h0]) (keep s' m) m.gens m.os
  · have pos : 0 < vs.toArray.size := by rw [List.size_toArray, ← hlen]; exact List.length_pos_iff.mpr h0
    refine wpAny_pure ⟨plainId_quiet PySem.F.plain_max_loop _, zhR (A := A) W _ (CmpOf.ints_gt (fun i => ns.getD i 0) fun i v hv => Zg r hv) _ sf pos (s := { s with heap := _ }) st2 hS fun v s' pv m => ?_⟩
    refine hQ v s' ?_ (keep s' m) m.gens m.os
    rw [if_neg h0, hlen]
    obtain ⟨t, e⟩ := Zg r pv
    exact ⟨t, by rw [e, List.size_toArray]⟩
end
section
variable {prog : Program} {w : World} {A : Around} {R : Result -> Shared -> Prop} {I : Addr} {fp wr : List Addr} {G : Array GenState -> Array GenState -> Prop} {n : Nat} {P : Nat -> Value -> Prop} {St : Nat -> Shared -> Prop}
end
section
variable {prog : Program} {w : World} {A : Around} {E : Value -> Shared -> Prop} {s : Shared}
end
end L2
namespace L2
open PySem PySem.Spec PyProof.Rows
section
variable {X : Cx} {pins : List (Addr × Obj)} {σ : St} {H : Hp} {s : Shared} {h' : Heap}
theorem Inv.turnedL {t' : Nat} {fp : List Addr} (I : Inv X pins σ H s) (k : ∀ b o, b ∉ fp -> s.heap.get? b = some o -> h'.get? b = some o) (hf : ∀ b ∈ fp, FpOk X pins H b) : Inv X pins σ H { s with heap := h', toks := t' } := by
  have nit : ∀ b u, H b = some u -> b ∉ fp := fun b u e z => by rw [(hf b z).1] at e; cases e
  have nL : X.env.locals ∉ fp := fun z => (hf _ z).2.1 rfl
  refine I.step (g' := s.gens) (d' := s.drawn) (ch := fp) (fun b hb => let ⟨_, b1, _, b3, b4, b5⟩ := hf b hb; ⟨b3, b1, b4, b5⟩) (fun b o _ _ hc e _ => k b o hc e) (fun b o _ _ hc e _ => ⟨o.slots, k b o hc e⟩) (fun _ _ _ _ n => n)
    (fun b o hc e => ⟨o, k b o hc e⟩) (fun _ _ e => e) (fun _ _ _ e => e) (fun b ps e => ⟨#[], by rw [e]; simp⟩) (fun m hm => ?_) (fun b u e => ?_) I.bare
  · obtain ⟨o, es, ep, ho, r⟩ := hm
    exact ⟨o, es, ep, k _ o nL ho, r⟩
  · refine (I.hok b u e).stay (fun c v hc q => k c v ?_ q) (fun _ q => q) fun _ _ q => q
    rcases hc with z | z
    · rw [z]; exact nit b u e
    · exact nit c _ z
theorem Inv.turnLay {t' : Nat} {fp : List Addr} {T : Addr} {o : HO} (I : Inv X pins σ H s) (k : ∀ b o, b ∉ fp -> s.heap.get? b = some o -> h'.get? b = some o) (hf : ∀ b ∈ fp, FpOk X pins H b) (hT : s.heap.objs.size <= T) (new : ObjOk X.prog X.w (zX H T o) h' T o) :
    Inv X pins σ (zX H T o) { s with heap := h', toks := t' } := by
  have hn : H T = none := I.hok.fresh hT
  have nit : ∀ b u, H b = some u -> b ∉ fp := fun b u e z => by rw [(hf b z).1] at e; cases e
  have nL : X.env.locals ∉ fp := fun z => (hf _ z).2.1 rfl
  have neT : ∀ b o, s.heap.get? b = some o -> b ≠ T := fun b o e => Nat.ne_of_lt (Nat.lt_of_lt_of_le (Heap.lt_size e) hT)
  refine I.step (g' := s.gens) (d' := s.drawn) (ch := fp) (fun b hb => let ⟨_, b1, _, b3, b4, b5⟩ := hf b hb; ⟨b3, b1, b4, b5⟩) (fun b o _ _ hc e _ => k b o hc e) (fun b o _ _ hc e _ => ⟨o.slots, k b o hc e⟩) (fun b o _ e n => by rw [zM (neT b o e)]; exact n)
    (fun b o hc e => ⟨o, k b o hc e⟩) (fun b xs q => by rw [zM (zV q hn)]; exact q) (fun b u xs q => by rw [zM (zV q hn)]; exact q) (fun b ps q => ⟨#[], by rw [zM (zV q hn), q]; simp⟩) (fun m hm => ?_) (fun b u e => ?_) I.bare
  · obtain ⟨o, es, ep, ho, r⟩ := hm
    exact ⟨o, es, ep, k _ o nL ho, r⟩
  · by_cases hb : b = T
    · subst hb; rw [je] at e; cases e; exact new
    · rw [zM hb] at e
      refine (I.hok b u e).stay (fun c v hc q => k c v ?_ q) (fun c q => by rw [zM (zV q hn)]; exact q) fun c xs q => by rw [zM (zV q hn)]; exact q
      rcases hc with z | z
      · rw [z]; exact nit b u e
      · exact nit c _ z
end
def Ite (K : PySem.W.Frag) (a : Addr) : It := ⟨fun i H => ∃ xs x, jf K H a xs /\ xs[i]? = some x, fun i H x H' => ∃ T v, x = .ref T /\ H T = none /\ H' = zX H T (.tup [.int i, v]) /\ ∀ xs, jf K H a xs -> xs[i]? = some v, fun i H => ∃ xs, jf K H a xs /\ xs.length <= i⟩
theorem zhV {P : Program} {w : World} {K : PySem.W.Frag} {es : List Expr} {kt : Nat} {pt : Pos} (a e it : Addr) (hei : e ≠ it) : zaF P w K (.Tuple es kt pt) (Ite K a) [e, it] e (fun i h => (∃ old, IsEnum h e it i old) /\ h.IsListIter it a i) where
  mem := by simp
  obj := fun i h st b hb => by
    obtain ⟨⟨old, he⟩, hit⟩ := st
    rcases List.mem_cons.mp hb with rfl | hb
    · exact ⟨_, he, fun v z => by cases z⟩
    · have e2 : b = it := by simpa using hb
      subst e2
      obtain ⟨o, e3, c, d⟩ := hit
      exact ⟨o, e3, fun v z => by rw [d] at z; cases z⟩
  keep := fun i h h' st k => let ⟨⟨old, he⟩, hit⟩ := st; ⟨⟨old, k e (by simp) _ he⟩, hit.at fun o z => k it (by simp) o z⟩
  item := by
    intro X hP hw hK hc i pins s σ H E I hf st hg
    subst hP hw hK
    obtain ⟨xs, x, hq, hx⟩ := hg
    obtain ⟨its, rv, p, hz⟩ := I.list hq
    obtain ⟨u, hu, ru⟩ := rv.get hx
    obtain ⟨⟨old, he⟩, hit⟩ := st
    refine wpAny_pyNext_enum_item he hit p.isList (by simpa using hu) hei fun h1 ho hit1 hT hsz hk => ?_
    refine ⟨_, rfl, wpAny_letOwnedTupleGo_enum ho fun h2 he2 hs2 => ?_⟩
    have helt : e < s.heap.objs.size := Heap.lt_size he
    have hilt : it < s.heap.objs.size := by obtain ⟨_, z, _⟩ := hit; exact Heap.lt_size z
    have k2 : ∀ b o, b ∉ [e, it] -> s.heap.get? b = some o -> h2.get? b = some o := fun b o hb z => (hs2.2 b (fun y => hb (by simp [y]))).trans (hk b o (fun y => hb (by simp [y])) (fun y => hb (by simp [y])) z)
    have T2 : h2.get? s.heap.objs.size = some _ := (hs2.2 _ (Nat.ne_of_gt helt)).trans hT
    have I1 := I.turnLay (t' := s.toks + 1) (T := s.heap.objs.size) (o := .tup [.int i, x]) k2 hf (Nat.le_refl _) ⟨by show 2 <= sizeLine; decide, [.int i s.toks, u], .cons ⟨_, rfl⟩ (.cons ru .nil), ⟨_, T2, rfl, _, rfl⟩⟩
    refine ⟨.ref s.heap.objs.size, _, I1, rfl, ⟨_, x, rfl, I.hok.fresh (Nat.le_refl _), rfl, fun ys hy => by rw [I.list_inj hy hq]; exact hx⟩, ⟨⟨_, by simpa using he2⟩, hit1.at fun o z => (hs2.2 it hei.symm).trans z⟩, fun b hb => ?_⟩
    rw [zM]
    · exact (hf b hb).1
    · rcases List.mem_cons.mp hb with rfl | hb
      · exact Nat.ne_of_lt helt
      · have e2 : b = it := by simpa using hb
        rw [e2]; exact Nat.ne_of_lt hilt
  done := by
    intro X hP hw hK hc i pins s σ H E I hf st hg
    subst hP hw hK
    obtain ⟨xs, hq, hx⟩ := hg
    obtain ⟨its, rv, p, hz⟩ := I.list hq
    obtain ⟨⟨old, he⟩, hit⟩ := st
    have hl := rv.length
    exact wpAny_pyNext_enum_end (I.ok.hd hc) he hit p.isList (by simp; omega) fun h1 eb => ⟨rfl, I.turnedL (t' := s.toks) (fun b o hb z => eb b o (fun y => hb (by simp [y])) z) hf⟩
  self := fun _ i s Q E st h => let ⟨⟨_, he⟩, _⟩ := st; wpAny_pyIter_enum he h
def zkE (K : PySem.W.Frag) (ta : TA) : TI := fun σ H R => ta σ H fun vs H1 => ∃ a, vs = [.ref a] /\ (∃ xs, jf K H1 a xs) /\ R (Ite K a) H1
theorem zlH {X : Cx} {es : List Expr} {kt : Nat} {pt p pos : Pos} {e : Expr} {ta : TA} (hg : Gl X "enumerate") (hm : X.mg "enumerate" = none) (ha : PA X [e] ta) (hs : starEach [e] X.env = [(false, eval e X.env)] := by rfl) : PI X (.Tuple es kt pt) (.Call (.Name "enumerate" p) [e] [] pos) (zkE X.K ta) := by
  intro pins s σ H R I h
  refine Call_ (ZO I hg hm (by rfl) (PyProof.Rows.callWith_type1 (zO (ha pos pins s σ H _ I h) fun us s1 ⟨vs, H1, I1, r1, q1⟩ => ?_) hs rfl))
  obtain ⟨a, rfl, ⟨xs, hq⟩, q⟩ := q1
  obtain ⟨u, rfl, ru⟩ := r1.one
  cases ru
  obtain ⟨its, rv, pl, hz⟩ := I1.list hq
  refine call_enumerate_list pl.isList fun h' he hit hsz k => ?_
  have I2 : Inv X pins σ H1 { s1 with heap := h' } := I1.kept (t' := s1.toks) k
  refine wpAny_pyIter_enum he ?_
  refine ⟨s1.heap.objs.size + 1, [s1.heap.objs.size + 1, s1.heap.objs.size], _, _, H1, rfl, I2, zhV a _ _ (Nat.succ_ne_self _), ⟨⟨_, he⟩, hit⟩, fun b hb => ?_, q⟩
  rcases List.mem_cons.mp hb with e | hb
  · subst e; exact I1.fpOk (Nat.le_succ _) (I1.hok.fresh (Nat.le_succ _))
  · have e : b = s1.heap.objs.size := by simpa using hb
    subst e; exact I1.fpOk (Nat.le_refl _) (I1.hok.fresh (Nat.le_refl _))
end L2
namespace L2
open PySem PySem.Spec PyProof.Rows
def UF : List Int -> Int
  | [] => 0
  | x :: xs => xs.foldl (fun a b => if b > a then b else a) x
theorem zbG (ns : List Int) : ∀ k, k < ns.length -> ns.getD (argBest (fun i j => decide (ns.getD i 0 > ns.getD j 0)) k) 0 = UF (ns.take (k + 1))
  | 0, h => by cases ns with | nil => simp at h | cons x xs => rfl
  | k + 1, h => by
    have ih := zbG ns k (by omega)
    have hne : ns.take (k + 1) ≠ [] := fun z => by have := congrArg List.length z; rw [List.length_take, List.length_nil] at this; omega
    have e : ns.take (k + 1 + 1) = ns.take (k + 1) ++ [ns.getD (k + 1) 0] := by
      rw [List.take_succ, List.getElem?_eq_getElem h]; simp [List.getD_eq_getElem?_getD, List.getElem?_eq_getElem h]
    have f : ∀ (l : List Int) (y : Int), l ≠ [] -> UF (l ++ [y]) = if y > UF l then y else UF l := fun l y hl => by
      cases l with
      | nil => exact absurd rfl hl
      | cons a r => show (r ++ [y]).foldl _ a = _; rw [List.foldl_append]; rfl
    rw [e, f _ _ hne, ← ih]
    show ns.getD (if decide (ns.getD (k + 1) 0 > ns.getD (argBest _ k) 0) = true then k + 1 else argBest _ k) 0 = _
    by_cases c : ns.getD (k + 1) 0 > ns.getD (argBest (fun i j => decide (ns.getD i 0 > ns.getD j 0)) k) 0
    · rw [if_pos (decide_eq_true c), if_pos c]
    · rw [if_neg (by rw [decide_eq_false c]; exact Bool.false_ne_true), if_neg c]
theorem zjw {ns : List Int} (h : ns ≠ []) : ns.getD (argBest (fun i j => decide (ns.getD i 0 > ns.getD j 0)) (ns.length - 1)) 0 = UF ns := by
  have hl := List.length_pos_iff.mpr h
  rw [zbG ns _ (by omega), show ns.length - 1 + 1 = ns.length by omega, List.take_length]
section
variable {X : Cx}
def zor (K : PySem.W.Frag) (ta td : TE) : TE := fun σ H Q => ta σ H fun x H1 => td σ H1 fun d H2 => ∃ (a : Addr) (ns : List Int), x = .ref a /\ jf K H2 a (ns.map V.int) /\ Q (if ns = [] then d else .int (UF ns)) H2
theorem zlI {e de : Expr} {kp p pos : Pos} {ta td : TE} (hc : X.calm = true) (hg : Gl X "max") (hm : X.mg "max" = none) (ha : PE X e ta) (hd : PE X de td) (hs : starEach [e] X.env = [(false, eval e X.env)] := by rfl) :
    PE X (.Call (.Name "max" p) [e] [⟨some "default", de, kp⟩] pos) (zor X.K ta td) := by
  intro pins s σ H Q I h
  refine wpAny_Call_Name_kw (ZO (u := .builtin "max") I hg hm (by kernel_rfl) ?_)
  refine PyProof.Rows.callWith_kw (zO (jk ha jR hs pos pins s σ H (fun vs H1 => match vs with | [x] => td σ H1 fun d H2 => ∃ (a : Addr) (ns : List Int), x = .ref a /\ jf X.K H2 a (ns.map V.int) /\ Q (if ns = [] then d else .int (UF ns)) H2 | _ => False) I h) fun us s1 ⟨vs, H1, I1, r1, q1⟩ => ?_) (by rw [hs]; rfl) (by rw [hs]; rfl)
  match vs, q1 with
  | [x], q1 =>
    refine PyProof.Rows.kws_cons (zO (hd pins s1 σ H1 _ I1 q1) fun ud s2 ⟨d, H2, I2, rd, a, ns, ex, hq, q2⟩ => PyProof.Rows.kws_nil ?_)
    subst ex
    obtain ⟨u, rfl, ru⟩ := r1.one
    cases ru
    obtain ⟨its, r, pl, hz⟩ := I2.list hq
    refine zhU (I2.ok.hd hc) pl.isList r fun v s' hv hk hg' ho => ?_
    have I3 : Inv X pins σ H2 { s2 with heap := s'.heap, toks := s'.toks } := I2.kept hk
    refine ⟨_, H2, I3.like rfl ho hg', ?_, q2⟩
    by_cases h0 : ns = []
    · rw [if_pos h0] at hv ⊢; rw [hv]; exact rd
    · rw [if_neg h0] at hv ⊢
      rw [zjw h0] at hv
      exact hv
end
def J5 : List Int -> Int
  | [] => 0
  | x :: xs => xs.foldl (fun a b => if b < a then b else a) x
theorem zbH (ns : List Int) : ∀ k, k < ns.length -> ns.getD (argBest (fun i j => decide (ns.getD i 0 < ns.getD j 0)) k) 0 = J5 (ns.take (k + 1))
  | 0, h => by cases ns with | nil => simp at h | cons x xs => rfl
  | k + 1, h => by
    have ih := zbH ns k (by omega)
    have hne : ns.take (k + 1) ≠ [] := fun z => by have := congrArg List.length z; rw [List.length_take, List.length_nil] at this; omega
    have e : ns.take (k + 1 + 1) = ns.take (k + 1) ++ [ns.getD (k + 1) 0] := by
      rw [List.take_succ, List.getElem?_eq_getElem h]; simp [List.getD_eq_getElem?_getD, List.getElem?_eq_getElem h]
    have f : ∀ (l : List Int) (y : Int), l ≠ [] -> J5 (l ++ [y]) = if y < J5 l then y else J5 l := fun l y hl => by
      cases l with
      | nil => exact absurd rfl hl
      | cons a r => show (r ++ [y]).foldl _ a = _; rw [List.foldl_append]; rfl
    rw [e, f _ _ hne, ← ih]
    show ns.getD (if decide (ns.getD (k + 1) 0 < ns.getD (argBest _ k) 0) = true then k + 1 else argBest _ k) 0 = _
    by_cases c : ns.getD (k + 1) 0 < ns.getD (argBest (fun i j => decide (ns.getD i 0 < ns.getD j 0)) k) 0
    · rw [if_pos (decide_eq_true c), if_pos c]
    · rw [if_neg (by rw [decide_eq_false c]; exact Bool.false_ne_true), if_neg c]
theorem zjx {ns : List Int} (h : ns ≠ []) : ns.getD (argBest (fun i j => decide (ns.getD i 0 < ns.getD j 0)) (ns.length - 1)) 0 = J5 ns := by
  have hl := List.length_pos_iff.mpr h
  rw [zbH ns _ (by omega), show ns.length - 1 + 1 = ns.length by omega, List.take_length]
section
variable {X : Cx}
theorem zhW (hc : X.calm = true) : jL X (.builtin "min") (fun vs H Q => ∃ (a : Addr) (ns : List Int), vs = [.ref a] /\ jf X.K H a (ns.map V.int) /\ ns ≠ [] /\ Q (.int (J5 ns)) H) := by
  intro pins s σ H vs us Q I rv h
  obtain ⟨a, ns, rfl, hq, h0, q⟩ := h
  obtain ⟨u, rfl, ru⟩ := rv.one
  cases ru
  obtain ⟨its, r, pl, hz⟩ := I.list hq
  have hl := r.length
  rw [List.length_map] at hl
  have hlt : a < s.heap.objs.size := by obtain ⟨o, n, e, _⟩ := pl; exact Heap.lt_size e
  refine call_min_walkS (wpAny_pyIter_list pl.isList ⟨_, _, _, _, _, _, _, _, rfl, (Walks.list (by simpa using I.ok.hd hc) s.heap.objs.size a (Nat.ne_of_lt hlt) its.toArray).toS, ⟨⟨_, Heap.get?_push_size _ rfl, rfl, rfl⟩, pl.isList.push _⟩, ?_, ?_, CmpOf.ints_lt (fun i => ns.getD i 0) fun i v hv => Zg r hv, fun v s' pv hm => ?_⟩)
  · intro b hb
    show b < (s.heap.push _).objs.size; rw [Heap.size_push]; simp at hb
    rcases hb with rfl | rfl
    · exact Nat.lt_succ_self _
    · exact Nat.lt_succ_of_lt hlt
  · rw [List.size_toArray, ← hl]; exact List.length_pos_iff.mpr h0
  · obtain ⟨t, e⟩ := Zg r pv
    rw [List.size_toArray, ← hl, zjx h0] at e
    have I1 : Inv X pins σ H { s with heap := s'.heap, toks := s'.toks } := I.kept fun b o e => hm.heap b o (by simp only [List.mem_singleton]; exact Nat.ne_of_lt (Heap.lt_size e)) (Heap.get?_push_of_some _ e)
    exact ⟨.int (J5 ns), H, I1.like rfl hm.os hm.gens, ⟨_, e⟩, q⟩
end
end L2
namespace L2
open PySem PySem.Spec PyProof.Rows
section
variable {X : Cx} {pins : List (Addr × Obj)} {σ : St} {H : Hp} {s : Shared}
end
end L2
namespace M
open PySem L2
section
variable {X : Cx} {cls : Nat -> Option Addr} {pn : List Nat} {a e : Expr} {es : List Expr} {pos p pc tp : Pos} {x : Str} {ma : MO}
end
def JK : List D -> Option (List Int)
  | [] => some []
  | .int i :: r => (JK r).map (i :: ·)
  | _ :: _ => none
def Q5 : List D -> Option (List Str)
  | [] => some []
  | .str i :: r => (Q5 r).map (i :: ·)
  | _ :: _ => none
section
variable {Γ : Cn} {E : Addr -> Prop} {H : Hp}
theorem zdv : ∀ {ds : List D} {ns : List Int}, JK ds = some ns -> ds = ns.map D.int
  | [], _, h => by cases h; rfl
  | d :: r, ns, h => by
    cases d with
    | int i =>
      unfold JK at h
      cases e : JK r with
      | none => rw [e] at h; cases h
      | some ms => rw [e] at h; cases h; rw [zdv e]; rfl
    | _ => cases h
theorem zdw : ∀ {ds : List D} {ns : List Str}, Q5 ds = some ns -> ds = ns.map D.str
  | [], _, h => by cases h; rfl
  | d :: r, ns, h => by
    cases d with
    | str i =>
      unfold Q5 at h
      cases e : Q5 r with
      | none => rw [e] at h; cases h
      | some ms => rw [e] at h; cases h; rw [zdw e]; rfl
    | _ => cases h
theorem zbI (ns : List Int) : JK (ns.map D.int) = some ns := by
  induction ns with
  | nil => rfl
  | cons i r ih => show (JK (r.map D.int)).map _ = _; rw [ih]; rfl
theorem Zh (ns : List Str) : Q5 (ns.map D.str) = some ns := by
  induction ns with
  | nil => rfl
  | cons i r ih => show (Q5 (r.map D.str)).map _ = _; rw [ih]; rfl
theorem zdx {α : Type} {f : α -> D} {g : α -> V} (hf : ∀ a, Jp (f a) = true) (hg : ∀ a, vD (f a) = g a) {ns : List α} {xs : List V} (r : Reps Γ E H xs (ns.map f)) : xs = ns.map g := by
  refine List.ext_getElem? fun i => ?_
  have hl := r.1
  rw [List.length_map] at hl
  cases e : ns[i]? with
  | none => rw [List.getElem?_map, e, List.getElem?_eq_none (by rw [hl]; exact List.getElem?_eq_none_iff.mp e)]; rfl
  | some n =>
    obtain ⟨v, h1, h2⟩ := r.get (i := i) (d := f n) (by rw [List.getElem?_map, e]; rfl)
    rw [h1, List.getElem?_map, e, h2.flat (hf n), hg]; rfl
theorem zdy {ns : List Int} {xs : List V} (r : Reps Γ E H xs (ns.map D.int)) : xs = ns.map V.int := zdx (fun _ => rfl) (fun _ => rfl) r
theorem zdz {ns : List Str} {xs : List V} (r : Reps Γ E H xs (ns.map D.str)) : xs = ns.map V.str := zdx (fun _ => rfl) (fun _ => rfl) r
theorem zhX (ns : List Str) : Reps Γ E H (ns.map V.str) (ns.map D.str) := ⟨by simp, fun i v d h1 h2 => by
  rw [List.getElem?_map] at h1 h2
  cases e : ns[i]? with
  | none => rw [e] at h1; cases h1
  | some x => rw [e] at h1 h2; cases h1; cases h2; exact .str x⟩
theorem zdA {v : V} {ds : List D} (r : jY Γ E H v (.lst ds)) : ∃ a xs, v = .ref a /\ H a = some (.lst xs) /\ Reps Γ E H xs ds := r
def QA : D -> Option (List D) | .lst ds => some ds | _ => none
theorem Vw {v : V} {d : D} {ns : List Int} (r : jY Γ E H v d) (h : (QA d).bind JK = some ns) : ∃ a, v = .ref a /\ jf Γ.K H a (ns.map V.int) := by
  cases d with
  | lst ds =>
    obtain ⟨a, xs, rfl, hH, rs⟩ := zdA r
    rw [zdv (ds := ds) h] at rs
    exact ⟨a, rfl, .inl (.inl (by rw [hH, zdy rs]))⟩
  | _ => cases h
theorem Vx {v : V} {d : D} {ns : List Str} (r : jY Γ E H v d) (h : (QA d).bind Q5 = some ns) : ∃ a, v = .ref a /\ jf Γ.K H a (ns.map V.str) := by
  cases d with
  | lst ds =>
    obtain ⟨a, xs, rfl, hH, rs⟩ := zdA r
    rw [zdw (ds := ds) h] at rs
    exact ⟨a, rfl, .inl (.inl (by rw [hH, zdz rs]))⟩
  | _ => cases h
end
def hIs (g : List Int -> Option D) (x : D) : Option D := ((QA x).bind JK).bind g
def fIs (g : List Int -> Option D) : F1 := fun x q => jA q (hIs g x)
instance {g : List Int -> Option D} : Uu (fIs g) (hIs g) := ⟨fun x q h => h⟩
theorem zhY {g : List Int -> Option D} {x : D} {q : D -> Prop} (h : jA q (hIs g x)) : ∃ ns d, (QA x).bind JK = some ns /\ g ns = some d /\ q d := by
  unfold hIs at h
  cases e : (QA x).bind JK with
  | none => rw [e] at h; exact False.elim h
  | some ns =>
    rw [e] at h
    have h : jA q (g ns) := h
    cases e2 : g ns with
    | none => rw [e2] at h; exact False.elim h
    | some d => rw [e2] at h; exact ⟨ns, d, rfl, e2, h⟩
def zkF (ns : List Int) : Option D := some (.int ns.sum)
def RS (ns : List Int) : Option D := if ns = [] then none else some (.int (J5 ns))
def zjy := fIs zkF
def zgi := fIs RS
def Z2 := hIs zkF
def Wf := hIs RS
instance : Uu zjy Z2 := ⟨fun x q h => h⟩
instance : Uu zgi Wf := ⟨fun x q h => h⟩
section
variable {Γ : Cn}
theorem znK : Yi Γ (fun x H Q => ∃ (a : Addr) (ns : List Int), [x] = [.ref a] /\ jf Γ.K H a (ns.map V.int) /\ Q (.int ns.sum) H) zjy := fun E H x dx Q q _ rx h k => by
  obtain ⟨ns, d, h1, h2, h3⟩ := zhY h
  obtain ⟨a, rfl, sq⟩ := Vw rx h1
  cases h2
  exact ⟨a, ns, rfl, sq, k _ _ H (Same.refl H) (.int _) h3⟩
theorem zlJ : Yi Γ (fun x H Q => ∃ (a : Addr) (ns : List Int), [x] = [.ref a] /\ jf Γ.K H a (ns.map V.int) /\ ns ≠ [] /\ Q (.int (J5 ns)) H) zgi := fun E H x dx Q q _ rx h k => by
  obtain ⟨ns, d, h1, h2, h3⟩ := zhY h
  obtain ⟨a, rfl, sq⟩ := Vw rx h1
  unfold RS at h2
  split at h2
  · cases h2
  · cases h2; exact ⟨a, ns, rfl, sq, ‹_›, k _ _ H (Same.refl H) (.int _) h3⟩
end
section
variable {X : Cx} {cls : Nat -> Option Addr} {pn : List Nat} {a e de : Expr} {es : List Expr} {pos p p2 pos2 kp : Pos} {x : Str} {ma : MO} {md : ME}
theorem RT (hc : X.calm = true) (hg : Gl X "sum") (hm : X.mg "sum" = none) (ha : DO X cls pn a ma) (hs : starEach [a] X.env = [(false, eval a X.env)] := by kernel_rfl) : DE X cls pn (.Call (.Name "sum" p) [a] [] pos) (QM zjy ma) := zcm (zjt hc) znK hg hm (by kernel_rfl) ha hs
theorem zfd (hc : X.calm = true) (hg : Gl X "min") (hm : X.mg "min" = none) (ha : DO X cls pn a ma) (hs : starEach [a] X.env = [(false, eval a X.env)] := by kernel_rfl) : DE X cls pn (.Call (.Name "min" p) [a] [] pos) (QM zgi ma) := zcm (zhW hc) zlJ hg hm (by kernel_rfl) ha hs
end
def zgj (x y : D) : Option D := ((QA x).bind JK).bind fun ns => if ns = [] then (if Jp y = true then some y else none) else some (.int (UF ns))
def zgk : F2 := fun x y q => jA q (zgj x y)
instance : yf zgk zgj := ⟨fun x y q h => h⟩
section
variable {Γ : Cn}
theorem zlK : yM Γ (fun x y H Q => ∃ (a : Addr) (ns : List Int), x = .ref a /\ jf Γ.K H a (ns.map V.int) /\ Q (if ns = [] then y else .int (UF ns)) H) zgk := fun E H x y dx dy Q q _ rx ry h k => by
  have h : jA q (((QA dx).bind JK).bind _) := h
  cases e : (QA dx).bind JK with
  | none => rw [e] at h; exact False.elim h
  | some ns =>
    rw [e] at h
    obtain ⟨a, rfl, sq⟩ := Vw rx e
    refine ⟨a, ns, rfl, sq, ?_⟩
    dsimp only [Option.bind_some] at h
    by_cases h0 : ns = []
    · rw [if_pos h0] at h ⊢
      split at h
      · rename_i f; rw [zG ry f]; exact k _ _ H (Same.refl H) (ZS f) h
      · exact False.elim h
    · rw [if_neg h0] at h ⊢; exact k _ _ H (Same.refl H) (.int _) h
end
section
variable {X : Cx} {cls : Nat -> Option Addr} {pn : List Nat} {a b e de : Expr} {es : List Expr} {pos p p2 pos2 kp : Pos} {x : Str} {ma mb : MO}
theorem zlL (hc : X.calm = true) (hg : Gl X "max") (hm : X.mg "max" = none) (ha : DO X cls pn a ma) (hb : DO X cls pn b mb) (hs : starEach [a] X.env = [(false, eval a X.env)] := by kernel_rfl) : DE X cls pn (.Call (.Name "max" p) [a] [⟨some "default", b, kp⟩] pos) (JP zgk ma mb) :=
  let ⟨_, pa, ja⟩ := ha.h; let ⟨_, pb, jb⟩ := hb.h; ⟨_, zlI hc hg hm pa pb hs, V2 zlK ja jb⟩
end
def Q6 (x : D) : Option (List Str) := (QA x).bind Q5
def Y1 (x : D) : Option D := (Q6 x).bind fun xs => if xs.length < 1000 then some (.int (dd xs).length) else none
def QV (x : D) : Option (List D) := (Q6 x).bind fun xs => if xs.length < 64 then some ((Ji (dd xs)).map D.str) else none
def zfe : F1 := fun x q => jA q (Y1 x)
def zdB : FL1 := fun x q => jA q (QV x)
instance : Uu zfe Y1 := ⟨fun x q h => h⟩
instance : zjk zdB QV := ⟨fun x q h => h⟩
theorem zdC {β : Type} {x : D} {n : Nat} {f : List Str -> β} {q : β -> Prop} (h : jA q ((Q6 x).bind fun xs => if xs.length < n then some (f xs) else none)) : ∃ xs, Q6 x = some xs /\ xs.length < n /\ q (f xs) := by
  cases e : Q6 x with
  | none => rw [e] at h; exact False.elim h
  | some xs =>
    rw [e] at h
    dsimp only [Option.bind_some] at h
    split at h
    · exact ⟨xs, rfl, ‹_›, h⟩
    · exact False.elim h
section
variable {X : Cx} {cls : Nat -> Option Addr} {pn : List Nat} {a b e de : Expr} {es : List Expr} {pos p p2 pos2 kp : Pos} {x : Str} {ma mb : MO}
theorem zhZ (hc : X.calm = true) (hg : Gl X "len") (hm : X.mg "len" = none) (hg2 : Gl X "set") (hm2 : X.mg "set" = none) (ha : DO X cls pn a ma) (hs : starEach [a] X.env = [(false, eval a X.env)] := by kernel_rfl)
    (hs2 : starEach [.Call (.Name "set" p2) [a] [] pos2] X.env = [(false, eval (.Call (.Name "set" p2) [a] [] pos2) X.env)] := by kernel_rfl) : DE X cls pn (.Call (.Name "len" p) [.Call (.Name "set" p2) [a] [] pos2] [] pos) (QM zfe ma) := by
  obtain ⟨ta, pa, ja⟩ := ha.h
  refine ⟨_, Ud zb5 hg hm (by kernel_rfl) (jk (Yh (zbE hc) hg2 hm2 (by kernel_rfl) (jk pa jR hs) (by decide) (by decide) hs rfl) jR hs2) (by decide) (by decide) hs2 rfl, fun S σ ρ H τ Q q hp R hm hq => ja S σ ρ H τ _ _ hp R hm fun v r1 H1 ρ1 τ1 R1 o1 q1 => ?_⟩
  obtain ⟨dx, rx, q1⟩ := R1.read o1 q1
  obtain ⟨xs, h1, h2, h3⟩ := zdC q1
  obtain ⟨b, rfl, sq⟩ := Vx rx h1
  refine ⟨b, xs, rfl, sq, h2, fun l hl => ⟨l, xs, rfl, je, ?_⟩⟩
  rw [← zdt]
  exact hq _ _ _ ρ1 (R1.grow (Uf hl _)).cut (.int _) h3
theorem zgl (hc : X.calm = true) (hg : Gl X "sorted") (hm : X.mg "sorted" = none) (hg2 : Gl X "set") (hm2 : X.mg "set" = none) (ha : DO X cls pn a ma) (hs : starEach [a] X.env = [(false, eval a X.env)] := by kernel_rfl)
    (hs2 : starEach [.Call (.Name "set" p2) [a] [] pos2] X.env = [(false, eval (.Call (.Name "set" p2) [a] [] pos2) X.env)] := by kernel_rfl) : DF X cls pn (.Call (.Name "sorted" p) [.Call (.Name "set" p2) [a] [] pos2] [] pos) (V3 zdB ma) := by
  obtain ⟨ta, pa, ja⟩ := ha.h
  refine ⟨_, Ud (za3 hc) hg hm (by kernel_rfl) (jk (Yh (zbE hc) hg2 hm2 (by kernel_rfl) (jk pa jR hs) (by decide) (by decide) hs rfl) jR hs2) (by decide) (by decide) hs2 rfl, fun S σ ρ H τ Q q hp R hm hq => ja S σ ρ H τ _ _ hp R hm fun v r1 H1 ρ1 τ1 R1 o1 q1 => ?_⟩
  obtain ⟨dx, rx, q1⟩ := R1.read o1 q1
  obtain ⟨xs, h1, h2, h3⟩ := zdC q1
  obtain ⟨b, rfl, sq⟩ := Vx rx h1
  refine ⟨b, xs, rfl, sq, Nat.lt_trans h2 (by decide), fun l hl => ⟨l, xs, rfl, je, h2, fun l2 hl2 => ?_⟩⟩
  obtain ⟨w1, w2, w3, w4⟩ := Jv (R1.grow (Uf hl _)) (zhX (Ji (dd xs))) hl2
  exact hq l2 _ _ ρ1 w1.cut w2 w3 w4 h3
end
end M
namespace M
open PySem L2
def UG (ds : List D) : List D := ds.zipIdx.map fun x => .tup [.int x.2, x.1]
theorem zh0 {ds : List D} {i : Nat} {d : D} (h : ds[i]? = some d) : (UG ds)[i]? = some (.tup [.int i, d]) := by
  unfold UG
  rw [List.getElem?_map, List.getElem?_zipIdx, h]; simp
theorem zh1 {ds : List D} : (UG ds).length = ds.length := by unfold UG; simp
def RU (m : MA) : MI := fun ρ q => m ρ fun ds ρ' => match ds with | [.lst ds] => q (UG ds) ρ' | _ => False
section
variable {Γ : Cn} {pn : List Nat}
theorem zlM {t : TA} {m : MA} (h : JA Γ pn t m) : JI Γ pn (zkE Γ.K t) (RU m) := fun S σ ρ H τ Z q hp R hm hz =>
  h S σ ρ H τ _ _ hp R hm fun vs ds H1 ρ1 R1 r1 q1 => by
    split at q1
    · rename_i ds
      match vs, r1 with
      | [], r1 => have h := r1.1; simp at h
      | _ :: _ :: _, r1 => have h := r1.1; simp at h
      | [v], r1 =>
        have rh := r1.head
        obtain ⟨a, xs, rfl, hs, rs⟩ := rh.list
        refine ⟨a, rfl, ⟨xs, .inl (.inl hs)⟩, hz _ (UG ds) H1 ρ1 [(.ref a, .lst ds)] (R1.push rh) ?_ q1⟩
        intro E H i hE hx
        have r : Rep Γ E H (.ref a) (.lst ds) := hx (.ref a, .lst ds) (by simp)
        obtain ⟨a', xs', e, hs', rs'⟩ := r.list
        cases e
        rw [zh1]
        refine ⟨fun hi => ?_, fun hi => ⟨xs', .inl (.inl hs'), by rw [rs'.1]; omega⟩⟩
        have hi' : i < xs'.length := by rw [rs'.1]; exact hi
        refine ⟨⟨xs', xs'[i], .inl (.inl hs'), List.getElem?_eq_getElem hi'⟩, fun x H' y => ?_⟩
        obtain ⟨T, v, rfl, hT, rfl, y⟩ := y
        have g := Uf hT (.tup [.int i, v])
        refine ⟨g, .tup [.int i, ds[i]], zh0 (List.getElem?_eq_getElem hi), ?_⟩
        have rv : Rep Γ E (zX H T (.tup [.int i, v])) v ds[i] := (rs'.2 i v _ (y xs' (.inl (.inl hs'))) (List.getElem?_eq_getElem hi)).up (fun _ _ z => z) fun b o _ q => g b o q
        have rr : Reps Γ E (zX H T (.tup [.int i, v])) [.int i, v] [.int i, ds[i]] := .cons (.int _) (.cons rv .nil)
        exact .tup (fun z => hE T z hT) je rr.1 rr.2
    · exact False.elim q1
end
def itE : List D -> Option (List D) | [.lst ds] => some (UG ds) | _ => none
def Y2 (g : G (List D)) : G (List D) := fun ρ => (g ρ).bind fun ds ρ' => yD (itE ds) ρ'
variable {z : Nat -> Env -> Prop}
instance {m : MA} {g : G (List D)} [Ag z m g] : Ag z (RU m) (Y2 g) := ⟨fun ρ q h => by
 unfold Y2 at h
 unfold RU
 exact Ag.step h fun ds _ h => by
  unfold itE at h
  split at h
  · exact h
  · exact False.elim h⟩
section
variable {X : Cx} {cls : Nat -> Option Addr} {pn : List Nat} {a e o : Expr} {es tes : List Expr} {pos p apos tp : Pos} {kt : Nat} {m : MA} {x : Str}
theorem zlN (hg : Gl X "enumerate") (hm : X.mg "enumerate" = none) (h : DA X cls pn [a] m) (hs : starEach [a] X.env = [(false, eval a X.env)] := by kernel_rfl) : DI X cls pn (.Tuple tes kt tp) (.Call (.Name "enumerate" p) [a] [] pos) (RU m) :=
  let ⟨_, c, d⟩ := h.h; ⟨_, zlH hg hm c hs, zlM d⟩
end
structure HD (P : Program) (w : World) (K : PySem.W.Frag) (mg : Str -> Option Value) (base : Heap) (cls : Nat -> Option Addr) (m : Str) (k : Nat) (ps : List Str) (tbl : Nat -> Option Fn) : Prop where
  nf : ∀ n, yy n ≠ m
  has : ∀ c C F, cls c = some C -> tbl c = some F -> Cls K C /\ ∃ f fd, ziL K C m f /\ FnOk P w K mg base yg k f fd ps (z9 ⟨K, cls⟩ [] false ps.length (zt F)) /\ Binds K fd ps []
  len : ∀ c F ss q, tbl c = some F -> zt F ss q Z0 -> ss.length = ps.length
section
variable {X : Cx} {cls : Nat -> Option Addr} {pn : List Nat} {e o : Expr} {es : List Expr} {pos apos : Pos} {m : Str} {k : Nat} {ps : List Str} {tbl : Nat -> Option Fn} {ma : ME} {mr : MA}
theorem HD.disp (h : HD X.prog X.w X.K X.mg X.base cls m k ps tbl) (hr : Room k X.A) : zcT X m (zhn ⟨X.K, cls⟩ (fun c => (tbl c).map zt) ps.length) := fun C sp ⟨c, p, hc, hp, e⟩ => by
  have hp : (tbl c).map zt = some p := hp
  cases ht : tbl c with
  | none => rw [ht] at hp; cases hp
  | some F =>
    rw [ht] at hp; cases hp
    obtain ⟨cl, f, fd, a, b, d⟩ := h.has c C F hc ht
    subst e
    exact ⟨cl, k, f, fd, ps, a, b, hr, d⟩
theorem HD.ln (h : HD X.prog X.w X.K X.mg X.base cls m k ps tbl) : ∀ c p ss q, (tbl c).map zt = some p -> p ss q Z0 -> ss.length = ps.length := fun c p ss q hp hq => by
  cases ht : tbl c with
  | none => rw [ht] at hp; cases hp
  | some F => rw [ht] at hp; cases hp; exact h.len c F ss q ht hq
theorem Y3 (h : HD X.prog X.w X.K X.mg X.base cls m k ps tbl) (hr : Room k X.A) (ho : DE X cls pn o ma) (ha : DA X cls pn (e :: es) mr)
    (hst : starEach (e :: es) X.env = (false, eval e X.env) :: starEach es X.env := by kernel_rfl) (hpl : (backTo pos (starEach es X.env)).any (·.1) = false := by kernel_rfl)
    (ht : eval (.Call (.Attribute o m apos) (e :: es) [] pos) X.env = (do
      let ov ← eval o X.env
      standAt apos.atName
      let (f, first) ← holding [ov] (getMethod ov m (do return (← importBound o X.env).getD true))
      callWith pos f first (backTo pos (starEach (e :: es) X.env)) (backToKw pos (keywordEach [] X.env))) := by kernel_rfl) :
    DE X cls pn (.Call (.Attribute o m apos) (e :: es) [] pos) (RA (fun c => (tbl c).map zt) ma mr) :=
  let ⟨_, pa, ja⟩ := ho.h; let ⟨_, pb, jb⟩ := ha.h; ⟨_, zjd pa (h.disp hr) pb hst hpl ht, zeI h.nf ja jb h.ln⟩
theorem j3 (h : HD X.prog X.w X.K X.mg X.base cls m k ps tbl) (hr : Room k X.A) (ho : DE X cls pn o ma)
    (ht : eval (.Call (.Attribute o m apos) [] [] pos) X.env = (do
      let ov ← eval o X.env
      standAt apos.atName
      let (f, first) ← holding [ov] (getMethod ov m (do return (← importBound o X.env).getD true))
      callWith pos f first (backTo pos (starEach [] X.env)) (backToKw pos (keywordEach [] X.env))) := by kernel_rfl) :
    DE X cls pn (.Call (.Attribute o m apos) [] [] pos) (RA (fun c => (tbl c).map zt) ma zfJ) :=
  let ⟨_, pa, ja⟩ := ho.h; ⟨_, zho pa (h.disp hr) ht, zeI h.nf ja zhf h.ln⟩
end
def RV (j : Nat) (p : JQ) : ME := fun ρ q => V1 ρ[j]? fun o => p [.val o] (fun d _ => Jp d = true /\ q d ρ) Z0
section
variable {Γ : Cn} {pn : List Nat}
theorem zjz {j : Nat} {p : JQ} (hn : ∀ ss q, p ss q Z0 -> ss.length = 1) : JE Γ pn (V0 (z9 Γ [] false 1 p) [] E0 (JC (Qn j) Zm)) (RV j p) := fun S σ ρ H τ Q q hp R hm hq => by
  have hm : V1 ρ[j]? _ := hm
  cases e : ρ[j]? with
  | none => rw [e] at hm; exact False.elim hm
  | some s =>
    rw [e] at hm
    cases s with
    | no => exact False.elim hm
    | val d =>
      obtain ⟨v, e1, r⟩ := R.val j d e
      refine ⟨v, e1, ?_⟩
      show z9 Γ [] false 1 p ([v] ++ []) H Q E0
      rw [List.append_nil]
      refine ⟨rfl, ⟨zD S σ ρ, H, fun _ => none⟩, [.val d], _, fun _ _ => rfl, rfl, Ul R (.cons r .nil), hm, fun w d' H' σ' ρ' os ⟨R', r'⟩ _ q' => ?_⟩
      obtain ⟨a, b⟩ := Um R R' r'
      exact hq w d' H' ρ a b q'.2
    | own o =>
      obtain ⟨x, e1, ow, nC, _⟩ := R.own j o e
      refine ⟨_, e1, ?_⟩
      show z9 Γ [] false 1 p ([.ref x] ++ []) H Q E0
      rw [List.append_nil]
      have R0 : Rel Γ ⟨fun a => zD S σ ρ a /\ a ≠ x, H, fun _ => none⟩ H ([V.ref x].map some) [.val o] [] := by
        have no : ∀ i, ¬ yG [Slot.val o] i := fun i ⟨u, h⟩ => by
          cases i with
          | zero => simp at h
          | succ i => simp at h
        have he : ∀ b, zD ⟨fun a => zD S σ ρ a /\ a ≠ x, H, fun _ => none⟩ ([V.ref x].map some) [.val o] b -> zD S σ ρ b /\ b ≠ x := fun b h => h.elim id fun ⟨i, hi, _⟩ => absurd hi (no i)
        have ow' := ow.up (E' := zD ⟨fun a => zD S σ ρ a /\ a ≠ x, H, fun _ => none⟩ ([V.ref x].map some) [.val o]) (H' := H) (fun _ z => z) (fun b _ z => (he b z).1) fun _ _ _ z => z
        exact {
          len := rfl
          val := fun i d h => by
            cases i with
            | zero => simp at h; subst h; exact ⟨_, rfl, ow'.rep fun z => (he x z).2 rfl⟩
            | succ i => simp at h
          own := fun i o h => absurd ⟨o, h⟩ (no i)
          pin := fun i p h => by cases h
          inj := fun i j p hi => absurd hi (no i)
          dom := fun a h => yY R h.1
          fr := fun b o h _ => h
          tmp := fun x h => nomatch h }
      refine ⟨rfl, _, [.val o], _, fun _ _ => rfl, rfl, R0, hm, fun w d' H' σ' ρ' os ⟨R', r'⟩ _ q' => ?_⟩
      have R2 : Rel Γ S H' σ ρ τ := R.grow fun b o h => R'.fr b o h fun i => by simp
      rw [r'.flat q'.1]
      exact hq _ d' H' ρ R2 (ZS q'.1) q'.2
end
def RW (r : RF) (ρ : Env) : O D := match r with | .ok d _ => (if Jp d = true then .ok d ρ else .no) | _ => .no
def Vy (j : Nat) (F : Fn) : G D := fun ρ => (yD (Q4 ρ[j]?) ρ).bind fun o ρ => RW (F [.val o]) ρ
theorem zjA {s : Option Slot} {k : D -> Prop} (h : jA k (Q4 s)) : V1 s k := by
  unfold Q4 at h
  split at h
  · exact h
  · exact h
  · exact False.elim h
instance {j : Nat} {F : Fn} : Ag z (RV j (zt F)) (Vy j F) := ⟨fun ρ q h => by
 unfold Vy at h
 unfold RV
 refine zjA (yw (jU (O.on_bind h)) fun o h => ?_)
 unfold zt
 unfold RW at h
 cases e : F [.val o] with
 | no => rw [e] at h; exact False.elim h
 | ex k => rw [e] at h; exact False.elim h
 | ok d os =>
  rw [e] at h
  dsimp only at h ⊢
  split at h
  · exact ⟨‹_›, h⟩
  · exact False.elim h⟩
section
variable {X : Cx} {cls : Nat -> Option Addr} {pn : List Nat} {pos p py : Pos} {x y : Str}
theorem zjB {k j : Nat} {a0 : Str} {F : JQ} (h : HM X.prog X.w X.K X.mg X.base cls x k [a0] [] false F) (hr : Room k X.A) (hg : Gl X x) (j' : X.N[j]? = some y := by kernel_rfl)
    (hvis : ZN X.env.scope y := by first | exact Or.inl rfl | exact Or.inr (Or.inl rfl) | exact Or.inr (Or.inr rfl)) (hyd : (y == ("__debug__" : Str)) = false := by decide) (hcd : (y == ("__classdict__" : Str)) = false := by decide) (hd : (x == ("__debug__" : Str)) = false := by decide)
    (hs : starEach [.Name y py] X.env = [(false, eval (.Name y py) X.env)] := by kernel_rfl) : DE X cls pn (.Call (.Name x p) [.Name y py] [] pos) (RV j F) :=
  ⟨_, Ue h.has hr hg (jk (Qo j' hvis hyd hcd) jR hs) hd hs rfl, zjz h.len⟩
end
end M
namespace M
open PySem L2
def noF : Fn := fun _ => .no
theorem FnOk.no {P : Program} {w : World} {K : PySem.W.Frag} {mg : Str -> Option Value} {base : Heap} {k : Nat} {f : Addr} {fd : FuncData} {ps : List Str} {Γ : Cn} {pn : List Nat} {fr : Bool} {n : Nat} : FnOk P w K mg base yg k f fd ps (z9 Γ pn fr n (zt noF)) :=
  ⟨fun vs H Q E ⟨_, _, _, _, _, _, _, h, _⟩ => False.elim h, fun A outer s H args us vs Q E _ _ _ _ ⟨_, _, _, _, _, _, _, h, _⟩ => False.elim h⟩
theorem zlO {ss : List Slot} {q z : D -> List D -> Prop} {P : Prop} (h : zt noF ss q z) : P := False.elim h
end M
namespace M
open PySem L2
def RX (z : Str) (y : D) : Option D := (Q6 y).bind fun ys => if (ys.map (·.length)).sum + ys.length * z.length <= 100000 then some (.str (Txt.join z ys)) else none
def zgm (a : ME) (b : MO) : ME := fun ρ q => a ρ fun x ρ1 => match x with | .str z => b ρ1 fun r ρ2 => r.on ρ2 fun y => jA (fun d => q d ρ2) (RX z y) | _ => False
def RY (a : G D) (b : G Opd) : G D := fun ρ => (a ρ).bind fun x ρ1 => match x with | .str z => (b ρ1).bind fun r ρ2 => yD ((r.get ρ2).bind fun y => RX z y) ρ2 | _ => .no
variable {z : Nat -> Env -> Prop}
instance {a : ME} {b : MO} {ga : G D} {gb : G Opd} [Ag z a ga] [Ag z b gb] : Ag z (zgm a b) (RY ga gb) := ⟨fun ρ q h => by
 unfold RY at h
 unfold zgm
 exact Ag.step h fun x ρ1 h => by
  cases x with
  | str w => exact Ag.step h fun r ρ2 h => Qw (yw (jZ (jU h)) fun _ h => h)
  | _ => exact False.elim h⟩
section
variable {X : Cx} {cls : Nat -> Option Addr} {pn : List Nat} {a e : Expr} {cpos apos : Pos} {ma : ME} {mb : MO}
theorem zlP (ha : DE X cls pn a ma) (hb : DO X cls pn e mb) (hbase : attributeBase a "join" X.env (eval a X.env) = eval a X.env := by kernel_rfl) (hfew : ((backTo cpos (starEach [e] X.env)).all (fun x => !x.1) && (backToKw cpos (keywordEach [] X.env)).all (fun x => x.1.isSome)
      && decide (([e] : List Expr).length + ([] : List Keyword).length + (if ([] : List Keyword).isEmpty then 0 else 1) < 30)) = true := by kernel_rfl) (hline : (apos.endLine == cpos.line) = true := by kernel_rfl) (hs : starEach [e] X.env = [(false, eval e X.env)] := by kernel_rfl) :
    DE X cls pn (.Call (.Attribute a "join" apos) [e] [] cpos) (zgm ma mb) := by
  obtain ⟨ta, pa, ja⟩ := ha.h
  obtain ⟨tb, pb, jb⟩ := hb.h
  refine ⟨_, zkg PySem.F.plainAttrs_str PySem.F.slot_str_join PySem.F.type_str_join zk_ pa (jk pb jR hs) hbase hfew hline hs rfl, fun S σ ρ H τ Q q hp R hm hq => ja S σ ρ H τ _ _ hp R hm fun v d H1 ρ1 R1 r1 q1 => ?_⟩
  cases d with
  | str w =>
    cases zeF r1
    refine ⟨rfl, jb S σ ρ1 H1 τ _ _ hp R1 q1 fun v2 r2 H2 ρ2 τ2 R2 o2 q2 => ?_⟩
    obtain ⟨dy, ry, q2⟩ := R2.read o2 q2
    unfold RX at q2
    cases e : Q6 dy with
    | none => rw [e] at q2; exact False.elim q2
    | some ys =>
      rw [e] at q2
      dsimp only [Option.bind_some] at q2
      split at q2
      · rename_i hl
        obtain ⟨b, rfl, sq⟩ := Vx ry e
        exact ⟨w, b, ys, rfl, rfl, sq, Nat.le_trans hl (by decide), hq _ _ H2 ρ2 R2.cut (.str _) q2⟩
      · exact False.elim q2
  | _ => exact False.elim q1
end
end M
namespace M
open PySem L2
theorem Jl {m : Str} (h : (("" : Str) :: fNames).contains m = false) (n : Nat) : yy n ≠ m := fun z => by
  have h : ∀ y ∈ (("" : Str) :: fNames), y ≠ m := fun y hy e => by
    subst e
    have := List.contains_iff_mem.mpr hy
    rw [h] at this; cases this
  refine h (yy n) ?_ z
  unfold yy
  rw [List.getD_eq_getElem?_getD]
  cases e : fNames[n]? with
  | none => exact List.mem_cons_self
  | some y => exact List.mem_cons_of_mem _ (List.mem_of_getElem? e)
theorem zS {t : Option Fn} {F X : Fn} (h : t = some F) (e : t = some X) : F = X := Option.some.inj (h.symm.trans e)
theorem UH {t : Option Fn} {F : Fn} (h : t = some F) (e : t = none) : False := by rw [e] at h; cases h
end M
namespace L2
open PySem PySem.Spec PyProof.Rows
def RZ (i j : Int) : Prop := 0 < j /\ j < 18446744073709551616
theorem zjC {X : Cx} : y6 X (binaryOp .FloorDiv) (rI RZ fun i j => .int (i / j)) := opI fun i j _ _ _ _ _ hc q => by
  have h1 : (0 : Int) < j := hc.1
  have h2 : j < 18446744073709551616 := hc.2
  refine floordiv_int (by omega) (by rw [Int.fdiv_eq_ediv_of_nonneg i (by omega)]; exact q) (.inl (PyProof.noPylong_of_log2 ?_))
  have hn : j.natAbs ≠ 0 := by omega
  have hl : j.natAbs < 2 ^ 64 := by have : (2 : Nat) ^ 64 = 18446744073709551616 := by decide
                                    omega
  exact Nat.lt_trans ((Nat.log2_lt hn).mpr hl) (by decide)
end L2
namespace M
open PySem L2
def zh2 : F2 := fI RZ fun i j => .int (i / j)
instance {i j : Int} : Decidable (RZ i j) := inferInstanceAs (Decidable (_ /\ _))
def Z3 := hI RZ fun i j => .int (i / j)
instance : yf zh2 Z3 := inferInstanceAs (yf (fI _ _) (hI _ _))
theorem UI {X : Cx} {cls : Nat -> Option Addr} {pn : List Nat} {a b : Expr} {pos : Pos} {ma mb : MO} (ha : DO X cls pn a ma) (hb : DO X cls pn b mb) : DE X cls pn (.BinOp a .FloorDiv b pos) (JP zh2 ma mb) := Q3 zjC (zaR (fun _ _ => rfl) fun _ _ => rfl) ha hb
end M
namespace M
open PySem L2
abbrev FI (K : PySem.W.Frag) (C : Addr) (m : Str) (f : Addr) : Prop := PySem.W.findIn K (.ref C) m = some (some (.ref f))
abbrev FN0 (K : PySem.W.Frag) (C : Addr) (m : Str) : Prop := PySem.W.findIn K (.ref C) m = some none
abbrev NI (K : PySem.W.Frag) (x : Str) (f : Addr) : Prop := PySem.W.nsIn K mainGlobals x = some (some (.ref f))
abbrev NZ (K : PySem.W.Frag) (x : Str) : Prop := PySem.W.nsIn K mainGlobals x = some none
abbrev CI (K : PySem.W.Frag) (cd : Value) (x : Str) : Prop := PySem.W.codeIn K cd x = true
abbrev KI (K : PySem.W.Frag) (f : Addr) : Prop := PySem.W.keepIn K (.ref f) = true
abbrev LK (K : PySem.W.Frag) (f : Addr) (oc : Value) (od : Option Addr) (x q : Str) (st : Stmt) (kV dc pm : Value) (an : Option Addr) (cd ct : Value) (sl : Array (Option Value)) : Prop := K.lookup f = some ⟨oc, od, .func (PySem.W.fnOf x q (ZH st) (Qc st) (zr st) .none kV dc pm an cd ct), sl⟩
end M
namespace M
open PySem L2
def YC : G zp := (zw (jd (gB (zg hLt (zf 1) (gO (zC ya (zf 0)))))
    (zP (zg zy (zf 0) (zf 1)))
    y9)
  (zP (gC (.int 0))))
def jB : Fn := zQ [] 2 0 false YC
def W4 : G zp := (zP (yU (gCons (zg zcn (gO (gC (.int 0))) (gO (zg WV (zf 0) (gO (zg Vk (gO (gC (.int 10))) (gO (gC (.int 18)))))))) (gCons (zg Qu (zf 0) (gO (gC (.int 2147483647)))) (gCons (gC (.int 0)) gNil)))))
def QW : Fn := zQ [] 1 0 true W4
def UJ : G zp := (zw (YZ 0 (gC (.int 0)) (zg Z3 (gO (zg zy (zf 0) (gO (gC (.int 0))))) (zf 1)))
  (zP (zd 2)))
def UK : G zp := (zP (zg Qu (gO (zg Z3 (zf 3) (gO (gC (.int 7))))) (zf 1)))
def UL : G zp := (zw (z6 3 (zg Qu (gO (zg Uv (zf 3) (gO (zg yv (gO (zg Z3 (zf 3) (gO (gC (.int 2003))))) (gO (gC (.int 40692))))))) (gO (gC (.int 2147483399)))))
  UK)
def UM : G zp := (zw (z6 3 (zg Qu (gO (zg Uv (zf 3) (gO (zg yv (gO (zg Z3 (zf 3) (gO (gC (.int 1009))))) (gO (gC (.int 69621))))))) (gO (gC (.int 2147483647)))))
  UL)
def UN : G zp := (zw (z6 3 (zg Qu (gO (zg Uv (gO (zg yv (gO (zg yv (gO (zg zy (zf 0) (gO (gC (.int 1))))) (gO (zg Uv (gO (gC (.int 7919))) (gO (zg zy (zf 0) (gO (gC (.int 2))))))))) (gO (gC (.int 1))))) (gO (gC (.int 48271))))) (gO (gC (.int 2147483647)))))
  UM)
def UO : G zp := (zw (YZ 0 (gC (.int 2)) (zg yv (gO (zg zy (zf 0) (gO (gC (.int 2))))) (gO (gC (.int 1)))))
  UN)
def W5 : G zp := (zw (jd (gB (zg hGt (gO (zg zy (zf 0) (gO (gC (.int 0))))) (gO (gC (.int 0)))))
    (zw (z6 2 (zg Qu (gO (zg zy (zf 0) (gO (gC (.int 0))))) (zf 1)))
  UJ)
    y9)
  UO)
def zu : Fn := zQ [0] 2 2 false W5
def UP : G zp := (zP (zg RL (zf 3) (gO (RY (gC (.str "")) (gO (z3 (jg (gCons (zv 0 zu (gCons (gC (.int 8)) gNil)) gNil)) [none, some 2, some 0] (zq 0) jl (zg zy (zf 1) (gO (zv 2 zu (gCons (gC (.int 26)) gNil))))))))))
def UQ : G zp := (zw (z6 3 (zg zy (zf 2) (gO (zg yv (gO (zg Uv (gO (gC (.int 2))) (zf 1))) (gO (zv 0 zu (gCons (gC (.int 2)) gNil)))))))
  UP)
def W6 : G zp := (zw (z6 2 (gC (.str "abcdefghijklmnopqrstuvwxyz")))
  UQ)
def J6 : Fn := zQ [0] 2 2 false W6
def YD : G zp := (yi (yX jC 3 (yX QU 2 (zv 0 zu (gCons (zC ya (zf 2)) gNil)))))
def YE : G zp := (zw (Jg (jg (gCons (zd 1) gNil)) (zq 4)
    YD)
  (zP (Vl 3)))
def YF : G zp := (zw (jd (gB (zg jp (gO (zv 0 zu (gCons (gC (.int 2)) gNil))) (gO (gC (.int 0)))))
    (jD 2 (z3 (jg (gCons (zd 1) gNil)) [none, some 0] (zq 0) jl (zv 1 J6 (gCons (zd 0) gNil))))
    y9)
  (zw (jD 3 (yU gNil))
  YE))
def Vz : G zp := (zw (jD 2 (yU (zco ["a", "ab", "abc", "b", "ba", "z", "zzzzzzzz", "aa", "c", "count", "y", "counts"])))
  YF)
def Qh : Fn := zQ [0] 2 3 false Vz
def UR : G zp := (yi (yX jC 3 (yX QU 2 (zv 0 zu (gCons (zC ya (zf 2)) gNil)))))
def US : G zp := (zw (Jg (jg (gCons (zg yv (gO (gC (.int 1))) (gO (zv 0 zu (gCons (zC ya (zf 1)) gNil)))) gNil)) (zq 4)
    UR)
  (zP (Vl 3)))
def W7 : G zp := (zw (jD 2 (jv jM (zf 1)))
  (zw (jD 3 (yU gNil))
  US))
def jy : Fn := zQ [0] 2 3 false W7
def Q7 : G zp := (zP (gTup (gCons (gC (.str "count")) (gCons (zg yv (gO (gC (.int 1))) (gO (zv 0 zu (gCons (zC ya (zf 3)) gNil)))) (gCons (zd 3) gNil)))))
def Q8 : G zp := (zP (gTup (gCons (gC (.str "weigh")) (gCons (zg yv (gO (gC (.int 1))) (gO (zv 0 zu (gCons (zC Z2 (gO (z3 (zI (zd 5)) [none, none] (JJ (yV (zq 0) (yV (zq 1) J3)) 2) jl (zd 1)))) gNil)))) (gCons (zd 5) gNil)))))
def YG : G zp := (zw (z6 5 (z3 (zI (zv 0 jy (gCons (zd 1) gNil))) [none, some 0, some 4] (zq 0) jl (gTup (gCons (zd 0) (gCons (zg yv (gO (gC (.int 1))) (gO (zv 1 zu (gCons (zd 2) gNil)))) gNil)))))
  Q8)
def Q9 : G zp := (zP (gTup (gCons (gC (.str "houses")) (gCons (zg yv (gO (gC (.int 1))) (gO (zv 0 zu (gCons (zC ya (zf 6)) gNil)))) (gCons (zd 7) (gCons (zd 6) gNil))))))
def YH : G zp := (zw (z6 7 (zg yv (gO (gC (.int 1))) (gO (zv 0 zu (gCons (zC Wf (gO (z3 (zI (zd 6)) [none] (zq 0) jl (zC ya (zf 0))))) gNil)))))
  Q9)
def YI : G zp := (zw (z6 6 (z3 (jg (gCons (zg yv (gO (gC (.int 1))) (gO (zv 0 zu (gCons (zg zy (gO (yU (gCons (gC (.int 2)) (gCons (gC (.int 4)) (gCons (gC (.int 5)) gNil))))) (gO (zv 0 zu (gCons (gC (.int 3)) gNil)))) gNil)))) gNil)) [none, some 0, some 1] (zq 0) jl (zv 1 jy (gCons (zd 2) gNil))))
  YH)
def WC : G zp := (zw (jd (gB (zg jp (zf 2) (gO (gC (.int 1)))))
    (zw (z6 4 (zg zy (gO (yU (gCons (gC (.int 3)) (gCons (gC (.int 3)) (gCons (zg Vk (gO (gC (.int 10))) (gO (gC (.int 9)))) gNil))))) (gO (zv 0 zu (gCons (gC (.int 3)) gNil)))))
  YG)
    y9)
  YI)
def WD : G zp := (zw (jd (gB (zg jp (zf 2) (gO (gC (.int 0)))))
    (zw (z6 3 (zv 0 jy (gCons (zd 1) gNil)))
  Q7)
    y9)
  WC)
def zbK : G zp := (zw (z6 2 (zv 0 zu (gCons (gC (.int 3)) gNil)))
  WD)
def Zi : Fn := zQ [0] 2 6 false zbK
def W8 : G zp := (jd (j9 (zc_ (zf 0)))
    JW
    y9)
def yc : Fn := zQ [] 2 0 false W8
def YJ : G zp := (zP (zC YA (gO (z3 (Wd (zd 0)) [none] (zq 0) jl (JV Zq Zq (gC (.str "a")) (zd 0) (gC (.str "z")))))))
def VA : G zp := (zw (jd (gOr (j9 (gB (zg Qv (zf 0) (gO (gC (.ty "str")))))) (j9 (gB (JV U0 U0 (gC (.int 1)) (zC ya (zf 0)) (gC (.int 8))))))
    (zP (gC (.bl false)))
    y9)
  YJ)
def ju : Fn := zQ [] 1 0 false VA
def ZF : G zp := (zP (Jq (zC YA (gO (z3 (zI (zd 0)) [none] (zq 0) jl (zA ju (gCons (zd 0) gNil))))) (zg jp (gO (zC Y1 (zf 0))) (gO (zC ya (zf 0))))))
def W9 : G zp := (zw (jd (j9 (gB (zg Qv (zf 0) (gO (gC (.ty "list"))))))
    (zP (gC (.bl false)))
    y9)
  ZF)
def yZ : Fn := zQ [] 1 0 false W9
def QB : G zp := (zP (Jq (zg Qv (zf 0) (gO (gC (.ty "list")))) (JV U0 U0 (gC (.int 1)) (zC ya (zf 0)) (gC (.int 5)))))
def z5 : Fn := zQ [] 1 0 false QB
def Y4 : G zp := (zP (Jq (zA z5 (gCons (zd 0) gNil)) (zA yZ (gCons (zd 0) gNil))))
def jn : Fn := zQ [] 1 0 false Y4
def UT : G zp := (zP (Jq (zg Qv (zf 0) (gO (gC (.ty "int")))) (RM (zg Qv (zf 0) (gO (gC (.ty "bool")))))))
def JL : Fn := zQ [] 1 0 false UT
def UU : G zp := (zP (Jq (zA JL (gCons (zd 0) gNil)) (JV U0 U0 (gC (.int 1)) (zd 0) (zd 1))))
def yE : Fn := zQ [] 2 0 false UU
def VB : G zp := (zw (J4 0 0 (zd 1))
  (J4 0 1 (jv jM (zf 2))))
def zbL : G zp := (zw (yi (zA yc (gCons (zA yE (gCons (zd 1) (gCons (zC ya (zf 2)) gNil))) (gCons (gC (.str "many is not from 1 to how many names there are")) gNil))))
  VB)
def zff : G zp := (zw (yi (zA yc (gCons (zA jn (gCons (zd 2) gNil)) (gCons (gC (.str "the names are no list of one to five unlike names")) gNil))))
  zbL)
def ZK : Fn := zQ [0] 3 0 false zff
def WE : G zp := (zP (Jq (zA ju (gCons (zg zy (zf 0) (gO (gC (.int 0)))) gNil)) (zA yE (gCons (zg zy (zf 0) (gO (gC (.int 1)))) (gCons (gC (.int 1000000000)) gNil)))))
def zbM : G zp := (zw (jd (gOr (j9 (gB (zg Qv (zf 0) (gO (gC (.ty "tuple")))))) (gB (zg hNe (gO (zC ya (zf 0))) (gO (gC (.int 2))))))
    (zP (gC (.bl false)))
    y9)
  WE)
def Zj : Fn := zQ [] 1 0 false zbM
def VC : G zp := (zw (J4 0 2 (zd 1))
  (J4 0 3 (jv jM (zf 2))))
def zbN : G zp := (zw (yi (zA yc (gCons (zA yE (gCons (zd 1) (gCons (zC Z2 (gO (z3 (zI (zd 2)) [none] (zq 0) jl (zg zy (zf 0) (gO (gC (.int 1))))))) gNil))) (gCons (gC (.str "least is not from 1 to the sum of the weights")) gNil))))
  VC)
def zbO : G zp := (zw (yi (zA yc (gCons (zA yZ (gCons (z3 (zI (zd 2)) [none] (zq 0) jl (zg zy (zf 0) (gO (gC (.int 0))))) gNil)) (gCons (gC (.str "a name stands twice among the pairs")) gNil))))
  zbN)
def zbP : G zp := (zw (yi (zA yc (gCons (zC YA (gO (z3 (zI (zd 2)) [none] (zq 0) jl (zA Zj (gCons (zd 0) gNil))))) (gCons (gC (.str "a pair is no tuple of a name and a weight")) gNil))))
  zbO)
def zfg : G zp := (zw (yi (zA yc (gCons (zA z5 (gCons (zd 2) gNil)) (gCons (gC (.str "the pairs are no list of one to five")) gNil))))
  zbP)
def ZL : Fn := zQ [0] 3 0 false zfg
def Zt : G zp := (zP (jv jM (gO (zC (jI 1) (zf 0)))))
def Zu : Fn := zQ [] 1 0 false Zt
def Zv : G zp := (zP (z3 (zI (zC (jI 3) (zf 0))) [none] (zq 0) jl (zg zy (zf 0) (gO (gC (.int 0))))))
def Zw : Fn := zQ [] 1 0 false Zv
def QC : G zp := (zw (Jg (zI (zC (jI 5) (zf 0))) (zq 2)
    (yi (yX Qg 1 (zd 2))))
  (zP (Vl 1)))
def Zk : G zp := (zw (jD 1 (yU gNil))
  QC)
def jV : Fn := zQ [] 1 2 false Zk
def J7 : G zp := (zP (yU gNil))
def yx : Fn := zQ [] 1 0 false J7
def QD (c : Nat) : Option Fn := match c with | 12 => some Zu | 13 => some Zw | 14 => some jV | 17 => some yx | _ => none
def Y5 : G zp := (zP (yU (gCons (zC (jI 7) (zf 0)) (gCons (zC (jI 8) (zf 0)) gNil))))
def Y6 : Fn := zQ [] 1 0 false Y5
def jW (c : Nat) : Option Fn := match c with | 12 => some yx | 13 => some yx | 14 => some yx | 17 => some Y6 | _ => none
def JU (R : Nat -> Option Fn) : G zp := (zw (Jg (zI (yW jW (zd 0) gNil)) (zq 2)
    (z6 1 (Zr QT (zf 1) (gO (yW R (zd 2) gNil)))))
  (zP (jv QV (zf 1))))
def Ys (R : Nat -> Option Fn) : G zp := (zw (z6 1 (yW QD (zd 0) gNil))
  (JU R))
def jh (R : Nat -> Option Fn) : Fn := zQ [] 1 2 false (Ys R)
def Z4 (R : Nat -> Option Fn) (c : Nat) : Option Fn := match c with | 12 => some (jh R) | 13 => some (jh R) | 14 => some (jh R) | 17 => some (jh R) | _ => none
def j4 : Nat -> Nat -> Option Fn
  | 0 => fun _ => none
  | n + 1 => Z4 (j4 n)
def VD (R : Nat -> Option Fn) : G zp := (zP (zg yv (gO (gC (.int 1))) (gO (zg zgj (gO (z3 (zI (yW jW (zd 0) gNil)) [none] (zq 0) jl (yW R (zd 0) gNil))) (gO (gC (.int 0)))))))
def jK (R : Nat -> Option Fn) : Fn := zQ [] 1 0 false (VD R)
def VE (R : Nat -> Option Fn) (c : Nat) : Option Fn := match c with | 12 => some (jK R) | 13 => some (jK R) | 14 => some (jK R) | 17 => some (jK R) | _ => none
def J8 : Nat -> Nat -> Option Fn
  | 0 => fun _ => none
  | n + 1 => VE (J8 n)
def Zx (R : Nat -> Option Fn) : G zp := (zP (zg yv (gO (gC (.int 1))) (gO (zC Z2 (gO (z3 (zI (yW jW (zd 0) gNil)) [none] (zq 0) jl (yW R (zd 0) gNil)))))))
def yN (R : Nat -> Option Fn) : Fn := zQ [] 1 0 false (Zx R)
def QX (R : Nat -> Option Fn) (c : Nat) : Option Fn := match c with | 12 => some (yN R) | 13 => some (yN R) | 14 => some (yN R) | 17 => some (yN R) | _ => none
def jz : Nat -> Nat -> Option Fn
  | 0 => fun _ => none
  | n + 1 => QX (jz n)
def Yt : G zp := (yi (zA yc (gCons (zg U0 (gO (yW (jz 6) (zd 0) gNil)) (gO (gC (.int 12)))) (gCons (gC (.str "a wish has at most twelve parts")) gNil))))
def Yu : G zp := (zw (yi (zA yc (gCons (zg U0 (gO (yW (J8 6) (zd 0) gNil)) (gO (gC (.int 4)))) (gCons (gC (.str "a wish is at most four deep")) gNil))))
  Yt)
def U2 : G zp := (zw (yi (zA yc (gCons (zg U0 (gO (zC ya (gO (yW (j4 6) (zd 0) gNil)))) (gO (gC (.int 5)))) (gCons (gC (.str "a wish has at most five names in all")) gNil))))
  Yu)
def jQ : Fn := zQ [] 1 0 false U2
def R6 : G zp := (zw (J4 0 5 (z3 (zI (zd 3)) [none] (zq 0) jl (jv jM (zf 0))))
  (yi (Vy 0 jQ)))
def R7 : G zp := (zw (J4 0 0 (zd 1))
  (zw (J4 0 4 (zd 2))
  R6))
def R8 : G zp := (zw (yi (zA yc (gCons (zA yE (gCons (zd 2) (gCons (zC Wf (gO (z3 (zI (zd 3)) [none] (zq 0) jl (zC ya (zf 0))))) gNil))) (gCons (gC (.str "each is not from 1 to the smallest house")) gNil))))
  R7)
def R9 : G zp := (zw (yi (zA yc (gCons (zA yE (gCons (zd 1) (gCons (zC ya (zf 3)) gNil))) (gCons (gC (.str "many is not from 1 to how many houses there are")) gNil))))
  R8)
def zaa : G zp := (zw (yi (zA yc (gCons (zC YA (gO (z3 (zI (zd 3)) [none] (zq 0) jl (zA jn (gCons (zd 0) gNil))))) (gCons (gC (.str "a house is no list of one to five unlike names")) gNil))))
  R9)
def zdD : G zp := (zw (yi (zA yc (gCons (zA z5 (gCons (zd 3) gNil)) (gCons (gC (.str "the houses are no list of one to five")) gNil))))
  zaa)
def QY : Fn := zQ [0] 4 0 false zdD
def zh3 : G zp := (zw JW
  (zw JW
  (zw JW
  JW)))
def zab : Fn := zQ [0] 3 0 false zh3
def zac (R : Fn) : G zp := (zw (jd (gB (zg jp (gO (zg zy (zf 0) (gO (gC (.int 0))))) (gO (gC (.str "then")))))
    (zP (Yl 17 zab (gCons (zA R (gCons (zg zy (zf 0) (gO (gC (.int 1)))) gNil)) (gCons (zA R (gCons (zg zy (zf 0) (gO (gC (.int 2)))) gNil)) gNil))))
    y9)
  (zw JW
  (zw JW
  JW)))
def zad (R : Fn) : G zp := (zw (jd (gB (zg jp (gO (zg zy (zf 0) (gO (gC (.int 0))))) (gO (gC (.str "houses")))))
    (zP (Yl 14 QY (gCons (zg zy (zf 0) (gO (gC (.int 1)))) (gCons (zg zy (zf 0) (gO (gC (.int 2)))) (gCons (z3 (zI (zg zy (zf 0) (gO (gC (.int 3))))) [none] (zq 0) jl (jv jM (zf 0))) gNil)))))
    y9)
  (zac R))
def zae (R : Fn) : G zp := (zw (jd (gB (zg jp (gO (zg zy (zf 0) (gO (gC (.int 0))))) (gO (gC (.str "weigh")))))
    (zP (Yl 13 ZL (gCons (zg zy (zf 0) (gO (gC (.int 1)))) (gCons (jv jM (gO (zg zy (zf 0) (gO (gC (.int 2)))))) gNil))))
    y9)
  (zad R))
def UV (R : Fn) : G zp := (zw (jd (gB (zg jp (gO (zg zy (zf 0) (gO (gC (.int 0))))) (gO (gC (.str "count")))))
    (zP (Yl 12 ZK (gCons (zg zy (zf 0) (gO (gC (.int 1)))) (gCons (jv jM (gO (zg zy (zf 0) (gO (gC (.int 2)))))) gNil))))
    y9)
  (zae R))
def J9 : Nat -> Fn
  | 0 => noF
  | n + 1 => zQ [] 1 1 false (UV (J9 n))
def Z5 : G zp := (yi (yX jC 3 (yX QU 2 (zv 0 zu (gCons (zC ya (zf 2)) gNil)))))
def Z6 : G zp := (zw (zdd 1000 (gB (zg (Uz true) (zf 2) (gO (yU gNil))))
    Z5)
  (zP (Vl 3)))
def UW : G zp := (zw (jD 2 (jv jM (zf 1)))
  (zw (jD 3 (yU gNil))
  Z6))
def ji : Fn := zQ [0] 2 2 false UW
def Y7 : G zp := (zP (zg YY (gO (zC ya (gO (z3 (zI (zC (jI 1) (zf 0))) [none, some 1] (zq 0) (gB (zg (Zs false) (zf 0) (zf 1))) (zd 0))))) (gO (zC (jI 0) (zf 0)))))
def QZ : Fn := zQ [] 2 0 false Y7
def Y8 : G zp := (zP (zg YY (gO (zC Z2 (gO (z3 (zI (zC (jI 3) (zf 0))) [none, some 1] (zq 0) (gB (zg (Zs false) (gO (zg zy (zf 0) (gO (gC (.int 0))))) (zf 1))) (zg zy (zf 0) (gO (gC (.int 1)))))))) (gO (zC (jI 2) (zf 0)))))
def Q0 : Fn := zQ [] 2 0 false Y8
def Qi : G zp := (zP (zg YY (gO (zC ya (gO (z3 (zI (zd 1)) [none, some 2] (zq 0) (gB (zg (Zs false) (zf 0) (zf 1))) (zd 0))))) (gO (zC (jI 4) (zf 0)))))
def jw : Fn := zQ [] 3 0 false Qi
def jx (c : Nat) : Option Fn := match c with | 14 => some jw | _ => none
def Yv : G zp := (zP (zg YY (gO (zC ya (gO (z3 (zI (zC (jI 5) (zf 0))) [none, some 1, some 0] (zq 0) (gB (yW jx (zd 2) (gCons (zd 0) (gCons (zd 1) gNil)))) (zd 0))))) (gO (zC (jI 0) (zf 0)))))
def QE : Fn := zQ [] 2 0 false Yv
def Qj (c : Nat) : Option Fn := match c with | 12 => some QZ | 13 => some Q0 | 14 => some QE | _ => none
def y0 : G zp := (jd (gB (yW Qj (zd 0) (gCons (jJ (zf 1) jm (yz (zd 2))) gNil)))
    (zP (zd 2))
    y9)
def Y9 : G zp := (zw (Jg (Jf (gCons (gC (.int 1)) (gCons (zg yv (gO (zC ya (zf 1))) (gO (gC (.int 1)))) gNil))) (zq 2)
    y0)
  (zP (gC .non)))
def jo : Fn := zQ [] 2 1 false Y9
def Jj : G zp := (zP (zA jo (gCons (zd 0) (gCons (zd 1) gNil))))
def y3 : Fn := zQ [] 2 0 false Jj
def Zy (R : Nat -> Option Fn) : G zp := (zP (gIf (gB (zg zc8 (zf 3) (gO (gC .non)))) (gC .non) (zg yv (zf 2) (zf 3))))
def Zz (R : Nat -> Option Fn) : G zp := (zw (z6 3 (yW R (zC (jI 8) (zf 0)) (gCons (jJ (zf 1) (yz (zd 2)) jm) gNil)))
  (Zy R))
def ZA (R : Nat -> Option Fn) : G zp := (zw (jd (gB (zg zc8 (zf 2) (gO (gC .non))))
    (zP (gC .non))
    y9)
  (Zz R))
def Yw (R : Nat -> Option Fn) : G zp := (zw (z6 2 (yW R (zC (jI 7) (zf 0)) (gCons (zd 1) gNil)))
  (ZA R))
def Yx (R : Nat -> Option Fn) : Fn := zQ [] 2 2 false (Yw R)
def Z7 (R : Nat -> Option Fn) (c : Nat) : Option Fn := match c with | 12 => some y3 | 13 => some y3 | 14 => some y3 | 17 => some (Yx R) | _ => none
def j5 : Nat -> Nat -> Option Fn
  | 0 => fun _ => none
  | n + 1 => Z7 (j5 n)
def QF : G zp := (zP (yW (j5 6) (zd 0) (gCons (zd 1) gNil)))
def zaf : G zp := (zw (jd (j9 (gB (zA yZ (gCons (zd 1) gNil))))
    JW
    y9)
  QF)
def QG : Fn := zQ [] 2 0 false zaf
def zfh : G zp := (zP (zg Ux (gO (zA QG (gCons (zd 0) (gCons (zd 1) gNil)))) (gO (gC .non))))
def ZM : Fn := zQ [] 2 0 false zfh
def Jy : G zp := (z6 2 (zg yv (zf 2) (gO (zg Uv (zf 4) (gO (zC zaX (gO (zg (Zs false) (zf 3) (zf 1)))))))))
def Z8 : G zp := (zP (zg WV (zf 2) (gO (zg zy (zf 0) (gO (gC (.int 1)))))))
def Z9 : G zp := (zw (Jg (zI (zg zy (zf 0) (gO (gC (.int 2))))) (JJ (yV (zq 3) (yV (zq 4) J3)) 2)
    Jy)
  Z8)
def Ja : G zp := (z6 7 (zg yv (zf 7) (gO (zC zaX (gO (zg (Zs false) (zf 3) (zf 1)))))))
def Ya : G zp := (z6 5 (zg yv (zf 5) (gO (zC zaX (gO (zg YY (zf 7) (gO (zg zy (zf 0) (gO (gC (.int 2)))))))))))
def Jz : G zp := (zw (Jg (zI (zd 6)) (zq 3)
    Ja)
  Ya)
def Yb : G zp := (zP (zg WV (zf 5) (gO (zg zy (zf 0) (gO (gC (.int 1)))))))
def VF : G zp := (zw (Jg (zI (zg zy (zf 0) (gO (gC (.int 3))))) (zq 6)
    (zw (z6 7 (gC (.int 0)))
  Jz))
  Yb)
def VG : G zp := (zw (jd (gB (zg jp (gO (zg zy (zf 0) (gO (gC (.int 0))))) (gO (gC (.str "weigh")))))
    (zw (z6 2 (gC (.int 0)))
  Z9)
    y9)
  (zw (z6 5 (gC (.int 0)))
  VF))
def zag : G zp := (zw (jd (gB (zg jp (gO (zg zy (zf 0) (gO (gC (.int 0))))) (gO (gC (.str "count")))))
    (zP (zg WV (gO (zC ya (gO (z3 (zI (zg zy (zf 0) (gO (gC (.int 2))))) [none, some 1] (zq 0) (gB (zg (Zs false) (zf 0) (zf 1))) (zd 0))))) (gO (zg zy (zf 0) (gO (gC (.int 1)))))))
    y9)
  VG)
def jj : Fn := zQ [] 2 6 false zag
def YK : G zp := (zP (Jq (zg Qv (zf 4) (gO (gC (.ty "bool")))) (Jq (zg jp (zf 4) (gO (zg YY (gO (zA jj (gCons (zd 1) (gCons (zd 2) gNil)))) (gO (gC (.int 0)))))) (zg (Uz false) (zf 3) (zf 2)))))
def WF : G zp := (zw (z6 4 (zA ZM (gCons (zd 0) (gCons (zd 3) gNil))))
  YK)
def zbQ : G zp := (zw (z6 3 (jv jM (zf 2)))
  WF)
def yO : Fn := zQ [] 3 2 false zbQ
def JX : G zp := (jd (j9 (gB (zA yO (gCons (zd 7) (gCons (zd 6) (gCons (zd 9) gNil))))))
    (zP (gC (.bl false)))
    y9)
def YL : G zp := (jd (j9 (gB (zA yO (gCons (zd 7) (gCons (zd 6) (gCons (Zr QT (gO (zv 3 ji (gCons (zd 9) gNil))) (gO (jJ (zf 4) (yz (gC (.int 5))) (yz (zg yv (gO (gC (.int 5))) (gO (zg Qu (zf 10) (gO (gC (.int 3)))))))))) gNil))))))
    (zP (gC (.bl false)))
    y9)
def JY : G zp := (zw (z6 9 (z3 (Y2 (gCons (zd 5) gNil)) [none, none, some 10] (JJ (yV (zq 0) (yV (zq 1) J3)) 2) (gB (zg jp (gO (zg RK (gO (zg Uw (zf 2) (zf 0))) (gO (gC (.int 1))))) (gO (gC (.int 1))))) (zd 1)))
  YL)
def WG : G zp := (zw (jd (WW (gB (zg Ux (zf 1) (gO (gC .non)))) (j9 (gB (zA yO (gCons (zg zy (zf 1) (gO (gC (.int 0)))) (gCons (zg zy (zf 1) (gO (gC (.int 1)))) (gCons (zd 8) gNil)))))))
    (zP (gC (.bl false)))
    y9)
  (z6 1 (gTup (gCons (zd 7) (gCons (zd 6) gNil)))))
def WH : G zp := (zw (Jg (jg (gCons (zg zc7 (gO (gC (.int 1))) (gO (zC ya (zf 5)))) gNil)) (zq 10)
    JY)
  WG)
def WI : G zp := (zw (Jg (zI (yU (gCons (zd 8) (gCons (jJ (zf 8) jm (yz (zv 3 zu (gCons (gC (.int 13)) gNil)))) (gCons (z3 (zI (zd 8)) [none, some 5] (zq 0) (gB (zg (Zs false) (zf 0) (zf 1))) (zd 0)) (gCons (yU gNil) (gCons (jJ (zf 4) (yz (gC (.int 5))) jm) gNil))))))) (zq 9)
    JX)
  WH)
def WJ : G zp := (zw (z6 8 (zv 3 ji (gCons (zd 4) gNil)))
  WI)
def WK : G zp := (zw (z6 7 (zA (J9 6) (gCons (zd 6) gNil)))
  WJ)
def YM : G zp := (zw (z6 6 (zv 3 Zi (gCons (zd 5) gNil)))
  WK)
def VH : G zp := (zw (z6 5 (jJ (zf 4) jm (yz (zg yv (gO (gC (.int 1))) (gO (zv 3 zu (gCons (gC (.int 5)) gNil)))))))
  YM)
def VI : G zp := (zw (z6 4 (zv 3 Qh (gCons (gC (.int 12)) gNil)))
  VH)
def JB : G zp := (zw (jD 3 (zA QW (gCons (zd 2) gNil)))
  VI)
def VJ : G zp := (zw (Jg (zI (Zr QT (gO (yU (gCons (zA jB (gCons (zd 0) (gCons (gC (.int 0)) gNil))) gNil))) (gO (jJ (zf 0) (yz (gC (.int 1))) (yz (gC (.int 6))))))) (zq 2)
    JB)
  (zP (gC (.bl true))))
def zbR : G zp := (zw (z6 1 (gC .non))
  VJ)
def zbS : Fn := zQ [] 1 10 false zbR
end M
namespace M
open PySem L2
theorem zdE {ρ : Env} {s : Slot} : jS ρ none s = ρ := by cases s <;> rfl
theorem zah {ρ : Env} {j : Nat} {o : D} : jS ρ (some j) (.own o) = Jw ρ j o := rfl
theorem zai {ρ : Env} {x : Option Nat} {d : D} : jS ρ x (.val d) = ρ := by cases x <;> rfl
theorem zbT {ρ : Env} {x : Option Nat} : jS ρ x .no = ρ := by cases x <;> rfl
theorem zaj {ρ ρb : Env} : zZ [] ρb ρ = ρ := rfl
theorem WL {x : Option Nat} {js : List (Option Nat)} {s : Slot} {ρ ρb : Env} : zZ (x :: js) (s :: ρb) ρ = zZ js ρb (jS ρ x s) := rfl
local macro_rules | `(tactic| walk_at "gs") => `(tactic| simp only [zQ, eq_self, zw, jd, z6, jD, zP, yi, y9, gC, zd, Vl, zf, gO, zg, zC, Zr, jv, gCons, gNil, zco, yU, gTup, gB, j9, WW, gOr, Jq, RM, gIf, JV, zc_, zf6, zf1, YZ, J4, zq, J3, yV, JJ, Jg, jg, Jf, zI, Wd, itL, itS, zA, zv, Yl, yX, jm, yW, WL, zaj, zdE, zah, zai, zbT, Jw, Vy, RW, Y2, itE, RY, Z3, zc7, Uw, yz, jJ, jl, zm, zeS, zeT, zR, zdf, zeU, zeV, zeW, zeX, zeY, zeZ, zdg, zdh, zdi, zdj, zgc, zkA, zbw, zbx, UD, zby, zbz, zdk, ze0, zdl, Ym, zdm, ze1, zaZ, ze2, WZ, zhH, Option.bind_some, Option.map_some, Option.bind_none, Option.map_none, yv, WV, Uv, Qu, Vk, hLt, U0, hGt, YY, zcn, Qf, hI, jp, hNe, Ve, zc8, Ux, ze3, ze4, ze5, ze6, ze7, ze8, ze9, RL, ya, QT, jM, zaX, jI, Uy, ZV, ix0, ix1, ix2, ix3, ix4, ix5, ix6, ix7, it0, it1, it2, it3, it4, it5, it6, it7, Qv, Yk, ZW, zjl, List.cons_append, List.nil_append, List.append_nil, List.replicate, List.map_cons, List.map_nil, List.getElem?_cons_zero, List.getElem?_cons_succ, List.set_cons_zero, List.set_cons_succ, List.length_cons, List.length_nil, Nat.reduceAdd, Nat.reduceSub, Nat.reduceLeDiff, Nat.reduceEqDiff, Nat.reduceLT, Nat.zero_add, if_true, if_false, reduceIte, Bool.false_eq_true, Bool.not_true, Bool.not_false, true_and, and_true, and_self, reduceCtorEq, Int.reduceToNat, List.getD_cons_zero, List.getD_cons_succ, Int.reduceLE, Int.reduceLT, Int.reduceNeg, Int.reduceEq, decide_true, decide_false, Bool.true_and, Bool.false_and, Bool.and_true, Bool.and_false, Bool.or_true, Bool.true_or, Bool.or_false, Bool.false_or, List.contains_cons, List.contains_nil, Nat.reduceBEq, String.reduceBEq, Vq, String.reduceEq, List.isEmpty_cons, List.isEmpty_nil, beq_self_eq_true, Int.cast_ofNat_Int])
local macro_rules | `(tactic| walk_at "gsa") => `(tactic| simp only [zQ, eq_self, zw, jd, z6, jD, zP, yi, y9, gC, zd, Vl, zf, gO, zg, zC, Zr, jv, gCons, gNil, zco, yU, gTup, gB, j9, WW, gOr, Jq, RM, gIf, JV, zc_, zf6, zf1, YZ, J4, zq, J3, yV, JJ, Jg, jg, Jf, zI, Wd, itL, itS, zA, zv, Yl, yX, jm, yW, WL, zaj, zdE, zah, zai, zbT, Jw, Vy, RW, Y2, itE, RY, Z3, zc7, Uw, yz, jJ, jl, zm, zeS, zeT, zR, zdf, zeU, zeV, zeW, zeX, zeY, zeZ, zdg, zdh, zdi, zdj, zgc, zkA, zbw, zbx, UD, zby, zbz, zdk, ze0, zdl, Ym, zdm, ze1, zaZ, ze2, WZ, zhH, Option.bind_some, Option.map_some, Option.bind_none, Option.map_none, yv, WV, Uv, Qu, Vk, hLt, U0, hGt, YY, zcn, Qf, hI, jp, hNe, Ve, zc8, Ux, ze3, ze4, ze5, ze6, ze7, ze8, ze9, RL, ya, QT, jM, zaX, jI, Uy, ZV, ix0, ix1, ix2, ix3, ix4, ix5, ix6, ix7, it0, it1, it2, it3, it4, it5, it6, it7, Qv, Yk, ZW, zjl, List.cons_append, List.nil_append, List.append_nil, List.replicate, List.map_cons, List.map_nil, List.getElem?_cons_zero, List.getElem?_cons_succ, List.set_cons_zero, List.set_cons_succ, List.length_cons, List.length_nil, Nat.reduceAdd, Nat.reduceSub, Nat.reduceLeDiff, Nat.reduceEqDiff, Nat.reduceLT, Nat.zero_add, if_true, if_false, reduceIte, Bool.false_eq_true, Bool.not_true, Bool.not_false, true_and, and_true, and_self, reduceCtorEq, Int.reduceToNat, List.getD_cons_zero, List.getD_cons_succ, Int.reduceLE, Int.reduceLT, Int.reduceNeg, Int.reduceEq, decide_true, decide_false, Bool.true_and, Bool.false_and, Bool.and_true, Bool.and_false, Bool.or_true, Bool.true_or, Bool.or_false, Bool.false_or, List.contains_cons, List.contains_nil, Nat.reduceBEq, String.reduceBEq, Vq, String.reduceEq, List.isEmpty_cons, List.isEmpty_nil, beq_self_eq_true, Int.cast_ofNat_Int, *])
inductive All2 {α β : Type} (P : α -> β -> Prop) : List α -> List β -> Prop where
  | nil : All2 P [] []
  | cons {a b l m} (h : P a b) (r : All2 P l m) : All2 P (a :: l) (b :: m)
theorem All2.len {α β : Type} {P : α -> β -> Prop} {l : List α} {m : List β} (h : All2 P l m) : m.length = l.length := by
  induction h with
  | nil => rfl
  | cons _ _ ih => simp [ih]
theorem zbU {g : D -> Env -> Option Env} {e : G D} (I : Env -> Prop) (P : D -> D -> Prop) (hs : ∀ d ρ, I ρ -> ∃ ρ1 y ρ2, g d ρ = some ρ1 /\ e ρ1 = .ok y ρ2 /\ P d y /\ I ρ2) :
    ∀ (ds : List D) (ρ : Env), I ρ -> ∃ ys ρ', z0 g jl e ds ρ = .ok ys ρ' /\ I ρ' /\ All2 P ds ys
  | [], ρ, h => ⟨[], ρ, rfl, h, .nil⟩
  | d :: r, ρ, h => by
    obtain ⟨ρ1, y, ρ2, e1, e2, hp, h2⟩ := hs d ρ h
    obtain ⟨ys, ρ', e3, h3, h4⟩ := zbU I P hs r ρ2 h2
    refine ⟨y :: ys, ρ', ?_, h3, .cons hp h4⟩
    unfold z0
    rw [e1, zR, zm]
    show (O.bind (.ok true ρ1) _) = _
    rw [zm, if_pos rfl, e2, zm, e3, zm]
theorem Ra {g : D -> Env -> Option Env} {e : G D} (I : Env -> Prop) (f : D -> D) (P : D -> Prop) (hs : ∀ d ρ, P d -> I ρ -> ∃ ρ1 ρ2, g d ρ = some ρ1 /\ e ρ1 = .ok (f d) ρ2 /\ I ρ2) :
    ∀ (ds : List D) (ρ : Env), (∀ d ∈ ds, P d) -> I ρ -> ∃ ρ', z0 g jl e ds ρ = .ok (ds.map f) ρ' /\ I ρ'
  | [], ρ, _, h => ⟨ρ, rfl, h⟩
  | d :: r, ρ, hd, h => by
    obtain ⟨ρ1, ρ2, e1, e2, h2⟩ := hs d ρ (hd d List.mem_cons_self) h
    obtain ⟨ρ', e3, h3⟩ := Ra I f P hs r ρ2 (fun x hx => hd x (List.mem_cons_of_mem _ hx)) h2
    refine ⟨ρ', ?_, h3⟩
    unfold z0
    rw [e1, zR, zm]
    show (O.bind (.ok true ρ1) _) = _
    rw [zm, if_pos rfl, e2, zm, e3, zm]; rfl
theorem jX {lo : Int} {n : Nat} : (yr lo n).length = n := by simp [yr]
theorem zak {lo : Int} {n : Nat} {d : D} (h : d ∈ yr lo n) : ∃ i : Nat, i < n /\ d = .int (lo + i) := by
  unfold yr at h
  obtain ⟨i, hi, e⟩ := List.mem_map.mp h
  exact ⟨i, List.mem_range.mp hi, e.symm⟩
theorem Wg (a : Str) : a.length = a.cps.toList.length := by simp [Str.length]
theorem zlQ (a b : Str) : (a ++ b).cps.toList = a.cps.toList ++ b.cps.toList := by
  show (a.cps ++ b.cps).toList = _
  simp
theorem zdF {gi : G (List D)} {js : List (Option Nat)} {g : D -> Env -> Option Env} {c : G Bool} {e : G D} {ρ ρ1 ρb : Env} {ds ys : List D} (hi : gi ρ = .ok ds ρ1) (hl : ds.length <= 100000) (h : z0 g c e ds (JR js ρ1) = .ok ys ρb) : z3 gi js g c e ρ = .ok (.lst ys) (zZ js ρb ρ1) := by
  unfold z3; rw [hi, zm, Vp hl, h]; rfl
theorem jr {i : Nat} {ρ : Env} {ds : List D} (hi : ρ[i]? = some (.val (.lst ds))) : zI (zd i) ρ = .ok ds ρ := by
  unfold zI zd; rw [hi]; rfl
theorem yP {g : G D} {ρ ρ1 : Env} {ds : List D} (hi : g ρ = .ok (.lst ds) ρ1) : zI g ρ = .ok ds ρ1 := by
  unfold zI; rw [hi]; rfl
theorem Qk {i f : Nat} {ρ : Env} {c : Nat} {fs : List (Nat × D)} {d : D} (hi : ρ[i]? = some (.val (.obj c fs))) (hc : 11 <= c) (hf : Uy fs f = some d) : zC (jI f) (zf i) ρ = .ok d ρ := by
  unfold zC zf jI; rw [hi]; simp only [zm, Opd.get, hi, Q4, Option.bind_some, if_pos hc, hf, zR]
theorem Yc {a b : G D} {ρ ρ1 : Env} {k : Bool} (h : a ρ = .ok (.bl k) ρ1) : Jq a b ρ = if k = true then b ρ1 else .ok (.bl false) ρ1 := by
  unfold Jq; rw [h]; rfl
theorem Yd {g : D -> Env -> Option Env} {c : G Bool} {e : G D} (I : Env -> Prop) (t : D -> Bool) (f : D -> D) (P : D -> Prop) (hs : ∀ d ρ, P d -> I ρ -> ∃ ρ1 ρ2, g d ρ = some ρ1 /\ c ρ1 = .ok (t d) ρ2 /\ I ρ2 /\ (t d = true -> ∃ ρ3, e ρ2 = .ok (f d) ρ3 /\ I ρ3)) :
    ∀ (ds : List D) (ρ : Env), (∀ d ∈ ds, P d) -> I ρ -> ∃ ρ', z0 g c e ds ρ = .ok ((ds.filter t).map f) ρ' /\ I ρ'
  | [], ρ, _, h => ⟨ρ, rfl, h⟩
  | d :: r, ρ, hd, h => by
    obtain ⟨ρ1, ρ2, e1, e2, h2, h3⟩ := hs d ρ (hd d List.mem_cons_self) h
    unfold z0
    rw [e1, zR, zm, e2, zm]
    cases ht : t d with
    | true =>
      obtain ⟨ρ3, e3, h4⟩ := h3 ht
      obtain ⟨ρ', e5, h5⟩ := Yd I t f P hs r ρ3 (fun x hx => hd x (List.mem_cons_of_mem _ hx)) h4
      exact ⟨ρ', by rw [if_pos rfl, e3, zm, e5, zm, List.filter_cons, if_pos ht]; rfl, h5⟩
    | false =>
      obtain ⟨ρ', e5, h5⟩ := Yd I t f P hs r ρ2 (fun x hx => hd x (List.mem_cons_of_mem _ hx)) h2
      exact ⟨ρ', by rw [if_neg Bool.false_ne_true, e5, List.filter_cons, if_neg (by rw [ht]; exact Bool.false_ne_true)], h5⟩
theorem zfi {f : D -> Option D} {a : G D} {ρ ρ1 : Env} {x : D} (h : a ρ = .ok x ρ1) : zC f (gO a) ρ = yD (f x) ρ1 := by
  unfold zC gO; rw [h]; rfl
theorem yS {a : G D} {ρ ρ1 : Env} {x : D} (h : a ρ = .ok x ρ1) : zP a ρ = .ok (.rt x) ρ1 := by
  unfold zP; rw [h]; rfl
theorem yh {a : G D} {r : G (List D)} {ρ ρ1 : Env} {x : D} (h : a ρ = .ok x ρ1) : gCons a r ρ = (r ρ1).bind fun ds ρ2 => .ok (x :: ds) ρ2 := by
  unfold gCons; rw [h]; rfl
theorem yo {gi : G (List D)} {js : List (Option Nat)} {g : D -> Env -> Option Env} {c : G Bool} {e : G D} {ρ ρ1 ρb ρ2 : Env} {ds ys : List D} (hi : gi ρ = .ok ds ρ1) (hl : ds.length <= 100000) (h : z0 g c e ds (JR js ρ1) = .ok ys ρb) (hm : zZ js ρb ρ1 = ρ2) : z3 gi js g c e ρ = .ok (.lst ys) ρ2 := by
  rw [zdF hi hl h, hm]
theorem znM {f : D -> D -> Option D} {a b : G D} {ρ ρ1 ρ2 : Env} {x y : D} (h1 : a ρ = .ok x ρ1) (h2 : b ρ1 = .ok y ρ2) : zg f (gO a) (gO b) ρ = yD (f x y) ρ2 := by
  unfold zg gO; rw [h1]; show O.bind ((b ρ1).bind _) _ = _; rw [h2]; rfl
theorem yC {n nl : Nat} {g : G zp} {ss : List Slot} {d : D} {ρ : Env} (hl : ss.length = n) (h : g (ss ++ List.replicate nl .no) = .ok (.rt d) ρ) : zQ [] n nl false g ss = .ok d [] := by
  unfold zQ; rw [if_pos hl, h]; rfl
theorem y4 {F : Fn} {a : G (List D)} {ρ ρ1 : Env} {ds os : List D} {d : D} (h1 : a ρ = .ok ds ρ1) (h2 : F (ds.map .val) = .ok d os) : zA F a ρ = .ok d ρ1 := by
  unfold zA; rw [h1, zm, h2]; rfl
theorem UX {a : G D} {ρ ρ1 : Env} {b : Bool} (h : a ρ = .ok (.bl b) ρ1) : gB a ρ = .ok b ρ1 := by unfold gB; rw [h]; rfl
theorem yH {f : D -> D -> Option D} {a b : G D} {ρ ρ1 ρ2 : Env} {x y d : D} (h1 : a ρ = .ok x ρ1) (h2 : b ρ1 = .ok y ρ2) (h : f x y = some d) : zg f (gO a) (gO b) ρ = .ok d ρ2 := by
  rw [znM h1 h2, h]; rfl
theorem Jb {f : D -> Option D} {a : G D} {ρ ρ1 : Env} {x d : D} (h1 : a ρ = .ok x ρ1) (h : f x = some d) : zC f (gO a) ρ = .ok d ρ1 := by
  rw [zfi h1, h]; rfl
theorem zfj {j : Int} (h : -1000000 <= j /\ j <= 1000000) : UA [.int j] = some (yr 0 j.toNat) := if_pos h
theorem zlR {i j : Int} (h : -1000000 <= i /\ i <= 1000000 /\ -1000000 <= j /\ j <= 1000000) : zdb [.int i, .int j] = some (yr i (j - i).toNat) := if_pos h
theorem WM {g : G (List D)} {ρ ρ1 : Env} {ds xs : List D} (h : g ρ = .ok ds ρ1) (h2 : UA ds = some xs) : jg g ρ = .ok xs ρ1 := by
  unfold jg; rw [h, zm, h2, zR]
theorem zd6 {g : G (List D)} {ρ ρ1 : Env} {ds xs : List D} (h : g ρ = .ok ds ρ1) (h2 : zdb ds = some xs) : Jf g ρ = .ok xs ρ1 := by
  unfold Jf; rw [h, zm, h2, zR]
theorem Ql {gi : G (List D)} {g : D -> Env -> Option Env} {b : G zp} {ρ ρ1 : Env} {ds : List D} (h : gi ρ = .ok ds ρ1) : Jg gi g b ρ = yI g b ds ρ1 := by
  unfold Jg; rw [h, zm]
theorem zx {a b : G zp} {ρ ρ1 : Env} (h : a ρ = .ok .nx ρ1) : zw a b ρ = b ρ1 := by unfold zw; rw [h]; rfl
theorem Qm {a b : G zp} {ρ ρ1 : Env} {d : D} (h : a ρ = .ok (.rt d) ρ1) : zw a b ρ = .ok (.rt d) ρ1 := by unfold zw; rw [h]; rfl
theorem Ua {c : G Bool} {a b : G zp} {ρ ρ1 : Env} (h : c ρ = .ok true ρ1) : jd c a b ρ = a ρ1 := by unfold jd; rw [h]; rfl
theorem Jm {c : G Bool} {a b : G zp} {ρ ρ1 : Env} (h : c ρ = .ok false ρ1) : jd c a b ρ = b ρ1 := by unfold jd; rw [h]; rfl
theorem JM {i : Nat} {a : G D} {ρ ρ1 : Env} {d : D} (h : a ρ = .ok d ρ1) : z6 i a ρ = .ok .nx (ρ1.set i (.val d)) := by unfold z6; rw [h]; rfl
theorem zdG {a : G D} {ρ ρ1 : Env} {d : D} (h : a ρ = .ok d ρ1) : yi a ρ = .ok .nx ρ1 := by unfold yi; rw [h]; rfl
theorem za4 {n nl : Nat} {g : G zp} {ss : List Slot} {d o : D} {ρ : Env} (hl : ss.length = n) (h : g (ss ++ List.replicate nl .no) = .ok (.rt d) (.own o :: ρ)) : zQ [0] n nl false g ss = .ok d [o] := by
  unfold zQ; rw [if_pos hl, h]; rfl
theorem Rb {n nl : Nat} {g : G zp} {ss : List Slot} {o : D} {ρ : Env} (hl : ss.length = n) (h : g (ss ++ List.replicate nl .no) = .ok .nx (.own o :: ρ)) : zQ [0] n nl false g ss = .ok .non [o] := by
  unfold zQ; rw [if_pos hl, h]; rfl
theorem znN {n nl : Nat} {g : G zp} {ss : List Slot} {ρ : Env} (hl : ss.length = n) (h : g (ss ++ List.replicate nl .no) = .ok .nx ρ) : zQ [] n nl false g ss = .ok .non [] := by
  unfold zQ; rw [if_pos hl, h]; rfl
def zdH : D -> Bool | .int _ => true | _ => false
theorem zd7 {d : D} {k : String} (h : Yk d = some k) : JL [.val d] = .ok (.bl (zdH d)) [] := by
  unfold JL UT
  cases d <;> first | (cases h; done) | (walk_at "gs"; rfl)
def Za (c : Nat) : Bool := decide (97 <= c) && decide (c <= 122)
def Jk (x : Str) : Bool := decide (1 <= x.length) && decide (x.length <= 8) && x.cps.toList.all Za
def UY : D -> Bool | .str x => Jk x | _ => false
theorem zh4 (a b : Nat) : (!decide (([b] : List Nat) < [a])) = decide (a <= b) := by
  by_cases h : a <= b
  · rw [decide_eq_true h, decide_eq_false]; rfl
    intro z
    rw [List.cons_lt_cons_iff] at z
    rcases z with z | ⟨_, z⟩
    · omega
    · exact absurd z (List.not_lt_nil _)
  · rw [decide_eq_false h, decide_eq_true]; rfl
    rw [List.cons_lt_cons_iff]
    exact .inl (by omega)
theorem znO : (Str.ofString "a").cps.toList = [97] := by decide +kernel
theorem znP : (Str.ofString "z").cps.toList = [122] := by decide +kernel
theorem zdI {f : Nat -> Bool} : ∀ (l : List Nat), Zp (l.map fun c => D.bl (f c)) = some (l.map f)
  | [] => rfl
  | c :: r => by rw [List.map_cons, Zp, zdI r]; rfl
theorem znQ {f : Nat -> Bool} (l : List Nat) : (l.map f).all id = l.all f := by
  induction l with
  | nil => rfl
  | cons a r ih => rw [List.map_cons, List.all_cons, List.all_cons, ih]; rfl
theorem zgn {s : Slot} (x : Str) : ∃ ρ', z0 (zq 0) jl (JV Zq Zq (gC (.str "a")) (zd 0) (gC (.str "z"))) (x.cps.toList.map fun c => D.str ⟨#[c]⟩) [s] = .ok (x.cps.toList.map fun c => D.bl (Za c)) ρ' /\ ρ'.length = 1 := by
  have h := Ra (g := zq 0) (e := JV Zq Zq (gC (.str "a")) (zd 0) (gC (.str "z"))) (fun ρ => ρ.length = 1) (fun d => match d with | .str y => .bl (Za (y.cps.toList.getD 0 0)) | d => d) (fun d => ∃ c, d = .str ⟨#[c]⟩) (fun d ρ ⟨c, hc⟩ hl => by
    subst hc
    match ρ, hl with
    | [t], _ =>
      refine ⟨_, [.val (.str ⟨#[c]⟩)], rfl, ?_, rfl⟩
      walk_at "gs"
      have e1 : Zq (.str "a") (.str ⟨#[c]⟩) = some (.bl (decide (97 <= c))) := by
        unfold Zq
        dsimp only
        simp only [znO, zh4]
      have e2 : Zq (.str ⟨#[c]⟩) (.str "z") = some (.bl (decide (c <= 122))) := by
        unfold Zq
        dsimp only
        simp only [znP, zh4]
      rw [e1, zR, zm, zdk, zm]
      show _ = O.ok (D.bl (Za c)) _
      unfold Za
      by_cases h : 97 <= c
      · rw [decide_eq_true h, if_pos rfl, e2, Bool.true_and]; rfl
      · rw [decide_eq_false h, if_neg Bool.false_ne_true, Bool.false_and]) (x.cps.toList.map fun c => D.str ⟨#[c]⟩) [s] (fun d hd => by
    obtain ⟨c, _, e⟩ := List.mem_map.mp hd
    exact ⟨c, e.symm⟩) rfl
  obtain ⟨ρ', e, hl⟩ := h
  refine ⟨ρ', ?_, hl⟩
  rw [e, List.map_map]
  rfl
theorem zgo {d : D} {k : String} (h : Yk d = some k) (hx : ∀ x, d = .str x -> x.length <= 100000) : ju [.val d] = .ok (.bl (UY d)) [] := by
  unfold ju VA
  cases d with
  | str x =>
    have hx := hx x rfl
    walk_at "gsa"
    unfold UY Jk
    dsimp only
    by_cases p0 : 1 <= x.length
    · by_cases p1 : x.length <= 8
      · rw [decide_eq_true (show (1 : Int) <= x.length by omega), decide_eq_true (show (x.length : Int) <= 8 by omega), decide_eq_true p0, decide_eq_true p1]
        unfold YJ
        obtain ⟨ρ', e, _⟩ := zgn (s := .no) x
        have hl : (x.cps.toList.map fun c => D.str ⟨#[c]⟩).length <= 100000 := by rw [List.length_map, ← Wg]; exact hx
        walk_at "gs"
        simp only [z3, Wd, zd, List.getElem?_cons_zero, zm, itS, zR, Vp hl, JR, List.map_cons, List.map_nil, e, zf8]
        simp only [zgc, Option.bind_some, YA, zdI, Option.map_some, zR, zm, zaZ, WZ, znQ, Bool.true_and]
      · rw [decide_eq_true (show (1 : Int) <= x.length by omega), decide_eq_false (show ¬ (x.length : Int) <= 8 by omega), decide_eq_false p1]
        walk_at "gs"
    · rw [decide_eq_false (show ¬ (1 : Int) <= x.length by omega), decide_eq_false p0]
      walk_at "gs"
  | _ => first | (cases h; done) | (walk_at "gs"; rfl)
theorem zgp {ns : List Int} {k : Int} (h : 0 <= k) : ∃ i, jB [.val (.fz ns), .val (.int k)] = .ok (.int i) [] := by
  unfold jB YC
  by_cases h1 : k < ns.length
  · refine ⟨ns.getD k.toNat 0, ?_⟩
    walk_at "gs"
    rw [decide_eq_true h1]
    walk_at "gs"
    rw [zop h h1]
    walk_at "gs"
  · refine ⟨0, ?_⟩
    walk_at "gs"
    rw [decide_eq_false h1]
    walk_at "gs"
def yk (o : D) : Prop := ∃ a b c, o = .lst [.int a, .int b, .int c] /\ 0 <= a /\ 0 <= b /\ b < 2147483647 /\ 0 <= c
theorem zlS {c : Int} : ∃ o, QW [.val (.int c)] = .ok o [] /\ yk o := by
  unfold QW W4
  have hp : ZP 10 18 := ⟨by decide, by decide, by decide⟩
  refine ⟨.lst [.int (if c - 10 ^ (18 : Nat) > 0 then c - 10 ^ (18 : Nat) else 0), .int (c % 2147483647), .int 0], ?_, _, _, _, rfl, by split <;> omega, Int.emod_nonneg _ (by decide), Int.emod_lt_of_pos _ (by decide), by decide⟩
  walk_at "gs"
  simp only [if_pos hp]
  walk_at "gs"
theorem zcr {i j : Int} (h : -18446744073709551616 < i /\ i < 18446744073709551616) : CMul i j := .inl ⟨by omega, by omega⟩
theorem zgq {i j : Int} (h : -18446744073709551616 < j /\ j < 18446744073709551616) : CMul i j := .inr ⟨by omega, by omega⟩
theorem zcs {i j : Int} (h : 0 < j /\ j < 18446744073709551616) : RZ i j := h
def zkH (b c : Int) : Int := (b + 7919 * (c + 1) + 1) * 48271 % 2147483647 * ((b + 7919 * (c + 1) + 1) * 48271 % 2147483647 / 1009 + 69621) % 2147483647 * ((b + 7919 * (c + 1) + 1) * 48271 % 2147483647 * ((b + 7919 * (c + 1) + 1) * 48271 % 2147483647 / 1009 + 69621) % 2147483647 / 2003 + 40692) % 2147483399
theorem y7 {o : D} {n : Int} (hw : yk o) (h0 : 0 < n) (h1 : n < 18446744073709551616) : ∃ r o', zu [.own o, .val (.int n)] = .ok (.int r) [o'] /\ 0 <= r /\ r < n /\ yk o' := by
  obtain ⟨a, b, c, rfl, ha, hb, hb', hc⟩ := hw
  unfold zu W5
  by_cases h : 0 < a
  · refine ⟨a % n, .lst [.int (a / n), .int b, .int c], ?_, Int.emod_nonneg _ (by omega), Int.emod_lt_of_pos _ h0, _, _, _, rfl, Int.ediv_nonneg ha (by omega), hb, hb', hc⟩
    walk_at "gs"
    simp only [decide_eq_true h, h0]
    unfold UJ
    walk_at "gs"
    simp only [if_pos (zcs (i := a) ⟨h0, h1⟩)]
    walk_at "gs"
  · refine ⟨zkH b c / 7 % n, .lst [.int a, .int b, .int (c + 1)], ?_, Int.emod_nonneg _ (by omega), Int.emod_lt_of_pos _ h0, _, _, _, rfl, ha, hb, hb', by omega⟩
    unfold zkH
    walk_at "gs"
    simp only [decide_eq_false h]
    unfold UO UN
    walk_at "gs"
    simp only [if_pos (zcr (i := 7919) (j := c + 1) (by decide)), if_pos (zgq (i := b + 7919 * (c + 1) + 1) (j := 48271) (by decide))]
    walk_at "gs"
    simp only [if_pos (zgq (i := b + 7919 * (c + 1) + 1) (j := 48271) (by decide))]
    walk_at "gs"
    generalize hn : (b + 7919 * (c + 1) + 1) * 48271 % 2147483647 = n1
    have n1a : 0 <= n1 := by rw [← hn]; exact Int.emod_nonneg _ (by decide)
    have n1b : n1 < 2147483647 := by rw [← hn]; exact Int.emod_lt_of_pos _ (by decide)
    unfold UM
    walk_at "gs"
    simp only [if_pos (zcs (i := n1) (j := 1009) (by decide))]
    walk_at "gs"
    simp only [if_pos (zcr (i := n1) (j := n1 / 1009 + 69621) ⟨by omega, by omega⟩)]
    walk_at "gs"
    generalize hn2 : n1 * (n1 / 1009 + 69621) % 2147483647 = n2
    have n2a : 0 <= n2 := by rw [← hn2]; exact Int.emod_nonneg _ (by decide)
    have n2b : n2 < 2147483647 := by rw [← hn2]; exact Int.emod_lt_of_pos _ (by decide)
    unfold UL
    walk_at "gs"
    simp only [if_pos (zcs (i := n2) (j := 2003) (by decide))]
    walk_at "gs"
    simp only [if_pos (zcr (i := n2) (j := n2 / 2003 + 40692) ⟨by omega, by omega⟩)]
    walk_at "gs"
    unfold UK
    generalize n2 * (n2 / 2003 + 40692) % 2147483399 = n3
    walk_at "gs"
    simp only [if_pos (zcs (i := n3) (j := 7) (by decide)), if_pos h0]
    walk_at "gs"
    simp only [if_pos h0]
    walk_at "gs"
def letters : Str := "abcdefghijklmnopqrstuvwxyz"
theorem zbV : letters.cps.toList = List.range' 97 26 := by decide +kernel
theorem WN : letters.cps.toList.length = 26 := by rw [zbV]; simp
theorem zgr {j : Nat} (h : j < 26) : letters.cps.toList.getD j 0 = 97 + j := by
  rw [zbV, List.getD_eq_getElem?_getD, List.getElem?_range' (by omega)]; simp
theorem zbW {r : Int} (h0 : 0 <= r) (h1 : r < 26) : zy (.str letters) (.int r) = some (.str ⟨#[97 + r.toNat]⟩) := by
  rw [zoq (by rw [Wg, WN]; omega) h0 (by rw [WN]; exact h1), zgr (by omega)]
theorem zfk {r : Nat} (h : r < 26) : Za (97 + r) = true := by simp [Za]; omega
def jO (c : Nat) : Str := ⟨#[c]⟩
theorem zbX : ∀ (cs : List Nat) (acc : Array Nat), ((cs.map jO).foldl (fun acc p => acc ++ (Str.ofString "").cps ++ p.cps) acc).toList = acc.toList ++ cs
  | [], acc => by simp
  | c :: r, acc => by
    rw [List.map_cons, List.foldl_cons, zbX r]
    have e : (Str.ofString "").cps = #[] := by decide +kernel
    simp [e, jO]
theorem zbY (cs : List Nat) : (Txt.join "" (cs.map jO)).cps.toList = cs := by
  unfold Txt.join Builtin.Str.glued
  cases cs with
  | nil => rfl
  | cons c r =>
    show (((r.map jO).foldl (fun acc p => acc ++ (Str.ofString "").cps ++ p.cps) (jO c).cps)).toList = _
    rw [zbX]; rfl
theorem zh5 {ds ys : List D} (h : All2 (fun _ y => ∃ c, y = .str (jO c) /\ Za c = true) ds ys) : ∃ cs : List Nat, ys = (cs.map jO).map D.str /\ cs.length = ds.length /\ cs.all Za = true := by
  induction h with
  | nil => exact ⟨[], rfl, rfl, rfl⟩
  | cons p _ ih =>
    obtain ⟨c, rfl, hc⟩ := p
    obtain ⟨cs, rfl, hl, ha⟩ := ih
    exact ⟨c :: cs, rfl, by simp [hl], by simp [hc, ha]⟩
theorem zjD (cs : List Nat) : ((cs.map jO).map (·.length)).sum = cs.length := by
  induction cs with
  | nil => rfl
  | cons c r ih => rw [List.map_cons, List.map_cons, List.sum_cons, ih, List.length_cons]; show 1 + _ = _; omega
theorem zlT {o : D} {k : Int} (hw : yk o) (h0 : 0 <= k) (h1 : k <= 12) : ∃ x o', J6 [.own o, .val (.int k)] = .ok (.str x) [o'] /\ Jk x = true /\ yk o' /\ ∃ c r, x.cps.toList = c :: r /\ 97 + 2 * k <= c /\ c <= 98 + 2 * k := by
  unfold J6 W6 UQ
  obtain ⟨b, o1, e, b0, b1, hw1⟩ := y7 hw (n := 2) (by decide) (by decide)
  have e2 := zbW (r := 2 * k + b) (by omega) (by omega)
  have hm : CMul 2 k := zcr (by decide)
  walk_at "gs"
  simp only [if_pos hm]
  walk_at "gs"
  simp only [e]
  walk_at "gs"
  simp only [show (Str.ofString "abcdefghijklmnopqrstuvwxyz") = letters from rfl, e2]
  unfold UP
  obtain ⟨r, o2, e3, r0, r1, hw2⟩ := y7 hw1 (n := 8) (by decide) (by decide)
  have hr : -1000000 <= r /\ r <= 1000000 := by omega
  walk_at "gs"
  simp only [z3, jg, gCons, gNil, gC, zm, zv, List.getElem?_cons_zero, UD, zR, List.map_cons, List.map_nil, e3, Ym, UA, if_pos hr, List.set_cons_zero, JR, List.getElem?_cons_succ, Option.getD_some]
  obtain ⟨ys, ρ', e4, ⟨s0, o3, hw3, rfl⟩, hall⟩ := zbU (g := zq 0) (e := zg zy (zf 1) (gO (zv 2 zu (gCons (gC (.int 26)) gNil)))) (fun ρ => ∃ s0 o, yk o /\ ρ = [s0, .val (.str letters), .own o]) (fun _ y => ∃ c, y = .str (jO c) /\ Za c = true)
    (fun d ρ ⟨s0, o, hw, e⟩ => by
      subst e
      obtain ⟨r, o1, e, r0, r1, hw1⟩ := y7 hw (n := 26) (by decide) (by decide)
      refine ⟨_, .str (jO (97 + r.toNat)), [.val d, .val (.str letters), .own o1], rfl, ?_, ⟨_, rfl, zfk (by omega)⟩, _, _, hw1, rfl⟩
      walk_at "gs"
      simp only [e]
      walk_at "gs"
      simp only [zbW r0 r1, jO]
      walk_at "gs") (yr 0 r.toNat) [.no, .val (.str letters), .own o2] ⟨_, _, hw2, rfl⟩
  obtain ⟨cs, rfl, hl, hs⟩ := zh5 hall
  rw [jX] at hl
  have hc7 : cs.length <= 7 := by omega
  have hj : ((cs.map jO).map (·.length)).sum + (cs.map jO).length * (Str.ofString "").length <= 100000 := by
    rw [zjD, show (Str.ofString "").length = 0 from by decide]; omega
  have hx : ((jO (97 + (2 * k + b).toNat)) ++ Txt.join "" (cs.map jO) : Str).cps.toList = (97 + (2 * k + b).toNat) :: cs := by
    rw [zlQ, zbY]; rfl
  have hlen : (jO (97 + (2 * k + b).toNat)).length + (Txt.join "" (cs.map jO)).length <= 100000 := by
    rw [Wg (Txt.join _ _), zbY]; show 1 + _ <= _; omega
  refine ⟨jO (97 + (2 * k + b).toNat) ++ Txt.join "" (cs.map jO), o3, ?_, ?_, hw3, _, cs, hx, by omega, by omega⟩
  · simp only [jX, Vp (show r.toNat <= 100000 by omega), e4, zf8, zm]
    have ej : RX "" (.lst ((cs.map jO).map D.str)) = some (.str (Txt.join "" (cs.map jO))) := by
      unfold RX Q6 QA; simp only [Option.bind_some, Zh, if_pos hj]
    walk_at "gs"
    simp only [ej]
    walk_at "gs"
    simp only [show ({ cps := #[97 + (2 * k + b).toNat] } : Str) = jO (97 + (2 * k + b).toNat) from rfl, if_pos hlen]
    walk_at "gs"
  · unfold Jk
    rw [Wg, hx]
    have := zfk (r := (2 * k + b).toNat) (by omega)
    simp [hs, this]; omega
def sL (xs : List Str) : List D := xs.map D.str
theorem zY {xs : List Str} : (sL xs).length = xs.length := by unfold sL; simp
theorem znR {xs : List Str} {j : Nat} (h : j < xs.length) : (sL xs).getD j .non = .str xs[j] := by
  unfold sL; rw [List.getD_eq_getElem?_getD, List.getElem?_map, List.getElem?_eq_getElem h]; rfl
theorem zjE {xs : List Str} {j : Nat} : (sL xs).eraseIdx j = sL (xs.eraseIdx j) := by unfold sL; rw [List.eraseIdx_eq_take_drop_succ, List.eraseIdx_eq_take_drop_succ]; simp
theorem zdJ {xs ys : List Str} : sL xs ++ sL ys = sL (xs ++ ys) := by unfold sL; simp
theorem All2.get {α β : Type} {P : α -> β -> Prop} {l : List α} {m : List β} (h : All2 P l m) : ∀ (i : Nat) b, m[i]? = some b -> ∃ a, l[i]? = some a /\ P a b := by
  induction h with
  | nil => intro i b e; simp at e
  | cons p _ ih =>
    intro i b e
    cases i with
    | zero => simp at e; subst e; exact ⟨_, rfl, p⟩
    | succ i => simp at e; exact ih i b e
theorem zal {g : D -> Env -> Option Env} {e : G D} (I : Env -> Prop) (Q : D -> Prop) (P : D -> D -> Prop) (hs : ∀ d ρ, Q d -> I ρ -> ∃ ρ1 y ρ2, g d ρ = some ρ1 /\ e ρ1 = .ok y ρ2 /\ P d y /\ I ρ2) :
    ∀ (ds : List D) (ρ : Env), (∀ d ∈ ds, Q d) -> I ρ -> ∃ ys ρ', z0 g jl e ds ρ = .ok ys ρ' /\ I ρ' /\ All2 P ds ys
  | [], ρ, _, h => ⟨[], ρ, rfl, h, .nil⟩
  | d :: r, ρ, hd, h => by
    obtain ⟨ρ1, y, ρ2, e1, e2, hp, h2⟩ := hs d ρ (hd d List.mem_cons_self) h
    obtain ⟨ys, ρ', e3, h3, h4⟩ := zal I Q P hs r ρ2 (fun x hx => hd x (List.mem_cons_of_mem _ hx)) h2
    refine ⟨y :: ys, ρ', ?_, h3, .cons hp h4⟩
    unfold z0
    rw [e1, zR, zm]
    show (O.bind (.ok true ρ1) _) = _
    rw [zm, if_pos rfl, e2, zm, e3, zm]
theorem zgs {lo : Int} {n i : Nat} {d : D} (h : (yr lo n)[i]? = some d) : i < n /\ d = .int (lo + i) := by
  unfold yr at h
  rw [List.getElem?_map] at h
  by_cases hi : i < n
  · rw [List.getElem?_range hi] at h; cases h; exact ⟨hi, rfl⟩
  · rw [List.getElem?_eq_none (by simpa using hi)] at h; cases h
theorem zdK {o : D} {rest found : List Str} {s1 : Slot} {tl : Env} (hw : yk o) (hne : rest ≠ []) (hl : rest.length <= 1000) (hf : found.length <= 1000) :
    ∃ (j : Nat) (hj : j < rest.length) (o' : D), yk o' /\ yi (yX jC 3 (yX QU 2 (zv 0 zu (gCons (zC ya (zf 2)) gNil)))) (.own o :: s1 :: .own (.lst (sL rest)) :: .own (.lst (sL found)) :: tl)
      = .ok .nx (.own o' :: s1 :: .own (.lst (sL (rest.eraseIdx j))) :: .own (.lst (sL (found ++ [rest[j]]))) :: tl) := by
  have hp := List.length_pos_iff.mpr hne
  obtain ⟨r, o1, e, r0, r1, hw1⟩ := y7 hw (n := rest.length) (by omega) (by omega)
  have hj : r.toNat < rest.length := by omega
  refine ⟨r.toNat, hj, o1, hw1, ?_⟩
  have h1 : QU (sL rest) (.int r) = some (.str rest[r.toNat], sL (rest.eraseIdx r.toNat)) := by
    unfold QU; dsimp only
    rw [if_pos ⟨r0, by rw [zY]; exact hj, by rw [zY]; omega⟩, znR hj, zjE]
  have h2 : jC (sL found) (.str rest[r.toNat]) = some (.non, sL (found ++ [rest[r.toNat]])) := by
    unfold jC
    rw [if_pos (by rw [zY]; omega), ← zdJ]; rfl
  walk_at "gs"
  simp only [zY, e]
  walk_at "gs"
  simp only [h1]
  walk_at "gs"
  simp only [h2]
  walk_at "gs"
theorem zdL {rest found : List Str} {j : Nat} (hj : j < rest.length) : (found ++ [rest[j]] ++ rest.eraseIdx j).Perm (found ++ rest) := by
  rw [List.append_assoc]
  refine List.Perm.append_left found ?_
  have e : rest = rest.take j ++ rest[j] :: rest.drop (j + 1) := by rw [← List.drop_eq_getElem_cons hj, List.take_append_drop]
  rw [List.eraseIdx_eq_take_drop_succ]
  have p : (rest[j] :: (rest.take j ++ rest.drop (j + 1))).Perm (rest.take j ++ rest[j] :: rest.drop (j + 1)) := List.perm_middle.symm
  rw [← e] at p
  exact p
def Names (xs : List Str) : Prop := xs.Nodup /\ ∀ x ∈ xs, Jk x = true
theorem Names.left {xs ys : List Str} (h : Names (xs ++ ys)) : Names xs := ⟨(List.nodup_append.mp h.1).1, fun x hx => h.2 x (List.mem_append_left _ hx)⟩
theorem Names.perm {xs ys : List Str} (h : Names xs) (p : ys.Perm xs) : Names ys := ⟨p.nodup_iff.mpr h.1, fun x hx => h.2 x (p.mem_iff.mp hx)⟩
theorem Names.sub {xs ys : List Str} (h : Names xs) (s : ys.Sublist xs) : Names ys := ⟨h.1.sublist s, fun x hx => h.2 x (s.subset hx)⟩
theorem pops {o : D} {rest found : List Str} {s1 s4 : Slot} {tl : Env} (n : Nat) (ds : List D) (hn : ds.length = n) (hw : yk o) (hr : n <= rest.length) (hl : rest.length + found.length <= 1000) :
    ∃ o' rest' found' s4', yk o' /\ found'.length = found.length + n /\ (found' ++ rest').Perm (found ++ rest) /\ yI (zq 4) (yi (yX jC 3 (yX QU 2 (zv 0 zu (gCons (zC ya (zf 2)) gNil))))) ds (.own o :: s1 :: .own (.lst (sL rest)) :: .own (.lst (sL found)) :: s4 :: tl)
      = .ok .nx (.own o' :: s1 :: .own (.lst (sL rest')) :: .own (.lst (sL found')) :: s4' :: tl) := by
  induction n generalizing ds o rest found s4 with
  | zero =>
    have : ds = [] := List.eq_nil_of_length_eq_zero hn
    subst this
    exact ⟨o, rest, found, s4, hw, rfl, List.Perm.refl _, rfl⟩
  | succ n ih =>
    match ds, hn with
    | d :: ds, hn =>
      obtain ⟨j, hj, o1, hw1, e⟩ := zdK (rest := rest) (found := found) (s1 := s1) (tl := .val d :: tl) hw (fun z => by subst z; simp at hr) (by omega) (by omega : found.length <= 1000)
      have hle : (rest.eraseIdx j).length = rest.length - 1 := List.length_eraseIdx_of_lt hj
      obtain ⟨o', rest', found', s4', a, b, c, e2⟩ := ih (o := o1) (rest := rest.eraseIdx j) (found := found ++ [rest[j]]) (s4 := .val d) ds (by simpa using hn) hw1 (by rw [hle]; omega) (by simp [hle]; omega)
      refine ⟨o', rest', found', s4', a, by rw [b]; simp; omega, c.trans (zdL hj), ?_⟩
      unfold yI
      show (O.bind (yD (some _) _) _) = _
      rw [zR, zm]
      simp only [List.set_cons_succ, List.set_cons_zero]
      rw [e]
      exact e2
def zh6 : List Str := ["a", "ab", "abc", "b", "ba", "z", "zzzzzzzz", "aa", "c", "count", "y", "counts"]
theorem zh7 : Names zh6 := ⟨by decide +kernel, by decide +kernel⟩
theorem zjF {ys : List D} {n : Nat} (h : All2 (fun d y => ∃ k : Int, d = .int k /\ ∃ x, y = .str x /\ Jk x = true /\ ∃ c r, x.cps.toList = c :: r /\ 97 + 2 * k <= c /\ c <= 98 + 2 * k) (yr 0 n) ys) : ∃ xs, ys = sL xs /\ xs.length = n /\ Names xs := by
  have hlen := h.len
  rw [jX] at hlen
  have hx : ∀ (l : List D) m, All2 (fun d y => ∃ k : Int, d = .int k /\ ∃ x, y = .str x /\ Jk x = true /\ ∃ c r, x.cps.toList = c :: r /\ 97 + 2 * k <= c /\ c <= 98 + 2 * k) l m -> ∃ xs, m = sL xs := fun l m h => by
    induction h with
    | nil => exact ⟨[], rfl⟩
    | cons p _ ih => obtain ⟨k, _, x, rfl, _⟩ := p; obtain ⟨xs, rfl⟩ := ih; exact ⟨x :: xs, rfl⟩
  obtain ⟨xs, rfl⟩ := hx _ _ h
  rw [zY] at hlen
  have at_ : ∀ (i : Nat) x, xs[i]? = some x -> Jk x = true /\ ∃ c r, x.cps.toList = c :: r /\ 97 + 2 * i <= c /\ c <= 98 + 2 * i := fun i x e => by
    obtain ⟨a, h1, k, rfl, y, e2, hn, c, r, e3, h2, h3⟩ := h.get i (.str x) (by unfold sL; rw [List.getElem?_map, e]; rfl)
    obtain ⟨hi, ek⟩ := zgs h1
    cases e2; cases ek
    exact ⟨hn, c, r, e3, by omega, by omega⟩
  refine ⟨xs, rfl, hlen, ?_, fun x hx => ?_⟩
  · refine List.pairwise_iff_getElem.mpr fun i j hi hj hij z => ?_
    obtain ⟨_, c, r, e, h1, h2⟩ := at_ i xs[i] (List.getElem?_eq_getElem hi)
    obtain ⟨_, c', r', e', h1', h2'⟩ := at_ j xs[j] (List.getElem?_eq_getElem hj)
    rw [z, e'] at e
    have := (List.cons.inj e).1
    omega
  · obtain ⟨i, hi, e⟩ := List.getElem_of_mem hx
    exact (at_ i x (by rw [List.getElem?_eq_getElem hi, e])).1
theorem zjG {o : D} {n : Nat} (hw : yk o) (hn : n <= 12) : ∃ xs o', Qh [.own o, .val (.int n)] = .ok (.lst (sL xs)) [o'] /\ xs.length = n /\ Names xs /\ yk o' := by
  unfold Qh Vz YF YE YD
  obtain ⟨b, o1, e, b0, b1, hw1⟩ := y7 hw (n := 2) (by decide) (by decide)
  have hr : -1000000 <= (n : Int) /\ (n : Int) <= 1000000 := by omega
  have fin : ∀ o2 L, yk o2 -> Names L -> n <= L.length -> L.length <= 100 -> ∃ xs o', yI (zq 4) (yi (yX jC 3 (yX QU 2 (zv 0 zu (gCons (zC ya (zf 2)) gNil))))) (yr 0 n) [.own o2, .val (.int n), .own (.lst (sL L)), .own (.lst []), .no] = .ok .nx o' /\ ∃ o3 L3 s4, o' = [.own o3, .val (.int n), .own (.lst (sL L3)), .own (.lst (sL xs)), s4] /\ xs.length = n /\ Names xs /\ yk o3 := fun o2 L h2 hL h3 h4 => by
    obtain ⟨o', rest', found', s4', a, b, c, e2⟩ := pops (s1 := .val (.int n)) (s4 := .no) (tl := []) (found := []) n (yr 0 n) jX h2 h3 (by simp; omega)
    exact ⟨found', _, e2, _, _, _, rfl, by simpa using b, (hL.perm (by simpa using c)).left, a⟩
  walk_at "gs"
  simp only [e]
  walk_at "gs"
  by_cases hb : b = 0
  · subst hb
    walk_at "gs"
    simp only [z3, jg, gCons, gNil, zd, zm, List.getElem?_cons_zero, List.getElem?_cons_succ, UA, if_pos hr, zR, Int.toNat_natCast, jX, Vp (show n <= 100000 by omega), JR, List.map_cons, List.map_nil, Option.getD_some]
    obtain ⟨ys, ρ', e4, ⟨s0, o3, hw3, rfl⟩, hall⟩ := zal (g := zq 0) (e := zv 1 J6 (gCons (zd 0) gNil)) (fun ρ => ∃ s0 o, yk o /\ ρ = [s0, .own o]) (fun d => ∃ k : Int, d = .int k /\ 0 <= k /\ k <= 12) (fun d y => ∃ k : Int, d = .int k /\ ∃ x, y = .str x /\ Jk x = true /\ ∃ c r, x.cps.toList = c :: r /\ 97 + 2 * k <= c /\ c <= 98 + 2 * k)
      (fun d ρ ⟨k, hd, k0, k1⟩ ⟨s0, o, hw, e⟩ => by
        subst e hd
        obtain ⟨x, o1, e, hx, hw1, hc⟩ := zlT hw k0 k1
        refine ⟨_, .str x, [.val (.int k), .own o1], rfl, ?_, ⟨k, rfl, x, rfl, hx, hc⟩, _, _, hw1, rfl⟩
        walk_at "gs"
        simp only [e]
        walk_at "gs") (yr 0 n) [.no, .own o1] (fun d hd => by obtain ⟨i, hi, rfl⟩ := zak hd; exact ⟨_, rfl, by omega, by omega⟩) ⟨_, _, hw1, rfl⟩
    obtain ⟨xs, rfl, hl, hx⟩ := zjF hall
    simp only [e4, zf8]
    obtain ⟨ys, ρ2, e5, o4, L3, s4, rfl, h1, h2, h3⟩ := fin o3 xs hw3 hx (by omega) (by omega)
    walk_at "gs"
    simp only [UA, if_pos hr, Int.toNat_natCast]
    walk_at "gs"
    simp only [e5]
    exact ⟨ys, o4, by walk_at "gs", h1, h2, h3⟩
  · obtain ⟨ys, ρ2, e5, o4, L3, s4, rfl, h1, h2, h3⟩ := fin o1 zh6 hw1 zh7 (by show n <= 12; omega) (by decide)
    simp only [decide_eq_false hb]
    walk_at "gs"
    simp only [UA, if_pos hr, Int.toNat_natCast]
    walk_at "gs"
    have e6 : yI (zq 4) (yi (yX jC 3 (yX QU 2 (zv 0 zu (gCons (zC ya (zf 2)) gNil))))) (yr 0 n) [.own o1, .val (.int n), .own (.lst [.str "a", .str "ab", .str "abc", .str "b", .str "ba", .str "z", .str "zzzzzzzz", .str "aa", .str "c", .str "count", .str "y", .str "counts"]), .own (.lst []), .no] = _ := e5
    simp only [e6]
    exact ⟨ys, o4, by walk_at "gs", h1, h2, h3⟩
theorem za5 {o : D} {xs : List Str} (hw : yk o) (h1 : 1 <= xs.length) (h2 : xs.length <= 100) : ∃ ys rest o', jy [.own o, .val (.lst (sL xs))] = .ok (.lst (sL ys)) [o'] /\ 1 <= ys.length /\ (ys ++ rest).Perm xs /\ yk o' := by
  unfold jy W7 US UR
  obtain ⟨b, o1, e, b0, b1, hw1⟩ := y7 hw (n := xs.length) (by omega) (by omega)
  have hr : -1000000 <= 1 + b /\ 1 + b <= 1000000 := by omega
  walk_at "gs"
  simp only [zY, e]
  walk_at "gs"
  simp only [UA, if_pos hr]
  walk_at "gs"
  obtain ⟨o', rest', found', s4', a, hb, c, e2⟩ := pops (s1 := .val (.lst (sL xs))) (s4 := .no) (tl := []) (found := []) (rest := xs) (1 + b).toNat (yr 0 (1 + b).toNat) jX hw1 (by omega) (by simp; omega)
  have e2 : yI (zq 4) (yi (yX jC 3 (yX QU 2 (zv 0 zu (gCons (zC ya (zf 2)) gNil))))) (yr 0 (1 + b).toNat) [.own o1, .val (.lst (sL xs)), .own (.lst (sL xs)), .own (.lst []), .no] = _ := e2
  refine ⟨found', rest', o', ?_, by rw [hb]; simp; omega, by simpa using c, a⟩
  simp only [e2]
  walk_at "gs"
theorem zjH (xs : List Str) : Uz true (.lst (sL xs)) (.lst []) = some (.bl (!xs.isEmpty)) := by
  cases xs <;> rfl
def zgt : G zp := yi (yX jC 3 (yX QU 2 (zv 0 zu (gCons (zC ya (zf 2)) gNil))))
theorem zkI {s1 : Slot} : ∀ (n : Nat) {rest : List Str} {o : D} {found : List Str}, rest.length < n -> yk o -> rest.length + found.length <= 1000 ->
    ∃ o' found', yk o' /\ found'.Perm (found ++ rest) /\ Y0 (gB (zg (Uz true) (zf 2) (gO (yU gNil)))) zgt n [.own o, s1, .own (.lst (sL rest)), .own (.lst (sL found))]
      = .ok .nx [.own o', s1, .own (.lst []), .own (.lst (sL found'))]
  | 0, rest, o, found, h, _, _ => by omega
  | n + 1, rest, o, found, h, hw, hl => by
    unfold Y0
    walk_at "gs"
    simp only [zjH]
    walk_at "gs"
    cases rest with
    | nil => exact ⟨o, found, hw, by simp, by walk_at "gs"; rfl⟩
    | cons x r =>
      obtain ⟨j, hj, o1, hw1, e⟩ := zdK (rest := x :: r) (found := found) (s1 := s1) (tl := []) hw (by simp) (by omega) (by omega)
      have hle : ((x :: r).eraseIdx j).length = (x :: r).length - 1 := List.length_eraseIdx_of_lt hj
      obtain ⟨o', found', a, c, e2⟩ := zkI (s1 := s1) n (rest := (x :: r).eraseIdx j) (o := o1) (found := found ++ [(x :: r)[j]]) (by rw [hle]; omega) hw1 (by rw [hle]; simp; simp at hl; omega)
      refine ⟨o', found', a, c.trans (zdL hj), ?_⟩
      walk_at "gs"
      rw [show zgt [.own o, s1, .own (.lst (sL (x :: r))), .own (.lst (sL found))] = _ from e]
      exact e2
theorem zbZ {o : D} {xs : List Str} (hw : yk o) (h2 : xs.length <= 100) : ∃ ys o', ji [.own o, .val (.lst (sL xs))] = .ok (.lst (sL ys)) [o'] /\ ys.Perm xs /\ yk o' := by
  unfold ji UW Z6 zdd
  rw [show Z5 = zgt from rfl]
  obtain ⟨o', found', a, c, e2⟩ := zkI (s1 := .val (.lst (sL xs))) 1000 (rest := xs) (o := o) (found := []) (by omega) hw (by simp; omega)
  have e2 : Y0 (gB (zg (Uz true) (zf 2) (gO (yU gNil)))) zgt 1000 [.own o, .val (.lst (sL xs)), .own (.lst (sL xs)), .own (.lst [])] = _ := e2
  refine ⟨found', o', ?_, by simpa using c, a⟩
  walk_at "gs"
  simp only [e2]
  walk_at "gs"
def Yy (d : D) : Prop := (∃ k, Yk d = some k) /\ ∀ x, d = .str x -> x.length <= 100000
theorem zdM {d : D} (h : Yy d) : ju [.val d] = .ok (.bl (UY d)) [] := let ⟨⟨_, k⟩, hx⟩ := h; zgo k hx
theorem zjI {x : Str} (h : Jk x = true) : 1 <= x.length /\ x.length <= 8 := by
  unfold Jk at h
  rw [Bool.and_eq_true, Bool.and_eq_true, decide_eq_true_eq, decide_eq_true_eq] at h
  exact h.1
theorem ZG {x : Str} (h : Jk x = true) : Yy (.str x) := ⟨⟨_, rfl⟩, fun y e => by cases e; have := zjI h; omega⟩
theorem zh8 {i : Int} : Yy (.int i) := ⟨⟨_, rfl⟩, fun y e => by cases e⟩
theorem Zl {i : List D} : Yy (.lst i) := ⟨⟨_, rfl⟩, fun y e => by cases e⟩
theorem zh9 {w : D} : yc [.val (.bl true), .val w] = .ok .non [] := by
  unfold yc W8
  walk_at "gs"
def upD (d : D) (m : Int) : Bool := match d with | .int i => decide (1 <= i) && decide (i <= m) | _ => false
theorem zd8 {d : D} {m : Int} (h : Yy d) : yE [.val d, .val (.int m)] = .ok (.bl (upD d m)) [] := by
  obtain ⟨⟨k, hk⟩, _⟩ := h
  unfold yE UU
  walk_at "gs"
  simp only [zd7 hk]
  cases d with
  | int i =>
    simp only [zdH]
    walk_at "gs"
    unfold upD
    dsimp only
    by_cases h : (1 : Int) <= i
    · rw [decide_eq_true h]; walk_at "gs"
    · rw [decide_eq_false h]; walk_at "gs"
  | _ => simp only [zdH]; walk_at "gs"; rfl
def zam (d : D) : Bool := match d with | .lst ds => decide (1 <= ds.length) && decide (ds.length <= 5) | _ => false
theorem Ye {d : D} (h : Yy d) : z5 [.val d] = .ok (.bl (zam d)) [] := by
  obtain ⟨⟨k, hk⟩, _⟩ := h
  unfold z5 QB
  cases d with
  | lst ds =>
    walk_at "gs"
    unfold zam
    dsimp only
    by_cases h : 1 <= ds.length
    · by_cases h2 : ds.length <= 5
      · rw [decide_eq_true h, decide_eq_true h2]
        have e1 : decide ((1 : Int) <= ds.length) = true := decide_eq_true (by omega)
        have e2 : decide ((ds.length : Int) <= 5) = true := decide_eq_true (by omega)
        walk_at "gsa"
      · rw [decide_eq_true h, decide_eq_false h2]
        have e1 : decide ((1 : Int) <= ds.length) = true := decide_eq_true (by omega)
        have e2 : decide ((ds.length : Int) <= 5) = false := decide_eq_false (by omega)
        walk_at "gsa"
    · rw [decide_eq_false h]
      have e1 : decide ((1 : Int) <= ds.length) = false := decide_eq_false (by omega)
      walk_at "gsa"
  | _ => first | (cases hk; done) | (walk_at "gs"; rfl)
theorem zfl (f : D -> Bool) : ∀ (l : List D), Zp (l.map fun c => D.bl (f c)) = some (l.map f)
  | [] => rfl
  | c :: r => by rw [List.map_cons, Zp, zfl f r]; rfl
theorem znT (f : D -> Bool) (l : List D) : (l.map f).all id = l.all f := by
  induction l with
  | nil => rfl
  | cons a r ih => rw [List.map_cons, List.all_cons, List.all_cons, ih]; rfl
theorem zjJ {F : Fn} {f : D -> Bool} {ds : List D} {s : Slot} (hF : ∀ d ∈ ds, F [.val d] = .ok (.bl (f d)) []) : ∃ ρ', z0 (zq 0) jl (zA F (gCons (zd 0) gNil)) ds [s] = .ok (ds.map fun d => D.bl (f d)) ρ' /\ ρ'.length = 1 := by
  obtain ⟨ρ', e, h⟩ := Ra (g := zq 0) (e := zA F (gCons (zd 0) gNil)) (fun ρ => ρ.length = 1) (fun d => .bl (f d)) (fun d => F [.val d] = .ok (.bl (f d)) []) (fun d ρ hd hl => by
    match ρ, hl with
    | [t], _ =>
      refine ⟨_, [.val d], rfl, ?_, rfl⟩
      walk_at "gs"
      simp only [hd]
      walk_at "gs") ds [s] hF rfl
  exact ⟨ρ', e, h⟩
theorem zb0 {F : Fn} {f : D -> Bool} {ds : List D} {ρ : Env} {i : Nat} (hi : ρ[i]? = some (.val (.lst ds))) (hl : ds.length <= 100000) (hF : ∀ d ∈ ds, F [.val d] = .ok (.bl (f d)) []) :
    zC YA (gO (z3 (zI (zd i)) [none] (zq 0) jl (zA F (gCons (zd 0) gNil)))) ρ = .ok (.bl (ds.all f)) ρ := by
  obtain ⟨ρ', e, h⟩ := zjJ (s := .no) hF
  rw [zfi (zdF (jr hi) hl e)]
  simp only [zhI, YA, zfl, Option.map_some, znT, zR]
theorem zd9 {xs : List Str} (h : xs.Nodup) : (dd xs).length = xs.length := ((List.perm_ext_iff_of_nodup W3 h).mpr fun y => dd_mem).length_eq
def VL (ds : List D) : Bool := ds.all UY && (match Q5 ds with | some xs => decide ((dd xs).length = xs.length) | none => false)
theorem UZ {xs : List Str} (h : Names xs) : VL (sL xs) = true := by
  unfold VL sL
  rw [Zh]
  dsimp only
  rw [decide_eq_true (zd9 h.1), Bool.and_true, List.all_eq_true]
  intro d hd
  obtain ⟨x, hx, rfl⟩ := List.mem_map.mp hd
  exact h.2 x hx
theorem zan : ∀ {ds : List D}, ds.all UY = true -> ∃ xs, ds = sL xs /\ ∀ x ∈ xs, Jk x = true
  | [], _ => ⟨[], rfl, fun x h => by cases h⟩
  | d :: r, h => by
    rw [List.all_cons, Bool.and_eq_true] at h
    obtain ⟨xs, rfl, hx⟩ := zan h.2
    cases d with
    | str x => exact ⟨x :: xs, rfl, fun y hy => (List.mem_cons.mp hy).elim (fun e => by subst e; exact h.1) (hx y)⟩
    | _ => exact absurd h.1 Bool.false_ne_true
def zo9 (d : D) : Bool := match d with | .lst ds => VL ds | _ => false
theorem VM {d : D} (h : Yy d) (hd : ∀ ds, d = .lst ds -> ds.length < 1000 /\ ∀ e ∈ ds, Yy e) : yZ [.val d] = .ok (.bl (zo9 d)) [] := by
  obtain ⟨⟨k, hk⟩, _⟩ := h
  unfold yZ W9
  cases d with
  | lst ds =>
    obtain ⟨hl, hp⟩ := hd ds rfl
    have e1 := zb0 (F := ju) (f := UY) (ds := ds) (ρ := [.val (.lst ds)]) (i := 0) rfl (by omega) fun d hd => zdM (hp d hd)
    have e2 : ZF [.val (.lst ds)] = .ok (.rt (.bl (VL ds))) [.val (.lst ds)] := by
      unfold ZF zP
      rw [Yc e1]
      unfold VL
      cases h : ds.all UY with
      | false => rfl
      | true =>
        obtain ⟨xs, rfl, _⟩ := zan h
        have hx : Y1 (.lst (sL xs)) = some (.int (dd xs).length) := by
          unfold Y1 Q6 QA sL
          rw [zY] at hl
          simp only [Option.bind_some, Zh, if_pos hl]
        rw [if_pos rfl, show Q5 (sL xs) = some xs from Zh xs]
        walk_at "gs"
        simp only [hx, zY]
        walk_at "gs"
        by_cases hx2 : (dd xs).length = xs.length
        · simp [hx2, zY]
        · have : ¬ ((dd xs).length : Int) = xs.length := by omega
          simp [hx2, this, zY]
    walk_at "gs"
    rw [e2]
    walk_at "gs"
    rfl
  | _ => first | (cases hk; done) | (walk_at "gs"; rfl)
def inr (row : List Str) (x : Str) : Bool := decide (x ∈ row)
theorem zjK (xs : List Str) : (sL xs).all J2 = true := by
  rw [List.all_eq_true]; intro d hd; obtain ⟨x, _, rfl⟩ := List.mem_map.mp hd; rfl
theorem zos (x : Str) (row : List Str) : inD (.str x) (sL row) = inr row x := by
  unfold inD sL inr
  rw [List.any_map]
  by_cases h : x ∈ row
  · rw [decide_eq_true h, List.any_eq_true]; exact ⟨x, h, beq_self_eq_true x⟩
  · rw [decide_eq_false h, List.any_eq_false]
    intro y hy
    show ¬ (y == x) = true
    intro z
    exact h (by rw [← eq_of_beq z]; exact hy)
theorem zct {x : Str} {row : List Str} : Zs false (.str x) (.lst (sL row)) = some (.bl (inr row x)) := by
  unfold Zs Wa; dsimp only; rw [if_pos ⟨rfl, zjK row⟩, zos]; rfl
theorem zdN {α : Type} {xs : List α} {k : Nat} (h : k <= xs.length) : jF xs none (some (k : Int)) = xs.take k := by
  unfold jF; rw [HT.sIx_none, HT.sIx_nat]; simp [Nat.min_eq_left h]
theorem zjL {α : Type} {xs : List α} {k : Nat} (h : k <= xs.length) : jF xs (some (k : Int)) none = xs.drop k := by
  unfold jF; rw [HT.sIx_none, HT.sIx_nat, Nat.min_eq_left h]; exact List.take_of_length_le (by simp)
theorem Wh {xs : List Str} {k : Nat} : (sL xs).take k = sL (xs.take k) := by unfold sL; rw [List.map_take]
theorem zfm {xs : List Str} {k : Nat} : (sL xs).drop k = sL (xs.drop k) := by unfold sL; rw [List.map_drop]
theorem zjM {tbl : Nat -> Option Fn} {a : G D} {r : G (List D)} {ρ ρ1 ρ2 : Env} {c : Nat} {fs : List (Nat × D)} {ds : List D} {F : Fn} (h1 : a ρ = .ok (.obj c fs) ρ1) (h2 : tbl c = some F) (h3 : r ρ1 = .ok ds ρ2) : yW tbl a r ρ = zcp (F (.val (.obj c fs) :: ds.map .val)) ρ2 := by
  unfold yW; rw [h1]; simp only [zm, h2, h3]
theorem j6 {tbl : Nat -> Option Fn} {a : G D} {r : G (List D)} {ρ ρ1 ρ2 : Env} {c : Nat} {fs : List (Nat × D)} {ds os : List D} {d : D} {F : Fn} (h1 : a ρ = .ok (.obj c fs) ρ1) (h2 : tbl c = some F) (h3 : r ρ1 = .ok ds ρ2) (h4 : F (.val (.obj c fs) :: ds.map .val) = .ok d os) : yW tbl a r ρ = .ok d ρ2 := by
  rw [zjM h1 h2 h3, h4]; rfl
inductive PW where
  | count (m : Int) (ys : List Str) | weigh (l : Int) (ps : List (Str × Int)) | houses (m e : Int) (hs : List (List Str))
def yj (p : Str × Int) : D := .tup [.str p.1, .int p.2]
def zT (h : List Str) : D := .lst (sL h)
def PW.cls : PW -> Nat | .count .. => 12 | .weigh .. => 13 | .houses .. => 14
def PW.fs : PW -> List (Nat × D)
  | .count m ys => [(0, .int m), (1, .lst (sL ys))]
  | .weigh l ps => [(2, .int l), (3, .lst (ps.map yj))]
  | .houses m e hs => [(0, .int m), (4, .int e), (5, .lst (hs.map zT))]
def PW.obj (p : PW) : D := .obj p.cls p.fs
def PW.told : PW -> D
  | .count m ys => .tup [.str "count", .int m, .lst (sL ys)]
  | .weigh l ps => .tup [.str "weigh", .int l, .lst (ps.map yj)]
  | .houses m e hs => .tup [.str "houses", .int m, .int e, .lst (hs.map zT)]
def PW.have : PW -> List Str -> Int
  | .count _ ys, row => (ys.filter (inr row)).length
  | .weigh _ ps, row => ((ps.filter fun p => inr row p.1).map (·.2)).sum
  | .houses _ e hs, row => (hs.filter fun h => decide (e <= ((h.filter (inr row)).length : Int))).length
def PW.need : PW -> Int | .count m _ => m | .weigh l _ => l | .houses m _ _ => m
def PW.enough (p : PW) (row : List Str) : Bool := decide (p.need <= p.have row)
def PW.Small : PW -> Prop
  | .count _ ys => ys.length <= 1000
  | .weigh _ ps => ps.length <= 1000
  | .houses _ _ hs => hs.length <= 1000 /\ ∀ h ∈ hs, h.length <= 1000
theorem zh_ {ys : List Str} {t : Str -> Bool} : ((sL ys).filter fun d => match d with | .str x => t x | _ => false).map id = sL (ys.filter t) := by
  unfold sL; rw [List.map_id, List.filter_map]; rfl
theorem Wi {ys row : List Str} {s : Slot} {tl : Env} : ∃ ρ', z0 (zq 0) (gB (zg (Zs false) (zf 0) (zf 1))) (zd 0) (sL ys) (s :: .val (.lst (sL row)) :: tl) = .ok (sL (ys.filter (inr row))) ρ' /\ ∃ s', ρ' = s' :: .val (.lst (sL row)) :: tl := by
  obtain ⟨ρ', e, h⟩ := Yd (g := zq 0) (c := gB (zg (Zs false) (zf 0) (zf 1))) (e := zd 0) (fun ρ => ∃ s', ρ = s' :: .val (.lst (sL row)) :: tl) (fun d => match d with | .str x => inr row x | _ => false) id (fun d => ∃ x, d = .str x) (fun d ρ ⟨x, hd⟩ ⟨s', hρ⟩ => by
    subst hd hρ
    refine ⟨.val (.str x) :: .val (.lst (sL row)) :: tl, .val (.str x) :: .val (.lst (sL row)) :: tl, rfl, ?_, ⟨_, rfl⟩, fun _ => ⟨_, rfl, _, rfl⟩⟩
    walk_at "gs"
    simp only [zct]
    walk_at "gs") (sL ys) (s :: .val (.lst (sL row)) :: tl) (fun d hd => by obtain ⟨x, _, rfl⟩ := List.mem_map.mp hd; exact ⟨x, rfl⟩) ⟨s, rfl⟩
  rw [zh_] at e
  exact ⟨ρ', e, h⟩
theorem VN {xs : List Str} : ya (.lst (sL xs)) = some (.int xs.length) := by show some (D.int (sL xs).length) = _; rw [zY]
theorem zdO {m : Int} {ys row : List Str} (h : ys.length <= 1000) : QZ [.val (PW.count m ys).obj, .val (.lst (sL row))] = .ok (.bl ((PW.count m ys).enough row)) [] := by
  obtain ⟨ρ', e, s', rfl⟩ := Wi (ys := ys) (row := row) (s := .no) (tl := [])
  have e1 := yo (ρ2 := [.val (PW.count m ys).obj, .val (.lst (sL row))]) (gi := zI (zC (jI 1) (zf 0))) (js := [none, some 1]) (ρ := [.val (PW.count m ys).obj, .val (.lst (sL row))]) (yP (Qk (c := 12) (d := .lst (sL ys)) rfl (by decide) rfl)) (by rw [zY]; omega) e rfl
  have e2 := Jb (f := ya) e1 VN
  exact yC (ρ := [.val (PW.count m ys).obj, .val (.lst (sL row))]) rfl (yS (yH e2 (Qk (c := 12) (i := 0) (f := 0) (d := .int m) rfl (by decide) rfl) rfl))
theorem zgu {ps : List (Str × Int)} {row : List Str} {s : Slot} {tl : Env} : ∃ ρ', z0 (zq 0) (gB (zg (Zs false) (gO (zg zy (zf 0) (gO (gC (.int 0))))) (zf 1))) (zg zy (zf 0) (gO (gC (.int 1)))) (ps.map yj) (s :: .val (.lst (sL row)) :: tl) = .ok (((ps.filter fun p => inr row p.1).map (·.2)).map D.int) ρ' /\ ∃ s', ρ' = s' :: .val (.lst (sL row)) :: tl := by
  induction ps generalizing s with
  | nil => exact ⟨_, rfl, s, rfl⟩
  | cons p r ih =>
    obtain ⟨ρ', e, h⟩ := ih (s := .val (yj p))
    have e1 : gB (zg (Zs false) (gO (zg zy (zf 0) (gO (gC (.int 0))))) (zf 1)) (.val (yj p) :: .val (.lst (sL row)) :: tl) = .ok (inr row p.1) (.val (yj p) :: .val (.lst (sL row)) :: tl) := by
      unfold yj
      walk_at "gs"
      simp only [zct]
      walk_at "gs"
    have e2 : zg zy (zf 0) (gO (gC (.int 1))) (.val (yj p) :: .val (.lst (sL row)) :: tl) = .ok (.int p.2) (.val (yj p) :: .val (.lst (sL row)) :: tl) := by
      unfold yj
      walk_at "gs"
    refine ⟨ρ', ?_, h⟩
    rw [List.map_cons]
    unfold z0
    show (O.bind (yD (some (.val (yj p) :: .val (.lst (sL row)) :: tl)) _) _) = _
    rw [zR, zm, e1, zm, List.filter_cons]
    cases hb : inr row p.1 with
    | true => rw [if_pos rfl, e2, zm, e, zm, if_pos rfl]; rfl
    | false => rw [if_neg Bool.false_ne_true, e, if_neg Bool.false_ne_true]
theorem Rc {ns : List Int} : Z2 (.lst (ns.map D.int)) = some (.int ns.sum) := by
  unfold Z2 hIs QA; rw [Option.bind_some, zbI]; rfl
theorem zdP {l : Int} {ps : List (Str × Int)} {row : List Str} (h : ps.length <= 1000) : Q0 [.val (PW.weigh l ps).obj, .val (.lst (sL row))] = .ok (.bl ((PW.weigh l ps).enough row)) [] := by
  obtain ⟨ρ', e, s', rfl⟩ := zgu (ps := ps) (row := row) (s := .no) (tl := [])
  have e1 := yo (ρ2 := [.val (PW.weigh l ps).obj, .val (.lst (sL row))]) (gi := zI (zC (jI 3) (zf 0))) (js := [none, some 1]) (ρ := [.val (PW.weigh l ps).obj, .val (.lst (sL row))]) (yP (Qk (c := 13) (d := .lst (ps.map yj)) rfl (by decide) rfl)) (by rw [List.length_map]; omega) e rfl
  have e2 := Jb (f := Z2) e1 Rc
  exact yC (ρ := [.val (PW.weigh l ps).obj, .val (.lst (sL row))]) rfl (yS (yH e2 (Qk (c := 13) (i := 0) (f := 2) (d := .int l) rfl (by decide) rfl) rfl))
theorem zdQ {m e : Int} {hs : List (List Str)} {h row : List Str} (hl : h.length <= 1000) : jw [.val (PW.houses m e hs).obj, .val (zT h), .val (.lst (sL row))] = .ok (.bl (decide (e <= ((h.filter (inr row)).length : Int)))) [] := by
  obtain ⟨ρ', ec, s', rfl⟩ := Wi (ys := h) (row := row) (s := .no) (tl := [])
  have e1 := yo (ρ2 := [.val (PW.houses m e hs).obj, .val (zT h), .val (.lst (sL row))]) (gi := zI (zd 1)) (js := [none, some 2]) (ρ := [.val (PW.houses m e hs).obj, .val (zT h), .val (.lst (sL row))]) (jr (ds := sL h) rfl) (by rw [zY]; omega) ec rfl
  have e2 := Jb (f := ya) e1 VN
  exact yC (ρ := [.val (PW.houses m e hs).obj, .val (zT h), .val (.lst (sL row))]) rfl (yS (yH e2 (Qk (c := 14) (i := 0) (f := 4) (d := .int e) rfl (by decide) rfl) rfl))
theorem zd_ {m e : Int} {all hs : List (List Str)} {row : List Str} {s : Slot} (hh : ∀ h ∈ hs, h.length <= 1000) : ∃ ρ', z0 (zq 0) (gB (yW jx (zd 2) (gCons (zd 0) (gCons (zd 1) gNil)))) (zd 0) (hs.map zT) [s, .val (.lst (sL row)), .val (PW.houses m e all).obj] = .ok ((hs.filter fun h => decide (e <= ((h.filter (inr row)).length : Int))).map zT) ρ' /\ ∃ s', ρ' = [s', .val (.lst (sL row)), .val (PW.houses m e all).obj] := by
  induction hs generalizing s with
  | nil => exact ⟨_, rfl, s, rfl⟩
  | cons h r ih =>
    obtain ⟨ρ', ec, hx⟩ := ih (s := .val (zT h)) fun y hy => hh y (List.mem_cons_of_mem _ hy)
    have e1 : gB (yW jx (zd 2) (gCons (zd 0) (gCons (zd 1) gNil))) [.val (zT h), .val (.lst (sL row)), .val (PW.houses m e all).obj] = .ok (decide (e <= ((h.filter (inr row)).length : Int))) [.val (zT h), .val (.lst (sL row)), .val (PW.houses m e all).obj] := by
      refine UX (j6 (c := 14) (fs := (PW.houses m e all).fs) (ds := [zT h, .lst (sL row)]) (F := jw) rfl rfl rfl (zdQ (m := m) (e := e) (hs := all) (hh h List.mem_cons_self)))
    refine ⟨ρ', ?_, hx⟩
    rw [List.map_cons]
    unfold z0
    show (O.bind (yD (some ([.val (zT h), .val (.lst (sL row)), .val (PW.houses m e all).obj] : Env)) _) _) = _
    rw [zR, zm, e1, zm, List.filter_cons]
    cases hb : decide (e <= ((h.filter (inr row)).length : Int)) with
    | true => rw [if_pos rfl, show zd 0 [.val (zT h), .val (.lst (sL row)), .val (PW.houses m e all).obj] = .ok (zT h) _ from rfl, zm, ec, zm, if_pos rfl]; rfl
    | false => rw [if_neg Bool.false_ne_true, ec, if_neg Bool.false_ne_true]
theorem zb6 {m e : Int} {hs : List (List Str)} {row : List Str} (hl : hs.length <= 1000) (hh : ∀ h ∈ hs, h.length <= 1000) : QE [.val (PW.houses m e hs).obj, .val (.lst (sL row))] = .ok (.bl ((PW.houses m e hs).enough row)) [] := by
  obtain ⟨ρ', ec, s', rfl⟩ := zd_ (m := m) (e := e) (all := hs) (hs := hs) (row := row) (s := .no) hh
  have e1 := yo (ρ2 := [.val (PW.houses m e hs).obj, .val (.lst (sL row))]) (gi := zI (zC (jI 5) (zf 0))) (js := [none, some 1, some 0]) (ρ := [.val (PW.houses m e hs).obj, .val (.lst (sL row))]) (yP (Qk (c := 14) (d := .lst (hs.map zT)) rfl (by decide) rfl)) (by rw [List.length_map]; omega) ec rfl
  have e2 := Jb (f := ya) e1 (by show some (D.int (List.length _)) = _; rw [List.length_map])
  exact yC (ρ := [.val (PW.houses m e hs).obj, .val (.lst (sL row))]) rfl (yS (yH e2 (Qk (c := 14) (i := 0) (f := 0) (d := .int m) rfl (by decide) rfl) rfl))
theorem zia (p : PW) {row : List Str} (h : p.Small) : ∃ F, Qj p.cls = some F /\ F [.val p.obj, .val (.lst (sL row))] = .ok (.bl (p.enough row)) [] := by
  cases p with
  | count m ys => exact ⟨_, rfl, zdO h⟩
  | weigh l ps => exact ⟨_, rfl, zdP h⟩
  | houses m e hs => exact ⟨_, rfl, zb6 h.1 h.2⟩
def PW.first (p : PW) (row : List Str) : Option Nat := ((List.range row.length).map (1 + ·)).find? fun k => p.enough (row.take k)
def zdR : Option Nat -> D | some k => .int k | none => .non
theorem zao {p : PW} {row : List Str} (h : p.Small) : ∀ (ks : List Nat) (s : Slot), (∀ k ∈ ks, k <= row.length) ->
    ∃ s', yI (zq 2) y0 (ks.map fun k : Nat => D.int (k : Int)) [.val p.obj, .val (.lst (sL row)), s] = .ok (match ks.find? fun k => p.enough (row.take k) with | some k => .rt (.int k) | none => .nx) [.val p.obj, .val (.lst (sL row)), s']
  | [], s, _ => ⟨s, rfl⟩
  | k :: r, s, hk => by
    have hk0 := hk k List.mem_cons_self
    obtain ⟨s', e⟩ := zao h r (.val (.int k)) fun x hx => hk x (List.mem_cons_of_mem _ hx)
    obtain ⟨F, hF, eF⟩ := zia p (row := row.take k) h
    have es : jJ (zf 1) jm (yz (zd 2)) [.val p.obj, .val (.lst (sL row)), .val (.int k)] = .ok (.lst (sL (row.take k))) [.val p.obj, .val (.lst (sL row)), .val (.int k)] := by
      walk_at "gs"
      rw [zdN (by rw [zY]; exact hk0), Wh]
    have e1 : gB (yW Qj (zd 0) (gCons (jJ (zf 1) jm (yz (zd 2))) gNil)) [.val p.obj, .val (.lst (sL row)), .val (.int k)] = .ok (p.enough (row.take k)) [.val p.obj, .val (.lst (sL row)), .val (.int k)] := by
      refine UX (j6 (c := p.cls) (fs := p.fs) (F := F) (ds := [.lst (sL (row.take k))]) (ρ1 := [.val p.obj, .val (.lst (sL row)), .val (.int k)]) rfl hF (by rw [yh es]; rfl) eF)
    have e2 : y0 [.val p.obj, .val (.lst (sL row)), .val (.int k)] = .ok (if p.enough (row.take k) = true then .rt (.int k) else .nx) [.val p.obj, .val (.lst (sL row)), .val (.int k)] := by
      unfold y0 jd
      rw [e1, zm]
      split <;> rfl
    rw [List.map_cons]
    unfold yI
    show ∃ s', Js (y0 [.val p.obj, .val (.lst (sL row)), .val (.int k)]) _ = _
    rw [e2, List.find?_cons]
    cases hb : p.enough (row.take k) with
    | true => exact ⟨_, rfl⟩
    | false => exact ⟨s', e⟩
theorem zo_ (n : Nat) : yr 1 (((n : Int) + 1) - 1).toNat = ((List.range n).map (1 + ·)).map fun k : Nat => D.int (k : Int) := by
  unfold yr
  rw [show (((n : Int) + 1) - 1).toNat = n by omega, List.map_map]
  refine List.map_congr_left fun i _ => ?_
  show D.int (1 + (i : Int)) = D.int ((1 + i : Nat) : Int)
  rw [Int.natCast_add]; rfl
theorem znU {n : Nat} (hr : n <= 1000) : zdb [.int 1, .int ((n : Int) + 1)] = some (((List.range n).map (1 + ·)).map fun k : Nat => D.int (k : Int)) := by
  rw [zlR ⟨by omega, by omega, by omega, by omega⟩, zo_]
theorem zgv {x : D} {row : List Str} (hr : row.length <= 1000) : Jf (gCons (gC (.int 1)) (gCons (zg yv (gO (zC ya (zf 1))) (gO (gC (.int 1)))) gNil)) [.val x, .val (.lst (sL row)), .no] = .ok (((List.range row.length).map (1 + ·)).map fun k : Nat => D.int (k : Int)) [.val x, .val (.lst (sL row)), .no] := by
  refine zd6 ?_ (znU hr)
  walk_at "gs"
  simp only [zY]
theorem zap {p : PW} {row : List Str} (h : p.Small) (hr : row.length <= 1000) : jo [.val p.obj, .val (.lst (sL row))] = .ok (zdR (p.first row)) [] := by
  obtain ⟨s', e⟩ := zao h ((List.range row.length).map (1 + ·)) .no (fun k hk => by obtain ⟨i, hi, rfl⟩ := List.mem_map.mp hk; have := List.mem_range.mp hi; omega) (row := row)
  have ef : Jg (Jf (gCons (gC (.int 1)) (gCons (zg yv (gO (zC ya (zf 1))) (gO (gC (.int 1)))) gNil))) (zq 2) y0 [.val p.obj, .val (.lst (sL row)), .no] = .ok (match ((List.range row.length).map (1 + ·)).find? fun k => p.enough (row.take k) with | some k => .rt (.int k) | none => .nx) [.val p.obj, .val (.lst (sL row)), s'] := by
    unfold Jg
    rw [zgv hr, zm]
    exact e
  unfold PW.first
  cases hf : List.find? (fun k => p.enough (List.take k row)) ((List.range row.length).map (1 + ·)) with
  | none => rw [hf] at ef; exact yC (ρ := [.val p.obj, .val (.lst (sL row)), s']) rfl ((zx ef).trans rfl)
  | some k => rw [hf] at ef; exact yC (ρ := [.val p.obj, .val (.lst (sL row)), s']) rfl (Qm ef)
theorem zea {p : PW} {row : List Str} {n : Nat} (h : p.Small) (hr : row.length <= 1000) : ∃ F, j5 (n + 1) p.cls = some F /\ F [.val p.obj, .val (.lst (sL row))] = .ok (zdR (p.first row)) [] := by
  have e : y3 [.val p.obj, .val (.lst (sL row))] = .ok (zdR (p.first row)) [] := yC rfl (yS (y4 (ds := [p.obj, .lst (sL row)]) rfl (zap h hr)))
  cases p <;> exact ⟨_, rfl, e⟩
theorem zjN {p : PW} {row : List Str} (h : p.Small) (hr : row.length < 1000) (hn : Names row) : ZM [.val p.obj, .val (.lst (sL row))] = .ok (.bl (p.first row).isSome) [] := by
  obtain ⟨F, hF, e⟩ := zea (n := 5) h (Nat.le_of_lt hr)
  have er : yZ [.val (.lst (sL row))] = .ok (.bl true) [] := by
    rw [VM Zl fun ds hd => by cases hd; exact ⟨by rw [zY]; exact hr, fun e he => by obtain ⟨x, hx, rfl⟩ := List.mem_map.mp he; exact ZG (hn.2 x hx)⟩]
    show RF.ok (.bl (VL (sL row))) [] = _
    rw [UZ hn]
  have e1 : QG [.val p.obj, .val (.lst (sL row))] = .ok (zdR (p.first row)) [] := by
    refine yC (ρ := [.val p.obj, .val (.lst (sL row))]) rfl ?_
    have e0 : gB (zA yZ (gCons (zd 1) gNil)) [.val p.obj, .val (.lst (sL row))] = .ok true [.val p.obj, .val (.lst (sL row))] := UX (y4 (ds := [.lst (sL row)]) rfl er)
    show WY ((O.bind (O.bind (gB (zA yZ (gCons (zd 1) gNil)) [.val p.obj, .val (.lst (sL row))]) _) _)) QF = _
    rw [e0]
    show QF [.val p.obj, .val (.lst (sL row))] = _
    exact yS (j6 (c := p.cls) (fs := p.fs) (F := F) (ds := [.lst (sL row)]) (ρ1 := [.val p.obj, .val (.lst (sL row))]) rfl hF rfl e)
  refine yC (ρ := [.val p.obj, .val (.lst (sL row))]) rfl (yS ?_)
  refine yH (x := zdR (p.first row)) (y := .non) (ρ1 := [.val p.obj, .val (.lst (sL row))]) (y4 (ds := [p.obj, .lst (sL row)]) rfl e1) rfl ?_
  cases p.first row <;> rfl
def PW.Ok : PW -> Prop
  | .count m ys => Names ys /\ ys.length <= 5 /\ 1 <= m /\ m <= ys.length
  | .weigh l ps => Names (ps.map (·.1)) /\ ps.length <= 5 /\ (∀ p ∈ ps, 1 <= p.2 /\ p.2 <= 1000000000) /\ 1 <= l /\ l <= (ps.map (·.2)).sum
  | .houses m e hs => (∀ h ∈ hs, Names h /\ h.length <= 5 /\ e <= h.length) /\ hs.length <= 5 /\ 1 <= m /\ m <= hs.length /\ 1 <= e /\ (dd hs.flatten).length <= 5
theorem PW.Ok.small {p : PW} (h : p.Ok) : p.Small := by
  cases p with
  | count m ys => have h1 := h.2.1; show ys.length <= 1000; omega
  | weigh l ps => have h1 := h.2.1; show ps.length <= 1000; omega
  | houses m e hs => have h1 := h.2.1; exact ⟨by omega, fun x hx => by have := (h.1 x hx).2.1; omega⟩
theorem zfn {ys r r' : List Str} (h : ∀ x, inr r x = true -> inr r' x = true) : (ys.filter (inr r)).length <= (ys.filter (inr r')).length := by
  rw [← List.countP_eq_length_filter, ← List.countP_eq_length_filter]
  exact List.countP_mono_left fun x _ => h x
theorem znV {ps : List (Str × Int)} {r r' : List Str} (h : ∀ x, inr r x = true -> inr r' x = true) (hp : ∀ p ∈ ps, 1 <= p.2) : ((ps.filter fun p => inr r p.1).map (·.2)).sum <= ((ps.filter fun p => inr r' p.1).map (·.2)).sum := by
  induction ps with
  | nil => exact Int.le_refl _
  | cons p t ih =>
    have i1 := ih fun q hq => hp q (List.mem_cons_of_mem _ hq)
    have i2 := hp p List.mem_cons_self
    rw [List.filter_cons, List.filter_cons]
    cases h1 : inr r p.1 with
    | true => rw [h _ h1]; simp only [if_true, List.map_cons, List.sum_cons]; omega
    | false =>
      cases h2 : inr r' p.1 with
      | true => simp only [Bool.false_eq_true, if_false, if_true, List.map_cons, List.sum_cons]; omega
      | false => simp only [Bool.false_eq_true, if_false]; exact i1
theorem zlU {p : PW} {r r' : List Str} (hp : p.Ok) (h : ∀ x, inr r x = true -> inr r' x = true) : p.have r <= p.have r' := by
  cases p with
  | count m ys => exact Int.ofNat_le.mpr (zfn h)
  | weigh l ps => exact znV h fun p hx => (hp.2.2.1 p hx).1
  | houses m e hs =>
    show ((hs.filter _).length : Int) <= ((hs.filter _).length : Int)
    rw [← List.countP_eq_length_filter, ← List.countP_eq_length_filter]
    refine Int.ofNat_le.mpr (List.countP_mono_left fun x _ hx => ?_)
    rw [decide_eq_true_eq] at hx ⊢
    have := zfn (ys := x) h
    omega
theorem zjO {p : PW} (hp : p.Ok) : p.have [] < p.need := by
  have e : ∀ ys : List Str, ys.filter (inr []) = [] := fun ys => List.filter_eq_nil_iff.mpr fun x _ => by simp [inr]
  cases p with
  | count m ys => have := hp.2.2.1; show ((ys.filter (inr [])).length : Int) < m; rw [e]; exact Int.lt_of_lt_of_le (by decide) this
  | weigh l ps =>
    have := hp.2.2.2.1
    have e2 : (ps.filter fun p => inr [] p.1) = [] := List.filter_eq_nil_iff.mpr fun x _ => by simp [inr]
    show ((ps.filter fun p => inr [] p.1).map (·.2)).sum < l
    rw [e2]; exact Int.lt_of_lt_of_le (by decide) this
  | houses m e' hs =>
    have h1 := hp.2.2.1
    have h2 := hp.2.2.2.2.1
    have e2 : (hs.filter fun h => decide (e' <= ((h.filter (inr [])).length : Int))) = [] := List.filter_eq_nil_iff.mpr fun x _ => by rw [e]; simp; omega
    show ((hs.filter fun h => decide (e' <= ((h.filter (inr [])).length : Int))).length : Int) < m
    rw [e2]; exact Int.lt_of_lt_of_le (by decide) h1
theorem zgw {p : PW} (hp : p.Ok) (row : List Str) : (p.first row).isSome = p.enough row := by
  unfold PW.first
  cases h : p.enough row with
  | true =>
    rw [List.find?_isSome]
    have hne : row ≠ [] := fun z => by
      subst z
      have := zjO hp
      unfold PW.enough at h
      rw [decide_eq_true_eq] at h
      omega
    have hl := List.length_pos_iff.mpr hne
    refine ⟨row.length, List.mem_map.mpr ⟨row.length - 1, List.mem_range.mpr (by omega), by omega⟩, ?_⟩
    rw [List.take_length]; exact h
  | false =>
    rw [Bool.eq_false_iff]
    intro z
    rw [List.find?_isSome] at z
    obtain ⟨k, _, hk⟩ := z
    unfold PW.enough at h hk
    rw [decide_eq_true_eq] at hk
    rw [decide_eq_false_iff_not] at h
    have := zlU hp (r := row.take k) (r' := row) fun x hx => by
      unfold inr at hx ⊢
      rw [decide_eq_true_eq] at hx ⊢
      exact List.mem_of_mem_take hx
    omega
theorem zlV {m : Int} {ys row : List Str} (h : ys.length <= 1000) : jj [.val (PW.count m ys).told, .val (.lst (sL row))] = .ok (.int ((PW.count m ys).have row - m)) [] := by
  obtain ⟨ρ', e, s', rfl⟩ := Wi (ys := ys) (row := row) (s := .no) (tl := [])
  have e0 : zg zy (zf 0) (gO (gC (.int 2))) [.val (PW.count m ys).told, .val (.lst (sL row)), .no, .no, .no, .no, .no, .no] = .ok (.lst (sL ys)) [.val (PW.count m ys).told, .val (.lst (sL row)), .no, .no, .no, .no, .no, .no] := by
    unfold PW.told; walk_at "gs"
  have e1 := yo (ρ2 := [.val (PW.count m ys).told, .val (.lst (sL row)), .no, .no, .no, .no, .no, .no]) (js := [none, some 1]) (yP e0) (by rw [zY]; omega) e rfl
  have e2 := Jb (f := ya) e1 VN
  have e3 : zg zy (zf 0) (gO (gC (.int 1))) [.val (PW.count m ys).told, .val (.lst (sL row)), .no, .no, .no, .no, .no, .no] = .ok (.int m) [.val (PW.count m ys).told, .val (.lst (sL row)), .no, .no, .no, .no, .no, .no] := by
    unfold PW.told; walk_at "gs"
  have e4 : gB (zg jp (gO (zg zy (zf 0) (gO (gC (.int 0))))) (gO (gC (.str "count")))) [.val (PW.count m ys).told, .val (.lst (sL row)), .no, .no, .no, .no, .no, .no] = .ok true [.val (PW.count m ys).told, .val (.lst (sL row)), .no, .no, .no, .no, .no, .no] := by
    unfold PW.told; walk_at "gs"
  refine yC (ρ := [.val (PW.count m ys).told, .val (.lst (sL row)), .no, .no, .no, .no, .no, .no]) rfl (Qm ?_)
  show O.bind (gB _ [.val (PW.count m ys).told, .val (.lst (sL row)), .no, .no, .no, .no, .no, .no]) _ = _
  rw [e4, zm, if_pos rfl]
  exact yS (yH e2 e3 rfl)
theorem zib {row : List Str} {s0 s5 s6 s7 : Slot} : ∀ (ps : List (Str × Int)) (f : Int) (s3 s4 : Slot), ∃ s3' s4', yI (JJ (yV (zq 3) (yV (zq 4) J3)) 2) Jy (ps.map yj) [s0, .val (.lst (sL row)), .val (.int f), s3, s4, s5, s6, s7] = .ok .nx [s0, .val (.lst (sL row)), .val (.int (f + ((ps.filter fun p => inr row p.1).map (·.2)).sum)), s3', s4', s5, s6, s7]
  | [], f, s3, s4 => ⟨s3, s4, by simp [yI]⟩
  | p :: r, f, s3, s4 => by
    obtain ⟨s3', s4', e⟩ := zib (row := row) (s0 := s0) (s5 := s5) (s6 := s6) (s7 := s7) r (f + p.2 * (if inr row p.1 = true then 1 else 0)) (.val (.str p.1)) (.val (.int p.2))
    refine ⟨s3', s4', ?_⟩
    rw [List.map_cons]
    unfold yI
    have e1 : JJ (yV (zq 3) (yV (zq 4) J3)) 2 (yj p) [s0, .val (.lst (sL row)), .val (.int f), s3, s4, s5, s6, s7] = some [s0, .val (.lst (sL row)), .val (.int f), .val (.str p.1), .val (.int p.2), s5, s6, s7] := rfl
    have e2 : Jy [s0, .val (.lst (sL row)), .val (.int f), .val (.str p.1), .val (.int p.2), s5, s6, s7] = .ok .nx [s0, .val (.lst (sL row)), .val (.int (f + p.2 * (if inr row p.1 = true then 1 else 0))), .val (.str p.1), .val (.int p.2), s5, s6, s7] := by
      unfold Jy
      walk_at "gs"
      simp only [zct]
      walk_at "gs"
      have hm : CMul p.2 (if inr row p.1 = true then 1 else 0) := zgq (by split <;> decide)
      simp only [if_pos hm]
      walk_at "gs"
    rw [e1, zR, zm, e2]
    show yI _ _ _ _ = _
    rw [e, List.filter_cons]
    cases inr row p.1 with
    | true => simp only [if_true, List.map_cons, List.sum_cons]; rw [Int.mul_one, Int.add_assoc]
    | false => simp only [Bool.false_eq_true, if_false]; rw [Int.mul_zero, Int.add_zero]
theorem zlW {l : Int} {ps : List (Str × Int)} {row : List Str} : jj [.val (PW.weigh l ps).told, .val (.lst (sL row))] = .ok (.int ((PW.weigh l ps).have row - l)) [] := by
  obtain ⟨s3', s4', e⟩ := zib (row := row) (s0 := .val (PW.weigh l ps).told) (s5 := .no) (s6 := .no) (s7 := .no) ps 0 .no .no
  have e0 : zg zy (zf 0) (gO (gC (.int 2))) [.val (PW.weigh l ps).told, .val (.lst (sL row)), .val (.int 0), .no, .no, .no, .no, .no] = .ok (.lst (ps.map yj)) [.val (PW.weigh l ps).told, .val (.lst (sL row)), .val (.int 0), .no, .no, .no, .no, .no] := by
    unfold PW.told; walk_at "gs"
  have e1 : Z9 [.val (PW.weigh l ps).told, .val (.lst (sL row)), .val (.int 0), .no, .no, .no, .no, .no] = .ok (.rt (.int ((PW.weigh l ps).have row - l))) [.val (PW.weigh l ps).told, .val (.lst (sL row)), .val (.int (0 + ((ps.filter fun p => inr row p.1).map (·.2)).sum)), s3', s4', .no, .no, .no] := by
    refine (zx ((Ql (yP e0)).trans e)).trans ?_
    unfold Z8 PW.told
    walk_at "gs"
    rw [Int.zero_add]; rfl
  refine yC (ρ := [.val (PW.weigh l ps).told, .val (.lst (sL row)), .val (.int (0 + ((ps.filter fun p => inr row p.1).map (·.2)).sum)), s3', s4', .no, .no, .no]) rfl ?_
  have e4 : gB (zg jp (gO (zg zy (zf 0) (gO (gC (.int 0))))) (gO (gC (.str "count")))) [.val (PW.weigh l ps).told, .val (.lst (sL row)), .no, .no, .no, .no, .no, .no] = .ok false [.val (PW.weigh l ps).told, .val (.lst (sL row)), .no, .no, .no, .no, .no, .no] := by
    unfold PW.told; walk_at "gs"
  have e5 : gB (zg jp (gO (zg zy (zf 0) (gO (gC (.int 0))))) (gO (gC (.str "weigh")))) [.val (PW.weigh l ps).told, .val (.lst (sL row)), .no, .no, .no, .no, .no, .no] = .ok true [.val (PW.weigh l ps).told, .val (.lst (sL row)), .no, .no, .no, .no, .no, .no] := by
    unfold PW.told; walk_at "gs"
  refine (zx ((Jm e4).trans rfl)).trans ?_
  refine Qm ((Ua e5).trans ?_)
  exact (zx (ρ1 := [.val (PW.weigh l ps).told, .val (.lst (sL row)), .val (.int 0), .no, .no, .no, .no, .no]) rfl).trans e1
theorem zfo {row : List Str} {s0 s2 s4 s5 s6 : Slot} : ∀ (h : List Str) (t : Int) (s3 : Slot), ∃ s3', yI (zq 3) Ja (sL h) [s0, .val (.lst (sL row)), s2, s3, s4, s5, s6, .val (.int t)] = .ok .nx [s0, .val (.lst (sL row)), s2, s3', s4, s5, s6, .val (.int (t + (h.filter (inr row)).length))]
  | [], t, s3 => ⟨s3, by simp [yI, sL]⟩
  | x :: r, t, s3 => by
    obtain ⟨s3', e⟩ := zfo (row := row) (s0 := s0) (s2 := s2) (s4 := s4) (s5 := s5) (s6 := s6) r (t + (if inr row x = true then 1 else 0)) (.val (.str x))
    refine ⟨s3', ?_⟩
    show yI _ _ (.str x :: sL r) _ = _
    unfold yI
    have e2 : Ja [s0, .val (.lst (sL row)), s2, .val (.str x), s4, s5, s6, .val (.int t)] = .ok .nx [s0, .val (.lst (sL row)), s2, .val (.str x), s4, s5, s6, .val (.int (t + (if inr row x = true then 1 else 0)))] := by
      unfold Ja
      walk_at "gs"
      simp only [zct]
      walk_at "gs"
    show Js (Ja [s0, .val (.lst (sL row)), s2, .val (.str x), s4, s5, s6, .val (.int t)]) _ = _
    rw [e2]
    show yI _ _ _ _ = _
    rw [e, List.filter_cons]
    cases inr row x with
    | true => simp only [if_true, List.length_cons]; rw [show t + 1 + ((r.filter (inr row)).length : Int) = t + (((r.filter (inr row)).length + 1 : Nat) : Int) by omega]
    | false => simp only [Bool.false_eq_true, if_false]; rw [Int.add_zero]
theorem zfp {m e : Int} {all : List (List Str)} {row : List Str} {s2 s4 : Slot} : ∀ (hs : List (List Str)) (f : Int) (s3 s6 s7 : Slot), ∃ s3' s6' s7', yI (zq 6) (zw (z6 7 (gC (.int 0))) Jz) (hs.map zT) [.val (PW.houses m e all).told, .val (.lst (sL row)), s2, s3, s4, .val (.int f), s6, s7]
    = .ok .nx [.val (PW.houses m e all).told, .val (.lst (sL row)), s2, s3', s4, .val (.int (f + (hs.filter fun h => decide (e <= ((h.filter (inr row)).length : Int))).length)), s6', s7']
  | [], f, s3, s6, s7 => ⟨s3, s6, s7, by simp [yI]⟩
  | h :: r, f, s3, s6, s7 => by
    obtain ⟨s3i, ei⟩ := zfo (row := row) (s0 := .val (PW.houses m e all).told) (s2 := s2) (s4 := s4) (s5 := .val (.int f)) (s6 := .val (zT h)) h 0 s3
    obtain ⟨s3', s6', s7', eo⟩ := zfp (m := m) (e := e) (all := all) (row := row) (s2 := s2) (s4 := s4) r (f + (if e <= ((h.filter (inr row)).length : Int) then 1 else 0)) s3i (.val (zT h)) (.val (.int (0 + (h.filter (inr row)).length)))
    refine ⟨s3', s6', s7', ?_⟩
    rw [List.map_cons]
    unfold yI
    have e2 : zw (z6 7 (gC (.int 0))) Jz [.val (PW.houses m e all).told, .val (.lst (sL row)), s2, s3, s4, .val (.int f), .val (zT h), s7] = .ok .nx [.val (PW.houses m e all).told, .val (.lst (sL row)), s2, s3i, s4, .val (.int (f + (if e <= ((h.filter (inr row)).length : Int) then 1 else 0))), .val (zT h), .val (.int (0 + (h.filter (inr row)).length))] := by
      refine (zx (ρ1 := [.val (PW.houses m e all).told, .val (.lst (sL row)), s2, s3, s4, .val (.int f), .val (zT h), .val (.int 0)]) rfl).trans ?_
      refine (zx ((Ql (jr (ds := sL h) rfl)).trans ei)).trans ?_
      unfold Ya PW.told
      walk_at "gs"
      rw [Int.zero_add]
      by_cases hc : e <= ((h.filter (inr row)).length : Int)
      · simp only [decide_eq_true hc, if_pos hc, if_true]
      · simp only [decide_eq_false hc, if_neg hc, Bool.false_eq_true, if_false]
    show Js (zw (z6 7 (gC (.int 0))) Jz [.val (PW.houses m e all).told, .val (.lst (sL row)), s2, s3, s4, .val (.int f), .val (zT h), s7]) _ = _
    rw [e2]
    show yI _ _ _ _ = _
    rw [eo, List.filter_cons]
    by_cases hc : e <= ((h.filter (inr row)).length : Int)
    · simp only [decide_eq_true hc, if_pos hc, if_true, List.length_cons]
      rw [show ∀ n : Nat, f + 1 + (n : Int) = f + ((n + 1 : Nat) : Int) from fun n => by omega]
    · simp only [decide_eq_false hc, if_neg hc, Bool.false_eq_true, if_false]; rw [Int.add_zero]
theorem zjP {m e : Int} {hs : List (List Str)} {row : List Str} : jj [.val (PW.houses m e hs).told, .val (.lst (sL row))] = .ok (.int ((PW.houses m e hs).have row - m)) [] := by
  obtain ⟨s3', s6', s7', eo⟩ := zfp (m := m) (e := e) (all := hs) (row := row) (s2 := .no) (s4 := .no) hs 0 .no .no .no
  have e0 : zg zy (zf 0) (gO (gC (.int 3))) [.val (PW.houses m e hs).told, .val (.lst (sL row)), .no, .no, .no, .val (.int 0), .no, .no] = .ok (.lst (hs.map zT)) [.val (PW.houses m e hs).told, .val (.lst (sL row)), .no, .no, .no, .val (.int 0), .no, .no] := by
    unfold PW.told; walk_at "gs"
  refine yC (ρ := [.val (PW.houses m e hs).told, .val (.lst (sL row)), .no, s3', .no, .val (.int (0 + (hs.filter fun h => decide (e <= ((h.filter (inr row)).length : Int))).length)), s6', s7']) rfl ?_
  have e4 : gB (zg jp (gO (zg zy (zf 0) (gO (gC (.int 0))))) (gO (gC (.str "count")))) [.val (PW.houses m e hs).told, .val (.lst (sL row)), .no, .no, .no, .no, .no, .no] = .ok false [.val (PW.houses m e hs).told, .val (.lst (sL row)), .no, .no, .no, .no, .no, .no] := by
    unfold PW.told; walk_at "gs"
  have e5 : gB (zg jp (gO (zg zy (zf 0) (gO (gC (.int 0))))) (gO (gC (.str "weigh")))) [.val (PW.houses m e hs).told, .val (.lst (sL row)), .no, .no, .no, .no, .no, .no] = .ok false [.val (PW.houses m e hs).told, .val (.lst (sL row)), .no, .no, .no, .no, .no, .no] := by
    unfold PW.told; walk_at "gs"
  refine (zx ((Jm e4).trans rfl)).trans ?_
  refine (zx ((Jm e5).trans rfl)).trans ?_
  refine (zx (ρ1 := [.val (PW.houses m e hs).told, .val (.lst (sL row)), .no, .no, .no, .val (.int 0), .no, .no]) rfl).trans ?_
  refine (zx ((Ql (yP e0)).trans eo)).trans ?_
  unfold Yb PW.told
  walk_at "gs"
  rw [Int.zero_add]; rfl
theorem zic (p : PW) {row : List Str} (h : p.Small) : jj [.val p.told, .val (.lst (sL row))] = .ok (.int (p.have row - p.need)) [] := by
  cases p with
  | count m ys => exact zlV h
  | weigh l ps => exact zlW
  | houses m e hs => exact zjP
theorem eqV_self (x : Str) : Qb (.str x) (.str x) = true := by
  show (x == x) = true; exact beq_self_eq_true x
theorem zjQ (x : Str) (n : Nat) : j8 (n + 1) (.str x) (.str x) = some true := by
  show (if (true && true) = true then some (Qb (.str x) (.str x)) else _) = _
  rw [eqV_self]; rfl
theorem zfq (n : Nat) : ∀ (xs : List Str), Ut (List.zipWith (j8 (n + 1)) (sL xs) (sL xs)) = some true
  | [] => rfl
  | x :: r => by
    show Ut (j8 (n + 1) (.str x) (.str x) :: List.zipWith (j8 (n + 1)) (sL r) (sL r)) = _
    rw [zjQ]
    unfold Ut
    rw [zfq n r]; rfl
theorem zlX (xs : List Str) (n : Nat) : j8 (n + 2) (.lst (sL xs)) (.lst (sL xs)) = some true := by
  show (if (false && false) = true then _ else if (sL xs).length = (sL xs).length then Ut (List.zipWith (j8 (n + 1)) (sL xs) (sL xs)) else some false) = _
  rw [if_neg (by decide), if_pos rfl, zfq]
theorem Re {p : PW} {row : List Str} (hp : p.Ok) (hn : Names row) (hr : row.length < 1000) : yO [.val p.obj, .val p.told, .val (.lst (sL row))] = .ok (.bl true) [] := by
  have h := hp.small
  have e1 : zA ZM (gCons (zd 0) (gCons (zd 3) gNil)) [.val p.obj, .val p.told, .val (.lst (sL row)), .val (.lst (sL row)), .no] = .ok (.bl (p.enough row)) [.val p.obj, .val p.told, .val (.lst (sL row)), .val (.lst (sL row)), .no] :=
    y4 (ds := [p.obj, .lst (sL row)]) rfl ((zjN h hr hn).trans (by rw [zgw hp]))
  have e2 : zA jj (gCons (zd 1) (gCons (zd 2) gNil)) [.val p.obj, .val p.told, .val (.lst (sL row)), .val (.lst (sL row)), .val (.bl (p.enough row))] = .ok (.int (p.have row - p.need)) [.val p.obj, .val p.told, .val (.lst (sL row)), .val (.lst (sL row)), .val (.bl (p.enough row))] :=
    y4 (ds := [p.told, .lst (sL row)]) rfl (zic p h)
  have ee : Uz false (.lst (sL row)) (.lst (sL row)) = some (.bl true) := by
    show (if (true && true) = true then _ else _) = _
    rw [show (true && true) = true from rfl, if_pos rfl, zlX row 38]; rfl
  refine yC (ρ := [.val p.obj, .val p.told, .val (.lst (sL row)), .val (.lst (sL row)), .val (.bl (p.enough row))]) rfl ?_
  refine (zx (ρ1 := [.val p.obj, .val p.told, .val (.lst (sL row)), .val (.lst (sL row)), .no]) rfl).trans ?_
  refine (zx (JM e1)).trans ?_
  unfold YK
  refine yS ?_
  refine (Yc (k := true) (ρ1 := [.val p.obj, .val p.told, .val (.lst (sL row)), .val (.lst (sL row)), .val (.bl (p.enough row))]) rfl).trans ?_
  rw [if_pos rfl]
  refine (Yc (k := true) (ρ1 := [.val p.obj, .val p.told, .val (.lst (sL row)), .val (.lst (sL row)), .val (.bl (p.enough row))]) ?_).trans ?_
  · have e3 := yH (f := YY) (d := .bl (decide (0 <= p.have row - p.need))) (b := gC (.int 0)) e2 rfl rfl
    have e4 : zg jp (zf 4) (gO (zg YY (gO (zA jj (gCons (zd 1) (gCons (zd 2) gNil)))) (gO (gC (.int 0))))) [.val p.obj, .val p.told, .val (.lst (sL row)), .val (.lst (sL row)), .val (.bl (p.enough row))] = yD (jp (.bl (p.enough row)) (.bl (decide (0 <= p.have row - p.need)))) [.val p.obj, .val p.told, .val (.lst (sL row)), .val (.lst (sL row)), .val (.bl (p.enough row))] := by
      show O.bind (O.bind (zg YY _ _ _) _) _ = _
      rw [e3]; rfl
    show zg jp (zf 4) (gO (zg YY (gO (zA jj (gCons (zd 1) (gCons (zd 2) gNil)))) (gO (gC (.int 0))))) [.val p.obj, .val p.told, .val (.lst (sL row)), .val (.lst (sL row)), .val (.bl (p.enough row))] = _
    rw [e4]
    unfold jp Ve
    dsimp only
    have : p.enough row = decide (0 <= p.have row - p.need) := by unfold PW.enough; rw [decide_eq_decide]; omega
    rw [decide_eq_true this]; rfl
  · rw [if_pos rfl]
    show yD (Uz false (.lst (sL row)) (.lst (sL row))) _ = _
    rw [ee]; rfl
theorem zb1 {ys : List Str} (hn : Names ys) (h1 : 1 <= ys.length) (h5 : ys.length <= 5) : jn [.val (.lst (sL ys))] = .ok (.bl true) [] := by
  have e1 : z5 [.val (.lst (sL ys))] = .ok (.bl true) [] := by
    rw [Ye Zl]
    unfold zam; dsimp only
    rw [zY, decide_eq_true h1, decide_eq_true h5]; rfl
  have e2 : yZ [.val (.lst (sL ys))] = .ok (.bl true) [] := by
    rw [VM Zl fun ds hd => by cases hd; exact ⟨by rw [zY]; omega, fun e he => by obtain ⟨x, hx, rfl⟩ := List.mem_map.mp he; exact ZG (hn.2 x hx)⟩]
    show RF.ok (.bl (VL (sL ys))) [] = _
    rw [UZ hn]
  refine yC (ρ := [.val (.lst (sL ys))]) rfl (yS ?_)
  refine (Yc (k := true) (y4 (ds := [.lst (sL ys)]) rfl e1)).trans ?_
  rw [if_pos rfl]
  exact y4 (ds := [.lst (sL ys)]) rfl e2
theorem zaq {i m : Int} (h1 : 1 <= i) (h2 : i <= m) : yE [.val (.int i), .val (.int m)] = .ok (.bl true) [] := by
  rw [zd8 zh8]
  unfold upD; dsimp only
  rw [decide_eq_true h1, decide_eq_true h2]; rfl
theorem y8 {a : G D} {w : Str} {ρ ρ1 : Env} (h : a ρ = .ok (.bl true) ρ1) : yi (zA yc (gCons a (gCons (gC (.str w)) gNil))) ρ = .ok .nx ρ1 :=
  zdG (y4 (ds := [.bl true, .str w]) ((yh h).trans rfl) zh9)
theorem VO {F : Fn} {a : G D} {ρ ρ1 : Env} {x d : D} {os : List D} (h : a ρ = .ok x ρ1) (hF : F [.val x] = .ok d os) : zA F (gCons a gNil) ρ = .ok d ρ1 := y4 (ds := [x]) ((yh h).trans rfl) hF
theorem VP {F : Fn} {a b : G D} {ρ ρ1 ρ2 : Env} {x y d : D} {os : List D} (h : a ρ = .ok x ρ1) (h2 : b ρ1 = .ok y ρ2) (hF : F [.val x, .val y] = .ok d os) : zA F (gCons a (gCons b gNil)) ρ = .ok d ρ2 := y4 (ds := [x, y]) ((yh h).trans (by rw [yh h2]; rfl)) hF
theorem zgx {m : Int} {ys : List Str} (h : (PW.count m ys).Ok) : ZK [.own (.obj 12 []), .val (.int m), .val (.lst (sL ys))] = .ok .non [(PW.count m ys).obj] := by
  obtain ⟨hn, h5, h1, hm⟩ := h
  refine Rb (ρ := [.val (.int m), .val (.lst (sL ys))]) rfl ?_
  refine (zx (y8 (VO (a := zd 2) rfl (zb1 hn (by omega) h5)))).trans ?_
  refine (zx (y8 (VP (a := zd 1) (b := zC ya (zf 2)) (x := .int m) (y := .int ys.length) rfl (by walk_at "gs"; rw [zY]) (zaq h1 hm)))).trans ?_
  unfold VB
  walk_at "gs"
  rfl
theorem zgy {x : Str} {i : Int} (hx : Jk x = true) (h1 : 1 <= i) (h2 : i <= 1000000000) : Zj [.val (yj (x, i))] = .ok (.bl true) [] := by
  have e1 : ju [.val (.str x)] = .ok (.bl true) [] := by rw [zdM (ZG hx)]; show RF.ok (.bl (Jk x)) [] = _; rw [hx]
  refine yC (ρ := [.val (yj (x, i))]) rfl ?_
  refine (zx (ρ1 := [.val (yj (x, i))]) (by unfold yj; walk_at "gs")).trans ?_
  refine yS ((Yc (k := true) (VO (a := zg zy (zf 0) (gO (gC (.int 0)))) (x := .str x) (ρ1 := [.val (yj (x, i))]) (by unfold yj; walk_at "gs") e1)).trans ?_)
  rw [if_pos rfl]
  exact VP (a := zg zy (zf 0) (gO (gC (.int 1)))) (x := .int i) (y := .int 1000000000) (ρ1 := [.val (yj (x, i))]) (by unfold yj; walk_at "gs") rfl (zaq h1 h2)
theorem zjR {ps : List (Str × Int)} {s : Slot} : ∃ s', z0 (zq 0) jl (zg zy (zf 0) (gO (gC (.int 0)))) (ps.map yj) [s] = .ok (sL (ps.map (·.1))) [s'] := by
  induction ps generalizing s with
  | nil => exact ⟨s, rfl⟩
  | cons p r ih =>
    obtain ⟨s', e⟩ := ih (s := .val (yj p))
    have e2 : zg zy (zf 0) (gO (gC (.int 0))) [.val (yj p)] = .ok (.str p.1) [.val (yj p)] := by unfold yj; walk_at "gs"
    refine ⟨s', ?_⟩
    rw [List.map_cons]
    unfold z0
    show (O.bind (yD (some ([.val (yj p)] : Env)) _) _) = _
    rw [zR, zm]
    show (O.bind (.ok true [.val (yj p)]) _) = _
    rw [zm, if_pos rfl, e2, zm, e, zm]; rfl
theorem zjS {ps : List (Str × Int)} {s : Slot} : ∃ s', z0 (zq 0) jl (zg zy (zf 0) (gO (gC (.int 1)))) (ps.map yj) [s] = .ok ((ps.map (·.2)).map D.int) [s'] := by
  induction ps generalizing s with
  | nil => exact ⟨s, rfl⟩
  | cons p r ih =>
    obtain ⟨s', e⟩ := ih (s := .val (yj p))
    have e2 : zg zy (zf 0) (gO (gC (.int 1))) [.val (yj p)] = .ok (.int p.2) [.val (yj p)] := by unfold yj; walk_at "gs"
    refine ⟨s', ?_⟩
    rw [List.map_cons]
    unfold z0
    show (O.bind (yD (some ([.val (yj p)] : Env)) _) _) = _
    rw [zR, zm]
    show (O.bind (.ok true [.val (yj p)]) _) = _
    rw [zm, if_pos rfl, e2, zm, e, zm]; rfl
theorem zdS {F : Fn} {ds : List D} {ρ : Env} {i : Nat} (hi : ρ[i]? = some (.val (.lst ds))) (hl : ds.length <= 1000) (hF : ∀ d ∈ ds, F [.val d] = .ok (.bl true) []) :
    zC YA (gO (z3 (zI (zd i)) [none] (zq 0) jl (zA F (gCons (zd 0) gNil)))) ρ = .ok (.bl true) ρ := by
  rw [zb0 (f := fun _ => true) hi (by omega) hF]; simp
theorem zdT {ds : List D} (h1 : 1 <= ds.length) (h5 : ds.length <= 5) : z5 [.val (.lst ds)] = .ok (.bl true) [] := by
  rw [Ye Zl]
  unfold zam; dsimp only
  rw [decide_eq_true h1, decide_eq_true h5]; rfl
theorem znW {ys : List Str} (hn : Names ys) (h5 : ys.length < 1000) : yZ [.val (.lst (sL ys))] = .ok (.bl true) [] := by
  rw [VM Zl fun ds hd => by cases hd; exact ⟨by rw [zY]; omega, fun e he => by obtain ⟨x, hx, rfl⟩ := List.mem_map.mp he; exact ZG (hn.2 x hx)⟩]
  show RF.ok (.bl (VL (sL ys))) [] = _
  rw [UZ hn]
theorem zgz {l : Int} {ps : List (Str × Int)} (h : (PW.weigh l ps).Ok) : ZL [.own (.obj 13 []), .val (.int l), .val (.lst (ps.map yj))] = .ok .non [(PW.weigh l ps).obj] := by
  obtain ⟨hn, h5, hw, h1, hl⟩ := h
  have hp : 1 <= ps.length := by
    cases ps with
    | nil => simp at hl; omega
    | cons _ _ => simp
  obtain ⟨s1, ec1⟩ := zjR (ps := ps) (s := .no)
  obtain ⟨s2, ec2⟩ := zjS (ps := ps) (s := .no)
  refine Rb (ρ := [.val (.int l), .val (.lst (ps.map yj))]) rfl ?_
  refine (zx (y8 (VO (a := zd 2) rfl (zdT (by simpa using hp) (by simpa using h5))))).trans ?_
  refine (zx (y8 (zdS (ds := ps.map yj) rfl (by rw [List.length_map]; omega) fun d hd => by
    obtain ⟨p, hp, rfl⟩ := List.mem_map.mp hd
    exact zgy (hn.2 _ (List.mem_map_of_mem hp)) (hw p hp).1 (hw p hp).2))).trans ?_
  refine (zx (y8 (VO (x := .lst (sL (ps.map (·.1)))) (ρ1 := [.own (.obj 13 []), .val (.int l), .val (.lst (ps.map yj))]) (yo (jr (ds := ps.map yj) rfl) (by rw [List.length_map]; omega) ec1 rfl) (znW hn (by rw [List.length_map]; omega))))).trans ?_
  refine (zx (y8 (VP (a := zd 1) (x := .int l) (y := .int (ps.map (·.2)).sum) (ρ2 := [.own (.obj 13 []), .val (.int l), .val (.lst (ps.map yj))]) rfl (Jb (yo (jr (ds := ps.map yj) rfl) (by rw [List.length_map]; omega) ec2 rfl) Rc) (zaq h1 hl)))).trans ?_
  unfold VC
  walk_at "gs"
  rfl
theorem zdU {hs : List (List Str)} {s : Slot} : ∃ s', z0 (zq 0) jl (zC ya (zf 0)) (hs.map zT) [s] = .ok ((hs.map fun h => (h.length : Int)).map D.int) [s'] := by
  induction hs generalizing s with
  | nil => exact ⟨s, rfl⟩
  | cons p r ih =>
    obtain ⟨s', e⟩ := ih (s := .val (zT p))
    have e2 : zC ya (zf 0) [.val (zT p)] = .ok (.int p.length) [.val (zT p)] := by unfold zT; walk_at "gs"; rw [zY]
    refine ⟨s', ?_⟩
    rw [List.map_cons]
    unfold z0
    show (O.bind (yD (some ([.val (zT p)] : Env)) _) _) = _
    rw [zR, zm]
    show (O.bind (.ok true [.val (zT p)]) _) = _
    rw [zm, if_pos rfl, e2, zm, e, zm]; rfl
theorem zb2 {hs : List (List Str)} {s : Slot} : ∃ s', z0 (zq 0) jl (jv jM (zf 0)) (hs.map zT) [s] = .ok (hs.map zT) [s'] := by
  induction hs generalizing s with
  | nil => exact ⟨s, rfl⟩
  | cons p r ih =>
    obtain ⟨s', e⟩ := ih (s := .val (zT p))
    have e2 : jv jM (zf 0) [.val (zT p)] = .ok (zT p) [.val (zT p)] := by unfold zT; walk_at "gs"
    refine ⟨s', ?_⟩
    rw [List.map_cons]
    unfold z0
    show (O.bind (yD (some ([.val (zT p)] : Env)) _) _) = _
    rw [zR, zm]
    show (O.bind (.ok true [.val (zT p)]) _) = _
    rw [zm, if_pos rfl, e2, zm, e, zm]
theorem zfr {e : Int} : ∀ {ns : List Int}, ns ≠ [] -> (∀ n ∈ ns, e <= n) -> e <= J5 ns
  | [], h, _ => absurd rfl h
  | x :: xs, _, h => by
    show e <= xs.foldl (fun a b => if b < a then b else a) x
    have hx := h x List.mem_cons_self
    have hs : ∀ n ∈ xs, e <= n := fun n hn => h n (List.mem_cons_of_mem _ hn)
    clear h
    induction xs generalizing x with
    | nil => exact hx
    | cons y ys ih =>
      rw [List.foldl_cons]
      refine ih _ (by simp) ?_ (fun n hn => hs n (List.mem_cons_of_mem _ hn))
      have := hs y List.mem_cons_self
      split <;> omega
theorem zdV {ns : List Int} (h : ns ≠ []) : Wf (.lst (ns.map D.int)) = some (.int (J5 ns)) := by
  unfold Wf hIs QA; rw [Option.bind_some, zbI]
  show RS ns = _
  unfold RS; rw [if_neg h]
theorem zgA {m e : Int} {hs : List (List Str)} (hl : hs.length <= 5) (hh : ∀ h ∈ hs, h.length <= 5) : jV [.val (PW.houses m e hs).obj] = .ok (.lst (sL hs.flatten)) [] := by
  have loop : ∀ (l : List (List Str)) (f : List Str) (s : Slot), (∀ h ∈ l, h.length <= 5) -> f.length + 5 * l.length <= 100 -> ∃ s', yI (zq 2) (yi (yX Qg 1 (zd 2))) (l.map zT) [.val (PW.houses m e hs).obj, .own (.lst (sL f)), s] = .ok .nx [.val (PW.houses m e hs).obj, .own (.lst (sL (f ++ l.flatten))), s'] := by
    intro l
    induction l with
    | nil => intro f s _ _; exact ⟨s, by simp [yI]⟩
    | cons h r ih =>
      intro f s hh hf
      have h5 := hh h List.mem_cons_self
      simp only [List.length_cons] at hf
      obtain ⟨s', e1⟩ := ih (f ++ h) (.val (zT h)) (fun x hx => hh x (List.mem_cons_of_mem _ hx)) (by rw [List.length_append]; omega)
      refine ⟨s', ?_⟩
      rw [List.map_cons]
      unfold yI
      have hx : Qg (sL f) (.lst (sL h)) = some (.non, sL (f ++ h)) := by
        unfold Qg; dsimp only
        rw [if_pos (by rw [zY, zY]; omega), zdJ]
      have e2 : yi (yX Qg 1 (zd 2)) [.val (PW.houses m e hs).obj, .own (.lst (sL f)), .val (zT h)] = .ok .nx [.val (PW.houses m e hs).obj, .own (.lst (sL (f ++ h))), .val (zT h)] := by
        unfold zT
        walk_at "gs"
        simp only [hx]
        walk_at "gs"
      show Js (yi (yX Qg 1 (zd 2)) [.val (PW.houses m e hs).obj, .own (.lst (sL f)), .val (zT h)]) _ = _
      rw [e2]
      show yI _ _ _ _ = _
      rw [e1, List.flatten_cons, List.append_assoc]
  obtain ⟨s', e1⟩ := loop hs [] .no hh (by simp; omega)
  have e0 := yP (Qk (ρ := [.val (PW.houses m e hs).obj, .own (.lst []), .no]) (c := 14) (i := 0) (f := 5) (d := .lst (hs.map zT)) rfl (by decide) rfl)
  refine yC (ρ := [.val (PW.houses m e hs).obj, .val (.lst (sL hs.flatten)), s']) rfl ?_
  refine (zx (ρ1 := [.val (PW.houses m e hs).obj, .own (.lst []), .no]) rfl).trans ?_
  refine (zx ((Ql e0).trans e1)).trans ?_
  rfl
theorem zgB {xs : List Str} (h : xs.length < 64) : QV (.lst (sL xs)) = some (sL (Ji (dd xs))) := by
  unfold QV Q6 QA sL
  simp only [Option.bind_some, Zh, if_pos h]
theorem zdW {m e : Int} {hs : List (List Str)} {R : Nat -> Option Fn} (hl : hs.length <= 5) (hh : ∀ h ∈ hs, h.length <= 5) : jh R [.val (PW.houses m e hs).obj] = .ok (.lst (sL (Ji (dd hs.flatten)))) [] := by
  have hf : hs.flatten.length < 64 := by
    have : ∀ l : List (List Str), (∀ h ∈ l, h.length <= 5) -> l.flatten.length <= 5 * l.length := fun l => by
      induction l with
      | nil => intro _; simp
      | cons h r ih =>
        intro hh
        have := ih fun x hx => hh x (List.mem_cons_of_mem _ hx)
        have := hh h List.mem_cons_self
        simp only [List.flatten_cons, List.length_append, List.length_cons]; omega
    have := this hs hh
    omega
  refine yC (ρ := [.val (PW.houses m e hs).obj, .val (.lst (sL hs.flatten)), .no]) rfl ?_
  refine (zx (JM (j6 (ρ1 := [.val (PW.houses m e hs).obj, .no, .no]) (c := 14) (fs := (PW.houses m e hs).fs) (ds := []) (F := jV) rfl rfl rfl (zgA hl hh)))).trans ?_
  show JU R [.val (PW.houses m e hs).obj, .val (.lst (sL hs.flatten)), .no] = _
  refine (zx (ρ1 := [.val (PW.houses m e hs).obj, .val (.lst (sL hs.flatten)), .no]) ((Ql (yP (j6 (ρ1 := [.val (PW.houses m e hs).obj, .val (.lst (sL hs.flatten)), .no]) (c := 14) (fs := (PW.houses m e hs).fs) (ds := []) (F := yx) (d := .lst []) rfl rfl rfl rfl))).trans rfl)).trans ?_
  refine yS ?_
  show yD ((QV (.lst (sL hs.flatten))).map D.lst) _ = _
  rw [zgB hf]; rfl
theorem zdX {m e : Int} {hs : List (List Str)} {R : Nat -> Option Fn} : jK R [.val (PW.houses m e hs).obj] = .ok (.int 1) [] := by
  refine yC (ρ := [.val (PW.houses m e hs).obj]) rfl (yS (yH (a := gC (.int 1)) (x := .int 1) (y := .int 0) rfl ?_ rfl))
  refine yH (x := .lst []) (y := .int 0) (yo (ρ2 := [.val (PW.houses m e hs).obj]) (yP (j6 (ρ1 := [.val (PW.houses m e hs).obj]) (c := 14) (fs := (PW.houses m e hs).fs) (ds := []) (F := yx) (d := .lst []) rfl rfl rfl rfl)) (by simp) rfl rfl) rfl rfl
theorem zdY {m e : Int} {hs : List (List Str)} {R : Nat -> Option Fn} : yN R [.val (PW.houses m e hs).obj] = .ok (.int 1) [] := by
  refine yC (ρ := [.val (PW.houses m e hs).obj]) rfl (yS (yH (a := gC (.int 1)) (x := .int 1) (y := .int 0) rfl ?_ rfl))
  refine Jb (x := .lst []) (yo (ρ2 := [.val (PW.houses m e hs).obj]) (yP (j6 (ρ1 := [.val (PW.houses m e hs).obj]) (c := 14) (fs := (PW.houses m e hs).fs) (ds := []) (F := yx) (d := .lst []) rfl rfl rfl rfl)) (by simp) rfl rfl) rfl
theorem zeb {m e : Int} {hs : List (List Str)} (hl : hs.length <= 5) (hh : ∀ h ∈ hs, h.length <= 5) (hd : (dd hs.flatten).length <= 5) : jQ [.val (PW.houses m e hs).obj] = .ok .non [] := by
  have hlen : (Ji (dd hs.flatten)).length <= 5 := by rw [(ZE _).length_eq]; exact hd
  refine znN (ρ := [.val (PW.houses m e hs).obj]) rfl ?_
  refine (zx (y8 (yH (x := .int (Ji (dd hs.flatten)).length) (y := .int 5) (Jb (j6 (ρ1 := [.val (PW.houses m e hs).obj]) (c := 14) (fs := (PW.houses m e hs).fs) (ds := []) (F := jh (j4 5)) rfl rfl rfl (zdW hl hh)) VN) rfl ?_))).trans ?_
  · show some (D.bl (decide (((Ji (dd hs.flatten)).length : Int) <= 5))) = _
    rw [decide_eq_true (by omega)]
  refine (zx (y8 (yH (x := .int 1) (y := .int 4) (j6 (ρ1 := [.val (PW.houses m e hs).obj]) (c := 14) (fs := (PW.houses m e hs).fs) (ds := []) (F := jK (J8 5)) rfl rfl rfl zdX) rfl rfl))).trans ?_
  exact y8 (yH (x := .int 1) (y := .int 12) (j6 (ρ1 := [.val (PW.houses m e hs).obj]) (c := 14) (fs := (PW.houses m e hs).fs) (ds := []) (F := yN (jz 5)) rfl rfl rfl zdY) rfl rfl)
theorem zec {m e : Int} {hs : List (List Str)} (h : (PW.houses m e hs).Ok) : QY [.own (.obj 14 []), .val (.int m), .val (.int e), .val (.lst (hs.map zT))] = .ok .non [(PW.houses m e hs).obj] := by
  obtain ⟨hh, h5, h1, hm, he, hd⟩ := h
  have hp : 1 <= hs.length := by omega
  have hne : (hs.map fun h => (h.length : Int)) ≠ [] := fun z => by have := congrArg List.length z; rw [List.length_map, List.length_nil] at this; omega
  obtain ⟨s1, ec1⟩ := zdU (hs := hs) (s := .no)
  obtain ⟨s2, ec2⟩ := zb2 (hs := hs) (s := .no)
  refine Rb (ρ := [.val (.int m), .val (.int e), .val (.lst (hs.map zT))]) rfl ?_
  refine (zx (y8 (VO (a := zd 3) rfl (zdT (by simpa using hp) (by simpa using h5))))).trans ?_
  refine (zx (y8 (zdS (ds := hs.map zT) rfl (by rw [List.length_map]; omega) fun d hd => by
    obtain ⟨p, hp, rfl⟩ := List.mem_map.mp hd
    obtain ⟨a, b, c⟩ := hh p hp
    exact zb1 a (by omega) b))).trans ?_
  refine (zx (y8 (VP (a := zd 1) (b := zC ya (zf 3)) (x := .int m) (y := .int hs.length) rfl (by walk_at "gs"; rw [List.length_map]) (zaq h1 hm)))).trans ?_
  refine (zx (y8 (VP (a := zd 2) (x := .int e) (y := .int (J5 (hs.map fun h => (h.length : Int)))) (ρ2 := [.own (.obj 14 []), .val (.int m), .val (.int e), .val (.lst (hs.map zT))]) rfl (Jb (yo (jr (ds := hs.map zT) rfl) (by rw [List.length_map]; omega) ec1 rfl) (zdV hne)) (zaq he (zfr hne fun n hn => by
    obtain ⟨h, hh', rfl⟩ := List.mem_map.mp hn
    exact (hh h hh').2.2))))).trans ?_
  refine (zx (ρ1 := [.own (.obj 14 [(0, .int m)]), .val (.int m), .val (.int e), .val (.lst (hs.map zT))]) (by walk_at "gs")).trans ?_
  refine (zx (ρ1 := [.own (.obj 14 [(0, .int m), (4, .int e)]), .val (.int m), .val (.int e), .val (.lst (hs.map zT))]) (by walk_at "gs")).trans ?_
  have ec3 := yo (ρ2 := [.own (.obj 14 [(0, .int m), (4, .int e)]), .val (.int m), .val (.int e), .val (.lst (hs.map zT))]) (js := [none]) (jr (i := 3) (ρ := [.own (.obj 14 [(0, .int m), (4, .int e)]), .val (.int m), .val (.int e), .val (.lst (hs.map zT))]) (ds := hs.map zT) rfl) (by rw [List.length_map]; omega) ec2 rfl
  refine (zx (ρ1 := [.own (PW.houses m e hs).obj, .val (.int m), .val (.int e), .val (.lst (hs.map zT))]) ?_).trans ?_
  · unfold J4
    rw [ec3]
    walk_at "gs"
    rfl
  · refine zdG (d := .non) ?_
    show RW (jQ [.val (PW.houses m e hs).obj]) _ = _
    rw [zeb h5 (fun h hx => (hh h hx).2.1) hd]; rfl
theorem zlY (p : PW) (h : p.Ok) (n : Nat) : J9 (n + 1) [.val p.told] = .ok p.obj [] := by
  show zQ [] 1 1 false (UV (J9 n)) [.val p.told] = _
  have ne : ∀ (w : Str) (k : Bool), gB (zg jp (gO (zg zy (zf 0) (gO (gC (.int 0))))) (gO (gC (.str w)))) [.val p.told, .no] = .ok k [.val p.told, .no] -> gB (zg jp (gO (zg zy (zf 0) (gO (gC (.int 0))))) (gO (gC (.str w)))) [.val p.told, .no] = .ok k [.val p.told, .no] := fun _ _ h => h
  refine yC (ρ := [.val p.told, .no]) rfl ?_
  cases p with
  | count m ys =>
    have e1 : gB (zg jp (gO (zg zy (zf 0) (gO (gC (.int 0))))) (gO (gC (.str "count")))) [.val (PW.count m ys).told, .no] = .ok true [.val (PW.count m ys).told, .no] := by unfold PW.told; walk_at "gs"
    refine Qm ((Ua e1).trans (yS ?_))
    have e2 : gCons (zg zy (zf 0) (gO (gC (.int 1)))) (gCons (jv jM (gO (zg zy (zf 0) (gO (gC (.int 2)))))) gNil) [.val (PW.count m ys).told, .no] = .ok [.int m, .lst (sL ys)] [.val (PW.count m ys).told, .no] := by unfold PW.told; walk_at "gs"
    show O.bind (gCons _ _ [.val (PW.count m ys).told, .no]) _ = _
    rw [e2, zm]
    rw [show ZK (.own (.obj 12 []) :: [D.int m, .lst (sL ys)].map .val) = _ from zgx h]; rfl
  | weigh l ps =>
    have e0 : gB (zg jp (gO (zg zy (zf 0) (gO (gC (.int 0))))) (gO (gC (.str "count")))) [.val (PW.weigh l ps).told, .no] = .ok false [.val (PW.weigh l ps).told, .no] := by unfold PW.told; walk_at "gs"
    have e1 : gB (zg jp (gO (zg zy (zf 0) (gO (gC (.int 0))))) (gO (gC (.str "weigh")))) [.val (PW.weigh l ps).told, .no] = .ok true [.val (PW.weigh l ps).told, .no] := by unfold PW.told; walk_at "gs"
    refine (zx ((Jm e0).trans rfl)).trans ?_
    refine Qm ((Ua e1).trans (yS ?_))
    have e2 : gCons (zg zy (zf 0) (gO (gC (.int 1)))) (gCons (jv jM (gO (zg zy (zf 0) (gO (gC (.int 2)))))) gNil) [.val (PW.weigh l ps).told, .no] = .ok [.int l, .lst (ps.map yj)] [.val (PW.weigh l ps).told, .no] := by unfold PW.told; walk_at "gs"
    show O.bind (gCons _ _ [.val (PW.weigh l ps).told, .no]) _ = _
    rw [e2, zm]
    rw [show ZL (.own (.obj 13 []) :: [D.int l, .lst (ps.map yj)].map .val) = _ from zgz h]; rfl
  | houses m e hs =>
    have e0 : gB (zg jp (gO (zg zy (zf 0) (gO (gC (.int 0))))) (gO (gC (.str "count")))) [.val (PW.houses m e hs).told, .no] = .ok false [.val (PW.houses m e hs).told, .no] := by unfold PW.told; walk_at "gs"
    have e1 : gB (zg jp (gO (zg zy (zf 0) (gO (gC (.int 0))))) (gO (gC (.str "weigh")))) [.val (PW.houses m e hs).told, .no] = .ok false [.val (PW.houses m e hs).told, .no] := by unfold PW.told; walk_at "gs"
    have e3 : gB (zg jp (gO (zg zy (zf 0) (gO (gC (.int 0))))) (gO (gC (.str "houses")))) [.val (PW.houses m e hs).told, .no] = .ok true [.val (PW.houses m e hs).told, .no] := by unfold PW.told; walk_at "gs"
    refine (zx ((Jm e0).trans rfl)).trans ?_
    refine (zx ((Jm e1).trans rfl)).trans ?_
    refine Qm ((Ua e3).trans (yS ?_))
    obtain ⟨s2, ec2⟩ := zb2 (hs := hs) (s := .no)
    have e5 : zg zy (zf 0) (gO (gC (.int 3))) [.val (PW.houses m e hs).told, .no] = .ok (.lst (hs.map zT)) [.val (PW.houses m e hs).told, .no] := by unfold PW.told; walk_at "gs"
    have ec3 := yo (ρ2 := [.val (PW.houses m e hs).told, .no]) (js := [none]) (yP e5) (by have := h.2.1; rw [List.length_map]; omega) ec2 rfl
    have e2 : gCons (zg zy (zf 0) (gO (gC (.int 1)))) (gCons (zg zy (zf 0) (gO (gC (.int 2)))) (gCons (z3 (zI (zg zy (zf 0) (gO (gC (.int 3))))) [none] (zq 0) jl (jv jM (zf 0))) gNil)) [.val (PW.houses m e hs).told, .no] = .ok [.int m, .int e, .lst (hs.map zT)] [.val (PW.houses m e hs).told, .no] := by
      refine (yh (x := .int m) (ρ1 := [.val (PW.houses m e hs).told, .no]) (by unfold PW.told; walk_at "gs")).trans ?_
      rw [yh (x := .int e) (ρ1 := [.val (PW.houses m e hs).told, .no]) (by unfold PW.told; walk_at "gs"), yh ec3]
      rfl
    show O.bind (gCons _ _ [.val (PW.houses m e hs).told, .no]) _ = _
    rw [e2, zm]
    rw [show QY (.own (.obj 14 []) :: [D.int m, .int e, .lst (hs.map zT)].map .val) = _ from zec h]; rfl
theorem zdZ : ∀ {l m : List Str}, l.Nodup -> (∀ x ∈ l, x ∈ m) -> l.length <= m.length
  | [], _, _, _ => Nat.zero_le _
  | x :: r, m, hn, h => by
    have hx := h x List.mem_cons_self
    have i := zdZ (l := r) (m := m.erase x) (List.nodup_cons.mp hn).2 fun y hy => (List.mem_erase_of_ne (a := y) (b := x) (fun z => (List.nodup_cons.mp hn).1 (by rw [← z]; exact hy))).mpr (h y (List.mem_cons_of_mem _ hy))
    rw [List.length_erase_of_mem hx] at i
    have := List.length_pos_of_mem hx
    rw [List.length_cons]; omega
theorem zot {xs ys : List Str} (h : ∀ x ∈ xs, x ∈ ys) : (dd xs).length <= ys.length := zdZ W3 fun x hx => h x (dd_mem.mp hx)
theorem zlZ {ps : List (Str × Int)} (h : ∀ p ∈ ps, 1 <= p.2 /\ p.2 <= 1000000000) : (ps.length : Int) <= (ps.map (·.2)).sum /\ (ps.map (·.2)).sum <= 1000000000 * ps.length := by
  induction ps with
  | nil => simp
  | cons p r ih =>
    have i1 := ih fun q hq => h q (List.mem_cons_of_mem _ hq)
    have i2 := h p List.mem_cons_self
    simp only [List.map_cons, List.sum_cons, List.length_cons]
    omega
theorem zid {j : Nat} {F : Fn} {a : G (List D)} {ρ ρ1 : Env} {ds : List D} {o0 o d o' : D} (h0 : ρ[j]? = some (.own o0)) (h1 : a ρ = .ok ds ρ1) (h2 : ρ1[j]? = some (.own o)) (h3 : F (.own o :: ds.map .val) = .ok d [o']) : zv j F a ρ = .ok d (ρ1.set j (.own o')) := by
  unfold zv; rw [h0]; simp only [UD, zR, zm, h1, h2, h3, Ym]
theorem Qa {j : Nat} {F : Fn} {a : G D} {ρ ρ1 ρ2 : Env} {x o0 o d o' : D} (h0 : ρ[j]? = some (.own o0)) (h1 : a ρ = .ok x ρ1) (h2 : ρ1[j]? = some (.own o)) (h3 : F [.own o, .val x] = .ok d [o']) (h4 : ρ1.set j (.own o') = ρ2) : zv j F (gCons a gNil) ρ = .ok d ρ2 := by
  rw [zid (ds := [x]) h0 ((yh h1).trans rfl) h2 h3, h4]
theorem zar {top : Int} (ht : 0 < top /\ top <= 1000000000) : ∀ (xs : List Str) (s : Slot) (o : D), yk o -> ∃ (ws : List Int) (s' : Slot) (o' : D), yk o' /\ ws.length = xs.length /\ (∀ w ∈ ws, 1 <= w /\ w <= 1000000000) /\ z0 (zq 0) jl (gTup (gCons (zd 0) (gCons (zg yv (gO (gC (.int 1))) (gO (zv 1 zu (gCons (zd 2) gNil)))) gNil))) (sL xs) [s, .own o, .val (.int top)] = .ok ((xs.zip ws).map yj) [s', .own o', .val (.int top)]
  | [], s, o, hw => ⟨[], s, o, hw, rfl, (fun w h => (nomatch h)), rfl⟩
  | x :: r, s, o, hw => by
    obtain ⟨b, o1, e, b0, b1, hw1⟩ := y7 hw (n := top) ht.1 (by omega)
    obtain ⟨ws, s', o', hw', hl, hh, e2⟩ := zar ht r (.val (.str x)) o1 hw1
    refine ⟨(1 + b) :: ws, s', o', hw', by simp [hl], fun w h => (List.mem_cons.mp h).elim (fun z => by subst z; omega) (hh w), ?_⟩
    have e3 : gTup (gCons (zd 0) (gCons (zg yv (gO (gC (.int 1))) (gO (zv 1 zu (gCons (zd 2) gNil)))) gNil)) [.val (.str x), .own o, .val (.int top)] = .ok (yj (x, 1 + b)) [.val (.str x), .own o1, .val (.int top)] := by
      walk_at "gs"
      simp only [e]
      walk_at "gs"
      rfl
    show z0 _ _ _ (.str x :: sL r) _ = _
    unfold z0
    show (O.bind (yD (some ([.val (.str x), .own o, .val (.int top)] : Env)) _) _) = _
    rw [zR, zm]
    show (O.bind (.ok true [.val (.str x), .own o, .val (.int top)]) _) = _
    rw [zm, if_pos rfl, e3, zm, e2, zm]; rfl
theorem WO {xs : List Str} (h1 : 1 <= xs.length) (h2 : xs.length <= 5) : ∀ (ds : List D) (s : Slot) (o : D), yk o -> ∃ (hs : List (List Str)) (s' : Slot) (o' : D), yk o' /\ hs.length = ds.length /\ (∀ h ∈ hs, 1 <= h.length /\ ∃ rest, (h ++ rest).Perm xs) /\ z0 (zq 0) jl (zv 1 jy (gCons (zd 2) gNil)) ds [s, .own o, .val (.lst (sL xs))] = .ok (hs.map zT) [s', .own o', .val (.lst (sL xs))]
  | [], s, o, hw => ⟨[], s, o, hw, rfl, (fun w h => (nomatch h)), rfl⟩
  | d :: r, s, o, hw => by
    obtain ⟨ys, rest, o1, e, y1, yp, hw1⟩ := za5 hw h1 (by omega)
    obtain ⟨hs, s', o', hw', hl, hh, e2⟩ := WO h1 h2 r (.val d) o1 hw1
    refine ⟨ys :: hs, s', o', hw', by simp [hl], fun w h => (List.mem_cons.mp h).elim (fun z => by subst z; exact ⟨y1, rest, yp⟩) (hh w), ?_⟩
    have e3 : zv 1 jy (gCons (zd 2) gNil) [.val d, .own o, .val (.lst (sL xs))] = .ok (zT ys) [.val d, .own o1, .val (.lst (sL xs))] := by
      walk_at "gs"
      simp only [e]
      walk_at "gs"
      rfl
    unfold z0
    show (O.bind (yD (some ([.val d, .own o, .val (.lst (sL xs))] : Env)) _) _) = _
    rw [zR, zm]
    show (O.bind (.ok true [.val d, .own o, .val (.lst (sL xs))]) _) = _
    rw [zm, if_pos rfl, e3, zm, e2, zm]; rfl
theorem QH {xs ys rest : List Str} (h : Names xs) (p : (ys ++ rest).Perm xs) : Names ys /\ ys.length <= xs.length /\ ∀ x ∈ ys, x ∈ xs :=
  ⟨(h.perm p).left, by have := p.length_eq; rw [List.length_append] at this; omega, fun x hx => p.mem_iff.mp (List.mem_append_left _ hx)⟩
theorem zed {o : D} {xs : List Str} (hw : yk o) (hx : Names xs) (h1 : 1 <= xs.length) (h5 : xs.length <= 5) {k : D} : ∃ p : PW, ∃ o' s3, p.Ok /\ yk o' /\ zw (z6 3 (zv 0 jy (gCons (zd 1) gNil))) Q7 [.own o, .val (.lst (sL xs)), .val k, .no, .no, .no, .no, .no] = .ok (.rt p.told) [.own o', .val (.lst (sL xs)), .val k, s3, .no, .no, .no, .no] := by
  obtain ⟨ys, rest, o1, e, y1, yp, hw1⟩ := za5 hw h1 (by omega)
  obtain ⟨yn, yl, ym⟩ := QH hx yp
  obtain ⟨b, o2, e2, b0, b1, hw2⟩ := y7 hw1 (n := ys.length) (by omega) (by omega)
  refine ⟨.count (1 + b) ys, o2, .val (.lst (sL ys)), ⟨yn, by omega, by omega, by omega⟩, hw2, ?_⟩
  unfold Q7
  walk_at "gs"
  simp only [e]
  walk_at "gs"
  simp only [zY, e2]
  walk_at "gs"
  rfl
theorem zfs : ∀ {xs : List Str} {ws : List Int}, ws.length = xs.length -> (xs.zip ws).map (·.1) = xs
  | [], [], _ => rfl
  | _ :: _, [], h => by simp at h
  | [], _ :: _, h => by simp at h
  | x :: xs, w :: ws, h => by simp only [List.zip_cons_cons, List.map_cons]; rw [zfs (by simpa using h)]
theorem zie {ps : List (Str × Int)} {s t : Slot} : ∃ s' t', z0 (JJ (yV (zq 0) (yV (zq 1) J3)) 2) jl (zd 1) (ps.map yj) [s, t] = .ok ((ps.map (·.2)).map D.int) [s', t'] := by
  induction ps generalizing s t with
  | nil => exact ⟨s, t, rfl⟩
  | cons p r ih =>
    obtain ⟨s', t', e⟩ := ih (s := .val (.str p.1)) (t := .val (.int p.2))
    refine ⟨s', t', ?_⟩
    rw [List.map_cons]
    unfold z0
    show (O.bind (yD (some ([.val (.str p.1), .val (.int p.2)] : Env)) _) _) = _
    rw [zR, zm]
    show (O.bind (.ok true [.val (.str p.1), .val (.int p.2)]) _) = _
    rw [zm, if_pos rfl]
    show O.bind (O.ok (D.int p.2) [.val (.str p.1), .val (.int p.2)]) _ = _
    rw [zm, e, zm]; rfl
theorem znX {o : D} {s1 k : Slot} {tl : Env} (hw : yk o) : ∃ top o', (0 < top /\ top <= 1000000000) /\ yk o' /\ zg zy (gO (yU (gCons (gC (.int 3)) (gCons (gC (.int 3)) (gCons (zg Vk (gO (gC (.int 10))) (gO (gC (.int 9)))) gNil))))) (gO (zv 0 zu (gCons (gC (.int 3)) gNil))) (.own o :: s1 :: k :: tl) = .ok (.int top) (.own o' :: s1 :: k :: tl) := by
  obtain ⟨b, o1, e, b0, b1, hw1⟩ := y7 hw (n := 3) (by decide) (by decide)
  have hp : ZP 10 9 := ⟨by decide, by decide, by decide⟩
  have hb : b = 0 \/ b = 1 \/ b = 2 := by omega
  have el : yU (gCons (gC (.int 3)) (gCons (gC (.int 3)) (gCons (zg Vk (gO (gC (.int 10))) (gO (gC (.int 9)))) gNil))) (.own o :: s1 :: k :: tl) = .ok (.lst [.int 3, .int 3, .int 1000000000]) (.own o :: s1 :: k :: tl) := by
    walk_at "gs"
    simp only [if_pos hp]
    walk_at "gs"
    rfl
  have ec : zv 0 zu (gCons (gC (.int 3)) gNil) (.own o :: s1 :: k :: tl) = .ok (.int b) (.own o1 :: s1 :: k :: tl) := by
    walk_at "gs"
    simp only [e]
    walk_at "gs"
  rcases hb with rfl | rfl | rfl
  · exact ⟨3, o1, by omega, hw1, yH el ec ix0⟩
  · exact ⟨3, o1, by omega, hw1, yH el ec ix1⟩
  · exact ⟨1000000000, o1, by omega, hw1, yH el ec ix2⟩
theorem zee {o : D} {xs : List Str} (hw : yk o) (hx : Names xs) (h1 : 1 <= xs.length) (h5 : xs.length <= 5) {k : D} {s3 : Slot} : ∃ p : PW, ∃ o' s4 s5, p.Ok /\ yk o' /\ zw (z6 4 (zg zy (gO (yU (gCons (gC (.int 3)) (gCons (gC (.int 3)) (gCons (zg Vk (gO (gC (.int 10))) (gO (gC (.int 9)))) gNil))))) (gO (zv 0 zu (gCons (gC (.int 3)) gNil))))) YG [.own o, .val (.lst (sL xs)), .val k, s3, .no, .no, .no, .no] = .ok (.rt p.told) [.own o', .val (.lst (sL xs)), .val k, s3, s4, s5, .no, .no] := by
  obtain ⟨top, o1, ht, hw1, et⟩ := znX hw (s1 := .val (.lst (sL xs))) (k := .val k) (tl := [s3, .no, .no, .no, .no])
  obtain ⟨ys, rest, o2, e, y1, yp, hw2⟩ := za5 hw1 h1 (by omega)
  obtain ⟨yn, yl, ym⟩ := QH hx yp
  obtain ⟨ws, s0', o3, hw3, wl, wh, ec⟩ := zar ht ys .no o2 hw2
  have pf := zfs (xs := ys) wl
  have pl : (ys.zip ws).length = ys.length := by rw [List.length_zip, wl, Nat.min_self]
  have pw : ∀ p ∈ ys.zip ws, 1 <= p.2 /\ p.2 <= 1000000000 := fun p hp => wh p.2 (List.of_mem_zip hp).2
  have ps := zlZ pw
  obtain ⟨b, o4, e4, b0, b1, hw4⟩ := y7 hw3 (n := ((ys.zip ws).map (·.2)).sum) (by omega) (by omega)
  obtain ⟨s', t', ec2⟩ := zie (ps := ys.zip ws) (s := .no) (t := .no)
  refine ⟨.weigh (1 + b) (ys.zip ws), o4, .val (.int top), .val (.lst ((ys.zip ws).map yj)), ⟨by rw [pf]; exact yn, by omega, pw, by omega, by omega⟩, hw4, ?_⟩
  refine (zx (JM et)).trans ?_
  have ei : zI (zv 0 jy (gCons (zd 1) gNil)) [.own o1, .val (.lst (sL xs)), .val k, s3, .val (.int top), .no, .no, .no] = .ok (sL ys) [.own o2, .val (.lst (sL xs)), .val k, s3, .val (.int top), .no, .no, .no] := by
    refine yP ?_
    walk_at "gs"
    simp only [e]
    walk_at "gs"
  have ecc := yo (ρ2 := [.own o3, .val (.lst (sL xs)), .val k, s3, .val (.int top), .no, .no, .no]) (js := [none, some 0, some 4]) ei (by rw [zY]; omega) ec rfl
  refine (zx (JM ecc)).trans ?_
  show Q8 [.own o3, .val (.lst (sL xs)), .val k, s3, .val (.int top), .val (.lst ((ys.zip ws).map yj)), .no, .no] = _
  have ecd := yo (ρ2 := [.own o3, .val (.lst (sL xs)), .val k, s3, .val (.int top), .val (.lst ((ys.zip ws).map yj)), .no, .no]) (js := [none, none]) (jr (i := 5) (ρ := [.own o3, .val (.lst (sL xs)), .val k, s3, .val (.int top), .val (.lst ((ys.zip ws).map yj)), .no, .no]) (ds := (ys.zip ws).map yj) rfl) (by rw [List.length_map]; omega) ec2 rfl
  have es := Jb (f := Z2) ecd Rc
  have ek : zg yv (gO (gC (.int 1))) (gO (zv 0 zu (gCons (zC Z2 (gO (z3 (zI (zd 5)) [none, none] (JJ (yV (zq 0) (yV (zq 1) J3)) 2) jl (zd 1)))) gNil))) [.own o3, .val (.lst (sL xs)), .val k, s3, .val (.int top), .val (.lst ((ys.zip ws).map yj)), .no, .no] = .ok (.int (1 + b)) [.own o4, .val (.lst (sL xs)), .val k, s3, .val (.int top), .val (.lst ((ys.zip ws).map yj)), .no, .no] :=
    yH (a := gC (.int 1)) (x := .int 1) (y := .int b) rfl (Qa (j := 0) rfl es rfl e4 rfl) rfl
  unfold Q8
  refine yS ?_
  show O.bind (O.bind (gCons (zg yv (gO (gC (.int 1))) (gO (zv 0 zu (gCons (zC Z2 (gO (z3 (zI (zd 5)) [none, none] (JJ (yV (zq 0) (yV (zq 1) J3)) 2) jl (zd 1)))) gNil)))) (gCons (zd 5) gNil) [.own o3, .val (.lst (sL xs)), .val k, s3, .val (.int top), .val (.lst ((ys.zip ws).map yj)), .no, .no]) _) _ = _
  rw [yh ek]
  rfl
theorem zl0 {o : D} {s1 k : Slot} {tl : Env} (hw : yk o) : ∃ n o', 1 <= n /\ n <= 5 /\ yk o' /\ zg yv (gO (gC (.int 1))) (gO (zv 0 zu (gCons (zg zy (gO (yU (gCons (gC (.int 2)) (gCons (gC (.int 4)) (gCons (gC (.int 5)) gNil))))) (gO (zv 0 zu (gCons (gC (.int 3)) gNil)))) gNil))) (.own o :: s1 :: k :: tl) = .ok (.int n) (.own o' :: s1 :: k :: tl) := by
  obtain ⟨b, o1, e, b0, b1, hw1⟩ := y7 hw (n := 3) (by decide) (by decide)
  have hb : b = 0 \/ b = 1 \/ b = 2 := by omega
  have el : yU (gCons (gC (.int 2)) (gCons (gC (.int 4)) (gCons (gC (.int 5)) gNil))) (.own o :: s1 :: k :: tl) = .ok (.lst [.int 2, .int 4, .int 5]) (.own o :: s1 :: k :: tl) := by
    walk_at "gs"
  have ec : zv 0 zu (gCons (gC (.int 3)) gNil) (.own o :: s1 :: k :: tl) = .ok (.int b) (.own o1 :: s1 :: k :: tl) := by
    walk_at "gs"
    simp only [e]
    walk_at "gs"
  have fin : ∀ t : Int, 0 < t -> t <= 5 -> zy (.lst [.int 2, .int 4, .int 5]) (.int b) = some (.int t) -> ∃ n o', 1 <= n /\ n <= 5 /\ yk o' /\ zg yv (gO (gC (.int 1))) (gO (zv 0 zu (gCons (zg zy (gO (yU (gCons (gC (.int 2)) (gCons (gC (.int 4)) (gCons (gC (.int 5)) gNil))))) (gO (zv 0 zu (gCons (gC (.int 3)) gNil)))) gNil))) (.own o :: s1 :: k :: tl) = .ok (.int n) (.own o' :: s1 :: k :: tl) := fun t t0 t5 et => by
    obtain ⟨c, o2, e2, c0, c1, hw2⟩ := y7 hw1 (n := t) t0 (by omega)
    exact ⟨1 + c, o2, by omega, by omega, hw2, yH (a := gC (.int 1)) (x := .int 1) (y := .int c) rfl (Qa (j := 0) rfl (yH el ec et) rfl e2 rfl) rfl⟩
  rcases hb with rfl | rfl | rfl
  · exact fin 2 (by decide) (by decide) ix0
  · exact fin 4 (by decide) (by decide) ix1
  · exact fin 5 (by decide) (by decide) ix2
theorem zd0 : ∀ {ns : List Int}, ns ≠ [] -> ∀ n ∈ ns, J5 ns <= n
  | [], h, _, _ => absurd rfl h
  | x :: xs, _, n, hn => by
    have key : ∀ (l : List Int) (a : Int), (l.foldl (fun a b => if b < a then b else a) a) <= a /\ ∀ n ∈ l, (l.foldl (fun a b => if b < a then b else a) a) <= n := fun l => by
      induction l with
      | nil => intro a; exact ⟨Int.le_refl _, fun n h => (nomatch h)⟩
      | cons y ys ih =>
        intro a
        obtain ⟨i1, i2⟩ := ih (if y < a then y else a)
        rw [List.foldl_cons]
        refine ⟨Int.le_trans i1 (by split <;> omega), fun n hn => ?_⟩
        rcases List.mem_cons.mp hn with e | e
        · subst e; exact Int.le_trans i1 (by split <;> omega)
        · exact i2 n e
    obtain ⟨k1, k2⟩ := key xs x
    rcases List.mem_cons.mp hn with e | e
    · subst e; exact k1
    · exact k2 n e
theorem zd1 {o : D} {xs : List Str} (hw : yk o) (hx : Names xs) (h1 : 1 <= xs.length) (h5 : xs.length <= 5) {k : D} {s3 : Slot} : ∃ p : PW, ∃ o' s6 s7, p.Ok /\ yk o' /\ YI [.own o, .val (.lst (sL xs)), .val k, s3, .no, .no, .no, .no] = .ok (.rt p.told) [.own o', .val (.lst (sL xs)), .val k, s3, .no, .no, s6, s7] := by
  obtain ⟨n, o1, n1, n5, hw1, en⟩ := zl0 hw (s1 := .val (.lst (sL xs))) (k := .val k) (tl := [s3, .no, .no, .no, .no])
  obtain ⟨hs, s', o2, hw2, hl, hh, ec⟩ := WO h1 h5 (yr 0 n.toNat) .no o1 hw1
  rw [jX] at hl
  have ei := WM ((yh (r := gNil) en).trans rfl) (zfj (j := n) (by omega))
  have ecc := yo (ρ2 := [.own o2, .val (.lst (sL xs)), .val k, s3, .no, .no, .no, .no]) (js := [none, some 0, some 1]) ei (by rw [jX]; omega) ec rfl
  have hn1 : 1 <= hs.length := by omega
  have hne : (hs.map fun h => (h.length : Int)) ≠ [] := fun z => by have := congrArg List.length z; rw [List.length_map, List.length_nil] at this; omega
  have hmin := zfr (e := 1) hne fun n hn => by
    obtain ⟨h, hh', rfl⟩ := List.mem_map.mp hn
    have := (hh h hh').1
    omega
  have hmin5 : J5 (hs.map fun h => (h.length : Int)) <= 5 := by
    obtain ⟨h, hm⟩ := List.exists_mem_of_length_pos (show 0 < hs.length by omega)
    have i1 := zd0 hne (h.length : Int) (List.mem_map.mpr ⟨h, hm, rfl⟩)
    obtain ⟨_, rest, p⟩ := hh h hm
    have := (QH hx p).2.1
    omega
  obtain ⟨b, o3, e3, b0, b1, hw3⟩ := y7 hw2 (n := J5 (hs.map fun h => (h.length : Int))) (by omega) (by omega)
  obtain ⟨c, o4, e4, c0, c1, hw4⟩ := y7 hw3 (n := hs.length) (by omega) (by omega)
  obtain ⟨s8, ec2⟩ := zdU (hs := hs) (s := .no)
  refine ⟨.houses (1 + c) (1 + b) hs, o4, .val (.lst (hs.map zT)), .val (.int (1 + b)), ⟨fun h hm => ?_, by omega, by omega, by omega, by omega, ?_⟩, hw4, ?_⟩
  · obtain ⟨_, rest, p⟩ := hh h hm
    have i1 := zd0 hne (h.length : Int) (List.mem_map.mpr ⟨h, hm, rfl⟩)
    obtain ⟨a, b', _⟩ := QH hx p
    exact ⟨a, by omega, by omega⟩
  · refine Nat.le_trans (zot (ys := xs) fun x hm => ?_) h5
    obtain ⟨h, hm1, hm2⟩ := List.mem_flatten.mp hm
    obtain ⟨_, rest, p⟩ := hh h hm1
    exact (QH hx p).2.2 x hm2
  refine (zx (JM ecc)).trans ?_
  show YH [.own o2, .val (.lst (sL xs)), .val k, s3, .no, .no, .val (.lst (hs.map zT)), .no] = _
  have ecd := yo (ρ2 := [.own o2, .val (.lst (sL xs)), .val k, s3, .no, .no, .val (.lst (hs.map zT)), .no]) (js := [none]) (jr (i := 6) (ρ := [.own o2, .val (.lst (sL xs)), .val k, s3, .no, .no, .val (.lst (hs.map zT)), .no]) (ds := hs.map zT) rfl) (by rw [List.length_map]; omega) ec2 rfl
  have es := Jb (f := Wf) ecd (zdV hne)
  have ek := yH (f := yv) (a := gC (.int 1)) (x := .int 1) (y := .int b) (d := .int (1 + b)) rfl (Qa (j := 0) (ρ2 := [.own o3, .val (.lst (sL xs)), .val k, s3, .no, .no, .val (.lst (hs.map zT)), .no]) rfl es rfl e3 rfl) rfl
  refine (zx (JM ek)).trans ?_
  show Q9 [.own o3, .val (.lst (sL xs)), .val k, s3, .no, .no, .val (.lst (hs.map zT)), .val (.int (1 + b))] = _
  unfold Q9
  have e4' : zu [.own o3, .val (.int ((hs.map zT).length : Int))] = .ok (.int c) [o4] := by rw [List.length_map]; exact e4
  walk_at "gs"
  simp only [e4']
  walk_at "gs"
  rfl
theorem zjT {o : D} {xs : List Str} (hw : yk o) (hx : Names xs) (h1 : 1 <= xs.length) (h5 : xs.length <= 5) : ∃ p : PW, ∃ o', p.Ok /\ yk o' /\ Zi [.own o, .val (.lst (sL xs))] = .ok p.told [o'] := by
  obtain ⟨b, o1, e, b0, b1, hw1⟩ := y7 hw (n := 3) (by decide) (by decide)
  have hb : b = 0 \/ b = 1 \/ b = 2 := by omega
  have ec : z6 2 (zv 0 zu (gCons (gC (.int 3)) gNil)) [.own o, .val (.lst (sL xs)), .no, .no, .no, .no, .no, .no] = .ok .nx [.own o1, .val (.lst (sL xs)), .val (.int b), .no, .no, .no, .no, .no] := by
    walk_at "gs"
    simp only [e]
    walk_at "gs"
  have t0 : ∀ i : Int, gB (zg jp (zf 2) (gO (gC (.int i)))) [.own o1, .val (.lst (sL xs)), .val (.int b), .no, .no, .no, .no, .no] = .ok (decide (b = i)) [.own o1, .val (.lst (sL xs)), .val (.int b), .no, .no, .no, .no, .no] := fun i => by walk_at "gs"
  have i0 := t0 0
  have i1 := t0 1
  rcases hb with rfl | rfl | rfl
  · obtain ⟨p, o', s3, hp, hw', e2⟩ := zed hw1 hx h1 h5 (k := .int 0)
    exact ⟨p, o', hp, hw', za4 rfl ((zx ec).trans (Qm ((Ua i0).trans e2)))⟩
  · obtain ⟨p, o', s4, s5, hp, hw', e2⟩ := zee hw1 hx h1 h5 (k := .int 1) (s3 := .no)
    exact ⟨p, o', hp, hw', za4 rfl ((zx ec).trans ((zx ((Jm i0).trans rfl)).trans (Qm ((Ua i1).trans e2))))⟩
  · obtain ⟨p, o', s6, s7, hp, hw', e2⟩ := zd1 hw1 hx h1 h5 (k := .int 2) (s3 := .no)
    exact ⟨p, o', hp, hw', za4 rfl ((zx ec).trans ((zx ((Jm i0).trans rfl)).trans ((zx ((Jm i1).trans rfl)).trans e2)))⟩
theorem zl1 {α : Type} {xs : List α} {a b : Nat} (h1 : a <= xs.length) (h2 : a + b <= xs.length) : jF xs (some (a : Int)) (some ((a + b : Nat) : Int)) = (xs.drop a).take b := by
  unfold jF; rw [HT.sIx_nat, HT.sIx_nat, Nat.min_eq_left h1, Nat.min_eq_left h2]; congr 1; omega
theorem zft {f : D -> D -> Option (List D)} {a b : G D} {ρ ρ1 ρ2 : Env} {x y : D} {ds : List D} (h1 : a ρ = .ok x ρ1) (h2 : b ρ1 = .ok y ρ2) (h : f x y = some ds) : Zr f (gO a) (gO b) ρ = .ok (.lst ds) ρ2 := by
  unfold Zr gO; rw [h1]; show O.bind ((b ρ1).bind _) _ = _; rw [h2]
  show yD ((f x y).map D.lst) _ = _
  rw [h]; rfl
theorem zfu {g : G (List D)} {ρ ρ1 : Env} {ds : List D} (h : g ρ = .ok ds ρ1) (hl : ds.length <= 1000) : yU g ρ = .ok (.lst ds) ρ1 := by
  unfold yU; rw [h, zm, Vp hl]
def Rf (n : Nat) (xs : List Str) : List D := ((sL xs).zipIdx n).map fun x => .tup [.int x.2, x.1]
theorem zif {n : Nat} {x : Str} {r : List Str} : Rf n (x :: r) = .tup [.int n, .str x] :: Rf (n + 1) r := rfl
theorem zb3 {kk : Int} : ∀ (xs : List Str) (n : Nat) (s t : Slot), ∃ sub s' t', sub.Sublist xs /\ z0 (JJ (yV (zq 0) (yV (zq 1) J3)) 2) (gB (zg jp (gO (zg RK (gO (zg Uw (zf 2) (zf 0))) (gO (gC (.int 1))))) (gO (gC (.int 1))))) (zd 1) (Rf n xs) [s, t, .val (.int kk)] = .ok (sL sub) [s', t', .val (.int kk)]
  | [], n, s, t => ⟨[], s, t, List.Sublist.refl _, rfl⟩
  | x :: r, n, s, t => by
    obtain ⟨sub, s', t', hs, e⟩ := zb3 (kk := kk) r (n + 1) (.val (.int n)) (.val (.str x))
    have hn : (0 : Int) <= (n : Int) := by omega
    have ht : gB (zg jp (gO (zg RK (gO (zg Uw (zf 2) (zf 0))) (gO (gC (.int 1))))) (gO (gC (.int 1)))) [.val (.int n), .val (.str x), .val (.int kk)] = .ok (decide (Builtin.bitAnd (kk / 2 ^ (n : Int).toNat) 1 = 1)) [.val (.int n), .val (.str x), .val (.int kk)] := by
      have h1 : Uw (.int kk) (.int n) = some (.int (kk / 2 ^ (n : Int).toNat)) := by
        show (if (0 : Int) <= (n : Int) then some (D.int (kk / 2 ^ (n : Int).toNat)) else none) = _
        rw [if_pos hn]
      have e1 : zg Uw (zf 2) (zf 0) [.val (.int n), .val (.str x), .val (.int kk)] = .ok (.int (kk / 2 ^ (n : Int).toNat)) [.val (.int n), .val (.str x), .val (.int kk)] := by
        show yD (Uw (.int kk) (.int n)) _ = _
        rw [h1]; rfl
      exact UX (yH (yH (f := RK) (b := gC (.int 1)) (y := .int 1) e1 rfl rfl) rfl rfl)
    rw [zif]
    unfold z0
    show ∃ sub s' t', _ /\ (O.bind (yD (some ([.val (.int n), .val (.str x), .val (.int kk)] : Env)) _) _) = _
    rw [zR, zm, ht, zm]
    cases decide (Builtin.bitAnd (kk / 2 ^ (n : Int).toNat) 1 = 1) with
    | true =>
      refine ⟨x :: sub, s', t', hs.cons₂ x, ?_⟩
      rw [if_pos rfl]
      show O.bind (O.ok (D.str x) [.val (.int n), .val (.str x), .val (.int kk)]) _ = _
      rw [zm, e, zm]; rfl
    | false => exact ⟨sub, s', t', hs.cons x, by rw [if_neg Bool.false_ne_true, e]⟩
namespace K05
theorem zou {ns : List Int} {ah : D} {c : Int} {o : D} {xs own row r : List Str} {p : PW} {s10 : Slot} (hp : p.Ok) (hr : Names r) (hl : r.length < 1000) : JX [.val (.fz ns), .val ah, .val (.int c), .own o, .val (.lst (sL xs)), .val (.lst (sL own)), .val p.told, .val p.obj, .val (.lst (sL row)), .val (.lst (sL r)), s10] = .ok .nx [.val (.fz ns), .val ah, .val (.int c), .own o, .val (.lst (sL xs)), .val (.lst (sL own)), .val p.told, .val p.obj, .val (.lst (sL row)), .val (.lst (sL r)), s10] := by
  have e : gB (zA yO (gCons (zd 7) (gCons (zd 6) (gCons (zd 9) gNil)))) [.val (.fz ns), .val ah, .val (.int c), .own o, .val (.lst (sL xs)), .val (.lst (sL own)), .val p.told, .val p.obj, .val (.lst (sL row)), .val (.lst (sL r)), s10] = .ok true [.val (.fz ns), .val ah, .val (.int c), .own o, .val (.lst (sL xs)), .val (.lst (sL own)), .val p.told, .val p.obj, .val (.lst (sL row)), .val (.lst (sL r)), s10] := UX (y4 (ds := [p.obj, p.told, .lst (sL r)]) rfl (Re hp hr hl))
  have e2 : j9 (gB (zA yO (gCons (zd 7) (gCons (zd 6) (gCons (zd 9) gNil))))) [.val (.fz ns), .val ah, .val (.int c), .own o, .val (.lst (sL xs)), .val (.lst (sL own)), .val p.told, .val p.obj, .val (.lst (sL row)), .val (.lst (sL r)), s10] = .ok false [.val (.fz ns), .val ah, .val (.int c), .own o, .val (.lst (sL xs)), .val (.lst (sL own)), .val p.told, .val p.obj, .val (.lst (sL row)), .val (.lst (sL r)), s10] := by unfold j9; rw [e]; rfl
  exact (Jm e2).trans rfl
theorem zkJ {ns : List Int} {ah : D} {c : Int} {o : D} {xs own row : List Str} {p : PW} {s10 : Slot} (hp : p.Ok) : ∀ (rs : List (List Str)) (s9 : Slot), (∀ r ∈ rs, Names r /\ r.length < 1000) -> ∃ s9', yI (zq 9) JX (rs.map zT) [.val (.fz ns), .val ah, .val (.int c), .own o, .val (.lst (sL xs)), .val (.lst (sL own)), .val p.told, .val p.obj, .val (.lst (sL row)), s9, s10] = .ok .nx [.val (.fz ns), .val ah, .val (.int c), .own o, .val (.lst (sL xs)), .val (.lst (sL own)), .val p.told, .val p.obj, .val (.lst (sL row)), s9', s10]
  | [], s9, _ => ⟨s9, rfl⟩
  | r :: t, s9, h => by
    obtain ⟨s9', e⟩ := zkJ (ns := ns) (ah := ah) (c := c) (o := o) (xs := xs) (own := own) (row := row) (s10 := s10) hp t (.val (.lst (sL r))) fun x hx => h x (List.mem_cons_of_mem _ hx)
    obtain ⟨a, b⟩ := h r List.mem_cons_self
    refine ⟨s9', ?_⟩
    rw [List.map_cons]
    unfold yI
    show Js (JX [.val (.fz ns), .val ah, .val (.int c), .own o, .val (.lst (sL xs)), .val (.lst (sL own)), .val p.told, .val p.obj, .val (.lst (sL row)), .val (.lst (sL r)), s10]) _ = _
    rw [zou hp a b]
    exact e
theorem zov {ns : List Int} {ah : D} {c k : Int} {o : D} {xs own row : List Str} {p : PW} {s9 : Slot} (hp : p.Ok) (hw : yk o) (hx : Names xs) (hl : xs.length = 12) (m : Nat) (hm : m <= 5) (ho : own = xs.take m) (hk : 0 <= k) : ∃ o1 s9', yk o1 /\ JY [.val (.fz ns), .val ah, .val (.int c), .own o, .val (.lst (sL xs)), .val (.lst (sL own)), .val p.told, .val p.obj, .val (.lst (sL row)), s9, .val (.int k)] = .ok .nx [.val (.fz ns), .val ah, .val (.int c), .own o1, .val (.lst (sL xs)), .val (.lst (sL own)), .val p.told, .val p.obj, .val (.lst (sL row)), s9', .val (.int k)] := by
  obtain ⟨sub, s', t', hs, ec⟩ := zb3 (kk := k) own 0 .no .no
  have olen : own.length <= 5 := by rw [ho, List.length_take]; omega
  have ei : Y2 (gCons (zd 5) gNil) [.val (.fz ns), .val ah, .val (.int c), .own o, .val (.lst (sL xs)), .val (.lst (sL own)), .val p.told, .val p.obj, .val (.lst (sL row)), s9, .val (.int k)] = .ok (Rf 0 own) [.val (.fz ns), .val ah, .val (.int c), .own o, .val (.lst (sL xs)), .val (.lst (sL own)), .val p.told, .val p.obj, .val (.lst (sL row)), s9, .val (.int k)] := rfl
  have zl : (Rf 0 own).length <= 100000 := by
    have : (Rf 0 own).length = own.length := by unfold Rf sL; simp
    omega
  have ecc := yo (ρ2 := [.val (.fz ns), .val ah, .val (.int c), .own o, .val (.lst (sL xs)), .val (.lst (sL own)), .val p.told, .val p.obj, .val (.lst (sL row)), s9, .val (.int k)]) (js := [none, none, some 10]) ei zl ec rfl
  have sl : sub.length <= 5 := Nat.le_trans hs.length_le olen
  obtain ⟨ys, o1, et, yp, hw1⟩ := zbZ hw (xs := sub) (by omega)
  have h3 : 0 <= k % 3 /\ k % 3 < 3 := ⟨Int.emod_nonneg _ (by decide), Int.emod_lt_of_pos _ (by decide)⟩
  have hcut : jF (sL xs) (some 5) (some (5 + k % 3)) = sL ((xs.drop 5).take (k % 3).toNat) := by
    have e : (5 : Int) + k % 3 = ((5 + (k % 3).toNat : Nat) : Int) := by omega
    rw [e, show (5 : Int) = ((5 : Nat) : Int) from rfl, zl1 (by rw [zY]; omega) (by rw [zY]; omega), zfm, Wh]
  have yl := yp.length_eq
  have hcat : QT (.lst (sL ys)) (.lst (sL ((xs.drop 5).take (k % 3).toNat))) = some (sL (ys ++ (xs.drop 5).take (k % 3).toNat)) := by
    unfold QT; dsimp only
    rw [if_pos (by rw [zY, zY, List.length_take, List.length_drop]; omega), zdJ]
  have hN : Names (ys ++ (xs.drop 5).take (k % 3).toNat) := by
    have s1 : (sub ++ (xs.drop 5).take (k % 3).toNat).Sublist xs := by
      have a1 : sub.Sublist (xs.take 5) := hs.trans (by rw [ho]; exact List.take_sublist_take_left hm)
      have a2 := a1.append (List.take_sublist (k % 3).toNat (xs.drop 5))
      rwa [List.take_append_drop] at a2
    exact (hx.sub s1).perm (yp.append_right _)
  have hlen : (ys ++ (xs.drop 5).take (k % 3).toNat).length < 1000 := by rw [List.length_append, List.length_take, List.length_drop]; omega
  refine ⟨o1, .val (.lst (sL sub)), hw1, ?_⟩
  refine (zx (JM ecc)).trans ?_
  show YL [.val (.fz ns), .val ah, .val (.int c), .own o, .val (.lst (sL xs)), .val (.lst (sL own)), .val p.told, .val p.obj, .val (.lst (sL row)), .val (.lst (sL sub)), .val (.int k)] = _
  have ea : zv 3 ji (gCons (zd 9) gNil) [.val (.fz ns), .val ah, .val (.int c), .own o, .val (.lst (sL xs)), .val (.lst (sL own)), .val p.told, .val p.obj, .val (.lst (sL row)), .val (.lst (sL sub)), .val (.int k)] = .ok (.lst (sL ys)) [.val (.fz ns), .val ah, .val (.int c), .own o1, .val (.lst (sL xs)), .val (.lst (sL own)), .val p.told, .val p.obj, .val (.lst (sL row)), .val (.lst (sL sub)), .val (.int k)] := Qa (j := 3) (x := .lst (sL sub)) rfl rfl rfl et rfl
  have eb : jJ (zf 4) (yz (gC (.int 5))) (yz (zg yv (gO (gC (.int 5))) (gO (zg Qu (zf 10) (gO (gC (.int 3))))))) [.val (.fz ns), .val ah, .val (.int c), .own o1, .val (.lst (sL xs)), .val (.lst (sL own)), .val p.told, .val p.obj, .val (.lst (sL row)), .val (.lst (sL sub)), .val (.int k)] = .ok (.lst (sL ((xs.drop 5).take (k % 3).toNat))) [.val (.fz ns), .val ah, .val (.int c), .own o1, .val (.lst (sL xs)), .val (.lst (sL own)), .val p.told, .val p.obj, .val (.lst (sL row)), .val (.lst (sL sub)), .val (.int k)] := by
    walk_at "gs"
    rw [hcut]
  have ed : Zr QT (gO (zv 3 ji (gCons (zd 9) gNil))) (gO (jJ (zf 4) (yz (gC (.int 5))) (yz (zg yv (gO (gC (.int 5))) (gO (zg Qu (zf 10) (gO (gC (.int 3))))))))) [.val (.fz ns), .val ah, .val (.int c), .own o, .val (.lst (sL xs)), .val (.lst (sL own)), .val p.told, .val p.obj, .val (.lst (sL row)), .val (.lst (sL sub)), .val (.int k)] = .ok (.lst (sL (ys ++ (xs.drop 5).take (k % 3).toNat))) [.val (.fz ns), .val ah, .val (.int c), .own o1, .val (.lst (sL xs)), .val (.lst (sL own)), .val p.told, .val p.obj, .val (.lst (sL row)), .val (.lst (sL sub)), .val (.int k)] := zft ea eb hcat
  have ee : zA yO (gCons (zd 7) (gCons (zd 6) (gCons (Zr QT (gO (zv 3 ji (gCons (zd 9) gNil))) (gO (jJ (zf 4) (yz (gC (.int 5))) (yz (zg yv (gO (gC (.int 5))) (gO (zg Qu (zf 10) (gO (gC (.int 3)))))))))) gNil))) [.val (.fz ns), .val ah, .val (.int c), .own o, .val (.lst (sL xs)), .val (.lst (sL own)), .val p.told, .val p.obj, .val (.lst (sL row)), .val (.lst (sL sub)), .val (.int k)] = .ok (.bl true) [.val (.fz ns), .val ah, .val (.int c), .own o1, .val (.lst (sL xs)), .val (.lst (sL own)), .val p.told, .val p.obj, .val (.lst (sL row)), .val (.lst (sL sub)), .val (.int k)] := by
    refine y4 (ds := [p.obj, p.told, .lst (sL (ys ++ (xs.drop 5).take (k % 3).toNat))]) ?_ (Re hp hN hlen)
    refine (yh (x := p.obj) (ρ1 := [.val (.fz ns), .val ah, .val (.int c), .own o, .val (.lst (sL xs)), .val (.lst (sL own)), .val p.told, .val p.obj, .val (.lst (sL row)), .val (.lst (sL sub)), .val (.int k)]) rfl).trans ?_
    rw [yh (a := zd 6) (x := p.told) (ρ := [.val (.fz ns), .val ah, .val (.int c), .own o, .val (.lst (sL xs)), .val (.lst (sL own)), .val p.told, .val p.obj, .val (.lst (sL row)), .val (.lst (sL sub)), .val (.int k)]) (ρ1 := [.val (.fz ns), .val ah, .val (.int c), .own o, .val (.lst (sL xs)), .val (.lst (sL own)), .val p.told, .val p.obj, .val (.lst (sL row)), .val (.lst (sL sub)), .val (.int k)]) rfl, yh ed]; rfl
  have ef : j9 (gB (zA yO (gCons (zd 7) (gCons (zd 6) (gCons (Zr QT (gO (zv 3 ji (gCons (zd 9) gNil))) (gO (jJ (zf 4) (yz (gC (.int 5))) (yz (zg yv (gO (gC (.int 5))) (gO (zg Qu (zf 10) (gO (gC (.int 3)))))))))) gNil))))) [.val (.fz ns), .val ah, .val (.int c), .own o, .val (.lst (sL xs)), .val (.lst (sL own)), .val p.told, .val p.obj, .val (.lst (sL row)), .val (.lst (sL sub)), .val (.int k)] = .ok false [.val (.fz ns), .val ah, .val (.int c), .own o1, .val (.lst (sL xs)), .val (.lst (sL own)), .val p.told, .val p.obj, .val (.lst (sL row)), .val (.lst (sL sub)), .val (.int k)] := by
    unfold j9; rw [UX ee]; rfl
  exact (Jm ef).trans rfl
theorem zkK {ns : List Int} {ah : D} {c : Int} {xs own row : List Str} {p : PW} (hp : p.Ok) (hx : Names xs) (hl : xs.length = 12) (m : Nat) (hm : m <= 5) (ho : own = xs.take m) : ∀ (ks : List D) (o : D) (s9 s10 : Slot), yk o -> (∀ d ∈ ks, ∃ k : Int, d = .int k /\ 0 <= k) -> ∃ o' s9' s10', yk o' /\ yI (zq 10) JY ks [.val (.fz ns), .val ah, .val (.int c), .own o, .val (.lst (sL xs)), .val (.lst (sL own)), .val p.told, .val p.obj, .val (.lst (sL row)), s9, s10] = .ok .nx [.val (.fz ns), .val ah, .val (.int c), .own o', .val (.lst (sL xs)), .val (.lst (sL own)), .val p.told, .val p.obj, .val (.lst (sL row)), s9', s10']
  | [], o, s9, s10, hw, _ => ⟨o, s9, s10, hw, rfl⟩
  | d :: t, o, s9, s10, hw, h => by
    obtain ⟨k, rfl, hk⟩ := h d List.mem_cons_self
    obtain ⟨o1, s9', hw1, e1⟩ := zov (ns := ns) (ah := ah) (c := c) (s9 := s9) (row := row) hp hw hx hl m hm ho hk
    obtain ⟨o', s9'', s10', hw', e⟩ := zkK (ns := ns) (ah := ah) (c := c) (row := row) hp hx hl m hm ho t o1 s9' (.val (.int k)) hw1 fun x hx => h x (List.mem_cons_of_mem _ hx)
    refine ⟨o', s9'', s10', hw', ?_⟩
    unfold yI
    show Js (JY [.val (.fz ns), .val ah, .val (.int c), .own o, .val (.lst (sL xs)), .val (.lst (sL own)), .val p.told, .val p.obj, .val (.lst (sL row)), s9, .val (.int k)]) _ = _
    rw [e1]
    exact e
end K05
namespace K05
def znY (ah : D) : Prop := ah = .non \/ ∃ p : PW, p.Ok /\ ah = .tup [p.obj, p.told]
def zjU (ns : List Int) (ρ : Env) : Prop := ∃ ah s2 s3 s4 s5 s6 s7 s8 s9 s10, znY ah /\ ρ = [.val (.fz ns), .val ah, s2, s3, s4, s5, s6, s7, s8, s9, s10]
theorem one {ns : List Int} {ah : D} {c : Int} {s3 s4 s5 s6 s7 s8 s9 s10 : Slot} (ha : znY ah) : ∃ ρ', JB [.val (.fz ns), .val ah, .val (.int c), s3, s4, s5, s6, s7, s8, s9, s10] = .ok .nx ρ' /\ zjU ns ρ' := by
  obtain ⟨o1, et, w1⟩ := zlS (c := c)
  obtain ⟨xs, o2, en, xl, xn, w2⟩ := zjG w1 (n := 12) (by decide)
  obtain ⟨b, o3, eb, b0, b1, w3⟩ := y7 w2 (n := 5) (by decide) (by decide)
  generalize hown : xs.take (1 + b).toNat = own
  have ol : own.length = (1 + b).toNat := by rw [← hown, List.length_take]; omega
  have on : Names own := hown ▸ xn.sub (List.take_sublist _ _)
  obtain ⟨p, o4, hp, w4, ep⟩ := zjT w3 on (by omega) (by omega)
  obtain ⟨row, o5, er, rp, w5⟩ := zbZ w4 (xs := xs) (by omega)
  have rn : Names row := xn.perm rp
  have rl : row.length = 12 := rp.length_eq.trans xl
  obtain ⟨d, o6, ed, d0, d1, w6⟩ := y7 w5 (n := 13) (by decide) (by decide)
  have hd : d.toNat <= row.length := by omega
  have ea : jJ (zf 8) jm (yz (zv 3 zu (gCons (gC (.int 13)) gNil))) [.val (.fz ns), .val ah, .val (.int c), .own o5, .val (.lst (sL xs)), .val (.lst (sL own)), .val p.told, .val p.obj, .val (.lst (sL row)), s9, s10] = .ok (.lst (sL (row.take d.toNat))) [.val (.fz ns), .val ah, .val (.int c), .own o6, .val (.lst (sL xs)), .val (.lst (sL own)), .val p.told, .val p.obj, .val (.lst (sL row)), s9, s10] := by
    walk_at "gs"
    simp only [ed]
    walk_at "gs"
    rw [show d = ((d.toNat : Nat) : Int) by omega, zdN (by rw [zY]; exact hd), Wh, Int.toNat_natCast]
  obtain ⟨ρ', ec, sx, rfl⟩ := Wi (ys := row) (row := own) (s := .no) (tl := [])
  have ecc := yo (ρ2 := [.val (.fz ns), .val ah, .val (.int c), .own o6, .val (.lst (sL xs)), .val (.lst (sL own)), .val p.told, .val p.obj, .val (.lst (sL row)), s9, s10]) (js := [none, some 5]) (jr (i := 8) (ρ := [.val (.fz ns), .val ah, .val (.int c), .own o6, .val (.lst (sL xs)), .val (.lst (sL own)), .val p.told, .val p.obj, .val (.lst (sL row)), s9, s10]) (ds := sL row) rfl) (by rw [zY]; omega) ec rfl
  have ef : jJ (zf 4) (yz (gC (.int 5))) jm [.val (.fz ns), .val ah, .val (.int c), .own o6, .val (.lst (sL xs)), .val (.lst (sL own)), .val p.told, .val p.obj, .val (.lst (sL row)), s9, s10] = .ok (.lst (sL (xs.drop 5))) [.val (.fz ns), .val ah, .val (.int c), .own o6, .val (.lst (sL xs)), .val (.lst (sL own)), .val p.told, .val p.obj, .val (.lst (sL row)), s9, s10] := by
    walk_at "gs"
    rw [show (5 : Int) = ((5 : Nat) : Int) from rfl, zjL (by rw [zY]; omega), zfm]
  have eL : yU (gCons (zd 8) (gCons (jJ (zf 8) jm (yz (zv 3 zu (gCons (gC (.int 13)) gNil)))) (gCons (z3 (zI (zd 8)) [none, some 5] (zq 0) (gB (zg (Zs false) (zf 0) (zf 1))) (zd 0)) (gCons (yU gNil) (gCons (jJ (zf 4) (yz (gC (.int 5))) jm) gNil))))) [.val (.fz ns), .val ah, .val (.int c), .own o5, .val (.lst (sL xs)), .val (.lst (sL own)), .val p.told, .val p.obj, .val (.lst (sL row)), s9, s10] = .ok (.lst ([row, row.take d.toNat, row.filter (inr own), [], xs.drop 5].map zT)) [.val (.fz ns), .val ah, .val (.int c), .own o6, .val (.lst (sL xs)), .val (.lst (sL own)), .val p.told, .val p.obj, .val (.lst (sL row)), s9, s10] := by
    refine zfu (ds := [row, row.take d.toNat, row.filter (inr own), [], xs.drop 5].map zT) ?_ (by simp)
    rw [yh (a := zd 8) (x := .lst (sL row)) (ρ := [.val (.fz ns), .val ah, .val (.int c), .own o5, .val (.lst (sL xs)), .val (.lst (sL own)), .val p.told, .val p.obj, .val (.lst (sL row)), s9, s10]) (ρ1 := [.val (.fz ns), .val ah, .val (.int c), .own o5, .val (.lst (sL xs)), .val (.lst (sL own)), .val p.told, .val p.obj, .val (.lst (sL row)), s9, s10]) rfl, yh ea, yh ecc, yh (a := yU gNil) (x := .lst []) (ρ := [.val (.fz ns), .val ah, .val (.int c), .own o6, .val (.lst (sL xs)), .val (.lst (sL own)), .val p.told, .val p.obj, .val (.lst (sL row)), s9, s10]) (ρ1 := [.val (.fz ns), .val ah, .val (.int c), .own o6, .val (.lst (sL xs)), .val (.lst (sL own)), .val p.told, .val p.obj, .val (.lst (sL row)), s9, s10]) rfl, yh ef]
    rfl
  obtain ⟨s9', e1⟩ := zkJ (ns := ns) (ah := ah) (c := c) (o := o6) (xs := xs) (own := own) (row := row) (s10 := s10) hp [row, row.take d.toNat, row.filter (inr own), [], xs.drop 5] s9 (fun r hr => by
    simp only [List.mem_cons, List.not_mem_nil, or_false] at hr
    rcases hr with rfl | rfl | rfl | rfl | rfl
    · exact ⟨rn, by omega⟩
    · exact ⟨rn.sub (List.take_sublist _ _), by rw [List.length_take]; omega⟩
    · exact ⟨rn.sub List.filter_sublist, by have := List.length_filter_le (inr own) row; omega⟩
    · exact ⟨⟨List.nodup_nil, fun x hx => (nomatch hx)⟩, by decide⟩
    · exact ⟨xn.sub (List.drop_sublist _ _), by rw [List.length_drop]; omega⟩)
  have hpow : ZP 1 (own.length : Int) := ⟨by omega, by omega, by decide⟩
  have hle : own.length <= 5 := by omega
  have h32 : -1000000 <= (1 * 2 ^ own.length : Int) /\ (1 * 2 ^ own.length : Int) <= 1000000 := by
    have : own.length = 0 \/ own.length = 1 \/ own.length = 2 \/ own.length = 3 \/ own.length = 4 \/ own.length = 5 := by omega
    rcases this with h | h | h | h | h | h <;> rw [h] <;> decide
  have eS : zg zc7 (gO (gC (.int 1))) (gO (zC ya (zf 5))) [.val (.fz ns), .val ah, .val (.int c), .own o6, .val (.lst (sL xs)), .val (.lst (sL own)), .val p.told, .val p.obj, .val (.lst (sL row)), s9', s10] = .ok (.int (1 * 2 ^ own.length)) [.val (.fz ns), .val ah, .val (.int c), .own o6, .val (.lst (sL xs)), .val (.lst (sL own)), .val p.told, .val p.obj, .val (.lst (sL row)), s9', s10] := by
    refine yH (a := gC (.int 1)) (x := .int 1) (y := .int own.length) rfl ?_ ?_
    · show yD (ya (.lst (sL own))) _ = _
      rw [VN]; rfl
    · show (if ZP 1 (own.length : Int) then some (D.int (1 * 2 ^ (own.length : Int).toNat)) else none) = _
      rw [if_pos hpow, Int.toNat_natCast]
  have eR := WM ((yh (r := gNil) eS).trans rfl) (zfj h32)
  obtain ⟨o7, s9'', s10', w7, e2⟩ := zkK (ns := ns) (ah := ah) (c := c) (row := row) hp xn xl (1 + b).toNat (by omega) hown.symm (yr 0 (1 * 2 ^ own.length : Int).toNat) o6 s9' s10 w6 (fun d hd => by obtain ⟨i, hi, rfl⟩ := zak hd; exact ⟨_, rfl, by omega⟩)
  refine ⟨[.val (.fz ns), .val (.tup [p.obj, p.told]), .val (.int c), .own o7, .val (.lst (sL xs)), .val (.lst (sL own)), .val p.told, .val p.obj, .val (.lst (sL row)), s9'', s10'], ?_, _, _, _, _, _, _, _, _, _, _, .inr ⟨p, hp, rfl⟩, rfl⟩
  refine (zx (ρ1 := [.val (.fz ns), .val ah, .val (.int c), .own o1, s4, s5, s6, s7, s8, s9, s10]) (by walk_at "gs"; simp only [et]; walk_at "gs")).trans ?_
  refine (zx (ρ1 := [.val (.fz ns), .val ah, .val (.int c), .own o2, .val (.lst (sL xs)), s5, s6, s7, s8, s9, s10]) (by unfold z6; rw [Qa (j := 3) (a := gC (.int 12)) (x := .int 12) (ρ := [.val (.fz ns), .val ah, .val (.int c), .own o1, s4, s5, s6, s7, s8, s9, s10]) (ρ1 := [.val (.fz ns), .val ah, .val (.int c), .own o1, s4, s5, s6, s7, s8, s9, s10]) (ρ2 := [.val (.fz ns), .val ah, .val (.int c), .own o2, s4, s5, s6, s7, s8, s9, s10]) rfl rfl rfl en rfl]; rfl)).trans ?_
  have eo : jJ (zf 4) jm (yz (zg yv (gO (gC (.int 1))) (gO (zv 3 zu (gCons (gC (.int 5)) gNil))))) [.val (.fz ns), .val ah, .val (.int c), .own o2, .val (.lst (sL xs)), s5, s6, s7, s8, s9, s10] = .ok (.lst (sL own)) [.val (.fz ns), .val ah, .val (.int c), .own o3, .val (.lst (sL xs)), s5, s6, s7, s8, s9, s10] := by
    walk_at "gs"
    simp only [eb]
    walk_at "gs"
    rw [show 1 + b = (((1 + b).toNat : Nat) : Int) by omega, zdN (by rw [zY]; omega), Wh, hown]
  refine (zx (JM eo)).trans ?_
  show YM [.val (.fz ns), .val ah, .val (.int c), .own o3, .val (.lst (sL xs)), .val (.lst (sL own)), s6, s7, s8, s9, s10] = _
  refine (zx (ρ1 := [.val (.fz ns), .val ah, .val (.int c), .own o4, .val (.lst (sL xs)), .val (.lst (sL own)), .val p.told, s7, s8, s9, s10]) (by unfold z6; rw [Qa (j := 3) (a := zd 5) (x := .lst (sL own)) (ρ := [.val (.fz ns), .val ah, .val (.int c), .own o3, .val (.lst (sL xs)), .val (.lst (sL own)), s6, s7, s8, s9, s10]) (ρ1 := [.val (.fz ns), .val ah, .val (.int c), .own o3, .val (.lst (sL xs)), .val (.lst (sL own)), s6, s7, s8, s9, s10]) (ρ2 := [.val (.fz ns), .val ah, .val (.int c), .own o4, .val (.lst (sL xs)), .val (.lst (sL own)), s6, s7, s8, s9, s10]) rfl rfl rfl ep rfl]; rfl)).trans ?_
  refine (zx (ρ1 := [.val (.fz ns), .val ah, .val (.int c), .own o4, .val (.lst (sL xs)), .val (.lst (sL own)), .val p.told, .val p.obj, s8, s9, s10]) (JM (ρ1 := [.val (.fz ns), .val ah, .val (.int c), .own o4, .val (.lst (sL xs)), .val (.lst (sL own)), .val p.told, s7, s8, s9, s10]) (y4 (ds := [p.told]) rfl (zlY p hp 5)))).trans ?_
  refine (zx (ρ1 := [.val (.fz ns), .val ah, .val (.int c), .own o5, .val (.lst (sL xs)), .val (.lst (sL own)), .val p.told, .val p.obj, .val (.lst (sL row)), s9, s10]) (by unfold z6; rw [Qa (j := 3) (a := zd 4) (x := .lst (sL xs)) (ρ := [.val (.fz ns), .val ah, .val (.int c), .own o4, .val (.lst (sL xs)), .val (.lst (sL own)), .val p.told, .val p.obj, s8, s9, s10]) (ρ1 := [.val (.fz ns), .val ah, .val (.int c), .own o4, .val (.lst (sL xs)), .val (.lst (sL own)), .val p.told, .val p.obj, s8, s9, s10]) (ρ2 := [.val (.fz ns), .val ah, .val (.int c), .own o5, .val (.lst (sL xs)), .val (.lst (sL own)), .val p.told, .val p.obj, s8, s9, s10]) rfl rfl rfl er rfl]; rfl)).trans ?_
  refine (zx ((Ql (yP eL)).trans e1)).trans ?_
  refine (zx ((Ql eR).trans e2)).trans ?_
  have eh : WW (gB (zg Ux (zf 1) (gO (gC .non)))) (j9 (gB (zA yO (gCons (zg zy (zf 1) (gO (gC (.int 0)))) (gCons (zg zy (zf 1) (gO (gC (.int 1)))) (gCons (zd 8) gNil)))))) [.val (.fz ns), .val ah, .val (.int c), .own o7, .val (.lst (sL xs)), .val (.lst (sL own)), .val p.told, .val p.obj, .val (.lst (sL row)), s9'', s10'] = .ok false [.val (.fz ns), .val ah, .val (.int c), .own o7, .val (.lst (sL xs)), .val (.lst (sL own)), .val p.told, .val p.obj, .val (.lst (sL row)), s9'', s10'] := by
    rcases ha with rfl | ⟨q, hq, rfl⟩
    · rfl
    · have e3 : zA yO (gCons (zg zy (zf 1) (gO (gC (.int 0)))) (gCons (zg zy (zf 1) (gO (gC (.int 1)))) (gCons (zd 8) gNil))) [.val (.fz ns), .val (.tup [q.obj, q.told]), .val (.int c), .own o7, .val (.lst (sL xs)), .val (.lst (sL own)), .val p.told, .val p.obj, .val (.lst (sL row)), s9'', s10'] = .ok (.bl true) [.val (.fz ns), .val (.tup [q.obj, q.told]), .val (.int c), .own o7, .val (.lst (sL xs)), .val (.lst (sL own)), .val p.told, .val p.obj, .val (.lst (sL row)), s9'', s10'] :=
        y4 (ds := [q.obj, q.told, .lst (sL row)]) (by walk_at "gs") (Re hq rn (by omega))
      have e4 : gB (zg Ux (zf 1) (gO (gC .non))) [.val (.fz ns), .val (.tup [q.obj, q.told]), .val (.int c), .own o7, .val (.lst (sL xs)), .val (.lst (sL own)), .val p.told, .val p.obj, .val (.lst (sL row)), s9'', s10'] = .ok true [.val (.fz ns), .val (.tup [q.obj, q.told]), .val (.int c), .own o7, .val (.lst (sL xs)), .val (.lst (sL own)), .val p.told, .val p.obj, .val (.lst (sL row)), s9'', s10'] := rfl
      have e5 : j9 (gB (zA yO (gCons (zg zy (zf 1) (gO (gC (.int 0)))) (gCons (zg zy (zf 1) (gO (gC (.int 1)))) (gCons (zd 8) gNil))))) [.val (.fz ns), .val (.tup [q.obj, q.told]), .val (.int c), .own o7, .val (.lst (sL xs)), .val (.lst (sL own)), .val p.told, .val p.obj, .val (.lst (sL row)), s9'', s10'] = .ok false [.val (.fz ns), .val (.tup [q.obj, q.told]), .val (.int c), .own o7, .val (.lst (sL xs)), .val (.lst (sL own)), .val p.told, .val p.obj, .val (.lst (sL row)), s9'', s10'] := by unfold j9; rw [UX e3]; rfl
      unfold WW
      rw [e4, zm, if_pos rfl, e5]
  refine (zx ((Jm eh).trans rfl)).trans ?_
  rfl
theorem zkL {ns : List Int} : ∀ (cs : List Int) (ρ : Env), zjU ns ρ -> ∃ ρ', yI (zq 2) JB (cs.map D.int) ρ = .ok .nx ρ' /\ zjU ns ρ'
  | [], ρ, h => ⟨ρ, rfl, h⟩
  | c :: r, ρ, h => by
    obtain ⟨ah, s2, s3, s4, s5, s6, s7, s8, s9, s10, ha, rfl⟩ := h
    obtain ⟨ρ1, e1, h1⟩ := one (ns := ns) (c := c) (s3 := s3) (s4 := s4) (s5 := s5) (s6 := s6) (s7 := s7) (s8 := s8) (s9 := s9) (s10 := s10) ha
    obtain ⟨ρ', e, h'⟩ := zkL r ρ1 h1
    refine ⟨ρ', ?_, h'⟩
    rw [List.map_cons]
    unfold yI
    show Js (JB [.val (.fz ns), .val ah, .val (.int c), s3, s4, s5, s6, s7, s8, s9, s10]) _ = _
    rw [e1]
    exact e
theorem lawF : ∀ ns : List Int, ns.length <= 63 -> zbS [.val (.fz ns)] = .ok (.bl true) [] := fun ns hn => by
  obtain ⟨i, ei⟩ := zgp (ns := ns) (k := 0) (by decide)
  have e0 : yU (gCons (zA jB (gCons (zd 0) (gCons (gC (.int 0)) gNil))) gNil) [.val (.fz ns), .val .non, .no, .no, .no, .no, .no, .no, .no, .no, .no] = .ok (.lst [.int i]) [.val (.fz ns), .val .non, .no, .no, .no, .no, .no, .no, .no, .no, .no] := by
    refine zfu ?_ (by simp)
    rw [yh (r := gNil) (y4 (F := jB) (a := gCons (zd 0) (gCons (gC (.int 0)) gNil)) (ds := [.fz ns, .int 0]) (ρ := [.val (.fz ns), .val .non, .no, .no, .no, .no, .no, .no, .no, .no, .no]) rfl ei)]
    rfl
  have e1 : jJ (zf 0) (yz (gC (.int 1))) (yz (gC (.int 6))) [.val (.fz ns), .val .non, .no, .no, .no, .no, .no, .no, .no, .no, .no] = .ok (.lst ((jF ns (some 1) (some 6)).map D.int)) [.val (.fz ns), .val .non, .no, .no, .no, .no, .no, .no, .no, .no, .no] := rfl
  have hl : (jF ns (some 1) (some 6)).length <= ns.length := by
    unfold jF; rw [List.length_take, List.length_drop]; omega
  have e2 := zft (f := QT) (ds := (i :: jF ns (some 1) (some 6)).map D.int) e0 e1 (by
    show (if [D.int i].length + ((jF ns (some 1) (some 6)).map D.int).length <= 100000 then some ([D.int i] ++ (jF ns (some 1) (some 6)).map D.int) else none) = _
    rw [if_pos (by rw [List.length_map]; show 1 + _ <= _; omega)]; rfl)
  obtain ⟨ρ', e3, h3⟩ := zkL (ns := ns) (i :: jF ns (some 1) (some 6)) [.val (.fz ns), .val .non, .no, .no, .no, .no, .no, .no, .no, .no, .no] ⟨_, _, _, _, _, _, _, _, _, _, .inl rfl, rfl⟩
  refine yC (ρ := ρ') rfl ?_
  refine (zx (ρ1 := [.val (.fz ns), .val .non, .no, .no, .no, .no, .no, .no, .no, .no, .no]) rfl).trans ?_
  refine (zx ((Ql (yP e2)).trans e3)).trans ?_
  rfl
end K05
end M
namespace W_k05
open PySem L2 M
def top (i : Nat) : Stmt := PySem.Challenge.pw_enoughsaid_k05_plain_wishes_hold.main.body.getD i (.Pass ⟨0, 0, 0, 0⟩)
structure z7 (K : PySem.W.Frag) (mg : Str -> Option Value) (cls : Nat -> Option Addr) (ad : Nat -> Addr) : Prop where
  len_ : mg "len" = none
  max_ : mg "max" = none
  range_ : mg "range" = none
  list_ : mg "list" = none
  sum_ : mg "sum" = none
  min_ : mg "min" = none
  isinstance_ : mg "isinstance" = none
  str_ : mg "str" = none
  all_ : mg "all" = none
  set_ : mg "set" = none
  int_ : mg "int" = none
  bool_ : mg "bool" = none
  tuple_ : mg "tuple" = none
  sorted_ : mg "sorted" = none
  enumerate_ : mg "enumerate" = none
  LONGEST_NAME : ∃ t, mg "LONGEST_NAME" = some (.int 8 t)
  MOST_LISTED : ∃ t, mg "MOST_LISTED" = some (.int 5 t)
  MOST_WEIGHT : ∃ t, mg "MOST_WEIGHT" = some (.int 1000000000 t)
  MOST_NAMES : ∃ t, mg "MOST_NAMES" = some (.int 5 t)
  MOST_DEEP : ∃ t, mg "MOST_DEEP" = some (.int 4 t)
  MOST_PARTS : ∃ t, mg "MOST_PARTS" = some (.int 12 t)
  no_many : Zo ⟨K, cls⟩ (yy 0)
  no_names : Zo ⟨K, cls⟩ (yy 1)
  no_least : Zo ⟨K, cls⟩ (yy 2)
  no_pairs : Zo ⟨K, cls⟩ (yy 3)
  no_houses : Zo ⟨K, cls⟩ (yy 5)
  no_one : Zo ⟨K, cls⟩ (yy 7)
  no_other : Zo ⟨K, cls⟩ (yy 8)
  no_each : Zo ⟨K, cls⟩ (yy 4)
section
variable {P : Program} {w : World} {K : PySem.W.Frag} {mg : Str -> Option Value} {base : Heap} {cls : Nat -> Option Addr} {ad : Nat -> Addr} {f : Addr} {fd : FuncData}
theorem zd2 : zz ["_law_script", "_law_k"] ["_law_script", "_law_k"] (zr (top 33)) := ⟨rfl, rfl, rfl, by decide +kernel, rfl, by decide +kernel, by decide +kernel⟩
theorem zef (F : Fun K "_law_cell_at" "_law_cell_at" (top 33) f fd) (M : z7 K mg cls ad) : FnOk P w K mg base yg 1 f fd ["_law_script", "_law_k"] (z9 ⟨K, cls⟩ [] false 2 (zt jB)) := by
  have sc := zd2
  exact yb F sc rfl fun cdv A outer s H E hr => ⟨_, (zh (jq (yK zn4 zoj (zn 1) (ze (yL rfl M.len_ (zn 0))) (z8 _))
    (zo (zB (zN (zn 0) (zn 1) (fun _ _ => rfl))))
    yA)
  (zo (zB zi))), by unfold YC; infer_instance⟩
theorem zig : zz ["_law_cell"] ["_law_cell"] (zr (top 34)) := ⟨rfl, rfl, rfl, by decide +kernel, rfl, by decide +kernel, by decide +kernel⟩
theorem zjV (F : Fun K "_law_tape" "_law_tape" (top 34) f fd) (M : z7 K mg cls ad) : FnOk P w K mg base yg 1 f fd ["_law_cell"] (z9 ⟨K, cls⟩ [] true 1 (zt QW)) := by
  have sc := zig
  exact yb F sc rfl fun cdv A outer s H E hr => ⟨_, (zo (zlD (jG (zc (zlC rfl rfl M.max_ (ze zi) (ze (RE (zn 0) (ze (zhw (ze zi) (ze zi)))))) (zc (ZX (zn 0) (ze zi)) (zc zi zj)))))), by unfold W4; infer_instance⟩
theorem zih : zz ["_law_tape_here", "_law_many", "_law_found", "_law_number"] ["_law_tape_here", "_law_many"] (zr (top 35)) := ⟨rfl, rfl, rfl, by decide +kernel, rfl, by decide +kernel, by decide +kernel⟩
theorem zjW (F : Fun K "_law_take" "_law_take" (top 35) f fd) (M : z7 K mg cls ad) : FnOk P w K mg base yg 1 f fd ["_law_tape_here", "_law_many"] (z9 ⟨K, cls⟩ [0] false 2 (zt zu)) := by
  have sc := zih
  exact yb F sc rfl fun cdv A outer s H E hr => ⟨_, (zh (jq (yK zn5 zok (ze (zN (zn 0) (ze zi) (fun _ _ => rfl))) (ze zi) (z8 _))
    (zh (ye (i := 2) (by decide) sc.nd rfl (Or.inl rfl) (ZX (ze (zN (zn 0) (ze zi) (fun _ _ => rfl))) (zn 1)))
  (zh (zc5 0 (UI (ze (zN (zn 0) (ze zi) (fun _ _ => rfl))) (zn 1)) zi)
  (zo (zB (zE 2)))))
    yA)
  (zh (zc5 0 (yJ (ze (zN (zn 0) (ze zi) (fun _ _ => rfl))) (ze zi)) zi)
  (zh (ye (i := 3) (by decide) sc.nd rfl (Or.inl rfl) (ZX (ze (YW (ze (yJ (ze (yJ (ze (zN (zn 0) (ze zi) (fun _ _ => rfl))) (ze (YW (ze zi) (ze (zN (zn 0) (ze zi) (fun _ _ => rfl))))))) (ze zi))) (ze zi))) (ze zi)))
  (zh (ye (i := 3) (by decide) sc.nd rfl (Or.inl rfl) (ZX (ze (YW (zn 3) (ze (yJ (ze (UI (zn 3) (ze zi))) (ze zi))))) (ze zi)))
  (zh (ye (i := 3) (by decide) sc.nd rfl (Or.inl rfl) (ZX (ze (YW (zn 3) (ze (yJ (ze (UI (zn 3) (ze zi))) (ze zi))))) (ze zi)))
  (zo (zB (ZX (ze (UI (zn 3) (ze zi))) (zn 1))))))))), by unfold W5 UO UN UM UL UK UJ; infer_instance⟩
theorem zii : zz ["_law_tape_here", "_law_k", "_law_letters", "_law_first"] ["_law_tape_here", "_law_k"] (zr (top 36)) := ⟨rfl, rfl, rfl, by decide +kernel, rfl, by decide +kernel, by decide +kernel⟩
theorem zjX (F : Fun K "_law_word" "_law_word" (top 36) f fd) (M : z7 K mg cls ad) (h_l_take : HM P w K mg base cls "_law_take" 1 ["_law_tape_here", "_law_many"] [0] false (zt zu)) : FnOk P w K mg base yg 2 f fd ["_law_tape_here", "_law_k"] (z9 ⟨K, cls⟩ [0] false 2 (zt J6)) := by
  have sc := zii
  exact yb F sc rfl fun cdv A outer s H E hr => ⟨_, (zh (ye (i := 2) (by decide) sc.nd rfl (Or.inr rfl) yt)
  (zh (ye (i := 3) (by decide) sc.nd rfl (Or.inl rfl) (zN (zn 2) (ze (yJ (ze (YW (ze zi) (zn 1))) (ze (zU (j := 0) h_l_take (hr.mono (by omega)) rfl (zc zi zj))))) (fun _ _ => rfl)))
  (zo (zB (zlA (zn 3) (ze (zlP yt (ze (zW (yB rfl (CompOk.of_b (N' := ["_law_j", "_law_letters", "_law_tape_here"]) (js := [none, some 2, some 0]) rfl (by kernel_rfl)) (by decide) (Qe rfl M.range_ (zc (zU (j := 0) h_l_take (hr.mono (by omega)) rfl (zc zi zj)) zj)) (fun _ _ _ _ _ => (zJ (i := 0) (by decide) (show (["_law_j", "_law_letters", "_law_tape_here"] : List Str).Nodup by decide +kernel) rfl (Or.inl rfl) (Or.inr rfl))) (fun _ _ _ _ _ => yR) (fun _ _ _ _ _ => (zN (zn 1) (ze (zU (j := 2) h_l_take (hr.mono (by omega)) rfl (zc zi zj))) (fun _ _ => rfl))))))))))))), by unfold W6 UQ UP; infer_instance⟩
theorem zgC : zz ["_law_tape_here", "_law_many", "_law_some_here", "_law_found", "_law_k"] ["_law_tape_here", "_law_many"] (zr (top 37)) := ⟨rfl, rfl, rfl, by decide +kernel, rfl, by decide +kernel, by decide +kernel⟩
theorem zij (F : Fun K "_law_names" "_law_names" (top 37) f fd) (M : z7 K mg cls ad) (h_l_take : HM P w K mg base cls "_law_take" 1 ["_law_tape_here", "_law_many"] [0] false (zt zu)) (h_l_word : HM P w K mg base cls "_law_word" 2 ["_law_tape_here", "_law_k"] [0] false (zt J6)) : FnOk P w K mg base yg 3 f fd ["_law_tape_here", "_law_many"] (z9 ⟨K, cls⟩ [0] false 2 (zt Qh)) := by
  have sc := zgC
  exact yb F sc rfl fun cdv A outer s H E hr => ⟨_, (zh (Jc (i := 2) (by decide) sc.nd rfl (Or.inl rfl) (jG (zly (ss := ["a", "ab", "abc", "b", "ba", "z", "zzzzzzzz", "aa", "c", "count", "y", "counts"]) (by kernel_rfl))))
  (zh (jq (yK JZ J0 (ze (zU (j := 0) h_l_take (hr.mono (by omega)) rfl (zc zi zj))) (ze zi) (z8 _))
    (zo (zf3 (i := 2) (by decide) rfl sc.nd rfl rfl (CompOk.of_b (N' := ["_law_k", "_law_tape_here"]) (js := [none, some 0]) rfl (by kernel_rfl)) (by decide) (Qe rfl M.range_ (zc (zE 1) zj)) (fun _ _ _ _ _ => (zJ (i := 0) (by decide) (show (["_law_k", "_law_tape_here"] : List Str).Nodup by decide +kernel) rfl (Or.inl rfl) (Or.inr rfl))) (fun _ _ _ _ _ => yR) (fun _ _ _ _ _ => (zU (j := 1) h_l_word (hr.mono (by omega)) rfl (zc (zE 0) zj)))))
    yA)
  (zh (Jc (i := 3) (by decide) sc.nd rfl (Or.inl rfl) (jG zj))
  (zh (Jx PassesOwn.never rfl (Qe rfl M.range_ (zc (zE 1) zj)) (zJ (i := 4) (by decide) sc.nd rfl (Or.inl rfl))
    (zo (yQ (Vi 3 (zc4 2 (zU (j := 0) h_l_take (hr.mono (by omega)) rfl (zc (yL rfl M.len_ (zn 2)) zj)))))))
  (zo (zB (dv 3 (by decide)))))))), by unfold Vz YF YE YD; infer_instance⟩
theorem zik : zz ["_law_tape_here", "_law_names_here", "_law_rest", "_law_found", "_law_k"] ["_law_tape_here", "_law_names_here"] (zr (top 38)) := ⟨rfl, rfl, rfl, by decide +kernel, rfl, by decide +kernel, by decide +kernel⟩
theorem zjY (F : Fun K "_law_some" "_law_some" (top 38) f fd) (M : z7 K mg cls ad) (h_l_take : HM P w K mg base cls "_law_take" 1 ["_law_tape_here", "_law_many"] [0] false (zt zu)) : FnOk P w K mg base yg 2 f fd ["_law_tape_here", "_law_names_here"] (z9 ⟨K, cls⟩ [0] false 2 (zt jy)) := by
  have sc := zik
  exact yb F sc rfl fun cdv A outer s H E hr => ⟨_, (zh (Jc (i := 2) (by decide) sc.nd rfl (Or.inl rfl) (Jo rfl M.list_ (zn 1)))
  (zh (Jc (i := 3) (by decide) sc.nd rfl (Or.inl rfl) (jG zj))
  (zh (Jx PassesOwn.never rfl (Qe rfl M.range_ (zc (yJ (ze zi) (ze (zU (j := 0) h_l_take (hr.mono (by omega)) rfl (zc (yL rfl M.len_ (zn 1)) zj)))) zj)) (zJ (i := 4) (by decide) sc.nd rfl (Or.inl rfl))
    (zo (yQ (Vi 3 (zc4 2 (zU (j := 0) h_l_take (hr.mono (by omega)) rfl (zc (yL rfl M.len_ (zn 2)) zj)))))))
  (zo (zB (dv 3 (by decide))))))), by unfold W7 US UR; infer_instance⟩
theorem zgD : zz ["_law_tape_here", "_law_names_here", "_law_kind", "_law_some_here", "_law_top", "_law_pairs", "_law_houses", "_law_each"] ["_law_tape_here", "_law_names_here"] (zr (top 39)) := ⟨rfl, rfl, rfl, by decide +kernel, rfl, by decide +kernel, by decide +kernel⟩
theorem zil (F : Fun K "_law_plain" "_law_plain" (top 39) f fd) (M : z7 K mg cls ad) (h_l_take : HM P w K mg base cls "_law_take" 1 ["_law_tape_here", "_law_many"] [0] false (zt zu)) (h_l_some : HM P w K mg base cls "_law_some" 2 ["_law_tape_here", "_law_names_here"] [0] false (zt jy)) : FnOk P w K mg base yg 3 f fd ["_law_tape_here", "_law_names_here"] (z9 ⟨K, cls⟩ [0] false 2 (zt Zi)) := by
  have sc := zgD
  exact yb F sc rfl fun cdv A outer s H E hr => ⟨_, (zh (ye (i := 2) (by decide) sc.nd rfl (Or.inl rfl) (zU (j := 0) h_l_take (hr.mono (by omega)) rfl (zc zi zj)))
  (zh (jq (yK JZ J0 (zn 2) (ze zi) (z8 _))
    (zh (ye (i := 3) (by decide) sc.nd rfl (Or.inl rfl) (zU (j := 0) h_l_some (hr.mono (by omega)) rfl (zc (zE 1) zj)))
  (zo (zB (Vh (zc yt (zc (yJ (ze zi) (ze (zU (j := 0) h_l_take (hr.mono (by omega)) rfl (zc (yL rfl M.len_ (zn 3)) zj)))) (zc (zE 3) zj)))))))
    yA)
  (zh (jq (yK JZ J0 (zn 2) (ze zi) (z8 _))
    (zh (ye (i := 4) (by decide) sc.nd rfl (Or.inr rfl) (zN (ze (zW (jG (zc zi (zc zi (zc (zhw (ze zi) (ze zi)) zj)))))) (ze (zU (j := 0) h_l_take (hr.mono (by omega)) rfl (zc zi zj))) (fun _ _ => rfl)))
  (zh (zaV (i := 5) (by decide) rfl sc.nd rfl rfl (CompOk.of_b (N' := ["_law_name", "_law_tape_here", "_law_top"]) (js := [none, some 0, some 4]) rfl (by kernel_rfl)) (by decide) (z4 (zU (j := 0) h_l_some (hr.mono (by omega)) rfl (zc (zE 1) zj))) (fun _ _ _ _ _ => (zJ (i := 0) (by decide) (show (["_law_name", "_law_tape_here", "_law_top"] : List Str).Nodup by decide +kernel) rfl (Or.inl rfl) (Or.inr rfl))) (fun _ _ _ _ _ => yR) (fun _ _ _ _ _ => (Vh (zc (zE 0) (zc (yJ (ze zi) (ze (zU (j := 1) h_l_take (hr.mono (by omega)) rfl (zc (zE 2) zj)))) zj)))))
  (zo (zB (Vh (zc yt (zc (yJ (ze zi) (ze (zU (j := 0) h_l_take (hr.mono (by omega)) rfl (zc (RT rfl rfl M.sum_ (ze (zW (yB rfl (CompOk.of_b (N' := ["_law_name", "_law_weight_here"]) (js := [none, none]) rfl (by kernel_rfl)) (by decide) (z4 (zE 5)) (fun _ _ _ _ _ => (zc0 (n := 2) rfl (QQ (zJ (i := 0) (by decide) (show (["_law_name", "_law_weight_here"] : List Str).Nodup by decide +kernel) rfl (Or.inl rfl) (Or.inr rfl)) (QQ (zJ (i := 1) (by decide) (show (["_law_name", "_law_weight_here"] : List Str).Nodup by decide +kernel) rfl (Or.inl rfl) (Or.inr rfl)) zaU)))) (fun _ _ _ _ _ => yR) (fun _ _ _ _ _ => (zE 1)))))) zj)))) (zc (zE 5) zj))))))))
    yA)
  (zh (zaV (i := 6) (by decide) rfl sc.nd rfl rfl (CompOk.of_b (N' := ["_law_k", "_law_tape_here", "_law_names_here"]) (js := [none, some 0, some 1]) rfl (by kernel_rfl)) (by decide) (Qe rfl M.range_ (zc (yJ (ze zi) (ze (zU (j := 0) h_l_take (hr.mono (by omega)) rfl (zc (zN (ze (zW (jG (zc zi (zc zi (zc zi zj)))))) (ze (zU (j := 0) h_l_take (hr.mono (by omega)) rfl (zc zi zj))) (fun _ _ => rfl)) zj)))) zj)) (fun _ _ _ _ _ => (zJ (i := 0) (by decide) (show (["_law_k", "_law_tape_here", "_law_names_here"] : List Str).Nodup by decide +kernel) rfl (Or.inl rfl) (Or.inr rfl))) (fun _ _ _ _ _ => yR) (fun _ _ _ _ _ => (zU (j := 1) h_l_some (hr.mono (by omega)) rfl (zc (zE 2) zj))))
  (zh (ye (i := 7) (by decide) sc.nd rfl (Or.inl rfl) (yJ (ze zi) (ze (zU (j := 0) h_l_take (hr.mono (by omega)) rfl (zc (zfd rfl rfl M.min_ (ze (zW (yB rfl (CompOk.of_b (N' := ["_law_house"]) (js := [none]) rfl (by kernel_rfl)) (by decide) (z4 (zE 6)) (fun _ _ _ _ _ => (zJ (i := 0) (by decide) (show (["_law_house"] : List Str).Nodup by decide +kernel) rfl (Or.inl rfl) (Or.inr rfl))) (fun _ _ _ _ _ => yR) (fun _ _ _ _ _ => (yL rfl M.len_ (zn 0))))))) zj)))))
  (zo (zB (Vh (zc yt (zc (yJ (ze zi) (ze (zU (j := 0) h_l_take (hr.mono (by omega)) rfl (zc (yL rfl M.len_ (zn 6)) zj)))) (zc (zE 7) (zc (zE 6) zj)))))))))))), by unfold zbK WD WC YI YH Q9 YG Q8 Q7; infer_instance⟩
theorem zim : zz ["right", "words"] ["right", "words"] (zr (top 19)) := ⟨rfl, rfl, rfl, by decide +kernel, rfl, by decide +kernel, by decide +kernel⟩
theorem zjZ (F : Fun K "demand" "demand" (top 19) f fd) (M : z7 K mg cls ad) : FnOk P w K mg base yg 1 f fd ["right", "words"] (z9 ⟨K, cls⟩ [] false 2 (zt yc)) := by
  have sc := zim
  exact yb F sc rfl fun cdv A outer s H E hr => ⟨_, (zo (jq (Qt (znz (zn 0)))
    (zo Je)
    yA)), by unfold W8; infer_instance⟩
theorem zgE : zz ["thing"] ["thing"] (zr (top 12)) := ⟨rfl, rfl, rfl, by decide +kernel, rfl, by decide +kernel, by decide +kernel⟩
theorem zin (F : Fun K "is_name" "is_name" (top 12) f fd) (M : z7 K mg cls ad) : FnOk P w K mg base yg 1 f fd ["thing"] (z9 ⟨K, cls⟩ [] false 1 (zt ju)) := by
  have sc := zgE
  exact yb F sc rfl fun cdv A outer s H E hr => ⟨_, (zh (jq (zji (zkt (Qt (Qs (QP rfl M.isinstance_ (zn 0) (ze (Ur (n := "str") rfl M.str_ (by kernel_rfl)))))) (zhx (Qt (zjh ZC ZD ZC ZD zi (yL rfl M.len_ (zn 0)) (ZJ rfl M.LONGEST_NAME))))))
    (zo (zB Uq))
    yA)
  (zo (zB (RG rfl rfl M.all_ (ze (zW (yB rfl (CompOk.of_b (N' := ["sign"]) (js := [none]) rfl (by kernel_rfl)) (by decide) (znC (zE 0)) (fun _ _ _ _ _ => (zJ (i := 0) (by decide) (show (["sign"] : List Str).Nodup by decide +kernel) rfl (Or.inl rfl) (Or.inr rfl))) (fun _ _ _ _ _ => yR) (fun _ _ _ _ _ => (WU zbk zhr zbk zhr yt (zE 0) yt))))))))), by unfold VA YJ; infer_instance⟩
theorem zio : zz ["thing"] ["thing"] (zr (top 13)) := ⟨rfl, rfl, rfl, by decide +kernel, rfl, by decide +kernel, by decide +kernel⟩
theorem zj0 (F : Fun K "is_row" "is_row" (top 13) f fd) (M : z7 K mg cls ad) (h_is_name : HM P w K mg base cls "is_name" 1 ["thing"] [] false (zt ju)) : FnOk P w K mg base yg 2 f fd ["thing"] (z9 ⟨K, cls⟩ [] false 1 (zt yZ)) := by
  have sc := zio
  exact yb F sc rfl fun cdv A outer s H E hr => ⟨_, (zh (jq (Qt (Qs (QP rfl M.isinstance_ (zn 0) (ze (Ur (n := "list") rfl M.list_ (by kernel_rfl))))))
    (zo (zB Uq))
    yA)
  (zo (zB (Ze (RG rfl rfl M.all_ (ze (zW (yB rfl (CompOk.of_b (N' := ["name"]) (js := [none]) rfl (by kernel_rfl)) (by decide) (z4 (zE 0)) (fun _ _ _ _ _ => (zJ (i := 0) (by decide) (show (["name"] : List Str).Nodup by decide +kernel) rfl (Or.inl rfl) (Or.inr rfl))) (fun _ _ _ _ _ => yR) (fun _ _ _ _ _ => (zF h_is_name (hr.mono (by omega)) rfl (zc (zE 0) zj))))))) (ZY (jH JZ J0 (ze (zhZ rfl rfl M.len_ rfl M.set_ (zn 0))) (ze (yL rfl M.len_ (zn 0))) (z8 _))))))), by unfold W9 ZF; infer_instance⟩
theorem Rg : zz ["thing"] ["thing"] (zr (top 16)) := ⟨rfl, rfl, rfl, by decide +kernel, rfl, by decide +kernel, by decide +kernel⟩
theorem zas (F : Fun K "is_short_list" "is_short_list" (top 16) f fd) (M : z7 K mg cls ad) : FnOk P w K mg base yg 1 f fd ["thing"] (z9 ⟨K, cls⟩ [] false 1 (zt z5)) := by
  have sc := Rg
  exact yb F sc rfl fun cdv A outer s H E hr => ⟨_, (zo (zB (Ze (QP rfl M.isinstance_ (zn 0) (ze (Ur (n := "list") rfl M.list_ (by kernel_rfl)))) (ZY (WU ZC ZD ZC ZD zi (yL rfl M.len_ (zn 0)) (ZJ rfl M.MOST_LISTED)))))), by unfold QB; infer_instance⟩
theorem zat : zz ["thing"] ["thing"] (zr (top 17)) := ⟨rfl, rfl, rfl, by decide +kernel, rfl, by decide +kernel, by decide +kernel⟩
theorem za6 (F : Fun K "is_short_row" "is_short_row" (top 17) f fd) (M : z7 K mg cls ad) (h_is_row : HM P w K mg base cls "is_row" 2 ["thing"] [] false (zt yZ)) (h_is_short_list : HM P w K mg base cls "is_short_list" 1 ["thing"] [] false (zt z5)) : FnOk P w K mg base yg 3 f fd ["thing"] (z9 ⟨K, cls⟩ [] false 1 (zt jn)) := by
  have sc := zat
  exact yb F sc rfl fun cdv A outer s H E hr => ⟨_, (zo (zB (Ze (zF h_is_short_list (hr.mono (by omega)) rfl (zc (zE 0) zj)) (ZY (zF h_is_row (hr.mono (by omega)) rfl (zc (zE 0) zj)))))), by unfold Y4; infer_instance⟩
theorem zeg : zz ["thing"] ["thing"] (zr (top 11)) := ⟨rfl, rfl, rfl, by decide +kernel, rfl, by decide +kernel, by decide +kernel⟩
theorem zgF (F : Fun K "is_whole" "is_whole" (top 11) f fd) (M : z7 K mg cls ad) : FnOk P w K mg base yg 1 f fd ["thing"] (z9 ⟨K, cls⟩ [] false 1 (zt JL)) := by
  have sc := zeg
  exact yb F sc rfl fun cdv A outer s H E hr => ⟨_, (zo (zB (Ze (QP rfl M.isinstance_ (zn 0) (ze (Ur (n := "int") rfl M.int_ (by kernel_rfl)))) (ZY (znB (QP rfl M.isinstance_ (zn 0) (ze (Ur (n := "bool") rfl M.bool_ (by kernel_rfl))))))))), by unfold UT; infer_instance⟩
theorem zeh : zz ["thing", "most"] ["thing", "most"] (zr (top 15)) := ⟨rfl, rfl, rfl, by decide +kernel, rfl, by decide +kernel, by decide +kernel⟩
theorem zgG (F : Fun K "is_up_to" "is_up_to" (top 15) f fd) (M : z7 K mg cls ad) (h_is_whole : HM P w K mg base cls "is_whole" 1 ["thing"] [] false (zt JL)) : FnOk P w K mg base yg 2 f fd ["thing", "most"] (z9 ⟨K, cls⟩ [] false 2 (zt yE)) := by
  have sc := zeh
  exact yb F sc rfl fun cdv A outer s H E hr => ⟨_, (zo (zB (Ze (zF h_is_whole (hr.mono (by omega)) rfl (zc (zE 0) zj)) (ZY (WU ZC ZD ZC ZD zi (zE 0) (zE 1)))))), by unfold UU; infer_instance⟩
theorem Wj : zz ["self", "many", "names"] ["self", "many", "names"] (zr (zk (top 24) 0)) := ⟨rfl, rfl, rfl, by decide +kernel, rfl, by decide +kernel, by decide +kernel⟩
theorem Rh (F : Fun K "__init__" "Count.__init__" (zk (top 24) 0) f fd) (M : z7 K mg cls ad) (h_demand : HM P w K mg base cls "demand" 1 ["right", "words"] [] false (zt yc)) (h_is_short_row : HM P w K mg base cls "is_short_row" 3 ["thing"] [] false (zt jn)) (h_is_up_to : HM P w K mg base cls "is_up_to" 2 ["thing", "most"] [] false (zt yE)) : FnOk P w K mg base yg 4 f fd ["self", "many", "names"] (z9 ⟨K, cls⟩ [0] false 3 (zt ZK)) := by
  have sc := Wj
  exact yb F sc rfl fun cdv A outer s H E hr => ⟨_, (zh (yQ (zF h_demand (hr.mono (by omega)) rfl (zc (zF h_is_short_row (hr.mono (by omega)) rfl (zc (zE 2) zj)) (zc yt zj))))
  (zh (yQ (zF h_demand (hr.mono (by omega)) rfl (zc (zF h_is_up_to (hr.mono (by omega)) rfl (zc (zE 1) (zc (yL rfl M.len_ (zn 2)) zj))) (zc yt zj))))
  (zh (QS (f := 0) (i := 0) (by kernel_rfl) (by decide) M.no_many (zE 1))
  (zo (QS (f := 1) (i := 0) (by kernel_rfl) (by decide) M.no_names (zW (Jo rfl M.list_ (zn 2)))))))), by unfold zff zbL VB; infer_instance⟩
theorem zgH : zz ["thing"] ["thing"] (zr (top 18)) := ⟨rfl, rfl, rfl, by decide +kernel, rfl, by decide +kernel, by decide +kernel⟩
theorem ziq (F : Fun K "is_pair" "is_pair" (top 18) f fd) (M : z7 K mg cls ad) (h_is_up_to : HM P w K mg base cls "is_up_to" 2 ["thing", "most"] [] false (zt yE)) (h_is_name : HM P w K mg base cls "is_name" 1 ["thing"] [] false (zt ju)) : FnOk P w K mg base yg 3 f fd ["thing"] (z9 ⟨K, cls⟩ [] false 1 (zt Zj)) := by
  have sc := zgH
  exact yb F sc rfl fun cdv A outer s H E hr => ⟨_, (zh (jq (zji (zkt (Qt (Qs (QP rfl M.isinstance_ (zn 0) (ze (Ur (n := "tuple") rfl M.tuple_ (by kernel_rfl)))))) (zhx (yK zn3 zoh (ze (yL rfl M.len_ (zn 0))) (ze zi) (z8 _)))))
    (zo (zB Uq))
    yA)
  (zo (zB (Ze (zF h_is_name (hr.mono (by omega)) rfl (zc (zN (zn 0) (ze zi) (fun _ _ => rfl)) zj)) (ZY (zF h_is_up_to (hr.mono (by omega)) rfl (zc (zN (zn 0) (ze zi) (fun _ _ => rfl)) (zc (ZJ rfl M.MOST_WEIGHT) zj)))))))), by unfold zbM WE; infer_instance⟩
theorem Wk : zz ["self", "least", "pairs"] ["self", "least", "pairs"] (zr (zk (top 25) 0)) := ⟨rfl, rfl, rfl, by decide +kernel, rfl, by decide +kernel, by decide +kernel⟩
theorem Ri (F : Fun K "__init__" "Weigh.__init__" (zk (top 25) 0) f fd) (M : z7 K mg cls ad) (h_demand : HM P w K mg base cls "demand" 1 ["right", "words"] [] false (zt yc)) (h_is_short_list : HM P w K mg base cls "is_short_list" 1 ["thing"] [] false (zt z5)) (h_is_pair : HM P w K mg base cls "is_pair" 3 ["thing"] [] false (zt Zj)) (h_is_row : HM P w K mg base cls "is_row" 2 ["thing"] [] false (zt yZ)) (h_is_up_to : HM P w K mg base cls "is_up_to" 2 ["thing", "most"] [] false (zt yE)) : FnOk P w K mg base yg 4 f fd ["self", "least", "pairs"] (z9 ⟨K, cls⟩ [0] false 3 (zt ZL)) := by
  have sc := Wk
  exact yb F sc rfl fun cdv A outer s H E hr => ⟨_, (zh (yQ (zF h_demand (hr.mono (by omega)) rfl (zc (zF h_is_short_list (hr.mono (by omega)) rfl (zc (zE 2) zj)) (zc yt zj))))
  (zh (yQ (zF h_demand (hr.mono (by omega)) rfl (zc (RG rfl rfl M.all_ (ze (zW (yB rfl (CompOk.of_b (N' := ["pair"]) (js := [none]) rfl (by kernel_rfl)) (by decide) (z4 (zE 2)) (fun _ _ _ _ _ => (zJ (i := 0) (by decide) (show (["pair"] : List Str).Nodup by decide +kernel) rfl (Or.inl rfl) (Or.inr rfl))) (fun _ _ _ _ _ => yR) (fun _ _ _ _ _ => (zF h_is_pair (hr.mono (by omega)) rfl (zc (zE 0) zj))))))) (zc yt zj))))
  (zh (yQ (zF h_demand (hr.mono (by omega)) rfl (zc (zF h_is_row (hr.mono (by omega)) rfl (zc (zW (yB rfl (CompOk.of_b (N' := ["pair"]) (js := [none]) rfl (by kernel_rfl)) (by decide) (z4 (zE 2)) (fun _ _ _ _ _ => (zJ (i := 0) (by decide) (show (["pair"] : List Str).Nodup by decide +kernel) rfl (Or.inl rfl) (Or.inr rfl))) (fun _ _ _ _ _ => yR) (fun _ _ _ _ _ => (zN (zn 0) (ze zi) (fun _ _ => rfl))))) zj)) (zc yt zj))))
  (zh (yQ (zF h_demand (hr.mono (by omega)) rfl (zc (zF h_is_up_to (hr.mono (by omega)) rfl (zc (zE 1) (zc (RT rfl rfl M.sum_ (ze (zW (yB rfl (CompOk.of_b (N' := ["pair"]) (js := [none]) rfl (by kernel_rfl)) (by decide) (z4 (zE 2)) (fun _ _ _ _ _ => (zJ (i := 0) (by decide) (show (["pair"] : List Str).Nodup by decide +kernel) rfl (Or.inl rfl) (Or.inr rfl))) (fun _ _ _ _ _ => yR) (fun _ _ _ _ _ => (zN (zn 0) (ze zi) (fun _ _ => rfl))))))) zj))) (zc yt zj))))
  (zh (QS (f := 2) (i := 0) (by kernel_rfl) (by decide) M.no_least (zE 1))
  (zo (QS (f := 3) (i := 0) (by kernel_rfl) (by decide) M.no_pairs (zW (Jo rfl M.list_ (zn 2)))))))))), by unfold zfg zbP zbO zbN VC; infer_instance⟩
theorem VQ : zz ["self"] ["self"] (zr (zk (top 24) 1)) := ⟨rfl, rfl, rfl, by decide +kernel, rfl, by decide +kernel, by decide +kernel⟩
theorem Wl (F : Fun K "own_names" "Count.own_names" (zk (top 24) 1) f fd) (M : z7 K mg cls ad) : FnOk P w K mg base yg 1 f fd ["self"] (z9 ⟨K, cls⟩ [] false 1 (zt Zu)) := by
  have sc := VQ
  exact yb F sc rfl fun cdv A outer s H E hr => ⟨_, (zo (zB (zW (Jo rfl M.list_ (ze (jT (f := 1) (by kernel_rfl) (by decide) M.no_names (zn 0))))))), by unfold Zt; infer_instance⟩
theorem VR : zz ["self"] ["self"] (zr (zk (top 25) 1)) := ⟨rfl, rfl, rfl, by decide +kernel, rfl, by decide +kernel, by decide +kernel⟩
theorem Wm (F : Fun K "own_names" "Weigh.own_names" (zk (top 25) 1) f fd) (M : z7 K mg cls ad) : FnOk P w K mg base yg 1 f fd ["self"] (z9 ⟨K, cls⟩ [] false 1 (zt Zw)) := by
  have sc := VR
  exact yb F sc rfl fun cdv A outer s H E hr => ⟨_, (zo (zB (zW (yB rfl (CompOk.of_b (N' := ["pair"]) (js := [none]) rfl (by kernel_rfl)) (by decide) (z4 (jT (f := 3) (by kernel_rfl) (by decide) M.no_pairs (zn 0))) (fun _ _ _ _ _ => (zJ (i := 0) (by decide) (show (["pair"] : List Str).Nodup by decide +kernel) rfl (Or.inl rfl) (Or.inr rfl))) (fun _ _ _ _ _ => yR) (fun _ _ _ _ _ => (zN (zn 0) (ze zi) (fun _ _ => rfl))))))), by unfold Zv; infer_instance⟩
theorem U4 : zz ["self", "names", "house"] ["self"] (zr (zk (top 26) 1)) := ⟨rfl, rfl, rfl, by decide +kernel, rfl, by decide +kernel, by decide +kernel⟩
theorem VS (F : Fun K "own_names" "Houses.own_names" (zk (top 26) 1) f fd) (M : z7 K mg cls ad) : FnOk P w K mg base yg 1 f fd ["self"] (z9 ⟨K, cls⟩ [] false 1 (zt jV)) := by
  have sc := U4
  exact yb F sc rfl fun cdv A outer s H E hr => ⟨_, (zh (Jc (i := 1) (by decide) sc.nd rfl (Or.inl rfl) (jG zj))
  (zh (Jx PassesOwn.never rfl (z4 (jT (f := 5) (by kernel_rfl) (by decide) M.no_houses (zn 0))) (zJ (i := 2) (by decide) sc.nd rfl (Or.inl rfl))
    (zo (yQ (zhz 1 (zE 2)))))
  (zo (zB (dv 1 (by decide)))))), by unfold Zk QC; infer_instance⟩
theorem Wn : zz ["self"] ["self"] (zr (zk (top 23) 0)) := ⟨rfl, rfl, rfl, by decide +kernel, rfl, by decide +kernel, by decide +kernel⟩
theorem Rj (F : Fun K "own_names" "Wish.own_names" (zk (top 23) 0) f fd) (M : z7 K mg cls ad) : FnOk P w K mg base yg 1 f fd ["self"] (z9 ⟨K, cls⟩ [] false 1 (zt yx)) := by
  have sc := Wn
  exact yb F sc rfl fun cdv A outer s H E hr => ⟨_, (zo (zB (zW (jG zj)))), by unfold J7; infer_instance⟩
theorem zau : zz ["self"] ["self"] (zr (zk (top 23) 1)) := ⟨rfl, rfl, rfl, by decide +kernel, rfl, by decide +kernel, by decide +kernel⟩
theorem Q2 (F : Fun K "made_of" "Wish.made_of" (zk (top 23) 1) f fd) (M : z7 K mg cls ad) : FnOk P w K mg base yg 1 f fd ["self"] (z9 ⟨K, cls⟩ [] false 1 (zt yx)) := by
  have sc := zau
  exact yb F sc rfl fun cdv A outer s H E hr => ⟨_, (zo (zB (zW (jG zj)))), by unfold J7; infer_instance⟩
theorem zav : zz ["self"] ["self"] (zr (zk (top 29) 1)) := ⟨rfl, rfl, rfl, by decide +kernel, rfl, by decide +kernel, by decide +kernel⟩
theorem za7 (F : Fun K "made_of" "Then.made_of" (zk (top 29) 1) f fd) (M : z7 K mg cls ad) : FnOk P w K mg base yg 1 f fd ["self"] (z9 ⟨K, cls⟩ [] false 1 (zt Y6)) := by
  have sc := zav
  exact yb F sc rfl fun cdv A outer s H E hr => ⟨_, (zo (zB (zW (jG (zc (jT (f := 7) (by kernel_rfl) (by decide) M.no_one (zn 0)) (zc (jT (f := 8) (by kernel_rfl) (by decide) M.no_other (zn 0)) zj)))))), by unfold Y5; infer_instance⟩
theorem Rk : zz ["self", "names", "wish"] ["self"] (zr (zk (top 23) 2)) := ⟨rfl, rfl, rfl, by decide +kernel, rfl, by decide +kernel, by decide +kernel⟩
theorem Jt (F : Fun K "names_in" "Wish.names_in" (zk (top 23) 2) f fd) (M : z7 K mg cls ad) {n : Nat} {R : Nat -> Option Fn} (hD_own_names : HD P w K mg base cls "own_names" 1 ["self"] QD) (hD_made_of : HD P w K mg base cls "made_of" 1 ["self"] jW) (hD_names_in : HD P w K mg base cls "names_in" (1 + 1 * n) ["self"] R) : FnOk P w K mg base yg (1 + 1 * n + 0 + 1) f fd ["self"] (z9 ⟨K, cls⟩ [] false 1 (zt (jh R))) := by
  have sc := Rk
  exact yb F sc rfl fun cdv A outer s H E hr => ⟨_, (zh (ye (i := 1) (by decide) sc.nd rfl (Or.inl rfl) (j3 hD_own_names (hr.mono (by omega)) (zE 0)))
  (zh (Jx PassesOwn.never rfl (z4 (j3 hD_made_of (hr.mono (by omega)) (zE 0))) (zJ (i := 2) (by decide) sc.nd rfl (Or.inl rfl))
    (zo (ye (i := 1) (by decide) sc.nd rfl (Or.inl rfl) (zW (zcZ (zn 1) (ze (j3 hD_names_in (hr.mono (by omega)) (zE 2))))))))
  (zo (zB (zW (zgl rfl rfl M.sorted_ rfl M.set_ (zn 1))))))), by unfold Ys JU; infer_instance⟩
theorem zb7 : zz ["self"] ["self"] (zr (zk (top 23) 3)) := ⟨rfl, rfl, rfl, by decide +kernel, rfl, by decide +kernel, by decide +kernel⟩
theorem QI (F : Fun K "depth" "Wish.depth" (zk (top 23) 3) f fd) (M : z7 K mg cls ad) {n : Nat} {R : Nat -> Option Fn} (hD_made_of : HD P w K mg base cls "made_of" 1 ["self"] jW) (hD_depth : HD P w K mg base cls "depth" (1 + 1 * n) ["self"] R) : FnOk P w K mg base yg (1 + 1 * n + 0 + 1) f fd ["self"] (z9 ⟨K, cls⟩ [] false 1 (zt (jK R))) := by
  have sc := zb7
  exact yb F sc rfl fun cdv A outer s H E hr => ⟨_, (zo (zB (yJ (ze zi) (ze (zlL rfl rfl M.max_ (ze (zW (yB rfl (CompOk.of_b (N' := ["wish"]) (js := [none]) rfl (by kernel_rfl)) (by decide) (z4 (j3 hD_made_of (hr.mono (by omega)) (zE 0))) (fun _ _ _ _ _ => (zJ (i := 0) (by decide) (show (["wish"] : List Str).Nodup by decide +kernel) rfl (Or.inl rfl) (Or.inr rfl))) (fun _ _ _ _ _ => yR) (fun _ _ _ _ _ => (j3 hD_depth (hr.mono (by omega)) (zE 0)))))) (ze zi)))))), by unfold VD; infer_instance⟩
theorem VT : zz ["self"] ["self"] (zr (zk (top 23) 4)) := ⟨rfl, rfl, rfl, by decide +kernel, rfl, by decide +kernel, by decide +kernel⟩
theorem j7 (F : Fun K "parts_many" "Wish.parts_many" (zk (top 23) 4) f fd) (M : z7 K mg cls ad) {n : Nat} {R : Nat -> Option Fn} (hD_made_of : HD P w K mg base cls "made_of" 1 ["self"] jW) (hD_parts_many : HD P w K mg base cls "parts_many" (1 + 1 * n) ["self"] R) : FnOk P w K mg base yg (1 + 1 * n + 0 + 1) f fd ["self"] (z9 ⟨K, cls⟩ [] false 1 (zt (yN R))) := by
  have sc := VT
  exact yb F sc rfl fun cdv A outer s H E hr => ⟨_, (zo (zB (yJ (ze zi) (ze (RT rfl rfl M.sum_ (ze (zW (yB rfl (CompOk.of_b (N' := ["wish"]) (js := [none]) rfl (by kernel_rfl)) (by decide) (z4 (j3 hD_made_of (hr.mono (by omega)) (zE 0))) (fun _ _ _ _ _ => (zJ (i := 0) (by decide) (show (["wish"] : List Str).Nodup by decide +kernel) rfl (Or.inl rfl) (Or.inr rfl))) (fun _ _ _ _ _ => yR) (fun _ _ _ _ _ => (j3 hD_parts_many (hr.mono (by omega)) (zE 0))))))))))), by unfold Zx; infer_instance⟩
theorem za8 : zz ["wish"] ["wish"] (zr (top 21)) := ⟨rfl, rfl, rfl, by decide +kernel, rfl, by decide +kernel, by decide +kernel⟩
theorem zb8 (F : Fun K "demand_size" "demand_size" (top 21) f fd) (M : z7 K mg cls ad) (h_demand : HM P w K mg base cls "demand" 1 ["right", "words"] [] false (zt yc)) (hD_names_in : HD P w K mg base cls "names_in" 7 ["self"] (j4 6)) (hD_depth : HD P w K mg base cls "depth" 7 ["self"] (J8 6)) (hD_parts_many : HD P w K mg base cls "parts_many" 7 ["self"] (jz 6)) : FnOk P w K mg base yg 8 f fd ["wish"] (z9 ⟨K, cls⟩ [] false 1 (zt jQ)) := by
  have sc := za8
  exact yb F sc rfl fun cdv A outer s H E hr => ⟨_, (zh (yQ (zF h_demand (hr.mono (by omega)) rfl (zc (jH ZC ZD (ze (yL rfl M.len_ (ze (j3 hD_names_in (hr.mono (by omega)) (zE 0))))) (ze (ZJ rfl M.MOST_NAMES)) (z8 _)) (zc yt zj))))
  (zh (yQ (zF h_demand (hr.mono (by omega)) rfl (zc (jH ZC ZD (ze (j3 hD_depth (hr.mono (by omega)) (zE 0))) (ze (ZJ rfl M.MOST_DEEP)) (z8 _)) (zc yt zj))))
  (zo (yQ (zF h_demand (hr.mono (by omega)) rfl (zc (jH ZC ZD (ze (j3 hD_parts_many (hr.mono (by omega)) (zE 0))) (ze (ZJ rfl M.MOST_PARTS)) (z8 _)) (zc yt zj))))))), by unfold U2 Yu Yt; infer_instance⟩
theorem VU : zz ["self", "many", "each", "houses"] ["self", "many", "each", "houses"] (zr (zk (top 26) 0)) := ⟨rfl, rfl, rfl, by decide +kernel, rfl, by decide +kernel, by decide +kernel⟩
theorem Wo (F : Fun K "__init__" "Houses.__init__" (zk (top 26) 0) f fd) (M : z7 K mg cls ad) (h_demand : HM P w K mg base cls "demand" 1 ["right", "words"] [] false (zt yc)) (h_is_short_list : HM P w K mg base cls "is_short_list" 1 ["thing"] [] false (zt z5)) (h_is_short_row : HM P w K mg base cls "is_short_row" 3 ["thing"] [] false (zt jn)) (h_is_up_to : HM P w K mg base cls "is_up_to" 2 ["thing", "most"] [] false (zt yE)) (h_demand_size : HM P w K mg base cls "demand_size" 8 ["wish"] [] false (zt jQ)) : FnOk P w K mg base yg 9 f fd ["self", "many", "each", "houses"] (z9 ⟨K, cls⟩ [0] false 4 (zt QY)) := by
  have sc := VU
  exact yb F sc rfl fun cdv A outer s H E hr => ⟨_, (zh (yQ (zF h_demand (hr.mono (by omega)) rfl (zc (zF h_is_short_list (hr.mono (by omega)) rfl (zc (zE 3) zj)) (zc yt zj))))
  (zh (yQ (zF h_demand (hr.mono (by omega)) rfl (zc (RG rfl rfl M.all_ (ze (zW (yB rfl (CompOk.of_b (N' := ["house"]) (js := [none]) rfl (by kernel_rfl)) (by decide) (z4 (zE 3)) (fun _ _ _ _ _ => (zJ (i := 0) (by decide) (show (["house"] : List Str).Nodup by decide +kernel) rfl (Or.inl rfl) (Or.inr rfl))) (fun _ _ _ _ _ => yR) (fun _ _ _ _ _ => (zF h_is_short_row (hr.mono (by omega)) rfl (zc (zE 0) zj))))))) (zc yt zj))))
  (zh (yQ (zF h_demand (hr.mono (by omega)) rfl (zc (zF h_is_up_to (hr.mono (by omega)) rfl (zc (zE 1) (zc (yL rfl M.len_ (zn 3)) zj))) (zc yt zj))))
  (zh (yQ (zF h_demand (hr.mono (by omega)) rfl (zc (zF h_is_up_to (hr.mono (by omega)) rfl (zc (zE 2) (zc (zfd rfl rfl M.min_ (ze (zW (yB rfl (CompOk.of_b (N' := ["house"]) (js := [none]) rfl (by kernel_rfl)) (by decide) (z4 (zE 3)) (fun _ _ _ _ _ => (zJ (i := 0) (by decide) (show (["house"] : List Str).Nodup by decide +kernel) rfl (Or.inl rfl) (Or.inr rfl))) (fun _ _ _ _ _ => yR) (fun _ _ _ _ _ => (yL rfl M.len_ (zn 0))))))) zj))) (zc yt zj))))
  (zh (QS (f := 0) (i := 0) (by kernel_rfl) (by decide) M.no_many (zE 1))
  (zh (QS (f := 4) (i := 0) (by kernel_rfl) (by decide) M.no_each (zE 2))
  (zh (QS (f := 5) (i := 0) (by kernel_rfl) (by decide) M.no_houses (zW (yB rfl (CompOk.of_b (N' := ["house"]) (js := [none]) rfl (by kernel_rfl)) (by decide) (z4 (zE 3)) (fun _ _ _ _ _ => (zJ (i := 0) (by decide) (show (["house"] : List Str).Nodup by decide +kernel) rfl (Or.inl rfl) (Or.inr rfl))) (fun _ _ _ _ _ => yR) (fun _ _ _ _ _ => (zW (Jo rfl M.list_ (zn 0)))))))
  (zo (yQ (zjB (j := 0) h_demand_size (hr.mono (by omega)) rfl)))))))))), by unfold zdD zaa R9 R8 R7 R6; infer_instance⟩
theorem Rl : zz ["self", "one", "other"] ["self", "one", "other"] (zr (zk (top 29) 0)) := ⟨rfl, rfl, rfl, by decide +kernel, rfl, by decide +kernel, by decide +kernel⟩
theorem zaw (F : Fun K "__init__" "Then.__init__" (zk (top 29) 0) f fd) (M : z7 K mg cls ad) : FnOk P w K mg base yg 1 f fd ["self", "one", "other"] (z9 ⟨K, cls⟩ [0] false 3 (zt zab)) := by
  have sc := Rl
  exact yb F sc rfl fun cdv A outer s H E hr => ⟨_, (zh Je
  (zh Je
  (zh Je
  (zo Je)))), by unfold zh3; infer_instance⟩
theorem zir : zz ["_law_told", "_law_some_here"] ["_law_told"] (zr (top 40)) := ⟨rfl, rfl, rfl, by decide +kernel, rfl, by decide +kernel, by decide +kernel⟩
theorem zj1 (F : Fun K "_law_made" "_law_made" (top 40) f fd) (M : z7 K mg cls ad) {n : Nat} {R : Fn} (h_Count : HK P w K mg base cls "Count" 12 4 ["self", "many", "names"] (zt ZK)) (h_Weigh : HK P w K mg base cls "Weigh" 13 4 ["self", "least", "pairs"] (zt ZL)) (h_Houses : HK P w K mg base cls "Houses" 14 9 ["self", "many", "each", "houses"] (zt QY)) (h_Then : HK P w K mg base cls "Then" 17 1 ["self", "one", "other"] (zt zab)) (h_l_made : HM P w K mg base cls "_law_made" (10 + 1 * n) ["_law_told"] [] false (zt R)) : FnOk P w K mg base yg (10 + 1 * n + 0 + 1) f fd ["_law_told"] (z9 ⟨K, cls⟩ [] false 1 (zt (zQ [] 1 1 false (UV R)))) := by
  have sc := zir
  exact yb F sc rfl fun cdv A outer s H E hr => ⟨_, (zh (jq (yK JZ J0 (ze (zN (zn 0) (ze zi) (fun _ _ => rfl))) (ze yt) (z8 _))
    (zo (zB (zW (Wc h_Count (hr.mono (by omega)) rfl (zc (zN (zn 0) (ze zi) (fun _ _ => rfl)) (zc (zW (Jo rfl M.list_ (ze (zN (zn 0) (ze zi) (fun _ _ => rfl))))) zj))))))
    yA)
  (zh (jq (yK JZ J0 (ze (zN (zn 0) (ze zi) (fun _ _ => rfl))) (ze yt) (z8 _))
    (zo (zB (zW (Wc h_Weigh (hr.mono (by omega)) rfl (zc (zN (zn 0) (ze zi) (fun _ _ => rfl)) (zc (zW (Jo rfl M.list_ (ze (zN (zn 0) (ze zi) (fun _ _ => rfl))))) zj))))))
    yA)
  (zh (jq (yK JZ J0 (ze (zN (zn 0) (ze zi) (fun _ _ => rfl))) (ze yt) (z8 _))
    (zo (zB (zW (Wc h_Houses (hr.mono (by omega)) rfl (zc (zN (zn 0) (ze zi) (fun _ _ => rfl)) (zc (zN (zn 0) (ze zi) (fun _ _ => rfl)) (zc (zW (yB rfl (CompOk.of_b (N' := ["_law_house"]) (js := [none]) rfl (by kernel_rfl)) (by decide) (z4 (zN (zn 0) (ze zi) (fun _ _ => rfl))) (fun _ _ _ _ _ => (zJ (i := 0) (by decide) (show (["_law_house"] : List Str).Nodup by decide +kernel) rfl (Or.inl rfl) (Or.inr rfl))) (fun _ _ _ _ _ => yR) (fun _ _ _ _ _ => (zW (Jo rfl M.list_ (zn 0)))))) zj)))))))
    yA)
  (zh (jq (yK JZ J0 (ze (zN (zn 0) (ze zi) (fun _ _ => rfl))) (ze yt) (z8 _))
    (zo (zB (zW (Wc h_Then (hr.mono (by omega)) rfl (zc (zF h_l_made (hr.mono (by omega)) rfl (zc (zN (zn 0) (ze zi) (fun _ _ => rfl)) zj)) (zc (zF h_l_made (hr.mono (by omega)) rfl (zc (zN (zn 0) (ze zi) (fun _ _ => rfl)) zj)) zj))))))
    yA)
  (zh Je
  (zh Je
  (zo Je))))))), by unfold UV zae zad zac; infer_instance⟩
theorem zei : zz ["_law_tape_here", "_law_names_here", "_law_rest", "_law_found"] ["_law_tape_here", "_law_names_here"] (zr (top 43)) := ⟨rfl, rfl, rfl, by decide +kernel, rfl, by decide +kernel, by decide +kernel⟩
theorem zgI (F : Fun K "_law_turned" "_law_turned" (top 43) f fd) (M : z7 K mg cls ad) (h_l_take : HM P w K mg base cls "_law_take" 1 ["_law_tape_here", "_law_many"] [0] false (zt zu)) : FnOk P w K mg base yg 2 f fd ["_law_tape_here", "_law_names_here"] (z9 ⟨K, cls⟩ [0] false 2 (zt ji)) := by
  have sc := zei
  exact yb F sc rfl fun cdv A outer s H E hr => ⟨_, (zh (Jc (i := 2) (by decide) sc.nd rfl (Or.inl rfl) (Jo rfl M.list_ (zn 1)))
  (zh (Jc (i := 3) (by decide) sc.nd rfl (Or.inl rfl) (jG zj))
  (zh (zjj PassesOwn.never (yK (zmX (znI hr)) zhA (zn 2) (ze (zW (jG zj))) (z8 _))
    (zo (yQ (Vi 3 (zc4 2 (zU (j := 0) h_l_take (hr.mono (by omega)) rfl (zc (yL rfl M.len_ (zn 2)) zj)))))))
  (zo (zB (dv 3 (by decide))))))), by unfold UW Z6 Z5; infer_instance⟩
theorem zax : zz ["self", "row"] ["self", "row"] (zr (zk (top 24) 2)) := ⟨rfl, rfl, rfl, by decide +kernel, rfl, by decide +kernel, by decide +kernel⟩
theorem za9 (F : Fun K "enough" "Count.enough" (zk (top 24) 2) f fd) (M : z7 K mg cls ad) : FnOk P w K mg base yg 1 f fd ["self", "row"] (z9 ⟨K, cls⟩ [] false 2 (zt QZ)) := by
  have sc := zax
  exact yb F sc rfl fun cdv A outer s H E hr => ⟨_, (zo (zB (jH VY Wb (ze (yL rfl M.len_ (ze (zW (yB rfl (CompOk.of_b (N' := ["name", "row"]) (js := [none, some 1]) rfl (by kernel_rfl)) (by decide) (z4 (jT (f := 1) (by kernel_rfl) (by decide) M.no_names (zn 0))) (fun _ _ _ _ _ => (zJ (i := 0) (by decide) (show (["name", "row"] : List Str).Nodup by decide +kernel) rfl (Or.inl rfl) (Or.inr rfl))) (fun _ _ _ _ _ => (QR (yK Ju Up (zn 0) (zn 1) (by with_unfolding_all rfl)))) (fun _ _ _ _ _ => (zE 0))))))) (ze (jT (f := 0) (by kernel_rfl) (by decide) M.no_many (zn 0))) (z8 _)))), by unfold Y7; infer_instance⟩
theorem zay : zz ["self", "row"] ["self", "row"] (zr (zk (top 25) 2)) := ⟨rfl, rfl, rfl, by decide +kernel, rfl, by decide +kernel, by decide +kernel⟩
theorem za_ (F : Fun K "enough" "Weigh.enough" (zk (top 25) 2) f fd) (M : z7 K mg cls ad) : FnOk P w K mg base yg 1 f fd ["self", "row"] (z9 ⟨K, cls⟩ [] false 2 (zt Q0)) := by
  have sc := zay
  exact yb F sc rfl fun cdv A outer s H E hr => ⟨_, (zo (zB (jH VY Wb (ze (RT rfl rfl M.sum_ (ze (zW (yB rfl (CompOk.of_b (N' := ["pair", "row"]) (js := [none, some 1]) rfl (by kernel_rfl)) (by decide) (z4 (jT (f := 3) (by kernel_rfl) (by decide) M.no_pairs (zn 0))) (fun _ _ _ _ _ => (zJ (i := 0) (by decide) (show (["pair", "row"] : List Str).Nodup by decide +kernel) rfl (Or.inl rfl) (Or.inr rfl))) (fun _ _ _ _ _ => (QR (yK Ju Up (ze (zN (zn 0) (ze zi) (fun _ _ => rfl))) (zn 1) (by with_unfolding_all rfl)))) (fun _ _ _ _ _ => (zN (zn 0) (ze zi) (fun _ _ => rfl)))))))) (ze (jT (f := 2) (by kernel_rfl) (by decide) M.no_least (zn 0))) (z8 _)))), by unfold Y8; infer_instance⟩
theorem YN : zz ["self", "house", "row"] ["self", "house", "row"] (zr (zk (top 26) 2)) := ⟨rfl, rfl, rfl, by decide +kernel, rfl, by decide +kernel, by decide +kernel⟩
theorem Ub (F : Fun K "house_enough" "Houses.house_enough" (zk (top 26) 2) f fd) (M : z7 K mg cls ad) : FnOk P w K mg base yg 1 f fd ["self", "house", "row"] (z9 ⟨K, cls⟩ [] false 3 (zt jw)) := by
  have sc := YN
  exact yb F sc rfl fun cdv A outer s H E hr => ⟨_, (zo (zB (jH VY Wb (ze (yL rfl M.len_ (ze (zW (yB rfl (CompOk.of_b (N' := ["name", "row"]) (js := [none, some 2]) rfl (by kernel_rfl)) (by decide) (z4 (zE 1)) (fun _ _ _ _ _ => (zJ (i := 0) (by decide) (show (["name", "row"] : List Str).Nodup by decide +kernel) rfl (Or.inl rfl) (Or.inr rfl))) (fun _ _ _ _ _ => (QR (yK Ju Up (zn 0) (zn 1) (by with_unfolding_all rfl)))) (fun _ _ _ _ _ => (zE 0))))))) (ze (jT (f := 4) (by kernel_rfl) (by decide) M.no_each (zn 0))) (z8 _)))), by unfold Qi; infer_instance⟩
theorem Rm : zz ["self", "row"] ["self", "row"] (zr (zk (top 26) 3)) := ⟨rfl, rfl, rfl, by decide +kernel, rfl, by decide +kernel, by decide +kernel⟩
theorem zaz (F : Fun K "enough" "Houses.enough" (zk (top 26) 3) f fd) (M : z7 K mg cls ad) (hD_house_enough : HD P w K mg base cls "house_enough" 1 ["self", "house", "row"] jx) : FnOk P w K mg base yg 2 f fd ["self", "row"] (z9 ⟨K, cls⟩ [] false 2 (zt QE)) := by
  have sc := Rm
  exact yb F sc rfl fun cdv A outer s H E hr => ⟨_, (zo (zB (jH VY Wb (ze (yL rfl M.len_ (ze (zW (yB rfl (CompOk.of_b (N' := ["house", "row", "self"]) (js := [none, some 1, some 0]) rfl (by kernel_rfl)) (by decide) (z4 (jT (f := 5) (by kernel_rfl) (by decide) M.no_houses (zn 0))) (fun _ _ _ _ _ => (zJ (i := 0) (by decide) (show (["house", "row", "self"] : List Str).Nodup by decide +kernel) rfl (Or.inl rfl) (Or.inr rfl))) (fun _ _ _ _ _ => (QR (Qs (Y3 hD_house_enough (hr.mono (by omega)) (zE 2) (zc (zE 0) (zc (zE 1) zj)))))) (fun _ _ _ _ _ => (zE 0))))))) (ze (jT (f := 0) (by kernel_rfl) (by decide) M.no_many (zn 0))) (z8 _)))), by unfold Yv; infer_instance⟩
theorem zaA : zz ["wish", "row", "many"] ["wish", "row"] (zr (top 22)) := ⟨rfl, rfl, rfl, by decide +kernel, rfl, by decide +kernel, by decide +kernel⟩
theorem zba (F : Fun K "first_enough" "first_enough" (top 22) f fd) (M : z7 K mg cls ad) (hD_enough : HD P w K mg base cls "enough" 2 ["self", "row"] Qj) : FnOk P w K mg base yg 3 f fd ["wish", "row"] (z9 ⟨K, cls⟩ [] false 2 (zt jo)) := by
  have sc := zaA
  exact yb F sc rfl fun cdv A outer s H E hr => ⟨_, (zh (Jx PassesOwn.never rfl (zhy rfl M.range_ (zc zi (zc (yJ (ze (yL rfl M.len_ (zn 1))) (ze zi)) zj))) (zJ (i := 2) (by decide) sc.nd rfl (Or.inl rfl))
    (zo (jq (Qs (Y3 hD_enough (hr.mono (by omega)) (zE 0) (zc (zW (ZZ (zn 1) YX (JH (zE 2)))) zj)))
    (zo (zB (zE 2)))
    yA)))
  (zo (zB Zd))), by unfold Y9 y0; infer_instance⟩
theorem Wp : zz ["self", "row"] ["self", "row"] (zr (zk (top 24) 3)) := ⟨rfl, rfl, rfl, by decide +kernel, rfl, by decide +kernel, by decide +kernel⟩
theorem Rn (F : Fun K "first_in" "Count.first_in" (zk (top 24) 3) f fd) (M : z7 K mg cls ad) (h_first_enough : HM P w K mg base cls "first_enough" 3 ["wish", "row"] [] false (zt jo)) : FnOk P w K mg base yg 4 f fd ["self", "row"] (z9 ⟨K, cls⟩ [] false 2 (zt y3)) := by
  have sc := Wp
  exact yb F sc rfl fun cdv A outer s H E hr => ⟨_, (zo (zB (zF h_first_enough (hr.mono (by omega)) rfl (zc (zE 0) (zc (zE 1) zj))))), by unfold Jj; infer_instance⟩
theorem Wq : zz ["self", "row"] ["self", "row"] (zr (zk (top 25) 3)) := ⟨rfl, rfl, rfl, by decide +kernel, rfl, by decide +kernel, by decide +kernel⟩
theorem Ro (F : Fun K "first_in" "Weigh.first_in" (zk (top 25) 3) f fd) (M : z7 K mg cls ad) (h_first_enough : HM P w K mg base cls "first_enough" 3 ["wish", "row"] [] false (zt jo)) : FnOk P w K mg base yg 4 f fd ["self", "row"] (z9 ⟨K, cls⟩ [] false 2 (zt y3)) := by
  have sc := Wq
  exact yb F sc rfl fun cdv A outer s H E hr => ⟨_, (zo (zB (zF h_first_enough (hr.mono (by omega)) rfl (zc (zE 0) (zc (zE 1) zj))))), by unfold Jj; infer_instance⟩
theorem VV : zz ["self", "row"] ["self", "row"] (zr (zk (top 26) 4)) := ⟨rfl, rfl, rfl, by decide +kernel, rfl, by decide +kernel, by decide +kernel⟩
theorem Wr (F : Fun K "first_in" "Houses.first_in" (zk (top 26) 4) f fd) (M : z7 K mg cls ad) (h_first_enough : HM P w K mg base cls "first_enough" 3 ["wish", "row"] [] false (zt jo)) : FnOk P w K mg base yg 4 f fd ["self", "row"] (z9 ⟨K, cls⟩ [] false 2 (zt y3)) := by
  have sc := VV
  exact yb F sc rfl fun cdv A outer s H E hr => ⟨_, (zo (zB (zF h_first_enough (hr.mono (by omega)) rfl (zc (zE 0) (zc (zE 1) zj))))), by unfold Jj; infer_instance⟩
theorem Rp : zz ["self", "row", "ahead", "behind"] ["self", "row"] (zr (zk (top 29) 2)) := ⟨rfl, rfl, rfl, by decide +kernel, rfl, by decide +kernel, by decide +kernel⟩
theorem zaB (F : Fun K "first_in" "Then.first_in" (zk (top 29) 2) f fd) (M : z7 K mg cls ad) {n : Nat} {R : Nat -> Option Fn} (hD_first_in : HD P w K mg base cls "first_in" (4 + 1 * n) ["self", "row"] R) : FnOk P w K mg base yg (4 + 1 * n + 0 + 1) f fd ["self", "row"] (z9 ⟨K, cls⟩ [] false 2 (zt (Yx R))) := by
  have sc := Rp
  exact yb F sc rfl fun cdv A outer s H E hr => ⟨_, (zh (ye (i := 2) (by decide) sc.nd rfl (Or.inl rfl) (Y3 hD_first_in (hr.mono (by omega)) (jT (f := 7) (by kernel_rfl) (by decide) M.no_one (zn 0)) (zc (zE 1) zj)))
  (zh (jq (yK zgY zhq (zn 2) (ze Zd) (z8 _))
    (zo (zB Zd))
    yA)
  (zh (ye (i := 3) (by decide) sc.nd rfl (Or.inl rfl) (Y3 hD_first_in (hr.mono (by omega)) (jT (f := 8) (by kernel_rfl) (by decide) M.no_other (zn 0)) (zc (zW (ZZ (zn 1) (JH (zE 2)) YX)) zj)))
  (zo (zB (zol (yK zgY zhq (zn 3) (ze Zd) (z8 _)) Zd (yJ (zn 2) (zn 3)))))))), by unfold Yw ZA Zz Zy; infer_instance⟩
theorem zej : zz ["wish", "row"] ["wish", "row"] (zr (top 30)) := ⟨rfl, rfl, rfl, by decide +kernel, rfl, by decide +kernel, by decide +kernel⟩
theorem zgJ (F : Fun K "first_by" "first_by" (top 30) f fd) (M : z7 K mg cls ad) (h_is_row : HM P w K mg base cls "is_row" 2 ["thing"] [] false (zt yZ)) (hD_first_in : HD P w K mg base cls "first_in" 10 ["self", "row"] (j5 6)) : FnOk P w K mg base yg 11 f fd ["wish", "row"] (z9 ⟨K, cls⟩ [] false 2 (zt QG)) := by
  have sc := zej
  exact yb F sc rfl fun cdv A outer s H E hr => ⟨_, (zh (jq (Qt (Qs (zF h_is_row (hr.mono (by omega)) rfl (zc (zE 1) zj))))
    (zo Je)
    yA)
  (zo (zB (Y3 hD_first_in (hr.mono (by omega)) (zE 0) (zc (zE 1) zj))))), by unfold zaf QF; infer_instance⟩
theorem zj2 : zz ["wish", "row"] ["wish", "row"] (zr (top 31)) := ⟨rfl, rfl, rfl, by decide +kernel, rfl, by decide +kernel, by decide +kernel⟩
theorem zl2 (F : Fun K "holds" "holds" (top 31) f fd) (M : z7 K mg cls ad) (h_first_by : HM P w K mg base cls "first_by" 11 ["wish", "row"] [] false (zt QG)) : FnOk P w K mg base yg 12 f fd ["wish", "row"] (z9 ⟨K, cls⟩ [] false 2 (zt ZM)) := by
  have sc := zj2
  exact yb F sc rfl fun cdv A outer s H E hr => ⟨_, (zo (zB (jH zeq zeJ (ze (zF h_first_by (hr.mono (by omega)) rfl (zc (zE 0) (zc (zE 1) zj)))) (ze Zd) (z8 _)))), by unfold zfh; infer_instance⟩
theorem zek : zz ["_law_told", "_law_row", "_law_found", "_law_name", "_law_weight_here", "_law_full", "_law_house", "_law_there"] ["_law_told", "_law_row"] (zr (top 41)) := ⟨rfl, rfl, rfl, by decide +kernel, rfl, by decide +kernel, by decide +kernel⟩
theorem zgK (F : Fun K "_law_weight" "_law_weight" (top 41) f fd) (M : z7 K mg cls ad) : FnOk P w K mg base yg 1 f fd ["_law_told", "_law_row"] (z9 ⟨K, cls⟩ [] false 2 (zt jj)) := by
  have sc := zek
  exact yb F sc rfl fun cdv A outer s H E hr => ⟨_, (zh (jq (yK JZ J0 (ze (zN (zn 0) (ze zi) (fun _ _ => rfl))) (ze yt) (z8 _))
    (zo (zB (RE (ze (yL rfl M.len_ (ze (zW (yB rfl (CompOk.of_b (N' := ["_law_name", "_law_row"]) (js := [none, some 1]) rfl (by kernel_rfl)) (by decide) (z4 (zN (zn 0) (ze zi) (fun _ _ => rfl))) (fun _ _ _ _ _ => (zJ (i := 0) (by decide) (show (["_law_name", "_law_row"] : List Str).Nodup by decide +kernel) rfl (Or.inl rfl) (Or.inr rfl))) (fun _ _ _ _ _ => (QR (yK Ju Up (zn 0) (zn 1) (by with_unfolding_all rfl)))) (fun _ _ _ _ _ => (zE 0))))))) (ze (zN (zn 0) (ze zi) (fun _ _ => rfl))))))
    yA)
  (zh (jq (yK JZ J0 (ze (zN (zn 0) (ze zi) (fun _ _ => rfl))) (ze yt) (z8 _))
    (zh (ye (i := 2) (by decide) sc.nd rfl (Or.inl rfl) zi)
  (zh (Jx PassesOwn.never rfl (z4 (zN (zn 0) (ze zi) (fun _ _ => rfl))) (zc0 (n := 2) rfl (QQ (zJ (i := 3) (by decide) sc.nd rfl (Or.inl rfl)) (QQ (zJ (i := 4) (by decide) sc.nd rfl (Or.inl rfl)) zaU)))
    (zo (ye (i := 2) (by decide) sc.nd rfl (Or.inl rfl) (yJ (zn 2) (ze (YW (zn 4) (ze (zaT rfl M.int_ (ze (jH Ju Up (zn 3) (zn 1) (by with_unfolding_all rfl)))))))))))
  (zo (zB (RE (zn 2) (ze (zN (zn 0) (ze zi) (fun _ _ => rfl))))))))
    yA)
  (zh (ye (i := 5) (by decide) sc.nd rfl (Or.inl rfl) zi)
  (zh (Jx PassesOwn.never rfl (z4 (zN (zn 0) (ze zi) (fun _ _ => rfl))) (zJ (i := 6) (by decide) sc.nd rfl (Or.inl rfl))
    (zh (ye (i := 7) (by decide) sc.nd rfl (Or.inl rfl) zi)
  (zh (Jx PassesOwn.never rfl (z4 (zE 6)) (zJ (i := 3) (by decide) sc.nd rfl (Or.inl rfl))
    (zo (ye (i := 7) (by decide) sc.nd rfl (Or.inl rfl) (yJ (zn 7) (ze (zaT rfl M.int_ (ze (jH Ju Up (zn 3) (zn 1) (by with_unfolding_all rfl)))))))))
  (zo (ye (i := 5) (by decide) sc.nd rfl (Or.inl rfl) (yJ (zn 5) (ze (zaT rfl M.int_ (ze (jH VY Wb (zn 7) (ze (zN (zn 0) (ze zi) (fun _ _ => rfl))) (z8 _)))))))))))
  (zo (zB (RE (zn 5) (ze (zN (zn 0) (ze zi) (fun _ _ => rfl)))))))))), by unfold zag VG VF Yb Jz Ya Ja Z9 Z8 Jy; infer_instance⟩
theorem zgL : zz ["_law_wish", "_law_told", "_law_row", "_law_handed", "_law_found"] ["_law_wish", "_law_told", "_law_row"] (zr (top 42)) := ⟨rfl, rfl, rfl, by decide +kernel, rfl, by decide +kernel, by decide +kernel⟩
theorem zis (F : Fun K "_law_right" "_law_right" (top 42) f fd) (M : z7 K mg cls ad) (h_holds : HM P w K mg base cls "holds" 12 ["wish", "row"] [] false (zt ZM)) (h_l_weight : HM P w K mg base cls "_law_weight" 1 ["_law_told", "_law_row"] [] false (zt jj)) : FnOk P w K mg base yg 13 f fd ["_law_wish", "_law_told", "_law_row"] (z9 ⟨K, cls⟩ [] false 3 (zt yO)) := by
  have sc := zgL
  exact yb F sc rfl fun cdv A outer s H E hr => ⟨_, (zh (ye (i := 3) (by decide) sc.nd rfl (Or.inl rfl) (zW (Jo rfl M.list_ (zn 2))))
  (zh (ye (i := 4) (by decide) sc.nd rfl (Or.inl rfl) (zF h_holds (hr.mono (by omega)) rfl (zc (zE 0) (zc (zE 3) zj))))
  (zo (zB (Ze (QP rfl M.isinstance_ (zn 4) (ze (Ur (n := "bool") rfl M.bool_ (by kernel_rfl)))) (Ze (jH JZ J0 (zn 4) (ze (jH VY Wb (ze (zF h_l_weight (hr.mono (by omega)) rfl (zc (zE 1) (zc (zE 2) zj)))) (ze zi) (z8 _))) (z8 _)) (ZY (jH (zmW (znI hr)) zhA (zn 3) (zn 2) (z8 _))))))))), by unfold zbQ WF YK; infer_instance⟩
theorem znZ : zz ["_law_script", "_law_ahead", "_law_cell", "_law_tape_here", "_law_names_here", "_law_own", "_law_told", "_law_wish", "_law_row", "_law_some_here", "_law_k"] ["_law_script"] (zr (top 44)) := ⟨rfl, rfl, rfl, by decide +kernel, rfl, by decide +kernel, by decide +kernel⟩
theorem zow (F : Fun K "law" "law" (top 44) f fd) (M : z7 K mg cls ad) (h_l_cell_at : HM P w K mg base cls "_law_cell_at" 1 ["_law_script", "_law_k"] [] false (zt jB)) (h_l_tape : HM P w K mg base cls "_law_tape" 1 ["_law_cell"] [] true (zt QW)) (h_l_names : HM P w K mg base cls "_law_names" 3 ["_law_tape_here", "_law_many"] [0] false (zt Qh)) (h_l_take : HM P w K mg base cls "_law_take" 1 ["_law_tape_here", "_law_many"] [0] false (zt zu)) (h_l_plain : HM P w K mg base cls "_law_plain" 3 ["_law_tape_here", "_law_names_here"] [0] false (zt Zi)) (h_l_made : HM P w K mg base cls "_law_made" 16 ["_law_told"] [] false (zt (J9 6))) (h_l_turned : HM P w K mg base cls "_law_turned" 2 ["_law_tape_here", "_law_names_here"] [0] false (zt ji)) (h_l_right : HM P w K mg base cls "_law_right" 13 ["_law_wish", "_law_told", "_law_row"] [] false (zt yO)) : FnOk P w K mg base yg 17 f fd ["_law_script"] (z9 ⟨K, cls⟩ [] false 1 (zt zbS)) := by
  have sc := znZ
  exact yb F sc rfl fun cdv A outer s H E hr => ⟨_, (zh (ye (i := 1) (by decide) sc.nd rfl (Or.inl rfl) Zd)
  (zh (Jx PassesOwn.never rfl (z4 (zW (zcZ (ze (zW (jG (zc (zF h_l_cell_at (hr.mono (by omega)) rfl (zc (zE 0) (zc zi zj))) zj)))) (ze (zW (ZZ (zn 0) (JH zi) (JH zi))))))) (zJ (i := 2) (by decide) sc.nd rfl (Or.inl rfl))
    (zh (Jc (i := 3) (by decide) sc.nd rfl (Or.inl rfl) (zlE h_l_tape (hr.mono (by omega)) rfl (zc (zE 2) zj)))
  (zh (ye (i := 4) (by decide) sc.nd rfl (Or.inl rfl) (zU (j := 3) h_l_names (hr.mono (by omega)) rfl (zc zi zj)))
  (zh (ye (i := 5) (by decide) sc.nd rfl (Or.inr rfl) (zW (ZZ (zn 4) YX (JH (yJ (ze zi) (ze (zU (j := 3) h_l_take (hr.mono (by omega)) rfl (zc zi zj))))))))
  (zh (ye (i := 6) (by decide) sc.nd rfl (Or.inl rfl) (zU (j := 3) h_l_plain (hr.mono (by omega)) rfl (zc (zE 5) zj)))
  (zh (ye (i := 7) (by decide) sc.nd rfl (Or.inl rfl) (zF h_l_made (hr.mono (by omega)) rfl (zc (zE 6) zj)))
  (zh (ye (i := 8) (by decide) sc.nd rfl (Or.inl rfl) (zU (j := 3) h_l_turned (hr.mono (by omega)) rfl (zc (zE 4) zj)))
  (zh (Jx PassesOwn.never rfl (z4 (zW (jG (zc (zE 8) (zc (zW (ZZ (zn 8) YX (JH (zU (j := 3) h_l_take (hr.mono (by omega)) rfl (zc zi zj))))) (zc (zW (yB rfl (CompOk.of_b (N' := ["_law_name", "_law_own"]) (js := [none, some 5]) rfl (by kernel_rfl)) (by decide) (z4 (zE 8)) (fun _ _ _ _ _ => (zJ (i := 0) (by decide) (show (["_law_name", "_law_own"] : List Str).Nodup by decide +kernel) rfl (Or.inl rfl) (Or.inr rfl))) (fun _ _ _ _ _ => (QR (yK Ju Up (zn 0) (zn 1) (by with_unfolding_all rfl)))) (fun _ _ _ _ _ => (zE 0)))) (zc (zW (jG zj)) (zc (zW (ZZ (zn 4) (JH zi) YX)) zj)))))))) (zJ (i := 9) (by decide) sc.nd rfl (Or.inl rfl))
    (zo (jq (Qt (Qs (zF h_l_right (hr.mono (by omega)) rfl (zc (zE 7) (zc (zE 6) (zc (zE 9) zj))))))
    (zo (zB Uq))
    yA)))
  (zh (Jx PassesOwn.never rfl (Qe rfl M.range_ (zc (znx (ze zi) (ze (yL rfl M.len_ (zn 5)))) zj)) (zJ (i := 10) (by decide) sc.nd rfl (Or.inr rfl))
    (zh (zaV (i := 9) (by decide) rfl sc.nd rfl rfl (CompOk.of_b (N' := ["_law_j", "_law_name", "_law_k"]) (js := [none, none, some 10]) rfl (by kernel_rfl)) (by decide) (zlN rfl M.enumerate_ (zc (zE 5) zj)) (fun _ _ _ _ _ => (zc0 (n := 2) rfl (QQ (zJ (i := 0) (by decide) (show (["_law_j", "_law_name", "_law_k"] : List Str).Nodup by decide +kernel) rfl (Or.inl rfl) (Or.inr rfl)) (QQ (zJ (i := 1) (by decide) (show (["_law_j", "_law_name", "_law_k"] : List Str).Nodup by decide +kernel) rfl (Or.inl rfl) (Or.inr rfl)) zaU)))) (fun _ _ _ _ _ => (QR (yK JZ J0 (ze (zlz (ze (zny (zn 2) (zn 0))) (ze zi))) (ze zi) (z8 _)))) (fun _ _ _ _ _ => (zE 1)))
  (zo (jq (Qt (Qs (zF h_l_right (hr.mono (by omega)) rfl (zc (zE 7) (zc (zE 6) (zc (zW (zcZ (ze (zU (j := 3) h_l_turned (hr.mono (by omega)) rfl (zc (zE 9) zj))) (ze (zW (ZZ (zn 4) (JH zi) (JH (yJ (ze zi) (ze (ZX (zn 10) (ze zi)))))))))) zj))))))
    (zo (zB Uq))
    yA))))
  (zh (jq (zji (znA (yK zeq zeJ (zn 1) (ze Zd) (z8 _)) (zlB (Qt (Qs (zF h_l_right (hr.mono (by omega)) rfl (zc (zN (zn 1) (ze zi) (fun _ _ => rfl)) (zc (zN (zn 1) (ze zi) (fun _ _ => rfl)) (zc (zE 8) zj)))))))))
    (zo (zB Uq))
    yA)
  (zo (ye (i := 1) (by decide) sc.nd rfl (Or.inl rfl) (Vh (zc (zE 7) (zc (zE 6) zj)))))))))))))))
  (zo (zB Uq)))), by unfold zbR VJ JB VI VH YM WK WJ WI WH WG JY YL JX; infer_instance⟩
end
theorem all_mk {l : PySem.W.OpenLaw} {w : World} {K : PySem.W.Frag} {h : Heap} {mg : Str -> Option Value} {fa f1 f2 f3 f4 f5 f6 f7 f8 f9 f10 f11 f12 f13 f14 f15 f16 f17 f18 f19 f20 f21 f22 f23 f24 f25 f26 f27 f28 f29 f30 f31 f32 f33 f34 f35 f36 f37 f38 f39 f40 f41 f42 f43 f44 f45 C_Count C_Weigh C_Houses C_Then : Addr} (X : K.In h) (G : h.Ns mainGlobals mg) (hfa : mg "law" = some (.ref fa))
    {od1 an1 od2 an2 od3 an3 od4 an4 od5 an5 od6 an6 od7 an7 od8 an8 od9 an9 od10 an10 od11 an11 od12 an12 od13 an13 od14 an14 od15 an15 od16 an16 od17 an17 od18 an18 od19 an19 od20 an20 od21 an21 od22 an22 od23 an23 od24 an24 od25 an25 od26 an26 od27 an27 od28 an28 od29 an29 od30 an30 od31 an31 od32 an32 od33 an33 od34 an34 od35 an35 od36 an36 od37 an37 od38 an38 od39 an39 od40 an40 od41 an41 od42 an42 od43 an43 od44 an44 od45 an45 : Option Addr} {sl1 sl2 sl3 sl4 sl5 sl6 sl7 sl8 sl9 sl10 sl11 sl12 sl13 sl14 sl15 sl16 sl17 sl18 sl19 sl20 sl21 sl22 sl23 sl24 sl25 sl26 sl27 sl28 sl29 sl30 sl31 sl32 sl33 sl34 sl35 sl36 sl37 sl38 sl39 sl40 sl41 sl42 sl43 sl44 sl45 : Array (Option Value)} {oc1 kV1 dc1 pm1 cd1 ct1 oc2 kV2 dc2 pm2 cd2 ct2 oc3 kV3 dc3 pm3 cd3 ct3 oc4 kV4 dc4 pm4 cd4 ct4 oc5 kV5 dc5 pm5 cd5 ct5 oc6 kV6 dc6 pm6 cd6 ct6 oc7 kV7 dc7 pm7 cd7 ct7 oc8 kV8 dc8 pm8 cd8 ct8 oc9 kV9 dc9 pm9 cd9 ct9 oc10 kV10 dc10 pm10 cd10 ct10 oc11 kV11 dc11 pm11 cd11 ct11 oc12 kV12 dc12 pm12 cd12 ct12 oc13 kV13 dc13 pm13 cd13 ct13 oc14 kV14 dc14 pm14 cd14 ct14 oc15 kV15 dc15 pm15 cd15 ct15 oc16 kV16 dc16 pm16 cd16 ct16 oc17 kV17 dc17 pm17 cd17 ct17 oc18 kV18 dc18 pm18 cd18 ct18 oc19 kV19 dc19 pm19 cd19 ct19 oc20 kV20 dc20 pm20 cd20 ct20 oc21 kV21 dc21 pm21 cd21 ct21 oc22 kV22 dc22 pm22 cd22 ct22 oc23 kV23 dc23 pm23 cd23 ct23 oc24 kV24 dc24 pm24 cd24 ct24 oc25 kV25 dc25 pm25 cd25 ct25 oc26 kV26 dc26 pm26 cd26 ct26 oc27 kV27 dc27 pm27 cd27 ct27 oc28 kV28 dc28 pm28 cd28 ct28 oc29 kV29 dc29 pm29 cd29 ct29 oc30 kV30 dc30 pm30 cd30 ct30 oc31 kV31 dc31 pm31 cd31 ct31 oc32 kV32 dc32 pm32 cd32 ct32 oc33 kV33 dc33 pm33 cd33 ct33 oc34 kV34 dc34 pm34 cd34 ct34 oc35 kV35 dc35 pm35 cd35 ct35 oc36 kV36 dc36 pm36 cd36 ct36 oc37 kV37 dc37 pm37 cd37 ct37 oc38 kV38 dc38 pm38 cd38 ct38 oc39 kV39 dc39 pm39 cd39 ct39 oc40 kV40 dc40 pm40 cd40 ct40 oc41 kV41 dc41 pm41 cd41 ct41 oc42 kV42 dc42 pm42 cd42 ct42 oc43 kV43 dc43 pm43 cd43 ct43 oc44 kV44 dc44 pm44 cd44 ct44 oc45 kV45 dc45 pm45 cd45 ct45 : Value}
    (aC_Count : PySem.W.nsIn K mainGlobals "Count" = some (some (.ref C_Count)))
    (pg_Count : PySem.W.plainGet K C_Count Str.empty = true)
    (hd_Count : PySem.W.hasDictIn K C_Count = true)
    (po_Count : PySem.W.plainOver K C_Count = true)
    (sa_Count : PySem.W.findIn K (.ref C_Count) "__setattr__" = some (some (.builtin "object.__setattr__")))
    (mk_Count : PySem.W.makesIn K C_Count = true)
    (kc_Count : PySem.W.keepIn K (.ref C_Count) = true)
    (n_many_Count : FN0 K C_Count "many")
    (n_names_Count : FN0 K C_Count "names")
    (n_least_Count : FN0 K C_Count "least")
    (n_pairs_Count : FN0 K C_Count "pairs")
    (n_houses_Count : FN0 K C_Count "houses")
    (n_one_Count : FN0 K C_Count "one")
    (n_other_Count : FN0 K C_Count "other")
    (n_each_Count : FN0 K C_Count "each")
    (aC_Weigh : PySem.W.nsIn K mainGlobals "Weigh" = some (some (.ref C_Weigh)))
    (pg_Weigh : PySem.W.plainGet K C_Weigh Str.empty = true)
    (hd_Weigh : PySem.W.hasDictIn K C_Weigh = true)
    (po_Weigh : PySem.W.plainOver K C_Weigh = true)
    (sa_Weigh : PySem.W.findIn K (.ref C_Weigh) "__setattr__" = some (some (.builtin "object.__setattr__")))
    (mk_Weigh : PySem.W.makesIn K C_Weigh = true)
    (kc_Weigh : PySem.W.keepIn K (.ref C_Weigh) = true)
    (n_many_Weigh : FN0 K C_Weigh "many")
    (n_names_Weigh : FN0 K C_Weigh "names")
    (n_least_Weigh : FN0 K C_Weigh "least")
    (n_pairs_Weigh : FN0 K C_Weigh "pairs")
    (n_houses_Weigh : FN0 K C_Weigh "houses")
    (n_one_Weigh : FN0 K C_Weigh "one")
    (n_other_Weigh : FN0 K C_Weigh "other")
    (n_each_Weigh : FN0 K C_Weigh "each")
    (aC_Houses : PySem.W.nsIn K mainGlobals "Houses" = some (some (.ref C_Houses)))
    (pg_Houses : PySem.W.plainGet K C_Houses Str.empty = true)
    (hd_Houses : PySem.W.hasDictIn K C_Houses = true)
    (po_Houses : PySem.W.plainOver K C_Houses = true)
    (sa_Houses : PySem.W.findIn K (.ref C_Houses) "__setattr__" = some (some (.builtin "object.__setattr__")))
    (mk_Houses : PySem.W.makesIn K C_Houses = true)
    (kc_Houses : PySem.W.keepIn K (.ref C_Houses) = true)
    (n_many_Houses : FN0 K C_Houses "many")
    (n_names_Houses : FN0 K C_Houses "names")
    (n_least_Houses : FN0 K C_Houses "least")
    (n_pairs_Houses : FN0 K C_Houses "pairs")
    (n_houses_Houses : FN0 K C_Houses "houses")
    (n_one_Houses : FN0 K C_Houses "one")
    (n_other_Houses : FN0 K C_Houses "other")
    (n_each_Houses : FN0 K C_Houses "each")
    (aC_Then : PySem.W.nsIn K mainGlobals "Then" = some (some (.ref C_Then)))
    (pg_Then : PySem.W.plainGet K C_Then Str.empty = true)
    (hd_Then : PySem.W.hasDictIn K C_Then = true)
    (po_Then : PySem.W.plainOver K C_Then = true)
    (sa_Then : PySem.W.findIn K (.ref C_Then) "__setattr__" = some (some (.builtin "object.__setattr__")))
    (mk_Then : PySem.W.makesIn K C_Then = true)
    (kc_Then : PySem.W.keepIn K (.ref C_Then) = true)
    (n_many_Then : FN0 K C_Then "many")
    (n_names_Then : FN0 K C_Then "names")
    (n_least_Then : FN0 K C_Then "least")
    (n_pairs_Then : FN0 K C_Then "pairs")
    (n_houses_Then : FN0 K C_Then "houses")
    (n_one_Then : FN0 K C_Then "one")
    (n_other_Then : FN0 K C_Then "other")
    (n_each_Then : FN0 K C_Then "each")
    (a1 : NI K "_law_cell_at" f1) (l1 : LK K f1 oc1 od1 "_law_cell_at" "_law_cell_at" (top 33) kV1 dc1 pm1 an1 cd1 ct1 sl1) (c1 : CI K cd1 "_law_cell_at") (k1 : KI K f1)
    (a2 : NI K "_law_tape" f2) (l2 : LK K f2 oc2 od2 "_law_tape" "_law_tape" (top 34) kV2 dc2 pm2 an2 cd2 ct2 sl2) (c2 : CI K cd2 "_law_tape") (k2 : KI K f2)
    (a3 : NI K "_law_take" f3) (l3 : LK K f3 oc3 od3 "_law_take" "_law_take" (top 35) kV3 dc3 pm3 an3 cd3 ct3 sl3) (c3 : CI K cd3 "_law_take") (k3 : KI K f3)
    (a4 : NI K "_law_word" f4) (l4 : LK K f4 oc4 od4 "_law_word" "_law_word" (top 36) kV4 dc4 pm4 an4 cd4 ct4 sl4) (c4 : CI K cd4 "_law_word") (k4 : KI K f4)
    (a5 : NI K "_law_names" f5) (l5 : LK K f5 oc5 od5 "_law_names" "_law_names" (top 37) kV5 dc5 pm5 an5 cd5 ct5 sl5) (c5 : CI K cd5 "_law_names") (k5 : KI K f5)
    (a6 : NI K "_law_some" f6) (l6 : LK K f6 oc6 od6 "_law_some" "_law_some" (top 38) kV6 dc6 pm6 an6 cd6 ct6 sl6) (c6 : CI K cd6 "_law_some") (k6 : KI K f6)
    (a7 : NI K "_law_plain" f7) (l7 : LK K f7 oc7 od7 "_law_plain" "_law_plain" (top 39) kV7 dc7 pm7 an7 cd7 ct7 sl7) (c7 : CI K cd7 "_law_plain") (k7 : KI K f7)
    (a8 : NI K "demand" f8) (l8 : LK K f8 oc8 od8 "demand" "demand" (top 19) kV8 dc8 pm8 an8 cd8 ct8 sl8) (c8 : CI K cd8 "demand") (k8 : KI K f8)
    (a9 : NI K "is_name" f9) (l9 : LK K f9 oc9 od9 "is_name" "is_name" (top 12) kV9 dc9 pm9 an9 cd9 ct9 sl9) (c9 : CI K cd9 "is_name") (k9 : KI K f9)
    (a10 : NI K "is_row" f10) (l10 : LK K f10 oc10 od10 "is_row" "is_row" (top 13) kV10 dc10 pm10 an10 cd10 ct10 sl10) (c10 : CI K cd10 "is_row") (k10 : KI K f10)
    (a11 : NI K "is_short_list" f11) (l11 : LK K f11 oc11 od11 "is_short_list" "is_short_list" (top 16) kV11 dc11 pm11 an11 cd11 ct11 sl11) (c11 : CI K cd11 "is_short_list") (k11 : KI K f11)
    (a12 : NI K "is_short_row" f12) (l12 : LK K f12 oc12 od12 "is_short_row" "is_short_row" (top 17) kV12 dc12 pm12 an12 cd12 ct12 sl12) (c12 : CI K cd12 "is_short_row") (k12 : KI K f12)
    (a13 : NI K "is_whole" f13) (l13 : LK K f13 oc13 od13 "is_whole" "is_whole" (top 11) kV13 dc13 pm13 an13 cd13 ct13 sl13) (c13 : CI K cd13 "is_whole") (k13 : KI K f13)
    (a14 : NI K "is_up_to" f14) (l14 : LK K f14 oc14 od14 "is_up_to" "is_up_to" (top 15) kV14 dc14 pm14 an14 cd14 ct14 sl14) (c14 : CI K cd14 "is_up_to") (k14 : KI K f14)
    (a15 : FI K C_Count "__init__" f15) (i15 : PySem.W.isFn K (.ref f15) = true) (l15 : LK K f15 oc15 od15 "__init__" "Count.__init__" (zk (top 24) 0) kV15 dc15 pm15 an15 cd15 ct15 sl15) (c15 : CI K cd15 "Count.__init__") (k15 : KI K f15)
    (a16 : NI K "is_pair" f16) (l16 : LK K f16 oc16 od16 "is_pair" "is_pair" (top 18) kV16 dc16 pm16 an16 cd16 ct16 sl16) (c16 : CI K cd16 "is_pair") (k16 : KI K f16)
    (a17 : FI K C_Weigh "__init__" f17) (i17 : PySem.W.isFn K (.ref f17) = true) (l17 : LK K f17 oc17 od17 "__init__" "Weigh.__init__" (zk (top 25) 0) kV17 dc17 pm17 an17 cd17 ct17 sl17) (c17 : CI K cd17 "Weigh.__init__") (k17 : KI K f17)
    (am18_Count : FI K C_Count "own_names" f18)
     (i18 : PySem.W.isFn K (.ref f18) = true) (l18 : LK K f18 oc18 od18 "own_names" "Count.own_names" (zk (top 24) 1) kV18 dc18 pm18 an18 cd18 ct18 sl18) (c18 : CI K cd18 "Count.own_names") (k18 : KI K f18)
    (am19_Weigh : FI K C_Weigh "own_names" f19)
     (i19 : PySem.W.isFn K (.ref f19) = true) (l19 : LK K f19 oc19 od19 "own_names" "Weigh.own_names" (zk (top 25) 1) kV19 dc19 pm19 an19 cd19 ct19 sl19) (c19 : CI K cd19 "Weigh.own_names") (k19 : KI K f19)
    (am20_Houses : FI K C_Houses "own_names" f20)
     (i20 : PySem.W.isFn K (.ref f20) = true) (l20 : LK K f20 oc20 od20 "own_names" "Houses.own_names" (zk (top 26) 1) kV20 dc20 pm20 an20 cd20 ct20 sl20) (c20 : CI K cd20 "Houses.own_names") (k20 : KI K f20)
    (am21_Then : FI K C_Then "own_names" f21)
     (i21 : PySem.W.isFn K (.ref f21) = true) (l21 : LK K f21 oc21 od21 "own_names" "Wish.own_names" (zk (top 23) 0) kV21 dc21 pm21 an21 cd21 ct21 sl21) (c21 : CI K cd21 "Wish.own_names") (k21 : KI K f21)
    (am22_Count : FI K C_Count "made_of" f22)
    (am22_Weigh : FI K C_Weigh "made_of" f22)
    (am22_Houses : FI K C_Houses "made_of" f22)
     (i22 : PySem.W.isFn K (.ref f22) = true) (l22 : LK K f22 oc22 od22 "made_of" "Wish.made_of" (zk (top 23) 1) kV22 dc22 pm22 an22 cd22 ct22 sl22) (c22 : CI K cd22 "Wish.made_of") (k22 : KI K f22)
    (am23_Then : FI K C_Then "made_of" f23)
     (i23 : PySem.W.isFn K (.ref f23) = true) (l23 : LK K f23 oc23 od23 "made_of" "Then.made_of" (zk (top 29) 1) kV23 dc23 pm23 an23 cd23 ct23 sl23) (c23 : CI K cd23 "Then.made_of") (k23 : KI K f23)
    (am24_Count : FI K C_Count "names_in" f24)
    (am24_Weigh : FI K C_Weigh "names_in" f24)
    (am24_Houses : FI K C_Houses "names_in" f24)
    (am24_Then : FI K C_Then "names_in" f24)
     (i24 : PySem.W.isFn K (.ref f24) = true) (l24 : LK K f24 oc24 od24 "names_in" "Wish.names_in" (zk (top 23) 2) kV24 dc24 pm24 an24 cd24 ct24 sl24) (c24 : CI K cd24 "Wish.names_in") (k24 : KI K f24)
    (am25_Count : FI K C_Count "depth" f25)
    (am25_Weigh : FI K C_Weigh "depth" f25)
    (am25_Houses : FI K C_Houses "depth" f25)
    (am25_Then : FI K C_Then "depth" f25)
     (i25 : PySem.W.isFn K (.ref f25) = true) (l25 : LK K f25 oc25 od25 "depth" "Wish.depth" (zk (top 23) 3) kV25 dc25 pm25 an25 cd25 ct25 sl25) (c25 : CI K cd25 "Wish.depth") (k25 : KI K f25)
    (am26_Count : FI K C_Count "parts_many" f26)
    (am26_Weigh : FI K C_Weigh "parts_many" f26)
    (am26_Houses : FI K C_Houses "parts_many" f26)
    (am26_Then : FI K C_Then "parts_many" f26)
     (i26 : PySem.W.isFn K (.ref f26) = true) (l26 : LK K f26 oc26 od26 "parts_many" "Wish.parts_many" (zk (top 23) 4) kV26 dc26 pm26 an26 cd26 ct26 sl26) (c26 : CI K cd26 "Wish.parts_many") (k26 : KI K f26)
    (a27 : NI K "demand_size" f27) (l27 : LK K f27 oc27 od27 "demand_size" "demand_size" (top 21) kV27 dc27 pm27 an27 cd27 ct27 sl27) (c27 : CI K cd27 "demand_size") (k27 : KI K f27)
    (a28 : FI K C_Houses "__init__" f28) (i28 : PySem.W.isFn K (.ref f28) = true) (l28 : LK K f28 oc28 od28 "__init__" "Houses.__init__" (zk (top 26) 0) kV28 dc28 pm28 an28 cd28 ct28 sl28) (c28 : CI K cd28 "Houses.__init__") (k28 : KI K f28)
    (a29 : FI K C_Then "__init__" f29) (i29 : PySem.W.isFn K (.ref f29) = true) (l29 : LK K f29 oc29 od29 "__init__" "Then.__init__" (zk (top 29) 0) kV29 dc29 pm29 an29 cd29 ct29 sl29) (c29 : CI K cd29 "Then.__init__") (k29 : KI K f29)
    (a30 : NI K "_law_made" f30) (l30 : LK K f30 oc30 od30 "_law_made" "_law_made" (top 40) kV30 dc30 pm30 an30 cd30 ct30 sl30) (c30 : CI K cd30 "_law_made") (k30 : KI K f30)
    (a31 : NI K "_law_turned" f31) (l31 : LK K f31 oc31 od31 "_law_turned" "_law_turned" (top 43) kV31 dc31 pm31 an31 cd31 ct31 sl31) (c31 : CI K cd31 "_law_turned") (k31 : KI K f31)
    (am32_Count : FI K C_Count "enough" f32)
     (i32 : PySem.W.isFn K (.ref f32) = true) (l32 : LK K f32 oc32 od32 "enough" "Count.enough" (zk (top 24) 2) kV32 dc32 pm32 an32 cd32 ct32 sl32) (c32 : CI K cd32 "Count.enough") (k32 : KI K f32)
    (am33_Weigh : FI K C_Weigh "enough" f33)
     (i33 : PySem.W.isFn K (.ref f33) = true) (l33 : LK K f33 oc33 od33 "enough" "Weigh.enough" (zk (top 25) 2) kV33 dc33 pm33 an33 cd33 ct33 sl33) (c33 : CI K cd33 "Weigh.enough") (k33 : KI K f33)
    (am34_Houses : FI K C_Houses "house_enough" f34)
     (i34 : PySem.W.isFn K (.ref f34) = true) (l34 : LK K f34 oc34 od34 "house_enough" "Houses.house_enough" (zk (top 26) 2) kV34 dc34 pm34 an34 cd34 ct34 sl34) (c34 : CI K cd34 "Houses.house_enough") (k34 : KI K f34)
    (am35_Houses : FI K C_Houses "enough" f35)
     (i35 : PySem.W.isFn K (.ref f35) = true) (l35 : LK K f35 oc35 od35 "enough" "Houses.enough" (zk (top 26) 3) kV35 dc35 pm35 an35 cd35 ct35 sl35) (c35 : CI K cd35 "Houses.enough") (k35 : KI K f35)
    (a36 : NI K "first_enough" f36) (l36 : LK K f36 oc36 od36 "first_enough" "first_enough" (top 22) kV36 dc36 pm36 an36 cd36 ct36 sl36) (c36 : CI K cd36 "first_enough") (k36 : KI K f36)
    (am37_Count : FI K C_Count "first_in" f37)
     (i37 : PySem.W.isFn K (.ref f37) = true) (l37 : LK K f37 oc37 od37 "first_in" "Count.first_in" (zk (top 24) 3) kV37 dc37 pm37 an37 cd37 ct37 sl37) (c37 : CI K cd37 "Count.first_in") (k37 : KI K f37)
    (am38_Weigh : FI K C_Weigh "first_in" f38)
     (i38 : PySem.W.isFn K (.ref f38) = true) (l38 : LK K f38 oc38 od38 "first_in" "Weigh.first_in" (zk (top 25) 3) kV38 dc38 pm38 an38 cd38 ct38 sl38) (c38 : CI K cd38 "Weigh.first_in") (k38 : KI K f38)
    (am39_Houses : FI K C_Houses "first_in" f39)
     (i39 : PySem.W.isFn K (.ref f39) = true) (l39 : LK K f39 oc39 od39 "first_in" "Houses.first_in" (zk (top 26) 4) kV39 dc39 pm39 an39 cd39 ct39 sl39) (c39 : CI K cd39 "Houses.first_in") (k39 : KI K f39)
    (am40_Then : FI K C_Then "first_in" f40)
     (i40 : PySem.W.isFn K (.ref f40) = true) (l40 : LK K f40 oc40 od40 "first_in" "Then.first_in" (zk (top 29) 2) kV40 dc40 pm40 an40 cd40 ct40 sl40) (c40 : CI K cd40 "Then.first_in") (k40 : KI K f40)
    (a41 : NI K "first_by" f41) (l41 : LK K f41 oc41 od41 "first_by" "first_by" (top 30) kV41 dc41 pm41 an41 cd41 ct41 sl41) (c41 : CI K cd41 "first_by") (k41 : KI K f41)
    (a42 : NI K "holds" f42) (l42 : LK K f42 oc42 od42 "holds" "holds" (top 31) kV42 dc42 pm42 an42 cd42 ct42 sl42) (c42 : CI K cd42 "holds") (k42 : KI K f42)
    (a43 : NI K "_law_weight" f43) (l43 : LK K f43 oc43 od43 "_law_weight" "_law_weight" (top 41) kV43 dc43 pm43 an43 cd43 ct43 sl43) (c43 : CI K cd43 "_law_weight") (k43 : KI K f43)
    (a44 : NI K "_law_right" f44) (l44 : LK K f44 oc44 od44 "_law_right" "_law_right" (top 42) kV44 dc44 pm44 an44 cd44 ct44 sl44) (c44 : CI K cd44 "_law_right") (k44 : KI K f44)
    (a45 : NI K "law" f45) (l45 : LK K f45 oc45 od45 "law" "law" (top 44) kV45 dc45 pm45 an45 cd45 ct45 sl45) (c45 : CI K cd45 "law") (k45 : KI K f45)
    (z_len : NZ K "len")
    (z_max : NZ K "max")
    (z_range : NZ K "range")
    (z_list : NZ K "list")
    (z_sum : NZ K "sum")
    (z_min : NZ K "min")
    (z_isinstance : NZ K "isinstance")
    (z_str : NZ K "str")
    (z_all : NZ K "all")
    (z_set : NZ K "set")
    (z_int : NZ K "int")
    (z_bool : NZ K "bool")
    (z_tuple : NZ K "tuple")
    (z_sorted : NZ K "sorted")
    (z_enumerate : NZ K "enumerate")
    {t_LONGEST_NAME t_MOST_LISTED t_MOST_WEIGHT t_MOST_NAMES t_MOST_DEEP t_MOST_PARTS : Tok}
    (z_LONGEST_NAME : PySem.W.nsIn K mainGlobals "LONGEST_NAME" = some (some (.int 8 t_LONGEST_NAME)))
    (z_MOST_LISTED : PySem.W.nsIn K mainGlobals "MOST_LISTED" = some (some (.int 5 t_MOST_LISTED)))
    (z_MOST_WEIGHT : PySem.W.nsIn K mainGlobals "MOST_WEIGHT" = some (some (.int 1000000000 t_MOST_WEIGHT)))
    (z_MOST_NAMES : PySem.W.nsIn K mainGlobals "MOST_NAMES" = some (some (.int 5 t_MOST_NAMES)))
    (z_MOST_DEEP : PySem.W.nsIn K mainGlobals "MOST_DEEP" = some (some (.int 4 t_MOST_DEEP)))
    (z_MOST_PARTS : PySem.W.nsIn K mainGlobals "MOST_PARTS" = some (some (.int 12 t_MOST_PARTS)))
    : ∃ fd : FuncData, (∀ (s : Shared) (v : Value), BindsTo s fd ⟨[v], []⟩ [("_law_script", v)]) /\ ∀ base : Heap, K.In base -> base.Ns mainGlobals mg -> FnOk l.prog w K mg base yg 17 fa fd ["_law_script"] (RJ K) := by
  have e := hfa.symm.trans (PySem.W.mg_of X G a45)
  cases e
  obtain ⟨cls, hcls⟩ : ∃ c : Nat -> Option Addr, c = (fun n : Nat => List.lookup n [(12, C_Count), (13, C_Weigh), (14, C_Houses), (17, C_Then)]) := ⟨_, rfl⟩
  have sp : ∀ c C, cls c = some C -> (c = 12 /\ C = C_Count) \/ (c = 13 /\ C = C_Weigh) \/ (c = 14 /\ C = C_Houses) \/ (c = 17 /\ C = C_Then) := fun c C h => by
    rw [hcls] at h
    have hm := zhG h
    simpa only [List.mem_cons, Prod.mk.injEq, List.not_mem_nil, or_false] using hm
  have q_Count : cls 12 = some C_Count := by rw [hcls]; rfl
  have q_Weigh : cls 13 = some C_Weigh := by rw [hcls]; rfl
  have q_Houses : cls 14 = some C_Houses := by rw [hcls]; rfl
  have q_Then : cls 17 = some C_Then := by rw [hcls]; rfl
  have F1 := zK (st := (top 33)) l1 c1 k1
  have b1 := F1.binds (ps := ["_law_script", "_law_k"]) fun _ _ _ _ _ _ us hl => match us, hl with | [_, _], _ => rfl
  have F2 := zK (st := (top 34)) l2 c2 k2
  have b2 := F2.binds (ps := ["_law_cell"]) fun _ _ _ _ _ _ us hl => match us, hl with | [_], _ => rfl
  have F3 := zK (st := (top 35)) l3 c3 k3
  have b3 := F3.binds (ps := ["_law_tape_here", "_law_many"]) fun _ _ _ _ _ _ us hl => match us, hl with | [_, _], _ => rfl
  have F4 := zK (st := (top 36)) l4 c4 k4
  have b4 := F4.binds (ps := ["_law_tape_here", "_law_k"]) fun _ _ _ _ _ _ us hl => match us, hl with | [_, _], _ => rfl
  have F5 := zK (st := (top 37)) l5 c5 k5
  have b5 := F5.binds (ps := ["_law_tape_here", "_law_many"]) fun _ _ _ _ _ _ us hl => match us, hl with | [_, _], _ => rfl
  have F6 := zK (st := (top 38)) l6 c6 k6
  have b6 := F6.binds (ps := ["_law_tape_here", "_law_names_here"]) fun _ _ _ _ _ _ us hl => match us, hl with | [_, _], _ => rfl
  have F7 := zK (st := (top 39)) l7 c7 k7
  have b7 := F7.binds (ps := ["_law_tape_here", "_law_names_here"]) fun _ _ _ _ _ _ us hl => match us, hl with | [_, _], _ => rfl
  have F8 := zK (st := (top 19)) l8 c8 k8
  have b8 := F8.binds (ps := ["right", "words"]) fun _ _ _ _ _ _ us hl => match us, hl with | [_, _], _ => rfl
  have F9 := zK (st := (top 12)) l9 c9 k9
  have b9 := F9.binds (ps := ["thing"]) fun _ _ _ _ _ _ us hl => match us, hl with | [_], _ => rfl
  have F10 := zK (st := (top 13)) l10 c10 k10
  have b10 := F10.binds (ps := ["thing"]) fun _ _ _ _ _ _ us hl => match us, hl with | [_], _ => rfl
  have F11 := zK (st := (top 16)) l11 c11 k11
  have b11 := F11.binds (ps := ["thing"]) fun _ _ _ _ _ _ us hl => match us, hl with | [_], _ => rfl
  have F12 := zK (st := (top 17)) l12 c12 k12
  have b12 := F12.binds (ps := ["thing"]) fun _ _ _ _ _ _ us hl => match us, hl with | [_], _ => rfl
  have F13 := zK (st := (top 11)) l13 c13 k13
  have b13 := F13.binds (ps := ["thing"]) fun _ _ _ _ _ _ us hl => match us, hl with | [_], _ => rfl
  have F14 := zK (st := (top 15)) l14 c14 k14
  have b14 := F14.binds (ps := ["thing", "most"]) fun _ _ _ _ _ _ us hl => match us, hl with | [_, _], _ => rfl
  have F15 := zK (st := (zk (top 24) 0)) l15 c15 k15
  have b15 := F15.binds (ps := ["self", "many", "names"]) fun _ _ _ _ _ _ us hl => match us, hl with | [_, _, _], _ => rfl
  have F16 := zK (st := (top 18)) l16 c16 k16
  have b16 := F16.binds (ps := ["thing"]) fun _ _ _ _ _ _ us hl => match us, hl with | [_], _ => rfl
  have F17 := zK (st := (zk (top 25) 0)) l17 c17 k17
  have b17 := F17.binds (ps := ["self", "least", "pairs"]) fun _ _ _ _ _ _ us hl => match us, hl with | [_, _, _], _ => rfl
  have F18 := zK (st := (zk (top 24) 1)) l18 c18 k18
  have b18 := F18.binds (ps := ["self"]) fun _ _ _ _ _ _ us hl => match us, hl with | [_], _ => rfl
  have F19 := zK (st := (zk (top 25) 1)) l19 c19 k19
  have b19 := F19.binds (ps := ["self"]) fun _ _ _ _ _ _ us hl => match us, hl with | [_], _ => rfl
  have F20 := zK (st := (zk (top 26) 1)) l20 c20 k20
  have b20 := F20.binds (ps := ["self"]) fun _ _ _ _ _ _ us hl => match us, hl with | [_], _ => rfl
  have F21 := zK (st := (zk (top 23) 0)) l21 c21 k21
  have b21 := F21.binds (ps := ["self"]) fun _ _ _ _ _ _ us hl => match us, hl with | [_], _ => rfl
  have F22 := zK (st := (zk (top 23) 1)) l22 c22 k22
  have b22 := F22.binds (ps := ["self"]) fun _ _ _ _ _ _ us hl => match us, hl with | [_], _ => rfl
  have F23 := zK (st := (zk (top 29) 1)) l23 c23 k23
  have b23 := F23.binds (ps := ["self"]) fun _ _ _ _ _ _ us hl => match us, hl with | [_], _ => rfl
  have F24 := zK (st := (zk (top 23) 2)) l24 c24 k24
  have b24 := F24.binds (ps := ["self"]) fun _ _ _ _ _ _ us hl => match us, hl with | [_], _ => rfl
  have F25 := zK (st := (zk (top 23) 3)) l25 c25 k25
  have b25 := F25.binds (ps := ["self"]) fun _ _ _ _ _ _ us hl => match us, hl with | [_], _ => rfl
  have F26 := zK (st := (zk (top 23) 4)) l26 c26 k26
  have b26 := F26.binds (ps := ["self"]) fun _ _ _ _ _ _ us hl => match us, hl with | [_], _ => rfl
  have F27 := zK (st := (top 21)) l27 c27 k27
  have b27 := F27.binds (ps := ["wish"]) fun _ _ _ _ _ _ us hl => match us, hl with | [_], _ => rfl
  have F28 := zK (st := (zk (top 26) 0)) l28 c28 k28
  have b28 := F28.binds (ps := ["self", "many", "each", "houses"]) fun _ _ _ _ _ _ us hl => match us, hl with | [_, _, _, _], _ => rfl
  have F29 := zK (st := (zk (top 29) 0)) l29 c29 k29
  have b29 := F29.binds (ps := ["self", "one", "other"]) fun _ _ _ _ _ _ us hl => match us, hl with | [_, _, _], _ => rfl
  have F30 := zK (st := (top 40)) l30 c30 k30
  have b30 := F30.binds (ps := ["_law_told"]) fun _ _ _ _ _ _ us hl => match us, hl with | [_], _ => rfl
  have F31 := zK (st := (top 43)) l31 c31 k31
  have b31 := F31.binds (ps := ["_law_tape_here", "_law_names_here"]) fun _ _ _ _ _ _ us hl => match us, hl with | [_, _], _ => rfl
  have F32 := zK (st := (zk (top 24) 2)) l32 c32 k32
  have b32 := F32.binds (ps := ["self", "row"]) fun _ _ _ _ _ _ us hl => match us, hl with | [_, _], _ => rfl
  have F33 := zK (st := (zk (top 25) 2)) l33 c33 k33
  have b33 := F33.binds (ps := ["self", "row"]) fun _ _ _ _ _ _ us hl => match us, hl with | [_, _], _ => rfl
  have F34 := zK (st := (zk (top 26) 2)) l34 c34 k34
  have b34 := F34.binds (ps := ["self", "house", "row"]) fun _ _ _ _ _ _ us hl => match us, hl with | [_, _, _], _ => rfl
  have F35 := zK (st := (zk (top 26) 3)) l35 c35 k35
  have b35 := F35.binds (ps := ["self", "row"]) fun _ _ _ _ _ _ us hl => match us, hl with | [_, _], _ => rfl
  have F36 := zK (st := (top 22)) l36 c36 k36
  have b36 := F36.binds (ps := ["wish", "row"]) fun _ _ _ _ _ _ us hl => match us, hl with | [_, _], _ => rfl
  have F37 := zK (st := (zk (top 24) 3)) l37 c37 k37
  have b37 := F37.binds (ps := ["self", "row"]) fun _ _ _ _ _ _ us hl => match us, hl with | [_, _], _ => rfl
  have F38 := zK (st := (zk (top 25) 3)) l38 c38 k38
  have b38 := F38.binds (ps := ["self", "row"]) fun _ _ _ _ _ _ us hl => match us, hl with | [_, _], _ => rfl
  have F39 := zK (st := (zk (top 26) 4)) l39 c39 k39
  have b39 := F39.binds (ps := ["self", "row"]) fun _ _ _ _ _ _ us hl => match us, hl with | [_, _], _ => rfl
  have F40 := zK (st := (zk (top 29) 2)) l40 c40 k40
  have b40 := F40.binds (ps := ["self", "row"]) fun _ _ _ _ _ _ us hl => match us, hl with | [_, _], _ => rfl
  have F41 := zK (st := (top 30)) l41 c41 k41
  have b41 := F41.binds (ps := ["wish", "row"]) fun _ _ _ _ _ _ us hl => match us, hl with | [_, _], _ => rfl
  have F42 := zK (st := (top 31)) l42 c42 k42
  have b42 := F42.binds (ps := ["wish", "row"]) fun _ _ _ _ _ _ us hl => match us, hl with | [_, _], _ => rfl
  have F43 := zK (st := (top 41)) l43 c43 k43
  have b43 := F43.binds (ps := ["_law_told", "_law_row"]) fun _ _ _ _ _ _ us hl => match us, hl with | [_, _], _ => rfl
  have F44 := zK (st := (top 42)) l44 c44 k44
  have b44 := F44.binds (ps := ["_law_wish", "_law_told", "_law_row"]) fun _ _ _ _ _ _ us hl => match us, hl with | [_, _, _], _ => rfl
  have F45 := zK (st := (top 44)) l45 c45 k45
  have b45 := F45.binds (ps := ["_law_script"]) fun _ _ _ _ _ _ us hl => match us, hl with | [_], _ => rfl
  have cl_Count : Cls K C_Count := ⟨pg_Count, hd_Count, po_Count, sa_Count⟩
  have cl_Weigh : Cls K C_Weigh := ⟨pg_Weigh, hd_Weigh, po_Weigh, sa_Weigh⟩
  have cl_Houses : Cls K C_Houses := ⟨pg_Houses, hd_Houses, po_Houses, sa_Houses⟩
  have cl_Then : Cls K C_Then := ⟨pg_Then, hd_Then, po_Then, sa_Then⟩
  have M : z7 K mg cls (fun n : Nat => [0, 0, 0, 0, 0, 0, 0, 0, 0, 0, 0, 0, C_Count, C_Weigh, C_Houses, 0, 0, C_Then, 0, 0, 0, 0].getD n 0) := by
    refine ⟨PySem.W.mg_none_of X G z_len, PySem.W.mg_none_of X G z_max, PySem.W.mg_none_of X G z_range, PySem.W.mg_none_of X G z_list, PySem.W.mg_none_of X G z_sum, PySem.W.mg_none_of X G z_min, PySem.W.mg_none_of X G z_isinstance, PySem.W.mg_none_of X G z_str, PySem.W.mg_none_of X G z_all, PySem.W.mg_none_of X G z_set, PySem.W.mg_none_of X G z_int, PySem.W.mg_none_of X G z_bool, PySem.W.mg_none_of X G z_tuple, PySem.W.mg_none_of X G z_sorted, PySem.W.mg_none_of X G z_enumerate, ⟨t_LONGEST_NAME, PySem.W.mg_of X G z_LONGEST_NAME⟩, ⟨t_MOST_LISTED, PySem.W.mg_of X G z_MOST_LISTED⟩, ⟨t_MOST_WEIGHT, PySem.W.mg_of X G z_MOST_WEIGHT⟩, ⟨t_MOST_NAMES, PySem.W.mg_of X G z_MOST_NAMES⟩, ⟨t_MOST_DEEP, PySem.W.mg_of X G z_MOST_DEEP⟩, ⟨t_MOST_PARTS, PySem.W.mg_of X G z_MOST_PARTS⟩, ?no_many, ?no_names, ?no_least, ?no_pairs, ?no_houses, ?no_one, ?no_other, ?no_each⟩
    case no_many =>
      intro c C h11 h
      rcases sp _ _ h with ⟨rfl, rfl⟩ | ⟨rfl, rfl⟩ | ⟨rfl, rfl⟩ | ⟨rfl, rfl⟩
      · exact ⟨cl_Count, n_many_Count⟩
      · exact ⟨cl_Weigh, n_many_Weigh⟩
      · exact ⟨cl_Houses, n_many_Houses⟩
      · exact ⟨cl_Then, n_many_Then⟩
    case no_names =>
      intro c C h11 h
      rcases sp _ _ h with ⟨rfl, rfl⟩ | ⟨rfl, rfl⟩ | ⟨rfl, rfl⟩ | ⟨rfl, rfl⟩
      · exact ⟨cl_Count, n_names_Count⟩
      · exact ⟨cl_Weigh, n_names_Weigh⟩
      · exact ⟨cl_Houses, n_names_Houses⟩
      · exact ⟨cl_Then, n_names_Then⟩
    case no_least =>
      intro c C h11 h
      rcases sp _ _ h with ⟨rfl, rfl⟩ | ⟨rfl, rfl⟩ | ⟨rfl, rfl⟩ | ⟨rfl, rfl⟩
      · exact ⟨cl_Count, n_least_Count⟩
      · exact ⟨cl_Weigh, n_least_Weigh⟩
      · exact ⟨cl_Houses, n_least_Houses⟩
      · exact ⟨cl_Then, n_least_Then⟩
    case no_pairs =>
      intro c C h11 h
      rcases sp _ _ h with ⟨rfl, rfl⟩ | ⟨rfl, rfl⟩ | ⟨rfl, rfl⟩ | ⟨rfl, rfl⟩
      · exact ⟨cl_Count, n_pairs_Count⟩
      · exact ⟨cl_Weigh, n_pairs_Weigh⟩
      · exact ⟨cl_Houses, n_pairs_Houses⟩
      · exact ⟨cl_Then, n_pairs_Then⟩
    case no_houses =>
      intro c C h11 h
      rcases sp _ _ h with ⟨rfl, rfl⟩ | ⟨rfl, rfl⟩ | ⟨rfl, rfl⟩ | ⟨rfl, rfl⟩
      · exact ⟨cl_Count, n_houses_Count⟩
      · exact ⟨cl_Weigh, n_houses_Weigh⟩
      · exact ⟨cl_Houses, n_houses_Houses⟩
      · exact ⟨cl_Then, n_houses_Then⟩
    case no_one =>
      intro c C h11 h
      rcases sp _ _ h with ⟨rfl, rfl⟩ | ⟨rfl, rfl⟩ | ⟨rfl, rfl⟩ | ⟨rfl, rfl⟩
      · exact ⟨cl_Count, n_one_Count⟩
      · exact ⟨cl_Weigh, n_one_Weigh⟩
      · exact ⟨cl_Houses, n_one_Houses⟩
      · exact ⟨cl_Then, n_one_Then⟩
    case no_other =>
      intro c C h11 h
      rcases sp _ _ h with ⟨rfl, rfl⟩ | ⟨rfl, rfl⟩ | ⟨rfl, rfl⟩ | ⟨rfl, rfl⟩
      · exact ⟨cl_Count, n_other_Count⟩
      · exact ⟨cl_Weigh, n_other_Weigh⟩
      · exact ⟨cl_Houses, n_other_Houses⟩
      · exact ⟨cl_Then, n_other_Then⟩
    case no_each =>
      intro c C h11 h
      rcases sp _ _ h with ⟨rfl, rfl⟩ | ⟨rfl, rfl⟩ | ⟨rfl, rfl⟩ | ⟨rfl, rfl⟩
      · exact ⟨cl_Count, n_each_Count⟩
      · exact ⟨cl_Weigh, n_each_Weigh⟩
      · exact ⟨cl_Houses, n_each_Houses⟩
      · exact ⟨cl_Then, n_each_Then⟩
  refine ⟨PySem.W.fnOf "law" "law" (ZH (top 44)) (Qc (top 44)) (zr (top 44)) .none kV45 dc45 pm45 an45 cd45 ct45, fun s v => .of_eq rfl, fun base _ _ => ?_⟩
  have h_l_cell_at : HM l.prog w K mg base cls "_law_cell_at" 1 ["_law_script", "_law_k"] [] false (zt jB) := ⟨⟨_, _, (zef F1 M).mono (by omega), b1, k1, PySem.W.mg_of X G a1⟩, fun _ _ h => zH h⟩
  have h_l_tape : HM l.prog w K mg base cls "_law_tape" 1 ["_law_cell"] [] true (zt QW) := ⟨⟨_, _, (zjV F2 M).mono (by omega), b2, k2, PySem.W.mg_of X G a2⟩, fun _ _ h => zH h⟩
  have h_l_take : HM l.prog w K mg base cls "_law_take" 1 ["_law_tape_here", "_law_many"] [0] false (zt zu) := ⟨⟨_, _, (zjW F3 M).mono (by omega), b3, k3, PySem.W.mg_of X G a3⟩, fun _ _ h => zH h⟩
  have h_l_word : HM l.prog w K mg base cls "_law_word" 2 ["_law_tape_here", "_law_k"] [0] false (zt J6) := ⟨⟨_, _, (zjX F4 M h_l_take).mono (by omega), b4, k4, PySem.W.mg_of X G a4⟩, fun _ _ h => zH h⟩
  have h_l_names : HM l.prog w K mg base cls "_law_names" 3 ["_law_tape_here", "_law_many"] [0] false (zt Qh) := ⟨⟨_, _, (zij F5 M h_l_take h_l_word).mono (by omega), b5, k5, PySem.W.mg_of X G a5⟩, fun _ _ h => zH h⟩
  have h_l_some : HM l.prog w K mg base cls "_law_some" 2 ["_law_tape_here", "_law_names_here"] [0] false (zt jy) := ⟨⟨_, _, (zjY F6 M h_l_take).mono (by omega), b6, k6, PySem.W.mg_of X G a6⟩, fun _ _ h => zH h⟩
  have h_l_plain : HM l.prog w K mg base cls "_law_plain" 3 ["_law_tape_here", "_law_names_here"] [0] false (zt Zi) := ⟨⟨_, _, (zil F7 M h_l_take h_l_some).mono (by omega), b7, k7, PySem.W.mg_of X G a7⟩, fun _ _ h => zH h⟩
  have h_demand : HM l.prog w K mg base cls "demand" 1 ["right", "words"] [] false (zt yc) := ⟨⟨_, _, (zjZ F8 M).mono (by omega), b8, k8, PySem.W.mg_of X G a8⟩, fun _ _ h => zH h⟩
  have h_is_name : HM l.prog w K mg base cls "is_name" 1 ["thing"] [] false (zt ju) := ⟨⟨_, _, (zin F9 M).mono (by omega), b9, k9, PySem.W.mg_of X G a9⟩, fun _ _ h => zH h⟩
  have h_is_row : HM l.prog w K mg base cls "is_row" 2 ["thing"] [] false (zt yZ) := ⟨⟨_, _, (zj0 F10 M h_is_name).mono (by omega), b10, k10, PySem.W.mg_of X G a10⟩, fun _ _ h => zH h⟩
  have h_is_short_list : HM l.prog w K mg base cls "is_short_list" 1 ["thing"] [] false (zt z5) := ⟨⟨_, _, (zas F11 M).mono (by omega), b11, k11, PySem.W.mg_of X G a11⟩, fun _ _ h => zH h⟩
  have h_is_short_row : HM l.prog w K mg base cls "is_short_row" 3 ["thing"] [] false (zt jn) := ⟨⟨_, _, (za6 F12 M h_is_row h_is_short_list).mono (by omega), b12, k12, PySem.W.mg_of X G a12⟩, fun _ _ h => zH h⟩
  have h_is_whole : HM l.prog w K mg base cls "is_whole" 1 ["thing"] [] false (zt JL) := ⟨⟨_, _, (zgF F13 M).mono (by omega), b13, k13, PySem.W.mg_of X G a13⟩, fun _ _ h => zH h⟩
  have h_is_up_to : HM l.prog w K mg base cls "is_up_to" 2 ["thing", "most"] [] false (zt yE) := ⟨⟨_, _, (zgG F14 M h_is_whole).mono (by omega), b14, k14, PySem.W.mg_of X G a14⟩, fun _ _ h => zH h⟩
  have h_Count : HK l.prog w K mg base cls "Count" 12 4 ["self", "many", "names"] (zt ZK) := ⟨⟨C_Count, _, _, q_Count, ⟨mk_Count, a15, i15, kc_Count⟩, (Rh F15 M h_demand h_is_short_row h_is_up_to).mono (by omega), b15, PySem.W.mg_of X G aC_Count⟩, fun _ _ h => zH h⟩
  have h_is_pair : HM l.prog w K mg base cls "is_pair" 3 ["thing"] [] false (zt Zj) := ⟨⟨_, _, (ziq F16 M h_is_up_to h_is_name).mono (by omega), b16, k16, PySem.W.mg_of X G a16⟩, fun _ _ h => zH h⟩
  have h_Weigh : HK l.prog w K mg base cls "Weigh" 13 4 ["self", "least", "pairs"] (zt ZL) := ⟨⟨C_Weigh, _, _, q_Weigh, ⟨mk_Weigh, a17, i17, kc_Weigh⟩, (Ri F17 M h_demand h_is_short_list h_is_pair h_is_row h_is_up_to).mono (by omega), b17, PySem.W.mg_of X G aC_Weigh⟩, fun _ _ h => zH h⟩
  have hD_own_names : HD l.prog w K mg base cls "own_names" 1 ["self"] QD := by
    refine ⟨Jl (by decide +kernel), fun c C F hc hF => ?_, fun c F ss q hF h => ?_⟩
    · rcases sp _ _ hc with ⟨rfl, rfl⟩ | ⟨rfl, rfl⟩ | ⟨rfl, rfl⟩ | ⟨rfl, rfl⟩
      · cases zS hF (e := rfl); exact ⟨cl_Count, f18, _, ⟨am18_Count, i18, k18⟩, (Wl F18 M).mono (by omega), b18⟩
      · cases zS hF (e := rfl); exact ⟨cl_Weigh, f19, _, ⟨am19_Weigh, i19, k19⟩, (Wm F19 M).mono (by omega), b19⟩
      · cases zS hF (e := rfl); exact ⟨cl_Houses, f20, _, ⟨am20_Houses, i20, k20⟩, (VS F20 M).mono (by omega), b20⟩
      · cases zS hF (e := rfl); exact ⟨cl_Then, f21, _, ⟨am21_Then, i21, k21⟩, (Rj F21 M).mono (by omega), b21⟩
    · unfold QD at hF; split at hF <;> first | (cases hF; exact zH h) | cases hF
  have hD_made_of : HD l.prog w K mg base cls "made_of" 1 ["self"] jW := by
    refine ⟨Jl (by decide +kernel), fun c C F hc hF => ?_, fun c F ss q hF h => ?_⟩
    · rcases sp _ _ hc with ⟨rfl, rfl⟩ | ⟨rfl, rfl⟩ | ⟨rfl, rfl⟩ | ⟨rfl, rfl⟩
      · cases zS hF (e := rfl); exact ⟨cl_Count, f22, _, ⟨am22_Count, i22, k22⟩, (Q2 F22 M).mono (by omega), b22⟩
      · cases zS hF (e := rfl); exact ⟨cl_Weigh, f22, _, ⟨am22_Weigh, i22, k22⟩, (Q2 F22 M).mono (by omega), b22⟩
      · cases zS hF (e := rfl); exact ⟨cl_Houses, f22, _, ⟨am22_Houses, i22, k22⟩, (Q2 F22 M).mono (by omega), b22⟩
      · cases zS hF (e := rfl); exact ⟨cl_Then, f23, _, ⟨am23_Then, i23, k23⟩, (za7 F23 M).mono (by omega), b23⟩
    · unfold jW at hF; split at hF <;> first | (cases hF; exact zH h) | cases hF
  have hD_names_in_all : ∀ n, HD l.prog w K mg base cls "names_in" (1 + 1 * n) ["self"] (j4 n) := by
    intro n
    induction n with
    | zero => exact ⟨Jl (by decide +kernel), fun c C F hc hF => (nomatch hF), fun c F ss q hF => (nomatch hF)⟩
    | succ n hD_names_in =>
      show HD l.prog w K mg base cls "names_in" (1 + 1 * (n + 1)) ["self"] (Z4 (j4 n))
      refine ⟨Jl (by decide +kernel), fun c C F hc hF => ?_, fun c F ss q hF h => ?_⟩
      · rcases sp _ _ hc with ⟨rfl, rfl⟩ | ⟨rfl, rfl⟩ | ⟨rfl, rfl⟩ | ⟨rfl, rfl⟩
        · cases zS hF (e := rfl); exact ⟨cl_Count, f24, _, ⟨am24_Count, i24, k24⟩, (Jt F24 M hD_own_names hD_made_of hD_names_in).mono (by omega), b24⟩
        · cases zS hF (e := rfl); exact ⟨cl_Weigh, f24, _, ⟨am24_Weigh, i24, k24⟩, (Jt F24 M hD_own_names hD_made_of hD_names_in).mono (by omega), b24⟩
        · cases zS hF (e := rfl); exact ⟨cl_Houses, f24, _, ⟨am24_Houses, i24, k24⟩, (Jt F24 M hD_own_names hD_made_of hD_names_in).mono (by omega), b24⟩
        · cases zS hF (e := rfl); exact ⟨cl_Then, f24, _, ⟨am24_Then, i24, k24⟩, (Jt F24 M hD_own_names hD_made_of hD_names_in).mono (by omega), b24⟩
      · unfold Z4 at hF; split at hF <;> first | (cases hF; exact zH h) | cases hF
  have hD_names_in : HD l.prog w K mg base cls "names_in" 7 ["self"] (j4 6) := hD_names_in_all 6
  have hD_depth_all : ∀ n, HD l.prog w K mg base cls "depth" (1 + 1 * n) ["self"] (J8 n) := by
    intro n
    induction n with
    | zero => exact ⟨Jl (by decide +kernel), fun c C F hc hF => (nomatch hF), fun c F ss q hF => (nomatch hF)⟩
    | succ n hD_depth =>
      show HD l.prog w K mg base cls "depth" (1 + 1 * (n + 1)) ["self"] (VE (J8 n))
      refine ⟨Jl (by decide +kernel), fun c C F hc hF => ?_, fun c F ss q hF h => ?_⟩
      · rcases sp _ _ hc with ⟨rfl, rfl⟩ | ⟨rfl, rfl⟩ | ⟨rfl, rfl⟩ | ⟨rfl, rfl⟩
        · cases zS hF (e := rfl); exact ⟨cl_Count, f25, _, ⟨am25_Count, i25, k25⟩, (QI F25 M hD_made_of hD_depth).mono (by omega), b25⟩
        · cases zS hF (e := rfl); exact ⟨cl_Weigh, f25, _, ⟨am25_Weigh, i25, k25⟩, (QI F25 M hD_made_of hD_depth).mono (by omega), b25⟩
        · cases zS hF (e := rfl); exact ⟨cl_Houses, f25, _, ⟨am25_Houses, i25, k25⟩, (QI F25 M hD_made_of hD_depth).mono (by omega), b25⟩
        · cases zS hF (e := rfl); exact ⟨cl_Then, f25, _, ⟨am25_Then, i25, k25⟩, (QI F25 M hD_made_of hD_depth).mono (by omega), b25⟩
      · unfold VE at hF; split at hF <;> first | (cases hF; exact zH h) | cases hF
  have hD_depth : HD l.prog w K mg base cls "depth" 7 ["self"] (J8 6) := hD_depth_all 6
  have hD_parts_many_all : ∀ n, HD l.prog w K mg base cls "parts_many" (1 + 1 * n) ["self"] (jz n) := by
    intro n
    induction n with
    | zero => exact ⟨Jl (by decide +kernel), fun c C F hc hF => (nomatch hF), fun c F ss q hF => (nomatch hF)⟩
    | succ n hD_parts_many =>
      show HD l.prog w K mg base cls "parts_many" (1 + 1 * (n + 1)) ["self"] (QX (jz n))
      refine ⟨Jl (by decide +kernel), fun c C F hc hF => ?_, fun c F ss q hF h => ?_⟩
      · rcases sp _ _ hc with ⟨rfl, rfl⟩ | ⟨rfl, rfl⟩ | ⟨rfl, rfl⟩ | ⟨rfl, rfl⟩
        · cases zS hF (e := rfl); exact ⟨cl_Count, f26, _, ⟨am26_Count, i26, k26⟩, (j7 F26 M hD_made_of hD_parts_many).mono (by omega), b26⟩
        · cases zS hF (e := rfl); exact ⟨cl_Weigh, f26, _, ⟨am26_Weigh, i26, k26⟩, (j7 F26 M hD_made_of hD_parts_many).mono (by omega), b26⟩
        · cases zS hF (e := rfl); exact ⟨cl_Houses, f26, _, ⟨am26_Houses, i26, k26⟩, (j7 F26 M hD_made_of hD_parts_many).mono (by omega), b26⟩
        · cases zS hF (e := rfl); exact ⟨cl_Then, f26, _, ⟨am26_Then, i26, k26⟩, (j7 F26 M hD_made_of hD_parts_many).mono (by omega), b26⟩
      · unfold QX at hF; split at hF <;> first | (cases hF; exact zH h) | cases hF
  have hD_parts_many : HD l.prog w K mg base cls "parts_many" 7 ["self"] (jz 6) := hD_parts_many_all 6
  have h_demand_size : HM l.prog w K mg base cls "demand_size" 8 ["wish"] [] false (zt jQ) := ⟨⟨_, _, (zb8 F27 M h_demand hD_names_in hD_depth hD_parts_many).mono (by omega), b27, k27, PySem.W.mg_of X G a27⟩, fun _ _ h => zH h⟩
  have h_Houses : HK l.prog w K mg base cls "Houses" 14 9 ["self", "many", "each", "houses"] (zt QY) := ⟨⟨C_Houses, _, _, q_Houses, ⟨mk_Houses, a28, i28, kc_Houses⟩, (Wo F28 M h_demand h_is_short_list h_is_short_row h_is_up_to h_demand_size).mono (by omega), b28, PySem.W.mg_of X G aC_Houses⟩, fun _ _ h => zH h⟩
  have h_Then : HK l.prog w K mg base cls "Then" 17 1 ["self", "one", "other"] (zt zab) := ⟨⟨C_Then, _, _, q_Then, ⟨mk_Then, a29, i29, kc_Then⟩, (zaw F29 M).mono (by omega), b29, PySem.W.mg_of X G aC_Then⟩, fun _ _ h => zH h⟩
  have h_l_made_all : ∀ n, HM l.prog w K mg base cls "_law_made" (10 + 1 * n) ["_law_told"] [] false (zt (J9 n)) := by
    intro n
    induction n with
    | zero => exact ⟨⟨_, _, FnOk.no, b30, k30, PySem.W.mg_of X G a30⟩, fun _ _ h => zlO h⟩
    | succ n h_l_made =>
      exact ⟨⟨_, _, (zj1 F30 M h_Count h_Weigh h_Houses h_Then h_l_made).mono (by omega), b30, k30, PySem.W.mg_of X G a30⟩, fun _ _ h => zH h⟩
  have h_l_made : HM l.prog w K mg base cls "_law_made" 16 ["_law_told"] [] false (zt (J9 6)) := h_l_made_all 6
  have h_l_turned : HM l.prog w K mg base cls "_law_turned" 2 ["_law_tape_here", "_law_names_here"] [0] false (zt ji) := ⟨⟨_, _, (zgI F31 M h_l_take).mono (by omega), b31, k31, PySem.W.mg_of X G a31⟩, fun _ _ h => zH h⟩
  have hD_house_enough : HD l.prog w K mg base cls "house_enough" 1 ["self", "house", "row"] jx := by
    refine ⟨Jl (by decide +kernel), fun c C F hc hF => ?_, fun c F ss q hF h => ?_⟩
    · rcases sp _ _ hc with ⟨rfl, rfl⟩ | ⟨rfl, rfl⟩ | ⟨rfl, rfl⟩ | ⟨rfl, rfl⟩
      · exact (UH hF rfl).elim
      · exact (UH hF rfl).elim
      · cases zS hF (e := rfl); exact ⟨cl_Houses, f34, _, ⟨am34_Houses, i34, k34⟩, (Ub F34 M).mono (by omega), b34⟩
      · exact (UH hF rfl).elim
    · unfold jx at hF; split at hF <;> first | (cases hF; exact zH h) | cases hF
  have hD_enough : HD l.prog w K mg base cls "enough" 2 ["self", "row"] Qj := by
    refine ⟨Jl (by decide +kernel), fun c C F hc hF => ?_, fun c F ss q hF h => ?_⟩
    · rcases sp _ _ hc with ⟨rfl, rfl⟩ | ⟨rfl, rfl⟩ | ⟨rfl, rfl⟩ | ⟨rfl, rfl⟩
      · cases zS hF (e := rfl); exact ⟨cl_Count, f32, _, ⟨am32_Count, i32, k32⟩, (za9 F32 M).mono (by omega), b32⟩
      · cases zS hF (e := rfl); exact ⟨cl_Weigh, f33, _, ⟨am33_Weigh, i33, k33⟩, (za_ F33 M).mono (by omega), b33⟩
      · cases zS hF (e := rfl); exact ⟨cl_Houses, f35, _, ⟨am35_Houses, i35, k35⟩, (zaz F35 M hD_house_enough).mono (by omega), b35⟩
      · exact (UH hF rfl).elim
    · unfold Qj at hF; split at hF <;> first | (cases hF; exact zH h) | cases hF
  have h_first_enough : HM l.prog w K mg base cls "first_enough" 3 ["wish", "row"] [] false (zt jo) := ⟨⟨_, _, (zba F36 M hD_enough).mono (by omega), b36, k36, PySem.W.mg_of X G a36⟩, fun _ _ h => zH h⟩
  have hD_first_in_all : ∀ n, HD l.prog w K mg base cls "first_in" (4 + 1 * n) ["self", "row"] (j5 n) := by
    intro n
    induction n with
    | zero => exact ⟨Jl (by decide +kernel), fun c C F hc hF => (nomatch hF), fun c F ss q hF => (nomatch hF)⟩
    | succ n hD_first_in =>
      show HD l.prog w K mg base cls "first_in" (4 + 1 * (n + 1)) ["self", "row"] (Z7 (j5 n))
      refine ⟨Jl (by decide +kernel), fun c C F hc hF => ?_, fun c F ss q hF h => ?_⟩
      · rcases sp _ _ hc with ⟨rfl, rfl⟩ | ⟨rfl, rfl⟩ | ⟨rfl, rfl⟩ | ⟨rfl, rfl⟩
        · cases zS hF (e := rfl); exact ⟨cl_Count, f37, _, ⟨am37_Count, i37, k37⟩, (Rn F37 M h_first_enough).mono (by omega), b37⟩
        · cases zS hF (e := rfl); exact ⟨cl_Weigh, f38, _, ⟨am38_Weigh, i38, k38⟩, (Ro F38 M h_first_enough).mono (by omega), b38⟩
        · cases zS hF (e := rfl); exact ⟨cl_Houses, f39, _, ⟨am39_Houses, i39, k39⟩, (Wr F39 M h_first_enough).mono (by omega), b39⟩
        · cases zS hF (e := rfl); exact ⟨cl_Then, f40, _, ⟨am40_Then, i40, k40⟩, (zaB F40 M hD_first_in).mono (by omega), b40⟩
      · unfold Z7 at hF; split at hF <;> first | (cases hF; exact zH h) | cases hF
  have hD_first_in : HD l.prog w K mg base cls "first_in" 10 ["self", "row"] (j5 6) := hD_first_in_all 6
  have h_first_by : HM l.prog w K mg base cls "first_by" 11 ["wish", "row"] [] false (zt QG) := ⟨⟨_, _, (zgJ F41 M h_is_row hD_first_in).mono (by omega), b41, k41, PySem.W.mg_of X G a41⟩, fun _ _ h => zH h⟩
  have h_holds : HM l.prog w K mg base cls "holds" 12 ["wish", "row"] [] false (zt ZM) := ⟨⟨_, _, (zl2 F42 M h_first_by).mono (by omega), b42, k42, PySem.W.mg_of X G a42⟩, fun _ _ h => zH h⟩
  have h_l_weight : HM l.prog w K mg base cls "_law_weight" 1 ["_law_told", "_law_row"] [] false (zt jj) := ⟨⟨_, _, (zgK F43 M).mono (by omega), b43, k43, PySem.W.mg_of X G a43⟩, fun _ _ h => zH h⟩
  have h_l_right : HM l.prog w K mg base cls "_law_right" 13 ["_law_wish", "_law_told", "_law_row"] [] false (zt yO) := ⟨⟨_, _, (zis F44 M h_holds h_l_weight).mono (by omega), b44, k44, PySem.W.mg_of X G a44⟩, fun _ _ h => zH h⟩
  exact (zow (cls := cls) F45 M h_l_cell_at h_l_tape h_l_names h_l_take h_l_plain h_l_made h_l_turned h_l_right).imp fun vs H Q E h => zgb _root_.M.K05.lawF h
theorem walk {l : PySem.W.OpenLaw} {q : Program} {loose : List Str} {XP : (Str -> Option Value) -> Heap -> Prop} {YP : World -> Heap -> Prop} {d : DefRec} {K : Params -> PySem.W.Frag} (hn : l.most = some 63) (hdf : d.params.defaults = [])
    (hY : ∀ (w : World) (h : Heap), YP w h -> (K w.params).In h)
    (F : ∀ (w : World) (mg : Str -> Option Value) (fa : Addr) (h : Heap), (K w.params).In h -> h.Ns mainGlobals mg -> mg d.name = some (.ref fa) ->
      ∃ fd : FuncData, (∀ (s : Shared) (u : Value), BindsTo s fd ⟨[u], []⟩ [("_law_script", u)]) /\ ∀ base : Heap, (K w.params).In base -> base.Ns mainGlobals mg -> FnOk l.prog w (K w.params) mg base yg 17 fa fd ["_law_script"] (RJ (K w.params))) :
    PySem.W.WalkO q loose XP YP l.row.toRowW d [] (fun f vs => PySem.call f vs) :=
  L2.walk_of (n := 63) (k := 17) (x := "_law_script") (CX := fun _ => yg) (sp := fun w => RJ (K w.params)) hn (by decide) hdf ⟨rfl, by decide, by decide⟩ hY F (fun _ _ a ns hl _ hS => ⟨a, ns, rfl, hS, hl, fun _ => rfl⟩) fun _ _ _ _ _ z => z
end W_k05
open PySem PySem.W PyProof.Rows
def PySem.W.Fast.tw78599040713185852 : Unit := ()
def PySem.W.Fast.tw17556076655191327926 : Unit := ()
def PySem.W.Fast.tw12709269938408456923 : Unit := ()
def PySem.W.Fast.tw11615996602939168424 : Unit := ()
def PySem.W.Fast.tw2854040083593601640 : Unit := ()
def PySem.W.Fast.tw10687758803837699316 : Unit := ()
def PySem.W.Fast.tw7711183548218305181 : Unit := ()
def PySem.W.Fast.tw6755905789690060569 : Unit := ()
def PySem.W.Fast.tw6535450252270838710 : Unit := ()
def PySem.W.Fast.tw11917266318550157533 : Unit := ()
def PySem.W.Fast.tw928425812390918172 : Unit := ()
def PySem.W.Fast.tw17315060199264351187 : Unit := ()
set_option maxRecDepth 100000 in
set_option maxHeartbeats 0 in
theorem PySem.Challenge.cw_enoughsaid_k05_plain_wishes_hold_holds : PySem.Challenge.rw_enoughsaid_k05_plain_wishes_hold.Holds := by
  w_on; o_law; k_head; (case hw => w_witness2)
  k_fill
  refine W_k05.walk (l := PySem.Challenge.rw_enoughsaid_k05_plain_wishes_hold) rfl rfl (fun w h Y => PySem.W.kIn_of Y) ?F
  case F =>
    intro w mg fa h KX G hmg
    refine' W_k05.all_mk KX G hmg ?aC_Count ?pg_Count ?hd_Count ?po_Count ?sa_Count ?mk_Count ?kc_Count ?n_many_Count ?n_names_Count ?n_least_Count ?n_pairs_Count ?n_houses_Count ?n_one_Count ?n_other_Count ?n_each_Count ?aC_Weigh ?pg_Weigh ?hd_Weigh ?po_Weigh ?sa_Weigh ?mk_Weigh ?kc_Weigh ?n_many_Weigh ?n_names_Weigh ?n_least_Weigh ?n_pairs_Weigh ?n_houses_Weigh ?n_one_Weigh ?n_other_Weigh ?n_each_Weigh ?aC_Houses ?pg_Houses ?hd_Houses ?po_Houses ?sa_Houses ?mk_Houses ?kc_Houses ?n_many_Houses ?n_names_Houses ?n_least_Houses ?n_pairs_Houses ?n_houses_Houses ?n_one_Houses ?n_other_Houses ?n_each_Houses ?aC_Then ?pg_Then ?hd_Then ?po_Then ?sa_Then ?mk_Then ?kc_Then ?n_many_Then ?n_names_Then ?n_least_Then ?n_pairs_Then ?n_houses_Then ?n_one_Then ?n_other_Then ?n_each_Then ?a1 ?l1 ?c1 ?k1 ?a2 ?l2 ?c2 ?k2 ?a3 ?l3 ?c3 ?k3 ?a4 ?l4 ?c4 ?k4 ?a5 ?l5 ?c5 ?k5 ?a6 ?l6 ?c6 ?k6 ?a7 ?l7 ?c7 ?k7 ?a8 ?l8 ?c8 ?k8 ?a9 ?l9 ?c9 ?k9 ?a10 ?l10 ?c10 ?k10 ?a11 ?l11 ?c11 ?k11 ?a12 ?l12 ?c12 ?k12 ?a13 ?l13 ?c13 ?k13 ?a14 ?l14 ?c14 ?k14 ?a15 ?i15 ?l15 ?c15 ?k15 ?a16 ?l16 ?c16 ?k16 ?a17 ?i17 ?l17 ?c17 ?k17 ?am18_Count ?i18 ?l18 ?c18 ?k18 ?am19_Weigh ?i19 ?l19 ?c19 ?k19 ?am20_Houses ?i20 ?l20 ?c20 ?k20 ?am21_Then ?i21 ?l21 ?c21 ?k21 ?am22_Count ?am22_Weigh ?am22_Houses ?i22 ?l22 ?c22 ?k22 ?am23_Then ?i23 ?l23 ?c23 ?k23 ?am24_Count ?am24_Weigh ?am24_Houses ?am24_Then ?i24 ?l24 ?c24 ?k24 ?am25_Count ?am25_Weigh ?am25_Houses ?am25_Then ?i25 ?l25 ?c25 ?k25 ?am26_Count ?am26_Weigh ?am26_Houses ?am26_Then ?i26 ?l26 ?c26 ?k26 ?a27 ?l27 ?c27 ?k27 ?a28 ?i28 ?l28 ?c28 ?k28 ?a29 ?i29 ?l29 ?c29 ?k29 ?a30 ?l30 ?c30 ?k30 ?a31 ?l31 ?c31 ?k31 ?am32_Count ?i32 ?l32 ?c32 ?k32 ?am33_Weigh ?i33 ?l33 ?c33 ?k33 ?am34_Houses ?i34 ?l34 ?c34 ?k34 ?am35_Houses ?i35 ?l35 ?c35 ?k35 ?a36 ?l36 ?c36 ?k36 ?am37_Count ?i37 ?l37 ?c37 ?k37 ?am38_Weigh ?i38 ?l38 ?c38 ?k38 ?am39_Houses ?i39 ?l39 ?c39 ?k39 ?am40_Then ?i40 ?l40 ?c40 ?k40 ?a41 ?l41 ?c41 ?k41 ?a42 ?l42 ?c42 ?k42 ?a43 ?l43 ?c43 ?k43 ?a44 ?l44 ?c44 ?k44 ?a45 ?l45 ?c45 ?k45 ?z_len ?z_max ?z_range ?z_list ?z_sum ?z_min ?z_isinstance ?z_str ?z_all ?z_set ?z_int ?z_bool ?z_tuple ?z_sorted ?z_enumerate ?z_LONGEST_NAME ?z_MOST_LISTED ?z_MOST_WEIGHT ?z_MOST_NAMES ?z_MOST_DEEP ?z_MOST_PARTS
    all_goals first | delta M.FN0 | delta M.FI | delta M.NI | delta M.NZ | delta M.LK | delta M.CI | delta M.KI | skip
    (case aC_Count => k_is)
    (case pg_Count => k_is)
    (case hd_Count => k_is)
    (case po_Count => k_is)
    (case sa_Count => k_is)
    (case mk_Count => k_is)
    (case kc_Count => k_is)
    (case n_many_Count => k_is)
    (case n_names_Count => k_is)
    (case n_least_Count => k_is)
    (case n_pairs_Count => k_is)
    (case n_houses_Count => k_is)
    (case n_one_Count => k_is)
    (case n_other_Count => k_is)
    (case n_each_Count => k_is)
    (case aC_Weigh => k_is)
    (case pg_Weigh => k_is)
    (case hd_Weigh => k_is)
    (case po_Weigh => k_is)
    (case sa_Weigh => k_is)
    (case mk_Weigh => k_is)
    (case kc_Weigh => k_is)
    (case n_many_Weigh => k_is)
    (case n_names_Weigh => k_is)
    (case n_least_Weigh => k_is)
    (case n_pairs_Weigh => k_is)
    (case n_houses_Weigh => k_is)
    (case n_one_Weigh => k_is)
    (case n_other_Weigh => k_is)
    (case n_each_Weigh => k_is)
    (case aC_Houses => k_is)
    (case pg_Houses => k_is)
    (case hd_Houses => k_is)
    (case po_Houses => k_is)
    (case sa_Houses => k_is)
    (case mk_Houses => k_is)
    (case kc_Houses => k_is)
    (case n_many_Houses => k_is)
    (case n_names_Houses => k_is)
    (case n_least_Houses => k_is)
    (case n_pairs_Houses => k_is)
    (case n_houses_Houses => k_is)
    (case n_one_Houses => k_is)
    (case n_other_Houses => k_is)
    (case n_each_Houses => k_is)
    (case aC_Then => k_is)
    (case pg_Then => k_is)
    (case hd_Then => k_is)
    (case po_Then => k_is)
    (case sa_Then => k_is)
    (case mk_Then => k_is)
    (case kc_Then => k_is)
    (case n_many_Then => k_is)
    (case n_names_Then => k_is)
    (case n_least_Then => k_is)
    (case n_pairs_Then => k_is)
    (case n_houses_Then => k_is)
    (case n_one_Then => k_is)
    (case n_other_Then => k_is)
    (case n_each_Then => k_is)
    (case a1 => k_is)
    (case l1 => k_is)
    (case c1 => k_is)
    (case k1 => k_is)
    (case a2 => k_is)
    (case l2 => k_is)
    (case c2 => k_is)
    (case k2 => k_is)
    (case a3 => k_is)
    (case l3 => k_is)
    (case c3 => k_is)
    (case k3 => k_is)
    (case a4 => k_is)
    (case l4 => k_is)
    (case c4 => k_is)
    (case k4 => k_is)
    (case a5 => k_is)
    (case l5 => k_is)
    (case c5 => k_is)
    (case k5 => k_is)
    (case a6 => k_is)
    (case l6 => k_is)
    (case c6 => k_is)
    (case k6 => k_is)
    (case a7 => k_is)
    (case l7 => k_is)
    (case c7 => k_is)
    (case k7 => k_is)
    (case a8 => k_is)
    (case l8 => k_is)
    (case c8 => k_is)
    (case k8 => k_is)
    (case a9 => k_is)
    (case l9 => k_is)
    (case c9 => k_is)
    (case k9 => k_is)
    (case a10 => k_is)
    (case l10 => k_is)
    (case c10 => k_is)
    (case k10 => k_is)
    (case a11 => k_is)
    (case l11 => k_is)
    (case c11 => k_is)
    (case k11 => k_is)
    (case a12 => k_is)
    (case l12 => k_is)
    (case c12 => k_is)
    (case k12 => k_is)
    (case a13 => k_is)
    (case l13 => k_is)
    (case c13 => k_is)
    (case k13 => k_is)
    (case a14 => k_is)
    (case l14 => k_is)
    (case c14 => k_is)
    (case k14 => k_is)
    (case a15 => k_is)
    (case i15 => k_is)
    (case l15 => k_is)
    (case c15 => k_is)
    (case k15 => k_is)
    (case a16 => k_is)
    (case l16 => k_is)
    (case c16 => k_is)
    (case k16 => k_is)
    (case a17 => k_is)
    (case i17 => k_is)
    (case l17 => k_is)
    (case c17 => k_is)
    (case k17 => k_is)
    (case am18_Count => k_is)
    (case i18 => k_is)
    (case l18 => k_is)
    (case c18 => k_is)
    (case k18 => k_is)
    (case am19_Weigh => k_is)
    (case i19 => k_is)
    (case l19 => k_is)
    (case c19 => k_is)
    (case k19 => k_is)
    (case am20_Houses => k_is)
    (case i20 => k_is)
    (case l20 => k_is)
    (case c20 => k_is)
    (case k20 => k_is)
    (case am21_Then => k_is)
    (case i21 => k_is)
    (case l21 => k_is)
    (case c21 => k_is)
    (case k21 => k_is)
    (case am22_Count => k_is)
    (case am22_Weigh => k_is)
    (case am22_Houses => k_is)
    (case i22 => k_is)
    (case l22 => k_is)
    (case c22 => k_is)
    (case k22 => k_is)
    (case am23_Then => k_is)
    (case i23 => k_is)
    (case l23 => k_is)
    (case c23 => k_is)
    (case k23 => k_is)
    (case am24_Count => k_is)
    (case am24_Weigh => k_is)
    (case am24_Houses => k_is)
    (case am24_Then => k_is)
    (case i24 => k_is)
    (case l24 => k_is)
    (case c24 => k_is)
    (case k24 => k_is)
    (case am25_Count => k_is)
    (case am25_Weigh => k_is)
    (case am25_Houses => k_is)
    (case am25_Then => k_is)
    (case i25 => k_is)
    (case l25 => k_is)
    (case c25 => k_is)
    (case k25 => k_is)
    (case am26_Count => k_is)
    (case am26_Weigh => k_is)
    (case am26_Houses => k_is)
    (case am26_Then => k_is)
    (case i26 => k_is)
    (case l26 => k_is)
    (case c26 => k_is)
    (case k26 => k_is)
    (case a27 => k_is)
    (case l27 => k_is)
    (case c27 => k_is)
    (case k27 => k_is)
    (case a28 => k_is)
    (case i28 => k_is)
    (case l28 => k_is)
    (case c28 => k_is)
    (case k28 => k_is)
    (case a29 => k_is)
    (case i29 => k_is)
    (case l29 => k_is)
    (case c29 => k_is)
    (case k29 => k_is)
    (case a30 => k_is)
    (case l30 => k_is)
    (case c30 => k_is)
    (case k30 => k_is)
    (case a31 => k_is)
    (case l31 => k_is)
    (case c31 => k_is)
    (case k31 => k_is)
    (case am32_Count => k_is)
    (case i32 => k_is)
    (case l32 => k_is)
    (case c32 => k_is)
    (case k32 => k_is)
    (case am33_Weigh => k_is)
    (case i33 => k_is)
    (case l33 => k_is)
    (case c33 => k_is)
    (case k33 => k_is)
    (case am34_Houses => k_is)
    (case i34 => k_is)
    (case l34 => k_is)
    (case c34 => k_is)
    (case k34 => k_is)
    (case am35_Houses => k_is)
    (case i35 => k_is)
    (case l35 => k_is)
    (case c35 => k_is)
    (case k35 => k_is)
    (case a36 => k_is)
    (case l36 => k_is)
    (case c36 => k_is)
    (case k36 => k_is)
    (case am37_Count => k_is)
    (case i37 => k_is)
    (case l37 => k_is)
    (case c37 => k_is)
    (case k37 => k_is)
    (case am38_Weigh => k_is)
    (case i38 => k_is)
    (case l38 => k_is)
    (case c38 => k_is)
    (case k38 => k_is)
    (case am39_Houses => k_is)
    (case i39 => k_is)
    (case l39 => k_is)
    (case c39 => k_is)
    (case k39 => k_is)
    (case am40_Then => k_is)
    (case i40 => k_is)
    (case l40 => k_is)
    (case c40 => k_is)
    (case k40 => k_is)
    (case a41 => k_is)
    (case l41 => k_is)
    (case c41 => k_is)
    (case k41 => k_is)
    (case a42 => k_is)
    (case l42 => k_is)
    (case c42 => k_is)
    (case k42 => k_is)
    (case a43 => k_is)
    (case l43 => k_is)
    (case c43 => k_is)
    (case k43 => k_is)
    (case a44 => k_is)
    (case l44 => k_is)
    (case c44 => k_is)
    (case k44 => k_is)
    (case a45 => k_is)
    (case l45 => k_is)
    (case c45 => k_is)
    (case k45 => k_is)
    (case z_len => k_is)
    (case z_max => k_is)
    (case z_range => k_is)
    (case z_list => k_is)
    (case z_sum => k_is)
    (case z_min => k_is)
    (case z_isinstance => k_is)
    (case z_str => k_is)
    (case z_all => k_is)
    (case z_set => k_is)
    (case z_int => k_is)
    (case z_bool => k_is)
    (case z_tuple => k_is)
    (case z_sorted => k_is)
    (case z_enumerate => k_is)
    (case z_LONGEST_NAME => k_is)
    (case z_MOST_LISTED => k_is)
    (case z_MOST_WEIGHT => k_is)
    (case z_MOST_NAMES => k_is)
    (case z_MOST_DEEP => k_is)
    (case z_MOST_PARTS => k_is)
