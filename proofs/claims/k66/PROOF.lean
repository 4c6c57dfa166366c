import PyProof.Rows.All
import Wide.All
import OpenK.AllK
import Wide.FinOn
import Lean
import PyProof.EqAt
import PyProof.EqKinds
import PyProof.TupleCall
import PyProof.AttrMissHeap
import KE.KDictOf
import PySem.Challenge.RW_enoughsaid_k66_books_written
set_option Elab.async false
set_option linter.all false
set_option maxRecDepth 100000
set_option maxHeartbeats 4000000
set_option synthInstance.maxHeartbeats 0
set_option synthInstance.maxSize 1000000
namespace L2
open PySem PySem.Spec PyProof.Rows
abbrev yP := Sum Int Str
def zdH : yP -> Value -> Bool
  | .inl k, v => Value.isInt k v
  | .inr x, v => Value.isStrOf x v
def ziU (w : World) : yP -> Int
  | .inl k => hashInt k
  | .inr x => hashStr w x
theorem yo : ∀ {k : yP} {v : Value}, zdH k v = true -> (∃ i t, k = Sum.inl i /\ v = Value.int i t) \/ (∃ x t, k = Sum.inr x /\ v = Value.str x t)
  | .inl i, v, h => by
    obtain ⟨t, e⟩ := Value.isInt_shape (k := i) (v := v) h
    exact .inl ⟨i, t, rfl, e⟩
  | .inr x, v, h => by
    obtain ⟨t, e⟩ := Value.isStrOf_shape (x := x) (v := v) h
    exact .inr ⟨x, t, rfl, e⟩
theorem zfH (a b : Int) : decide ((Sum.inl a : yP) = Sum.inl b) = (a == b) := by
  by_cases e : a = b
  · subst e; simp
  · have h : ¬ (Sum.inl a : yP) = Sum.inl b := fun q => e (Sum.inl.inj q)
    rw [decide_eq_false h]
    exact (beq_eq_false_iff_ne.mpr e).symm
theorem zfI (a b : Str) : decide ((Sum.inr a : yP) = Sum.inr b) = decide (a = b) := by
  by_cases e : a = b
  · subst e; simp
  · have h : ¬ (Sum.inr a : yP) = Sum.inr b := fun q => e (Sum.inr.inj q)
    rw [decide_eq_false h, decide_eq_false e]
theorem zfJ (a : Int) (b : Str) : decide ((Sum.inl a : yP) = Sum.inr b) = false := decide_eq_false (fun q => nomatch q)
theorem zfK (a : Str) (b : Int) : decide ((Sum.inr a : yP) = Sum.inl b) = false := decide_eq_false (fun q => nomatch q)
def Uo (prog : Program) (w : World) : PySem.KeyKind prog w yP where
  is := zdH
  hash := ziU w
  inj := fun v a b ha hb => by
    rcases yo ha with ⟨i, t, rfl, rfl⟩ | ⟨x, t, rfl, rfl⟩
    · rcases yo hb with ⟨j, u, rfl, e⟩ | ⟨y, u, rfl, e⟩
      · injection e with e1 _; rw [e1]
      · exact nomatch e
    · rcases yo hb with ⟨j, u, rfl, e⟩ | ⟨y, u, rfl, e⟩
      · exact nomatch e
      · injection e with e1 _; rw [e1]
  byValue := fun k v h => by
    rcases yo h with ⟨i, t, rfl, rfl⟩ | ⟨x, t, rfl, rfl⟩ <;> rfl
  pyHash := fun hv h => by
    rcases yo hv with ⟨i, t, rfl, rfl⟩ | ⟨x, t, rfl, rfl⟩
    · exact wpAny_pyHash_int h
    · exact wpAny_pyHash_str h
  eqBool := fun hu hv h => by
    rcases yo hu with ⟨i, t, rfl, rfl⟩ | ⟨x, t, rfl, rfl⟩
    · rcases yo hv with ⟨j, u, rfl, rfl⟩ | ⟨y, u, rfl, rfl⟩
      · rw [zfH] at h; exact wpAny_eqBool_int h
      · rw [zfJ] at h; exact SeqAt.EqAt.int_str i t y u _ _ _ _ h
    · rcases yo hv with ⟨j, u, rfl, rfl⟩ | ⟨y, u, rfl, rfl⟩
      · rw [zfK] at h; exact SeqAt.EqAt.str_int x t j u _ _ _ _ h
      · rw [zfI] at h; exact wpAny_eqBool_str h
  «strs» := fun k x t v h => by
    rcases yo h with ⟨i, u, rfl, e⟩ | ⟨y, u, rfl, e⟩
    · exact nomatch e
    · injection e with e1 _
      subst e1
      cases v <;> rfl
end L2
namespace L2
open PySem PySem.Spec PyProof.Rows
inductive V where
  | non | bl (b : Bool) | int (i : Int) | str (x : Str) | byt (b : Array UInt8) | flt (b : UInt64) | ref (a : Addr) | ty (n : String)
  deriving DecidableEq
def RelV : V -> Value -> Prop
  | .non, u => u = Value.none
  | .bl b, u => u = Value.bool b
  | .int i, u => ∃ t, u = Value.int i t
  | .str x, u => ∃ t, u = Value.str x t
  | .byt b, u => ∃ t, u = Value.bytes b t
  | .flt b, u => ∃ t, u = Value.float b t
  | .ref a, u => u = Value.ref a
  | .ty n, u => u = Value.type n
abbrev Vals : List V -> List Value -> Prop := Paired RelV
theorem Vals.length {xs : List V} {us : List Value} (r : Vals xs us) : xs.length = us.length := Paired.length r
theorem Vals.get : ∀ {xs : List V} {us : List Value} {i : Nat} {x : V}, Vals xs us -> xs[i]? = some x -> ∃ u, us[i]? = some u /\ RelV x u
  | _, _, _, _, .nil, e => by simp at e
  | _, _, 0, _, .cons r _, e => by simp at e; subst e; exact ⟨_, rfl, r⟩
  | _, _, i + 1, x, .cons _ t, e => by
    obtain ⟨u, h1, h2⟩ := Vals.get (i := i) (x := x) t (by simpa using e)
    exact ⟨u, by simpa using h1, h2⟩
theorem Vals.set {x : V} {u : Value} (r : RelV x u) : ∀ {xs : List V} {us : List Value} (i : Nat), Vals xs us -> Vals (xs.set i x) (us.set i u)
  | _, _, _, .nil => .nil
  | _, _, 0, .cons _ t => .cons r t
  | _, _, i + 1, .cons q t => .cons q (Vals.set r i t)
theorem Vals.append : ∀ {xs ys : List V} {us ws : List Value}, Vals xs us -> Vals ys ws -> Vals (xs ++ ys) (us ++ ws)
  | _, _, _, _, .nil, s => s
  | _, _, _, _, .cons r t, s => .cons r (Vals.append t s)
theorem Vals.take : ∀ {xs : List V} {us : List Value} (n : Nat), Vals xs us -> Vals (xs.take n) (us.take n)
  | _, _, 0, _ => .nil
  | _, _, _ + 1, .nil => .nil
  | _, _, n + 1, .cons r t => .cons r (Vals.take n t)
theorem Vals.drop : ∀ {xs : List V} {us : List Value} (n : Nat), Vals xs us -> Vals (xs.drop n) (us.drop n)
  | _, _, 0, r => r
  | _, _, _ + 1, .nil => .nil
  | _, _, n + 1, .cons _ t => Vals.drop n t
def zcz : Option V -> Option Value -> Prop
  | some v, some u => RelV v u
  | none, none => True
  | _, _ => False
def KV {κ : Type} : List (κ × V) -> List (κ × Value) -> Prop := Paired fun (p : κ × V) (q : κ × Value) => p.1 = q.1 /\ RelV p.2 q.2
def kV : yP -> V
  | .inl i => .int i
  | .inr x => .str x
inductive HO where
  | lst (xs : List V)
  | tup (xs : List V)
  | dK (kvs : List (yP × V)) | dT (kvs : List (List yP × V))
  | set (S : Int -> Bool) (n : Nat)
  | ins (C dx : Addr) (fs : List (Str × V))
  | own (x : Addr)
  | xd (fs : List (Str × V))
  | met (f x : Addr)
  | rng (lo hi : Int)
  | frz (o : Obj) (u : HO)
  | tbl (ps : Array Value)
  | ext (φ : Heap -> Prop)
abbrev Hp := Addr -> Option HO
def zG (H : Hp) (a : Addr) (o : HO) : Hp := fun b => if b = a then some o else H b
theorem yI {H : Hp} {a : Addr} {o : HO} : zG H a o a = some o := by unfold zG; rw [if_pos rfl]
theorem zx {H : Hp} {a b : Addr} {o : HO} (h : b ≠ a) : zG H a o b = H b := by unfold zG; rw [if_neg h]
theorem zF {H : Hp} {a b : Addr} {o : HO} (h : H a = some o) (h' : H b = none) : a ≠ b := by
  intro e; subst e; rw [h] at h'; cases h'
section
variable (P : Program) (w : World)
def ObjOk (H : Hp) (h : Heap) (a : Addr) : HO -> Prop
  | .lst xs => xs.length <= sizeLine /\ ∃ (its : List Value) (n : Nat), Vals xs its /\ h.get? a = some { cls := .type "list", data := .seq its.toArray n }
  | .tup xs => xs.length <= sizeLine /\ ∃ its : List Value, Vals xs its /\ IsTup h a its.toArray
  | .dK kvs => kvs.length <= sizeLine /\ (a == sysModules) = false /\ ∃ vs, KV kvs vs /\ h.DictOf (Uo P w) a vs
  | .dT kvs => kvs.length <= sizeLine /\ (a == sysModules) = false /\ ∃ xs : List (List yP × Addr × Value),
      Paired (fun (p : List yP × V) (q : List yP × Addr × Value) => p.1 = q.1 /\ H q.2.1 = some (.tup (p.1.map kV)) /\ RelV p.2 q.2.2) kvs xs /\
      ∃ o es ep, h.get? a = some o /\ o.ExactDict /\ o.data = .dict es ep /\ es.toList = xs.map (entryOfKey (tupleKind (Uo P w))) /\ (xs.map (·.1)).Nodup
  | .set S n => h.SetOf (intKind P w) a S n
  | .ins C dx fs => H dx = some (.own a) /\ fs.length <= 1000 /\ dx ≠ a /\ h.get? a = some (PySem.W.instObj C dx) /\
      ∃ mA, h.Ns1 dx mA /\ (∀ f, zcz (fs.lookup f) (mA f)) /\ PySem.Within mA (fs.map (·.1))
  | .own _ => ∃ o, h.get? a = some o
  | .xd fs => ∃ mA, h.Ns1 a mA /\ ∀ f, zcz (fs.lookup f) (mA f)
  | .rng lo hi => ∃ t u v, h.get? a = some { cls := .type "range", data := .fields #[.int lo t, .int hi u, .int 1 v] }
  | .frz o u => h.get? a = some o /\ ObjOk H h a u
  | .tbl ps => h.get? a = some { cls := .none, data := .fields ps }
  | .met f x => h.get? a = some (PySem.W.methodObj (.ref f) (.ref x))
  | .ext φ => φ h /\ (∃ o, h.get? a = some o) /\ ∀ h1 h2 : Heap, φ h1 -> (∀ o, h1.get? a = some o -> h2.get? a = some o) -> φ h2
def HOk (H : Hp) (h : Heap) : Prop := ∀ a o, H a = some o -> ObjOk P w H h a o
end
section
variable {P : Program} {w : World} {H H' : Hp} {h h' : Heap} {a : Addr} {o : HO}
theorem ObjOk.lt (x : ObjOk P w H h a o) : a < h.objs.size := by
  cases o with
  | lst xs => obtain ⟨_, _, _, _, e⟩ := x; exact Heap.lt_size e
  | tup xs => obtain ⟨_, _, _, p⟩ := x; exact p.lt
  | dK kvs => obtain ⟨_, _, _, _, o, _, _, e, _⟩ := x; exact Heap.lt_size e
  | dT kvs => obtain ⟨_, _, _, _, o, _, _, e, _⟩ := x; exact Heap.lt_size e
  | set S n => obtain ⟨o, _, _, _, e, _⟩ := x; exact Heap.lt_size e
  | ins C dx fs => obtain ⟨_, _, _, e, _⟩ := x; exact Heap.lt_size e
  | own y => obtain ⟨_, e⟩ := x; exact Heap.lt_size e
  | xd fs => obtain ⟨_, ⟨_, _, _, e, _⟩, _⟩ := x; exact Heap.lt_size e
  | rng lo hi => obtain ⟨_, _, _, e⟩ := x; exact Heap.lt_size e
  | frz ob u => obtain ⟨e, _⟩ := x; exact Heap.lt_size e
  | tbl ps => exact Heap.lt_size (show h.get? a = some _ from x)
  | met f y => exact Heap.lt_size (show h.get? a = some _ from x)
  | ext φ => obtain ⟨_, ⟨_, e⟩, _⟩ := x; exact Heap.lt_size e
theorem Paired.mapP {α β : Type} {F G : α -> β -> Prop} : ∀ {l₁ : List α} {l₂ : List β}, Paired F l₁ l₂ -> (∀ a b, F a b -> G a b) -> Paired G l₁ l₂
  | _, _, .nil, _ => .nil
  | _, _, .cons r t, f => .cons (f _ _ r) (Paired.mapP t f)
theorem ObjOk.stay (x : ObjOk P w H h a o) (k : ∀ b u, (b = a \/ H b = some (.own a)) -> h.get? b = some u -> h'.get? b = some u)
    (ho : ∀ b, H b = some (.own a) -> H' b = some (.own a)) (ht : ∀ b xs, H b = some (.tup xs) -> H' b = some (.tup xs)) : ObjOk P w H' h' a o := by
  induction o with
  | lst xs => obtain ⟨z, its, n, r, e⟩ := x; exact ⟨z, its, n, r, k _ _ (.inl rfl) e⟩
  | tup xs => obtain ⟨z, its, r, ob, e, c⟩ := x; exact ⟨z, its, r, ob, k _ _ (.inl rfl) e, c⟩
  | dK kvs => obtain ⟨z, y, vs, r, ob, es, ep, e, c⟩ := x; exact ⟨z, y, vs, r, ob, es, ep, k _ _ (.inl rfl) e, c⟩
  | dT kvs =>
    obtain ⟨z, y, xs, r, ob, es, ep, e, c⟩ := x
    exact ⟨z, y, xs, Paired.mapP r fun p q z => ⟨z.1, ht _ _ z.2.1, z.2.2⟩, ob, es, ep, k _ _ (.inl rfl) e, c⟩
  | set S n => obtain ⟨ob, es, ep, t, e, c⟩ := x; exact ⟨ob, es, ep, t, k _ _ (.inl rfl) e, c⟩
  | ins C dx fs =>
    obtain ⟨d, z, ne, e, mA, ⟨od, es, ep, e2, c⟩, r⟩ := x
    exact ⟨ho _ d, z, ne, k _ _ (.inl rfl) e, mA, ⟨od, es, ep, k _ _ (.inr d) e2, c⟩, r⟩
  | own y => obtain ⟨ob, e⟩ := x; exact ⟨ob, k _ _ (.inl rfl) e⟩
  | xd fs => obtain ⟨mA, ⟨od, es, ep, e, c⟩, r⟩ := x; exact ⟨mA, ⟨od, es, ep, k _ _ (.inl rfl) e, c⟩, r⟩
  | rng lo hi => obtain ⟨t, u, v, e⟩ := x; exact ⟨t, u, v, k _ _ (.inl rfl) e⟩
  | frz ob u ih => obtain ⟨e, q⟩ := x; exact ⟨k _ _ (.inl rfl) e, ih q⟩
  | tbl ps =>
    have e : h.get? a = some { cls := .none, data := .fields ps } := x
    show h'.get? a = some { cls := .none, data := .fields ps }
    exact k a _ (.inl rfl) e
  | met f y =>
    have e : h.get? a = some (PySem.W.methodObj (.ref f) (.ref y)) := x
    show h'.get? a = some (PySem.W.methodObj (.ref f) (.ref y))
    exact k a _ (.inl rfl) e
  | ext φ => obtain ⟨p, ⟨o, e⟩, st⟩ := x; exact ⟨st _ _ p fun o q => k _ _ (.inl rfl) q, ⟨o, k _ _ (.inl rfl) e⟩, st⟩
theorem HOk.lt (x : HOk P w H h) (e : H a = some o) : a < h.objs.size := (x a o e).lt
theorem HOk.fresh (x : HOk P w H h) (e : h.objs.size <= a) : H a = none := by
  cases q : H a with
  | none => rfl
  | some u => exact absurd (Nat.lt_of_lt_of_le (x.lt q) e) (Nat.lt_irrefl _)
theorem HOk.kept (x : HOk P w H h) (k : ∀ b u, h.get? b = some u -> h'.get? b = some u) : HOk P w H h' := fun a o e =>
  (x a o e).stay (fun b u _ q => k b u q) (fun _ q => q) fun _ _ q => q
theorem HOk.laid (x : HOk P w H h) (k : ∀ b u, h.get? b = some u -> h'.get? b = some u) (hp : h.objs.size <= a) (new : ObjOk P w (zG H a o) h' a o) : HOk P w (zG H a o) h' := fun b u e => by
  have hn := x.fresh hp
  by_cases hb : b = a
  · subst hb; rw [yI] at e; cases e; exact new
  · rw [zx hb] at e
    exact (x b u e).stay (fun c v _ q => k c v q) (fun c q => by rw [zx (zF q hn)]; exact q) fun c xs q => by rw [zx (zF q hn)]; exact q
end
def Rd (H : Hp) (a : Addr) (u : HO) : Prop := H a = some u \/ ∃ o, H a = some (.frz o u)
theorem Rd.ok {P : Program} {w : World} {H : Hp} {h : Heap} {a : Addr} {u : HO} (r : Rd H a u) (x : HOk P w H h) : ObjOk P w H h a u := by
  rcases r with r | ⟨o, r⟩
  · exact x a u r
  · obtain ⟨_, q⟩ := x a _ r
    exact q
def Mut : Option HO -> Prop
  | some (.lst _) => True
  | some (.dK _) => True
  | some (.dT _) => True
  | some (.set _ _) => True
  | some (.ins _ _ _) => True
  | some (.ext _) => True
  | _ => False
section
variable {P : Program} {w : World} {H : Hp} {h h' : Heap} {x e : Addr} {o' : HO}
theorem HOk.write (ok : HOk P w H h) (mu : Mut (H x)) (he : e = x \/ H e = some (.own x)) (k : ∀ b u, b ≠ e -> h.get? b = some u -> h'.get? b = some u) (heo : ∃ u, h'.get? e = some u)
    (new : ObjOk P w (zG H x o') h' x o') : HOk P w (zG H x o') h' := fun b u q => by
  have nown : ∀ c y, H c = some (.own y) -> c ≠ x := fun c y r z => by subst z; rw [r] at mu; exact mu
  have ntup : ∀ c xs, H c = some (.tup xs) -> c ≠ x := fun c xs r z => by subst z; rw [r] at mu; exact mu
  by_cases hb : b = x
  · subst hb; rw [yI] at q; cases q; exact new
  · rw [zx hb] at q
    by_cases hbe : b = e
    · have q' : H b = some (.own x) := by
        rcases he with z | z
        · exact absurd (hbe.trans z) hb
        · rw [hbe]; exact z
      rw [q] at q'; cases q'
      obtain ⟨v, hv⟩ := heo
      exact ⟨v, by rw [hbe]; exact hv⟩
    · refine (ok b u q).stay (fun c v hc r => k c v ?_ r) (fun c r => by rw [zx (nown c b r)]; exact r) fun c xs r => by rw [zx (ntup c xs r)]; exact r
      rcases hc with rfl | hc
      · exact hbe
      · rintro rfl
        rcases he with z | z
        · exact nown c b hc z
        · rw [hc] at z; cases z; exact hb rfl
end
structure Un (fs ex : List Addr) (H H' : Hp) (h h' : Heap) : Prop where
  keep : ∀ b o, h.get? b = some o -> H b = none -> b ∉ fs -> b ∉ ex -> h'.get? b = some o
  slot : ∀ b o, h.get? b = some o -> H b = none -> b ∈ fs -> b ∉ ex -> ∃ sl, h'.get? b = some { o with slots := sl }
  free : ∀ b o, h.get? b = some o -> H b = none -> b ∉ ex -> H' b = none
  there : ∀ b o, h.get? b = some o -> b ∉ ex -> ∃ o', h'.get? b = some o'
  tups : ∀ b xs, H b = some (.tup xs) -> H' b = some (.tup xs)
  frzs : ∀ b o u, H b = some (.frz o u) -> H' b = some (.frz o u)
  tbls : ∀ b ps, H b = some (.tbl ps) -> ∃ more, H' b = some (.tbl (ps ++ more))
section
variable {fs fs' ex ex' : List Addr} {H H1 H2 : Hp} {h h1 h2 h' : Heap} {a x e : Addr} {o : HO}
theorem Un.any (u : Un fs ex H H1 h h1) {b : Addr} {ob : Obj} (q : h.get? b = some ob) (n : H b = none) (hx : b ∉ ex) : ∃ sl, h1.get? b = some { ob with slots := sl } := by
  by_cases hb : b ∈ fs
  · exact u.slot b ob q n hb hx
  · exact ⟨ob.slots, u.keep b ob q n hb hx⟩
theorem Un.kept (k : ∀ b u, h.get? b = some u -> h'.get? b = some u) : Un fs ex H H h h' :=
  ⟨fun b ob q _ _ _ => k b ob q, fun b ob q _ _ _ => ⟨ob.slots, k b ob q⟩, fun _ _ _ n _ => n, fun b ob q _ => ⟨ob, k b ob q⟩, fun _ _ q => q, fun _ _ _ q => q, fun _ ps q => ⟨#[], by rw [q]; simp⟩⟩
theorem Un.refl : Un fs ex H H h h := Un.kept fun _ _ q => q
theorem Un.laid (k : ∀ b u, h.get? b = some u -> h'.get? b = some u) (hp : h.objs.size <= a) (hn : H a = none) : Un fs ex H (zG H a o) h h' where
  keep := fun b u q _ _ _ => k b u q
  slot := fun b u q _ _ _ => ⟨u.slots, k b u q⟩
  free := fun b u q n _ => by rw [zx (Nat.ne_of_lt (Nat.lt_of_lt_of_le (Heap.lt_size q) hp))]; exact n
  there := fun b u q _ => ⟨u, k b u q⟩
  tups := fun b xs q => by rw [zx (zF q hn)]; exact q
  frzs := fun b u xs q => by rw [zx (zF q hn)]; exact q
  tbls := fun b ps q => ⟨#[], by rw [zx (zF q hn), q]; simp⟩
theorem Un.write (mu : Mut (H x)) (he : e = x \/ H e = some (.own x)) (k : ∀ b u, b ≠ e -> h.get? b = some u -> h'.get? b = some u) (heo : ∃ u, h'.get? e = some u) : Un fs ex H (zG H x o) h h' := by
  have hx : ∀ b, H b = none -> b ≠ x := fun b n z => by subst z; rw [n] at mu; exact mu
  have hb : ∀ b, H b = none -> b ≠ e := fun b n z => by
    subst z
    rcases he with r | r
    · exact hx b n r
    · rw [n] at r; cases r
  have hm : ∀ b u, H b = some u -> ¬ Mut (some u) -> b ≠ x := fun b u q nm z => by subst z; rw [q] at mu; exact nm mu
  refine ⟨fun b u q n _ _ => k b u (hb b n) q, fun b u q n _ _ => ⟨u.slots, k b u (hb b n) q⟩, fun b u q n _ => by rw [zx (hx b n)]; exact n, fun b u q _ => ?_,
    fun b xs q => by rw [zx (hm b _ q fun z => z)]; exact q, fun b u xs q => by rw [zx (hm b _ q fun z => z)]; exact q, fun b ps q => ⟨#[], by rw [zx (hm b _ q fun z => z), q]; simp⟩⟩
  by_cases hbe : b = e
  · subst hbe; exact heo
  · exact ⟨u, k b u hbe q⟩
end
def trk (h : Heap) (H : Hp) : List Addr := (List.range h.objs.size).filter fun a => (H a).isSome
def QP (h : Heap) (H : Hp) : Heap := PySem.W.hideAll h (trk h H)
theorem zbo (h : Heap) (H : Hp) : (QP h H).objs.size = h.objs.size := PySem.W.hideAll_size _ _
theorem zcA {h : Heap} {H : Hp} {b : Addr} {o : Obj} (e : h.get? b = some o) (n : H b = none) : (QP h H).get? b = some o :=
  PySem.W.hideAll_get _ e fun hm => by
    have q : (H b).isSome = true := (List.mem_filter.mp hm).2
    rw [n] at q; simp at q
theorem zer {h : Heap} {H : Hp} {b : Addr} {o : Obj} (e : (QP h H).get? b = some o) : h.get? b = some o /\ H b = none := by
  have e' : h.get? b = some o := PySem.W.of_hideAll (trk h H) e
  refine ⟨e', ?_⟩
  cases q : H b with
  | none => rfl
  | some x =>
    have hm : b ∈ trk h H := List.mem_filter.mpr ⟨List.mem_range.mpr (Heap.lt_size e'), by simp [q]⟩
    have z : (QP h H).get? b = none := PySem.W.hideAll_none (trk h H) hm
    rw [z] at e; cases e
def zes (g h : Heap) (L : Addr) : List (Addr × Obj) := (List.range h.objs.size).filterMap fun a => if a = L \/ (g.get? a).isSome = true then none else (h.get? a).map fun o => (a, o)
def rest (g h : Heap) (L d : Addr) : List (Addr × Obj) := (zes g h L).filter fun p => decide (p.1 ≠ d)
end L2
namespace L2
open PySem PySem.Spec PyProof.Rows
structure Mod (K : PySem.W.Frag) (mg : Str -> Option Value) (base : Heap) : Prop where
  kin : K.In base
  glob : base.Ns mainGlobals mg
  blt : ∃ mb, base.Ns builtinsNs mb /\ ∀ x : Str, x ≠ "__name__" -> mb x = bootBuiltins x
  nolimit : base.NoLimit
structure Cx where
  prog : Program
  w : World
  K : PySem.W.Frag
  mg : Str -> Option Value
  base : Heap
  A : Around
  N : List Str
  s₀ : Shared
  H₀ : Hp
  env : Env
  outer : List Env
  stack : List Env
  ex : List Addr
  fn : Str -> Bool
  calm : Bool
  pn : List (Addr × Obj)
  xe : Value -> Shared -> Prop
def Zm (l : List Env) : List Addr := l.filterMap (·.frame)
abbrev Cx.fs (X : Cx) : List Addr := Zm X.outer
def Zn (sc : Scope) (x : Str) : Prop := sc.names.lookup x = some .local \/ sc.names.lookup x = some .cell \/ sc.names.lookup x = some .free
def VU (sc : Scope) (x : Str) : Prop := sc.names.lookup x = some .local \/ sc.names.lookup x = some .cell
def ziV (env : Env) (h : Heap) (m : Str -> Option Value) (x : Str) (u : Value) : Prop :=
  (env.kindOf x = some .local /\ m x = some u) \/ ((env.kindOf x = some .cell \/ env.kindOf x = some .free) /\ ∃ c, env.cells.lookup x = some c /\ h.IsCell c (some u))
structure Cx.Ok (X : Cx) : Prop where
  mod : Mod X.K X.mg X.base
  kind : X.env.scope.kind = .function
  glob : X.env.globals = mainGlobals
  blt : X.env.builtins = builtinsNs
  above : X.s₀.heap.objs.size <= X.env.locals
  inj : ∀ x y c, X.env.cells.lookup x = some c -> X.env.cells.lookup y = some c -> x = y
  has : ∀ x, (X.env.kindOf x = some .cell \/ X.env.kindOf x = some .free) -> ∃ c, X.env.cells.lookup x = some c
  cab : ∀ x c, X.fn x = true -> X.env.cells.lookup x = some c -> X.s₀.heap.objs.size <= c
  hd : X.calm = true -> X.A.handled = none
  frames : X.A.frames = some X.stack
  stk : X.stack = X.outer \/ (X.stack = X.env :: X.outer /\ X.env.frame = some X.env.locals)
  exf : ∀ b ∈ X.ex, b ≠ X.env.locals /\ ∀ x c, X.env.cells.lookup x = some c -> c ≠ b
  bs : ∀ b o, X.base.get? b = some o -> X.s₀.heap.get? b = some o /\ X.H₀ b = none
  bsz : X.base.objs.size <= X.s₀.heap.objs.size
  noex : ∀ b o, X.base.get? b = some o -> b ∉ X.ex
  exfs : ∀ b ∈ X.ex, b ∉ X.fs
  funs : X.s₀.heap.FunFrames X.base X.outer
  frf : ∀ b ∈ X.fs, X.H₀ b = none
structure Inv (X : Cx) (pins : List (Addr × Obj)) (σ : List (Option V)) (H : Hp) (s : Shared) : Prop where
  ok : X.Ok
  os : s.os = X.s₀.os
  bare : AllBare s.gens
  base : Un X.fs X.ex X.H₀ H X.s₀.heap s.heap
  loc : ∃ m, s.heap.Ns X.env.locals m /\ ∀ (i : Nat) (x : Str) (v : V), X.N[i]? = some x -> σ[i]? = some (some v) -> Zn X.env.scope x -> ∃ u, RelV v u /\ ziV X.env s.heap m x u
  cell : ∀ x c, X.env.cells.lookup x = some c -> ∃ v, s.heap.IsCell c v
  free : H X.env.locals = none
  freeC : ∀ x c, X.env.cells.lookup x = some c -> H c = none
  pin : ∀ p ∈ X.pn ++ pins, s.heap.get? p.1 = some p.2 /\ H p.1 = none /\ p.1 ≠ X.env.locals /\ p.1 ∉ X.fs /\ ∀ v, p.2.data ≠ .cell v
  hok : HOk X.prog X.w H s.heap
  len : σ.length = X.N.length
section
variable {X : Cx} {pins : List (Addr × Obj)} {σ : List (Option V)} {H H' : Hp} {s : Shared} {h' : Heap}
theorem Cx.Ok.nofr (ok : X.Ok) {b : Addr} {o : Obj} (e : X.base.get? b = some o) : b ∉ X.fs := fun hb => by
  have := (ok.funs.mem hb).1
  rw [e] at this; cases this
theorem Inv.bs (I : Inv X pins σ H s) : ∀ b o, X.base.get? b = some o -> s.heap.get? b = some o /\ H b = none := fun b o e =>
  ⟨I.base.keep b o (I.ok.bs b o e).1 (I.ok.bs b o e).2 (I.ok.nofr e) (I.ok.noex b o e), I.base.free b o (I.ok.bs b o e).1 (I.ok.bs b o e).2 (I.ok.noex b o e)⟩
theorem Inv.bk (I : Inv X pins σ H s) : ∀ b o, X.base.get? b = some o -> s.heap.get? b = some o := fun b o e => (I.bs b o e).1
theorem Inv.mod (I : Inv X pins σ H s) : Mod X.K X.mg X.base := I.ok.mod
theorem Inv.kIn (I : Inv X pins σ H s) : X.K.In s.heap := I.ok.mod.kin.keeps I.bk
theorem Inv.lt (I : Inv X pins σ H s) : X.env.locals < s.heap.objs.size := let ⟨_, hn, _⟩ := I.loc; hn.lt
theorem Inv.sz (I : Inv X pins σ H s) : X.s₀.heap.objs.size <= s.heap.objs.size := Nat.le_trans I.ok.above (Nat.le_of_lt I.lt)
theorem Inv.nofs (I : Inv X pins σ H s) {a : Addr} (h : s.heap.objs.size <= a) : a ∉ X.fs := fun hb => by
  obtain ⟨_, o, ho, _⟩ := I.ok.funs.mem hb
  exact absurd (Nat.lt_of_lt_of_le (Heap.lt_size ho) (Nat.le_trans I.sz h)) (Nat.lt_irrefl _)
theorem Inv.cne (I : Inv X pins σ H s) : ∀ x c, X.env.cells.lookup x = some c -> c ≠ X.env.locals := fun x c e z => by
  obtain ⟨v, o, ho, hd⟩ := I.cell x c e
  obtain ⟨m, ⟨o', es, ep, ho', hd', _⟩, _⟩ := I.loc
  rw [z, ho'] at ho; cases ho; rw [hd'] at hd; cases hd
theorem Inv.funs (I : Inv X pins σ H s) : s.heap.FunFrames X.base X.outer := by
  have all : ∀ (l : List Env), (∀ b ∈ Zm l, b ∈ X.fs) -> X.s₀.heap.FunFrames X.base l -> s.heap.FunFrames X.base l := by
    intro l
    induction l with
    | nil => intro _ _; trivial
    | cons env r ih =>
      intro hs hl
      obtain ⟨hk, ⟨L, o, hf, hn, ho, hd⟩, hr⟩ := hl
      have hL : L ∈ X.fs := hs L (by unfold Zm; rw [List.filterMap_cons, hf]; exact List.mem_cons_self)
      obtain ⟨sl, e⟩ := I.base.slot L o ho (I.ok.frf L hL) hL fun z => I.ok.exfs L z hL
      exact ⟨hk, ⟨L, _, hf, hn, e, hd⟩, ih (fun b hb => hs b (by unfold Zm; rw [List.filterMap_cons, hf]; exact List.mem_cons_of_mem _ hb)) hr⟩
  exact all X.outer (fun _ hb => hb) I.ok.funs
theorem Inv.stack (I : Inv X pins σ H s) : s.heap.FunFrames X.base X.stack := by
  rcases I.ok.stk with e | ⟨e, hf⟩
  · rw [e]; exact I.funs
  · rw [e]
    obtain ⟨m, hn, _⟩ := I.loc
    refine .cons (by rw [I.ok.kind]; decide) hf hn ?_ I.funs
    exact Heap.get?_none_of_le (Nat.le_trans I.ok.bsz I.ok.above)
theorem Inv.stkSub (I : Inv X pins σ H s) : ∀ b ∈ Zm X.stack, b ∈ X.env.locals :: X.fs := fun b hb => by
  rcases I.ok.stk with e | ⟨e, hf⟩
  · rw [e] at hb; exact List.mem_cons_of_mem _ hb
  · rw [e] at hb
    unfold Zm at hb
    rw [List.filterMap_cons, hf] at hb
    exact hb
theorem Inv.stkFree (I : Inv X pins σ H s) : ∀ b ∈ Zm X.stack, H b = none := fun b hb => by
  rcases List.mem_cons.mp (I.stkSub b hb) with e | hb
  · rw [e]; exact I.free
  · obtain ⟨_, o, ho, _⟩ := I.ok.funs.mem hb
    exact I.base.free b o ho (I.ok.frf b hb) fun z => I.ok.exfs b z hb
theorem Inv.step {g' : Array GenState} {t' : Nat} {d' : Drawn} {ch : List Addr} (I : Inv X pins σ H s)
    (hch : ∀ b ∈ ch, (b ∈ X.ex \/ X.s₀.heap.objs.size <= b) /\ b ≠ X.env.locals /\ (∀ x c, X.env.cells.lookup x = some c -> c ≠ b) /\ ∀ p ∈ X.pn ++ pins, p.1 ≠ b)
    (keep : ∀ b o, b ≠ X.env.locals -> b ∉ X.fs -> b ∉ ch -> s.heap.get? b = some o -> H b = none -> h'.get? b = some o)
    (slot : ∀ b o, b ≠ X.env.locals -> b ∈ X.fs -> b ∉ ch -> s.heap.get? b = some o -> H b = none -> ∃ sl, h'.get? b = some { o with slots := sl }) (free : ∀ b o, b ∉ ch -> s.heap.get? b = some o -> H b = none -> H' b = none)
    (there : ∀ b o, b ∉ ch -> s.heap.get? b = some o -> ∃ o', h'.get? b = some o')
    (tups : ∀ b xs, H b = some (.tup xs) -> H' b = some (.tup xs)) (frzs : ∀ b o u, H b = some (.frz o u) -> H' b = some (.frz o u)) (tbls : ∀ b ps, H b = some (.tbl ps) -> ∃ more, H' b = some (.tbl (ps ++ more)))
    (ns : ∀ m, s.heap.Ns X.env.locals m -> h'.Ns X.env.locals m) (hok : HOk X.prog X.w H' h') (hg : AllBare g') :
    Inv X pins σ H' { s with heap := h', gens := g', drawn := d', toks := t' } := by
  have neL : ∀ b o, X.s₀.heap.get? b = some o -> b ≠ X.env.locals := fun b o e => Nat.ne_of_lt (Nat.lt_of_lt_of_le (Heap.lt_size e) I.ok.above)
  have neC : ∀ b o, X.s₀.heap.get? b = some o -> b ∉ X.ex -> b ∉ ch := fun b o e hx hb => by
    rcases (hch b hb).1 with z | z
    · exact hx z
    · exact absurd (Nat.lt_of_lt_of_le (Heap.lt_size e) z) (Nat.lt_irrefl _)
  have cellK : ∀ x c, X.env.cells.lookup x = some c -> ∀ v, s.heap.IsCell c v -> h'.IsCell c v := fun x c e v ⟨o, ho, hd⟩ => by
    have nch : c ∉ ch := fun z => (hch c z).2.2.1 x c e rfl
    by_cases hc : c ∈ X.fs
    · obtain ⟨sl, q⟩ := slot c o (I.cne x c e) hc nch ho (I.freeC x c e)
      exact ⟨_, q, hd⟩
    · exact ⟨o, keep c o (I.cne x c e) hc nch ho (I.freeC x c e), hd⟩
  refine ⟨I.ok, I.os, hg, ⟨fun b o e n hb hx => ?_, fun b o e n hb hx => ?_, fun b o e n hx => ?_, fun b o e hx => ?_, fun b xs e => tups b xs (I.base.tups b xs e), fun b o xs e => frzs b o xs (I.base.frzs b o xs e), fun b ps e => ?_⟩, ?_, fun x c e => ?_, ?_, fun x c e => ?_, fun p hp => ?_, hok, I.len⟩
  · exact keep b o (neL b o e) hb (neC b o e hx) (I.base.keep b o e n hb hx) (I.base.free b o e n hx)
  · obtain ⟨sl, e1⟩ := I.base.slot b o e n hb hx
    obtain ⟨sl', e2⟩ := slot b _ (neL b o e) hb (neC b o e hx) e1 (I.base.free b o e n hx)
    exact ⟨sl', e2⟩
  · obtain ⟨o', e1⟩ := I.base.there b o e hx
    exact free b o' (neC b o e hx) e1 (I.base.free b o e n hx)
  · obtain ⟨o', e1⟩ := I.base.there b o e hx
    exact there b o' (neC b o e hx) e1
  · obtain ⟨m1, e1⟩ := I.base.tbls b ps e
    obtain ⟨m2, e2⟩ := tbls b _ e1
    exact ⟨m1 ++ m2, by rw [e2, Array.append_assoc]⟩
  · obtain ⟨m, hn, hl⟩ := I.loc
    refine ⟨m, ns m hn, fun i x v e1 e2 e3 => ?_⟩
    obtain ⟨u, r, l⟩ := hl i x v e1 e2 e3
    refine ⟨u, r, ?_⟩
    rcases l with l | ⟨k, c, e, z⟩
    · exact .inl l
    · exact .inr ⟨k, c, e, cellK x c e _ z⟩
  · obtain ⟨v, z⟩ := I.cell x c e
    exact ⟨v, cellK x c e v z⟩
  · obtain ⟨m, ⟨o, _, _, ho, _⟩, _⟩ := I.loc
    exact free _ o (fun z => (hch _ z).2.1 rfl) ho I.free
  · obtain ⟨v, o, ho, hd⟩ := I.cell x c e
    exact free c o (fun z => (hch c z).2.2.1 x c e rfl) ho (I.freeC x c e)
  · obtain ⟨e, n, ne, nf, d⟩ := I.pin p hp
    have nch : p.1 ∉ ch := fun z => (hch p.1 z).2.2.2 p hp rfl
    exact ⟨keep p.1 p.2 ne nf nch e n, free p.1 p.2 nch e n, ne, nf, d⟩
theorem Inv.un {t' : Nat} (I : Inv X pins σ H s) (u : Un X.fs [] H H' s.heap h') (hok : HOk X.prog X.w H' h') : Inv X pins σ H' { s with heap := h', toks := t' } := by
  obtain ⟨m, ⟨o, es, ep, ho, r⟩, _⟩ := id I.loc
  obtain ⟨sl, hL⟩ := u.any ho I.free (by simp)
  exact I.step (g' := s.gens) (d' := s.drawn) (ch := []) (fun _ z => nomatch z) (fun b o _ hb _ e n => u.keep b o e n hb (by simp)) (fun b o _ hb _ e n => u.slot b o e n hb (by simp)) (fun b o _ e n => u.free b o e n (by simp)) (fun b o _ e => u.there b o e (by simp)) u.tups u.frzs u.tbls (fun m' hm => by
    obtain ⟨o', es', ep', ho', r'⟩ := hm
    rw [ho] at ho'; cases ho'
    exact ⟨_, es', ep', hL, r'⟩) hok I.bare
theorem Inv.call {g' : Array GenState} {t' : Nat} {d' : Drawn} {ch : List Addr} (I : Inv X pins σ H s) (u : Un (Zm X.stack) ch H H' s.heap h') (hok : HOk X.prog X.w H' h') (hg : AllBare g')
    (hch : ∀ b ∈ ch, (b ∈ X.ex \/ X.s₀.heap.objs.size <= b) /\ b ≠ X.env.locals /\ (∀ x c, X.env.cells.lookup x = some c -> c ≠ b) /\ ∀ p ∈ X.pn ++ pins, p.1 ≠ b) :
    Inv X pins σ H' { s with heap := h', gens := g', drawn := d', toks := t' } := by
  obtain ⟨m, ⟨o, es, ep, ho, r⟩, _⟩ := id I.loc
  obtain ⟨sl, hL⟩ := u.any ho I.free fun z => (hch _ z).2.1 rfl
  exact I.step (ch := ch) hch (fun b o hL hb hc e n => u.keep b o e n (fun z => (List.mem_cons.mp (I.stkSub b z)).elim hL hb) hc) (fun b o _ _ hc e n => u.any e n hc) (fun b o hc e n => u.free b o e n hc) (fun b o hc e => u.there b o e hc) u.tups u.frzs u.tbls (fun m' hm => by
    obtain ⟨o', es', ep', ho', r'⟩ := hm
    rw [ho] at ho'; cases ho'
    exact ⟨_, es', ep', hL, r'⟩) hok hg
theorem Inv.turned {t' : Nat} {it : Addr} (I : Inv X pins σ H s) (k : ∀ b o, b ≠ it -> s.heap.get? b = some o -> h'.get? b = some o) (hn : H it = none) (hL : it ≠ X.env.locals)
    (h1 : it ∈ X.ex \/ X.s₀.heap.objs.size <= it) (h2 : ∀ x c, X.env.cells.lookup x = some c -> c ≠ it) (h3 : ∀ p ∈ X.pn ++ pins, p.1 ≠ it) : Inv X pins σ H { s with heap := h', toks := t' } := by
  have nit : ∀ b u, H b = some u -> b ≠ it := fun b u e z => by rw [z, hn] at e; cases e
  refine I.step (g' := s.gens) (d' := s.drawn) (ch := [it]) (fun b hb => ?_) (fun b o _ _ hc e _ => k b o (fun z => hc (by simp [z])) e) (fun b o _ _ hc e _ => ⟨o.slots, k b o (fun z => hc (by simp [z])) e⟩) (fun _ _ _ _ n => n)
    (fun b o hc e => ⟨o, k b o (fun z => hc (by simp [z])) e⟩) (fun _ _ e => e) (fun _ _ _ e => e) (fun b ps e => ⟨#[], by rw [e]; simp⟩) (fun m hm => ?_) (fun b u e => ?_) I.bare
  · have e : b = it := by simpa using hb
    subst e
    exact ⟨h1, hL, h2, h3⟩
  · obtain ⟨o, es, ep, ho, r⟩ := hm
    exact ⟨o, es, ep, k _ o (Ne.symm hL) ho, r⟩
  · refine (I.hok b u e).stay (fun c v hc q => k c v ?_ q) (fun _ q => q) fun _ _ q => q
    rcases hc with z | z
    · rw [z]; exact nit b u e
    · exact nit c _ z
theorem Inv.tok (I : Inv X pins σ H s) (t : Nat) : Inv X pins σ H { s with toks := t } := I.un (h' := s.heap) (t' := t) Un.refl I.hok
theorem Inv.kept {t' : Nat} (I : Inv X pins σ H s) (k : ∀ b u, s.heap.get? b = some u -> h'.get? b = some u) : Inv X pins σ H { s with heap := h', toks := t' } := I.un (Un.kept k) (I.hok.kept k)
theorem Inv.laid {a : Addr} {o : HO} {t' : Nat} (I : Inv X pins σ H s) (k : ∀ b u, s.heap.get? b = some u -> h'.get? b = some u) (hp : s.heap.objs.size <= a) (new : ObjOk X.prog X.w (zG H a o) h' a o) :
    Inv X pins σ (zG H a o) { s with heap := h', toks := t' } := I.un (Un.laid k hp (I.hok.fresh hp)) (I.hok.laid k hp new)
theorem Inv.write {x e : Addr} {o : HO} {t' : Nat} (I : Inv X pins σ H s) (mu : Mut (H x)) (he : e = x \/ H e = some (.own x)) (k : ∀ b u, b ≠ e -> s.heap.get? b = some u -> h'.get? b = some u) (heo : ∃ u, h'.get? e = some u)
    (new : ObjOk X.prog X.w (zG H x o) h' x o) : Inv X pins σ (zG H x o) { s with heap := h', toks := t' } := I.un (Un.write mu he k heo) (I.hok.write mu he k heo new)
theorem Inv.pins_of {pins' : List (Addr × Obj)} (I : Inv X pins σ H s) (h : ∀ p ∈ pins', s.heap.get? p.1 = some p.2 /\ H p.1 = none /\ p.1 ≠ X.env.locals /\ p.1 ∉ X.fs /\ ∀ v, p.2.data ≠ .cell v) : Inv X pins' σ H s :=
  ⟨I.ok, I.os, I.bare, I.base, I.loc, I.cell, I.free, I.freeC, fun p hp => (List.mem_append.mp hp).elim (fun z => I.pin p (List.mem_append_left _ z)) (h p), I.hok, I.len⟩
theorem VV {N : List Str} (hN : N.Nodup) {i j : Nat} {x : Str} (a : N[i]? = some x) (b : N[j]? = some x) : i = j := by
  obtain ⟨h1, e1⟩ := List.getElem?_eq_some_iff.mp a
  obtain ⟨h2, e2⟩ := List.getElem?_eq_some_iff.mp b
  exact (List.getElem_inj hN).mp (e1.trans e2.symm)
theorem UZ {M : Model} {A : Around} {E : Value -> Shared -> Prop} {i : Nat} {x : Str} {v : V} {u : Value} {Q : Unit -> Shared -> Prop} (I : Inv X pins σ H s) (hN : X.N.Nodup) (hi : X.N[i]? = some x) (hx : VU X.env.scope x) (r : RelV v u)
    (h : ∀ s', Inv X pins (σ.set i (some v)) H s' -> (∃ a, Heap.SameBut a s.heap s'.heap /\ (a = X.env.locals \/ X.env.cells.lookup x = some a)) -> Q () s') (hf : X.fn x = true \/ X.env.scope.names.lookup x = some .local := by first | exact .inl rfl | exact .inr rfl | assumption) : wpAny M A (storeName X.env x u) Q E s := by
  obtain ⟨m, hn, hl⟩ := id I.loc
  have hcls : (X.env.scope.kind == .class || (X.env.scope.kind == .module && X.env.locals != X.env.globals)) = false := by rw [I.ok.kind]; rfl
  have hiσ : i < σ.length := by rw [I.len]; exact (List.getElem?_eq_some_iff.mp hi).1
  have cne := I.cne
  have tracked : ∀ {a : Addr} {h' : Heap}, (∃ o, s.heap.get? a = some o /\ H a = none) -> Heap.SameBut a s.heap h' -> HOk X.prog X.w H h' := fun {a h'} ha hs b ob e => by
    obtain ⟨_, _, hfree⟩ := ha
    refine (I.hok b ob e).stay (fun c w' hc q => (hs.2 c ?_).trans q) (fun _ q => q) fun _ _ q => q
    rintro rfl
    rcases hc with rfl | hc
    · rw [hfree] at e; cases e
    · rw [hfree] at hc; cases hc
  rcases hx with hk | hk
  · refine wpAny_storeName_local hk hn (fun h' hn' hs => ?_) hcls
    obtain ⟨oL, _, _, hoL, _⟩ := id hn
    refine h _ ⟨I.ok, I.os, I.bare, ⟨fun b o e n hb hx => ?_, fun b o e n hb hx => ?_, I.base.free, fun b o e hx => ?_, I.base.tups, I.base.frzs, I.base.tbls⟩, ⟨_, hn', fun j y v' e1 e2 e3 => ?_⟩, fun y c e => ?_, I.free, I.freeC, fun p hp => ?_, tracked ⟨oL, hoL, I.free⟩ hs, by simpa using I.len⟩ ⟨_, hs, .inl rfl⟩
    · exact (hs.2 b (Nat.ne_of_lt (Nat.lt_of_lt_of_le (Heap.lt_size e) I.ok.above))).trans (I.base.keep b o e n hb hx)
    · obtain ⟨sl, e1⟩ := I.base.slot b o e n hb hx
      exact ⟨sl, (hs.2 b (Nat.ne_of_lt (Nat.lt_of_lt_of_le (Heap.lt_size e) I.ok.above))).trans e1⟩
    · obtain ⟨o', e1⟩ := I.base.there b o e hx
      exact ⟨o', (hs.2 b (Nat.ne_of_lt (Nat.lt_of_lt_of_le (Heap.lt_size e) I.ok.above))).trans e1⟩
    · by_cases hj : j = i
      · subst hj
        rw [hi] at e1; cases e1
        rw [List.getElem?_set_self hiσ] at e2
        cases e2
        exact ⟨u, r, .inl ⟨hk, by simp⟩⟩
      · rw [List.getElem?_set_ne (Ne.symm hj)] at e2
        obtain ⟨u', r', q⟩ := hl j y v' e1 e2 e3
        refine ⟨u', r', ?_⟩
        rcases q with ⟨k, e⟩ | ⟨k, c, e, z⟩
        · refine .inl ⟨k, ?_⟩
          have : y ≠ x := fun e => hj (VV hN e1 (e ▸ hi))
          simp [this, e]
        · exact .inr ⟨k, c, e, z.sameBut hs (cne y c e)⟩
    · obtain ⟨w', z⟩ := I.cell y c e
      exact ⟨w', z.sameBut hs (cne y c e)⟩
    · obtain ⟨e, n, ne, nf, d⟩ := I.pin p hp
      exact ⟨(hs.2 p.1 ne).trans e, n, ne, nf, d⟩
  · have hfn : X.fn x = true := by
      rcases hf with z | z
      · exact z
      · rw [z] at hk; cases hk
    obtain ⟨c, hc⟩ := I.ok.has x (.inl hk)
    obtain ⟨w', z⟩ := I.cell x c hc
    refine wpAny_storeName_cell I.ok.kind hk hc z (fun h' hc' hs => ?_)
    obtain ⟨oc, hoc, hocd⟩ := id z
    refine h { s with heap := h' } ⟨I.ok, I.os, I.bare, ⟨fun b o e n hb hx => ?_, fun b o e n hb hx => ?_, I.base.free, fun b o e hx => ?_, I.base.tups, I.base.frzs, I.base.tbls⟩, ⟨m, hn.sameBut hs (Ne.symm (cne x c hc)), fun j y v' e1 e2 e3 => ?_⟩, fun y c' e => ?_, I.free, I.freeC, fun p hp => ?_, tracked ⟨oc, hoc, I.freeC x c hc⟩ hs, by simpa using I.len⟩ ⟨c, hs, .inr hc⟩
    · exact (hs.2 b (Nat.ne_of_lt (Nat.lt_of_lt_of_le (Heap.lt_size e) (I.ok.cab x c hfn hc)))).trans (I.base.keep b o e n hb hx)
    · obtain ⟨sl, e1⟩ := I.base.slot b o e n hb hx
      exact ⟨sl, (hs.2 b (Nat.ne_of_lt (Nat.lt_of_lt_of_le (Heap.lt_size e) (I.ok.cab x c hfn hc)))).trans e1⟩
    · obtain ⟨o', e1⟩ := I.base.there b o e hx
      exact ⟨o', (hs.2 b (Nat.ne_of_lt (Nat.lt_of_lt_of_le (Heap.lt_size e) (I.ok.cab x c hfn hc)))).trans e1⟩
    · by_cases hj : j = i
      · subst hj
        rw [hi] at e1; cases e1
        rw [List.getElem?_set_self hiσ] at e2
        cases e2
        exact ⟨u, r, .inr ⟨.inl hk, c, hc, hc'⟩⟩
      · rw [List.getElem?_set_ne (Ne.symm hj)] at e2
        obtain ⟨u', r', q⟩ := hl j y v' e1 e2 e3
        refine ⟨u', r', ?_⟩
        rcases q with q | ⟨k, c', e, z'⟩
        · exact .inl q
        · refine .inr ⟨k, c', e, z'.sameBut hs ?_⟩
          rintro rfl
          exact hj (VV hN e1 (I.ok.inj _ _ _ e hc ▸ hi))
    · by_cases hcc : c' = c
      · subst hcc; exact ⟨_, hc'⟩
      · obtain ⟨w2, z2⟩ := I.cell y c' e
        exact ⟨w2, z2.sameBut hs hcc⟩
    · obtain ⟨e, n, ne, nf, d⟩ := I.pin p hp
      refine ⟨(hs.2 p.1 ?_).trans e, n, ne, nf, d⟩
      intro q
      rw [q, hoc] at e
      have q' : oc = p.2 := Option.some.inj e
      exact d w' (by rw [← q']; exact hocd)
theorem VW {M : Model} {A : Around} {E : Value -> Shared -> Prop} {i : Nat} {x : Str} {v : V} {u : Value} {Q : Unit -> Shared -> Prop} (I : Inv X pins σ H s) (hN : X.N.Nodup) (hi : X.N[i]? = some x) (hx : VU X.env.scope x) (r : RelV v u)
    (h : ∀ s', Inv X pins (σ.set i (some v)) H s' -> Q () s') (hf : X.fn x = true \/ X.env.scope.names.lookup x = some .local := by first | exact .inl rfl | exact .inr rfl | assumption) : wpAny M A (storeName X.env x u) Q E s :=
  UZ I hN hi hx r (fun s' I' _ => h s' I') hf
theorem Inv.call' {s' : Shared} {ch : List Addr} (I : Inv X pins σ H s) (ho : s'.os = s.os) (u : Un (Zm X.stack) ch H H' s.heap s'.heap) (hok : HOk X.prog X.w H' s'.heap) (hg : AllBare s'.gens)
    (hch : ∀ b ∈ ch, (b ∈ X.ex \/ X.s₀.heap.objs.size <= b) /\ b ≠ X.env.locals /\ (∀ x c, X.env.cells.lookup x = some c -> c ≠ b) /\ ∀ p ∈ X.pn ++ pins, p.1 ≠ b) : Inv X pins σ H' s' := by
  obtain ⟨h', g', d', t', o'⟩ := s'
  have e : o' = s.os := ho
  subst e
  exact I.call (g' := g') (t' := t') (d' := d') u hok hg hch
end
abbrev XK := Value -> Option Addr -> Hp -> Prop
abbrev St := List (Option V)
abbrev VK := V -> Hp -> Prop
abbrev TE := St -> Hp -> VK -> Prop
abbrev TT := St -> Hp -> (Bool -> Hp -> Prop) -> Prop
abbrev TA := St -> Hp -> (List V -> Hp -> Prop) -> Prop
structure Up where
  nx : St -> Hp -> Prop
  rt : VK
  bk : St -> Hp -> Prop := fun _ _ => False
  ct : St -> Hp -> Prop := fun _ _ => False
abbrev TS := Up -> St -> Hp -> Prop
def EP (X : Cx) (pins : List (Addr × Obj)) (σ : St) (Q : VK) (u : Value) (s' : Shared) : Prop := ∃ v H', Inv X pins σ H' s' /\ RelV v u /\ Q v H'
def TP (X : Cx) (pins : List (Addr × Obj)) (σ : St) (Q : Bool -> Hp -> Prop) (b : Bool) (s' : Shared) : Prop := ∃ H', Inv X pins σ H' s' /\ Q b H'
def AP (X : Cx) (pins : List (Addr × Obj)) (σ : St) (Q : List V -> Hp -> Prop) (us : List Value) (s' : Shared) : Prop := ∃ vs H', Inv X pins σ H' s' /\ Vals vs us /\ Q vs H'
def SP (X : Cx) (pins : List (Addr × Obj)) (D : Up) (f : Flow) (s' : Shared) : Prop :=
  match f with
  | .next => ∃ σ' H', Inv X pins σ' H' s' /\ D.nx σ' H'
  | .brk => ∃ σ' H', Inv X pins σ' H' s' /\ D.bk σ' H'
  | .cont => ∃ σ' H', Inv X pins σ' H' s' /\ D.ct σ' H'
  | .ret u => ∃ v σ' H', Inv X pins σ' H' s' /\ RelV v u /\ D.rt v H'
def PE (X : Cx) (e : Expr) (t : TE) : Prop :=
  ∀ (pins : List (Addr × Obj)) (s : Shared) (σ : St) (H : Hp) (Q : VK), Inv X pins σ H s -> t σ H Q -> wpAny (model X.prog X.w) X.A (eval e X.env) (EP X pins σ Q) X.xe s
def PT (X : Cx) (e : Expr) (t : TT) : Prop :=
  ∀ (pins : List (Addr × Obj)) (s : Shared) (σ : St) (H : Hp) (Q : Bool -> Hp -> Prop), Inv X pins σ H s -> t σ H Q -> wpAny (model X.prog X.w) X.A (isTrue e X.env (eval e X.env)) (TP X pins σ Q) X.xe s
def PW (X : Cx) (e : Expr) (t : TT) : Prop :=
  ∀ (whole : Sem Value) (pins : List (Addr × Obj)) (s : Shared) (σ : St) (H : Hp) (Q : Bool -> Hp -> Prop), Inv X pins σ H s -> t σ H Q -> wpAny (model X.prog X.w) X.A (isTrue e X.env whole) (TP X pins σ Q) X.xe s
theorem PW.pt {X : Cx} {e : Expr} {t : TT} (h : PW X e t) : PT X e t := h _
def PA (X : Cx) (es : List Expr) (t : TA) : Prop :=
  ∀ (pos : Pos) (pins : List (Addr × Obj)) (s : Shared) (σ : St) (H : Hp) (Q : List V -> Hp -> Prop), Inv X pins σ H s -> t σ H Q -> wpAny (model X.prog X.w) X.A (spliced (backTo pos (starEach es X.env))) (AP X pins σ Q) X.xe s
def PS (X : Cx) (st : Stmt) (t : TS) : Prop :=
  ∀ (pins : List (Addr × Obj)) (s : Shared) (σ : St) (H : Hp) (D : Up), Inv X pins σ H s -> t D σ H -> wpAny (model X.prog X.w) X.A (exec st X.env) (SP X pins D) X.xe s
def PSs (X : Cx) (st : List Stmt) (t : TS) : Prop :=
  ∀ (pins : List (Addr × Obj)) (s : Shared) (σ : St) (H : Hp) (D : Up), Inv X pins σ H s -> t D σ H -> wpAny (model X.prog X.w) X.A (execs st X.env) (SP X pins D) X.xe s
theorem zC {α : Type} {t : Sem α} {Q Q' : α -> Shared -> Prop} {M : Model} {A : Around} {E : Value -> Shared -> Prop} {s : Shared} (h : wpAny M A t Q E s) (hQ : ∀ a s, Q a s -> Q' a s) : wpAny M A t Q' E s := wpAny_mono h hQ fun _ _ x => x
end L2
namespace L2
open PySem PySem.Spec PyProof.Rows
section
variable {X : Cx}
def Qq (i : Nat) : TE := fun σ H Q => ∃ v, σ[i]? = some (some v) /\ Q v H
def tC (v : V) : TE := fun _ H Q => Q v H
theorem QF {i : Nat} {x : Str} {pos : Pos} (hN : X.N[i]? = some x) (hv : Zn X.env.scope x) (hd : (x == ("__debug__" : Str)) = false := by decide) (hcd : (x == ("__classdict__" : Str)) = false := by decide) : PE X (.Name x pos) (Qq i) := by
  intro pins s σ H Q I h
  obtain ⟨v, e, h⟩ := h
  obtain ⟨m, hn, hl⟩ := I.loc
  obtain ⟨u, r, l⟩ := hl i x v hN e hv
  have fin : EP X pins σ Q u s := ⟨v, H, I, r, h⟩
  rcases l with ⟨hk, hm⟩ | ⟨hk, c, hc, hcell⟩
  · exact wpAny_Name (wpAny_loadName_local I.ok.kind hk hn hm fin) hd
  · rcases hk with hk | hk
    · exact wpAny_Name (wpAny_loadName_cell I.ok.kind hk hc hcell fin) hd
    · exact wpAny_Name (wpAny_loadName_free I.ok.kind hk hc hcell fin hcd) hd
theorem zfL {i j pos} : PE X (.Constant (.int i) j pos) (tC (.int i)) := fun _ _ _ H _ I h => wpAny_Constant_int ⟨.int i, H, I.tok _, ⟨_, rfl⟩, h⟩
theorem zhR {b j pos} : PE X (.Constant (.bool b) j pos) (tC (.bl b)) := fun _ _ _ H _ I h => Constant_bool ⟨.bl b, H, I, rfl, h⟩
theorem zfM {j pos} : PE X (.Constant .none j pos) (tC .non) := fun _ _ _ H _ I h => Constant_none ⟨.non, H, I, rfl, h⟩
theorem zbp {x j pos} : PE X (.Constant (.str x) j pos) (tC (.str x)) := fun _ _ _ H _ I h => Calls.Constant_str ⟨.str x, H, I.tok _, ⟨_, rfl⟩, h⟩
def Gl (X : Cx) (x : Str) : Prop := X.env.kindOf x = some .globalImplicit
theorem Ra {E : Value -> Shared -> Prop} {pins : List (Addr × Obj)} {s : Shared} {σ : St} {H : Hp} {x : Str} {u : Value} {pos : Pos} {Q : Value -> Shared -> Prop} (I : Inv X pins σ H s) (hg : Gl X x) (hm : X.mg x = some u) (h : Q u s)
    (hd : (x == ("__debug__" : Str)) = false := by decide) : wpAny (model X.prog X.w) X.A (eval (.Name x pos) X.env) Q E s :=
  Calls.Name_function_global I.ok.kind hg (Calls.loadGlobal_global (by rw [I.ok.glob]; exact I.mod.glob.keeps I.bk) hm h) hd
theorem Zo {E : Value -> Shared -> Prop} {pins : List (Addr × Obj)} {s : Shared} {σ : St} {H : Hp} {x : Str} {u : Value} {pos : Pos} {Q : Value -> Shared -> Prop} (I : Inv X pins σ H s) (hg : Gl X x) (hm : X.mg x = none) (hv : bootBuiltins x = some u) (h : Q u s)
    (hn : x ≠ "__name__" := by decide) (hd : (x == ("__debug__" : Str)) = false := by decide) : wpAny (model X.prog X.w) X.A (eval (.Name x pos) X.env) Q E s := by
  obtain ⟨mb, h1, h2⟩ := I.mod.blt
  exact Calls.Name_function_global I.ok.kind hg (Calls.loadGlobal_builtin (by rw [I.ok.glob]; exact I.mod.glob.keeps I.bk) hm (by rw [I.ok.blt]; exact h1.keeps I.bk) ((h2 x hn).trans hv) h) hd
theorem Uq {x : Str} {v : V} {u : Value} {pos : Pos} (hg : Gl X x) (hm : X.mg x = some u) (r : RelV v u) (hd : (x == ("__debug__" : Str)) = false := by decide) : PE X (.Name x pos) (tC v) :=
  fun _ _ _ H _ I h => Ra I hg hm ⟨v, H, I, r, h⟩ hd
theorem zet {x : Str} {v : V} {u : Value} {pos : Pos} (hg : Gl X x) (hm : X.mg x = none) (hv : bootBuiltins x = some u) (r : RelV v u) (hn : x ≠ "__name__" := by decide) (hd : (x == ("__debug__" : Str)) = false := by decide) : PE X (.Name x pos) (tC v) :=
  fun _ _ _ H _ I h => Zo I hg hm hv ⟨v, H, I, r, h⟩ hn hd
variable {a b : Expr} {ta tb : TE} {pos : Pos}
def tB (t : TE) : TT := fun σ H Q => t σ H fun x H1 => ∃ c, x = .bl c /\ Q c H1
theorem zfN {e : Expr} {t : TE} (h : PE X e t) (he : ∀ whole, isTrue e X.env whole = (do let v ← whole; standAt e.pos; holding [v] (truthy v)) := by intro _; rfl) : PT X e (tB t) := by
  intro pins s σ H Q I hw
  refine isTrue_plain (zC (h pins s σ H _ I hw) fun v s1 ⟨x, H1, I1, r1, q1⟩ => ?_) (he _)
  obtain ⟨d, rfl, q⟩ := q1
  cases r1
  exact wpAny_truthy_bool ⟨H1, I1, q⟩
variable {tA tB' : TT} {rest : List Expr}
def zfO (t u : TT) : TT := fun σ H Q => t σ H fun c H1 => if c = true then u σ H1 Q else Q false H1
def tOr (t u : TT) : TT := fun σ H Q => t σ H fun c H1 => if c = true then Q true H1 else u σ H1 Q
def zfP (t : TT) : TT := fun σ H Q => t σ H fun c H1 => Q (!c) H1
theorem zeu (ha : PT X a tA) : PW X (.BoolOp .And [a] pos) tA := by
  intro wh pins s σ H Q I h
  refine isTrue_and (zC (ha pins s σ H Q I h) fun c s1 e => ?_)
  cases c with
  | true => exact isTrue_and_nil e
  | false => exact e
theorem zfQ (ha : PT X a tA) : PW X (.BoolOp .Or [a] pos) tA := by
  intro wh pins s σ H Q I h
  refine isTrue_or (zC (ha pins s σ H Q I h) fun c s1 e => ?_)
  cases c with
  | false => exact isTrue_or_nil e
  | true => exact e
theorem zfR (ha : PT X a tA) (hb : PW X (.BoolOp .And (b :: rest) pos) tB') : PW X (.BoolOp .And (a :: b :: rest) pos) (zfO tA tB') := by
  intro wh pins s σ H Q I h
  refine isTrue_and (zC (ha pins s σ H _ I h) fun c s1 ⟨H1, I1, q1⟩ => ?_)
  cases c with
  | true => exact hb wh pins s1 σ H1 Q I1 q1
  | false => exact ⟨H1, I1, q1⟩
theorem zhS (ha : PT X a tA) (hb : PW X (.BoolOp .Or (b :: rest) pos) tB') : PW X (.BoolOp .Or (a :: b :: rest) pos) (tOr tA tB') := by
  intro wh pins s σ H Q I h
  refine isTrue_or (zC (ha pins s σ H _ I h) fun c s1 ⟨H1, I1, q1⟩ => ?_)
  cases c with
  | true => exact ⟨H1, I1, q1⟩
  | false => exact hb wh pins s1 σ H1 Q I1 q1
theorem zfS (ha : PT X a tA) : PT X (.UnaryOp .Not a pos) (zfP tA) := by
  intro pins s σ H Q I h
  exact isTrue_not (ha pins s σ H (fun c H1 => Q (!c) H1) I h)
def zdK (ta tb : TE) : TE := fun σ H Q => ta σ H fun x H1 => ∃ c, x = .bl c /\ if c = true then tb σ H1 Q else Q (.bl false) H1
def zdL (ta : TE) : TE := fun σ H Q => ta σ H fun x H1 => ∃ c, x = .bl c /\ Q (.bl (!c)) H1
theorem zfT {op} {t : TE} (h : PE X a t) : PE X (.BoolOp op [a] pos) t := fun pins s σ H Q I hw => BoolOp_one (h pins s σ H Q I hw)
theorem zfU (ha : PE X a ta) (hb : PE X (.BoolOp .And (b :: rest) pos) tb) : PE X (.BoolOp .And (a :: b :: rest) pos) (zdK ta tb) := by
  intro pins s σ H Q I h
  refine BoolOp_and (zC (ha pins s σ H _ I h) fun v s1 ⟨x, H1, I1, r1, q1⟩ => ?_)
  obtain ⟨c, rfl, q1⟩ := q1
  cases r1
  refine wpAny_truthy_bool ?_
  cases c with
  | true => exact hb pins s1 σ H1 Q I1 q1
  | false => exact ⟨.bl false, H1, I1, rfl, q1⟩
theorem zfV (ha : PE X a ta) : PE X (.UnaryOp .Not a pos) (zdL ta) := by
  intro pins s σ H Q I h
  refine UnaryOp_ (zC (ha pins s σ H _ I h) fun v s1 ⟨x, H1, I1, r1, q1⟩ => ?_)
  obtain ⟨c, rfl, q1⟩ := q1
  cases r1
  exact not_of (wpAny_truthy_bool ⟨.bl (!c), H1, I1, rfl, q1⟩)
def tIf (t : TT) (ta tb : TE) : TE := fun σ H Q => t σ H fun c H1 => if c = true then ta σ H1 Q else tb σ H1 Q
theorem zcB {c : Expr} (hc : PT X c tA) (ha : PE X a ta) (hb : PE X b tb) : PE X (.IfExp c a b pos) (tIf tA ta tb) := by
  intro pins s σ H Q I h
  refine wpAny_IfExp (zC (hc pins s σ H _ I h) fun d s1 ⟨H1, I1, q1⟩ => ?_)
  cases d with
  | true => exact ha pins s1 σ H1 Q I1 q1
  | false => exact hb pins s1 σ H1 Q I1 q1
end
end L2
namespace L2
open PySem PySem.Spec PyProof.Rows
def yM (K : PySem.W.Frag) (H : Hp) (a : Addr) (xs : List V) : Prop :=
  Rd H a (.lst xs) \/
    ∃ (o : Obj) (its : Array Value) (n : Nat), K.lookup a = some o /\ o.cls = .type "list" /\ o.dict = none /\ o.data = .seq its n /\ its.size <= sizeLine /\ Vals xs its.toList
def SqT (K : PySem.W.Frag) (H : Hp) (a : Addr) (xs : List V) : Prop :=
  Rd H a (.tup xs) \/
    ∃ (o : Obj) (its : Array Value) (n : Nat), K.lookup a = some o /\ o.cls = .type "tuple" /\ o.data = .seq its n /\ its.size <= sizeLine /\ Vals xs its.toList
def ziW : Value -> Option V
  | .none => some .non
  | .bool b => some (.bl b)
  | .int i _ => some (.int i)
  | .str x _ => some (.str x)
  | .bytes b _ => some (.byt b)
  | .float b _ => some (.flt b)
  | .ref a => some (.ref a)
  | .type n => some (.ty n)
  | _ => none
theorem RelV.abs {x : V} {u : Value} (r : RelV x u) : ziW u = some x := by
  cases x with
  | non => cases r; rfl
  | bl _ => cases r; rfl
  | int _ => obtain ⟨t, rfl⟩ := r; rfl
  | str _ => obtain ⟨t, rfl⟩ := r; rfl
  | byt _ => obtain ⟨t, rfl⟩ := r; rfl
  | flt _ => obtain ⟨t, rfl⟩ := r; rfl
  | ref _ => cases r; rfl
  | ty _ => cases r; rfl
theorem RelV.inj {x y : V} {u : Value} (r : RelV x u) (q : RelV y u) : x = y := Option.some.inj (r.abs.symm.trans q.abs)
theorem Vals.inj : ∀ {xs ys : List V} {us : List Value}, Vals xs us -> Vals ys us -> xs = ys
  | _, _, _, .nil, .nil => rfl
  | _, _, _, .cons r t, .cons r' t' => by rw [r.inj r', Vals.inj t t']
section
variable {X : Cx} {pins : List (Addr × Obj)} {σ : St} {H : Hp} {s : Shared} {a : Addr} {xs ys : List V}
theorem SqT.of {K : PySem.W.Frag} (h : H a = some (.tup xs)) : SqT K H a xs := .inl (.inl h)
theorem Inv.list (I : Inv X pins σ H s) (h : yM X.K H a xs) : ∃ its : List Value, Vals xs its /\ PlainL s.heap a its.toArray /\ xs.length <= sizeLine := by
  rcases h with h | ⟨o, its, n, hk, hc, hd, hs, hz, r⟩
  · obtain ⟨z, its, n, r, e⟩ := h.ok I.hok
    exact ⟨its, r, ⟨_, n, e, rfl, rfl, rfl⟩, z⟩
  · refine ⟨its.toList, r, ⟨o, n, I.kIn a o hk, hc, hd, by simpa using hs⟩, ?_⟩
    have e := r.length
    simp only [Array.length_toList] at e
    omega
theorem Inv.tuple (I : Inv X pins σ H s) (h : SqT X.K H a xs) : ∃ its : List Value, Vals xs its /\ IsTup s.heap a its.toArray /\ xs.length <= sizeLine := by
  rcases h with h | ⟨o, its, n, hk, hc, hs, hz, r⟩
  · obtain ⟨z, its, r, p⟩ := h.ok I.hok
    exact ⟨its, r, p, z⟩
  · refine ⟨its.toList, r, ⟨o, I.kIn a o hk, hc, n, by simpa using hs⟩, ?_⟩
    have e := r.length
    simp only [Array.length_toList] at e
    omega
theorem Inv.list_inj (I : Inv X pins σ H s) (h : yM X.K H a xs) (h' : yM X.K H a ys) : xs = ys := by
  obtain ⟨its, r, ⟨o, n, e, _, _, d⟩, _⟩ := I.list h
  obtain ⟨its', r', ⟨o', n', e', _, _, d'⟩, _⟩ := I.list h'
  rw [e] at e'; cases e'
  rw [d] at d'
  injection d' with d1 _
  have : its = its' := by simpa using congrArg Array.toList d1
  subst this
  exact r.inj r'
theorem Inv.tuple_inj (I : Inv X pins σ H s) (h : SqT X.K H a xs) (h' : SqT X.K H a ys) : xs = ys := by
  obtain ⟨its, r, ⟨o, e, _, n, d⟩, _⟩ := I.tuple h
  obtain ⟨its', r', ⟨o', e', _, n', d'⟩, _⟩ := I.tuple h'
  rw [e] at e'; cases e'
  rw [d] at d'
  injection d' with d1 _
  have : its = its' := by simpa using congrArg Array.toList d1
  subst this
  exact r.inj r'
end
abbrev Cx.wish (X : Cx) (E : Value -> Shared -> Prop) : Cx := { X with xe := E }
abbrev Cx.nox (X : Cx) : Cx := X.wish fun _ _ => False
theorem Cx.Ok.wish {X : Cx} (ok : X.Ok) (E : Value -> Shared -> Prop) : (X.wish E).Ok :=
  ⟨ok.mod, ok.kind, ok.glob, ok.blt, ok.above, ok.inj, ok.has, ok.cab, ok.hd, ok.frames, ok.stk, ok.exf, ok.bs, ok.bsz, ok.noex, ok.exfs, ok.funs, ok.frf⟩
theorem Cx.Ok.unwish {X : Cx} {E : Value -> Shared -> Prop} (ok : (X.wish E).Ok) : X.Ok :=
  ⟨ok.mod, ok.kind, ok.glob, ok.blt, ok.above, ok.inj, ok.has, ok.cab, ok.hd, ok.frames, ok.stk, ok.exf, ok.bs, ok.bsz, ok.noex, ok.exfs, ok.funs, ok.frf⟩
section
variable {X : Cx} {pins : List (Addr × Obj)} {σ : St} {H : Hp} {s : Shared} {E : Value -> Shared -> Prop}
theorem Inv.wish (I : Inv X pins σ H s) (E : Value -> Shared -> Prop) : Inv (X.wish E) pins σ H s := ⟨I.ok.wish E, I.os, I.bare, I.base, I.loc, I.cell, I.free, I.freeC, I.pin, I.hok, I.len⟩
theorem Inv.unwish (I : Inv (X.wish E) pins σ H s) : Inv X pins σ H s := ⟨I.ok.unwish, I.os, I.bare, I.base, I.loc, I.cell, I.free, I.freeC, I.pin, I.hok, I.len⟩
theorem SP.unwish {D : Up} {f : Flow} {s' : Shared} (h : SP (X.wish E) pins D f s') : SP X pins D f s' := by
  cases f with
  | next => obtain ⟨σ', H', I, q⟩ := h; exact ⟨σ', H', I.unwish, q⟩
  | brk => obtain ⟨σ', H', I, q⟩ := h; exact ⟨σ', H', I.unwish, q⟩
  | cont => obtain ⟨σ', H', I, q⟩ := h; exact ⟨σ', H', I.unwish, q⟩
  | ret u => obtain ⟨v, σ', H', I, r, q⟩ := h; exact ⟨v, σ', H', I.unwish, r, q⟩
theorem PSs.nox {st : List Stmt} {t : TS} (h : PSs X.nox st t) : PSs X st t := fun pins s σ H D I hw =>
  wpAny_mono (h pins s σ H D (I.wish _) hw) (fun _ _ q => q.unwish) fun _ _ z => False.elim z
end
section
variable {X : Cx} {st : Stmt} {rest : List Stmt} {t u : TS} {e : Expr} {te : TE} {pos : Pos}
def zdM : TS := fun D σ H => D.nx σ H
def zfW (t u : TS) : TS := fun D σ H => t { D with nx := u D } σ H
theorem zev : PSs X [] zdM := fun _ _ σ H _ I h => wpAny_execs_nil ⟨σ, H, I, h⟩
theorem zcC (h1 : PS X st t) (h2 : PSs X rest u) : PSs X (st :: rest) (zfW t u) := by
  intro pins s σ H D I h
  refine wpAny_execs_cons (zC (h1 pins s σ H { D with nx := u D } I h) fun f s1 q => ?_)
  cases f with
  | next =>
    obtain ⟨σ', H', I', q⟩ := q
    exact h2 pins s1 σ' H' D I' q
  | ret v => exact q
  | brk => exact q
  | cont => exact q
theorem zew (h1 : PS X st t) : PSs X [st] t := by
  intro pins s σ H D I h
  refine wpAny_execs_cons (zC (h1 pins s σ H D I h) fun f s1 q => ?_)
  cases f with
  | next => exact wpAny_execs_nil q
  | ret v => exact q
  | brk => exact q
  | cont => exact q
theorem Inv.quiet {pins : List (Addr × Obj)} {σ : St} {H : Hp} {s : Shared} (I : Inv X pins σ H s) : interactive X.env = false := by simp [interactive, I.ok.kind]
def zdN (te : TE) : TS := fun D σ H => te σ H fun _ H1 => D.nx σ H1
theorem zex (he : PE X e te) (hs : swapsWith e none pos.line X.env = pure false := by rfl) : PS X (.Expr e pos) (zdN te) := by
  intro pins s σ H D I h
  exact wpAny_Expr_any (zC (he pins s σ H _ I h) fun v s1 ⟨x, H1, I1, r1, q1⟩ => ⟨σ, H1, I1, q1⟩) I.quiet hs
def zcD (te : TE) : TS := fun D σ H => te σ H D.rt
theorem zbq (he : PE X e te) : PS X (.Return (some e) pos) (zcD te) := by
  intro pins s σ H D I h
  exact wpAny_Return_some (zC (he pins s σ H _ I h) fun v s1 ⟨x, H1, I1, r1, q1⟩ => ⟨x, σ, H1, I1, r1, q1⟩)
def zfX (c : TT) (t u : TS) : TS := fun D σ H => c σ H fun b H1 => if b = true then t D σ H1 else u D σ H1
theorem zhT {c : Expr} {a b : List Stmt} {tc : TT} (hc : PT X c tc) (ha : PSs X a t) (hb : PSs X b u) : PS X (.If c a b pos) (zfX tc t u) := by
  intro pins s σ H D I h
  refine wpAny_If (zC (hc pins s σ H _ I h) fun d s1 ⟨H1, I1, q1⟩ => ?_)
  cases d with
  | true => exact ha pins s1 σ H1 D I1 q1
  | false => exact hb pins s1 σ H1 D I1 q1
def zfY : TS := fun _ _ _ => False
theorem zcE : PS X st zfY := fun _ _ _ _ _ _ h => h.elim
end
abbrev TG := V -> St -> Hp -> (St -> Hp -> Prop) -> Prop
abbrev Z7 := List V -> St -> Hp -> (St -> Hp -> Prop) -> Prop
def PG (X : Cx) (target : Expr) (t : TG) : Prop :=
  ∀ (pins : List (Addr × Obj)) (s : Shared) (σ : St) (H : Hp) (v : V) (u : Value) (Q : St -> Hp -> Prop), Inv X pins σ H s -> RelV v u -> t v σ H Q ->
    wpAny (model X.prog X.w) X.A (assign target X.env u) (fun _ s' => ∃ σ' H', Inv X pins σ' H' s' /\ Q σ' H') X.xe s
def PGs (X : Cx) (ts : List Expr) (t : Z7) : Prop :=
  ∀ (pins : List (Addr × Obj)) (s : Shared) (σ : St) (H : Hp) (vs : List V) (us : List Value) (Q : St -> Hp -> Prop), Inv X pins σ H s -> Vals vs us -> t vs σ H Q ->
    wpAny (model X.prog X.w) X.A (assignInOrder ((assignEach ts X.env).map (·.2)) us) (fun _ s' => ∃ σ' H', Inv X pins σ' H' s' /\ Q σ' H') X.xe s
abbrev zcF := V -> V -> V -> Hp -> (Hp -> Prop) -> Prop
def zfZ (X : Cx) (t : zcF) : Prop :=
  ∀ (pins : List (Addr × Obj)) (s : Shared) (σ : St) (H : Hp) (o i v : V) (ov iv u : Value) (Q : Hp -> Prop), Inv X pins σ H s -> RelV o ov -> RelV i iv -> RelV v u -> t o i v H Q ->
    wpAny (model X.prog X.w) X.A (setItem ov iv u) (fun _ s' => ∃ H', Inv X pins σ H' s' /\ Q H') X.xe s
section
variable {X : Cx} {pos : Pos}
def ZM (i : Nat) : TG := fun v σ H Q => Q (σ.set i (some v)) H
theorem zey {i : Nat} {x : Str} (hN : X.N.Nodup) (hi : X.N[i]? = some x) (hx : VU X.env.scope x) (hf : X.fn x = true \/ X.env.scope.names.lookup x = some .local := by first | exact .inl rfl | exact .inr rfl | assumption) : PG X (.Name x pos) (ZM i) := by
  intro pins s σ H v u Q I r h
  exact wpAny_assign_Name (VW I hN hi hx r (fun s' I' => ⟨_, H, I', h⟩) hf)
def gNil : Z7 := fun vs σ H Q => vs = [] /\ Q σ H
def gCons (t : TG) (u : Z7) : Z7 := fun vs σ H Q => ∃ v r, vs = v :: r /\ t v σ H fun σ' H' => u r σ' H' Q
theorem zez : PGs X [] gNil := by
  intro pins s σ H vs us Q I r h
  obtain ⟨e, h⟩ := h
  subst e
  cases r
  exact assignInOrder_nil ⟨σ, H, I, h⟩
theorem zcG {e : Expr} {es : List Expr} {t : TG} {u : Z7} (h1 : PG X e t) (h2 : PGs X es u)
    (hs : (assignEach (e :: es) X.env).map (·.2) = assign e X.env :: (assignEach es X.env).map (·.2) := by rfl) : PGs X (e :: es) (gCons t u) := by
  intro pins s σ H vs us Q I r h
  obtain ⟨v, vr, e1, h⟩ := h
  subst e1
  cases r with
  | cons r rr =>
    rw [hs]
    refine assignInOrder_cons (zC (h1 pins s σ H _ _ _ I r h) fun _ s1 ⟨σ1, H1, I1, q1⟩ => ?_)
    exact h2 pins s1 σ1 H1 _ _ Q I1 rr q1
def gTup (K : PySem.W.Frag) (n : Nat) (t : Z7) : TG := fun v σ H Q => ∃ a xs, v = .ref a /\ SqT K H a xs /\ xs.length = n /\ t xs σ H Q
theorem zf0 {es : List Expr} {k : Nat} {t : Z7} {n : Nat} (hc : X.calm = true) (h : PGs X es t)
    (hn : (assignEach es X.env).length = n := by rfl) (hst : (assignEach es X.env).findIdx? (·.1) = none := by rfl) : PG X (.Tuple es k pos) (gTup X.K n t) := by
  intro pins s σ H v u Q I r hw
  obtain ⟨a, xs, e1, hq, hl, hw⟩ := hw
  subst e1
  cases r
  obtain ⟨its, rv, ht, hz⟩ := I.tuple hq
  refine assign_Tuple_tuple (I.ok.hd hc) ht (by simp [hn, ← hl, rv.length]) hst fun h' hx => ?_
  have I1 : Inv X pins σ H { s with heap := h' } := I.kept (t' := s.toks) fun b o e => hx b o (Nat.ne_of_lt (Heap.lt_size e)) e
  exact h pins _ σ H xs _ Q I1 (by simpa using rv) hw
def zf1 (to ti : TE) (t : zcF) : TG := fun v σ H Q => to σ H fun o H1 => ti σ H1 fun i H2 => t o i v H2 fun H3 => Q σ H3
theorem zf2 {o i : Expr} {to ti : TE} {t : zcF} (ho : PE X o to) (hi : PE X i ti) (hs : zfZ X t)
    (ha : ∀ v, assign (.Subscript o i pos) X.env v = (do
      let ov ← holding [v] (eval o X.env)
      let iv ← holding [v, ov] (eval i X.env)
      standAt pos
      holding [v, ov, iv] (setItem ov iv v)
      release [v, ov, iv] []) := by intro _; rfl) : PG X (.Subscript o i pos) (zf1 to ti t) := by
  intro pins s σ H v u Q I r h
  rw [ha]
  refine wpAny_bind (wpAny_holding (zC (ho pins s σ H _ I h) fun ov s1 ⟨x, H1, I1, r1, q1⟩ => ?_))
  refine wpAny_bind (wpAny_holding (zC (hi pins s1 σ H1 _ I1 q1) fun iv s2 ⟨y, H2, I2, r2, q2⟩ => ?_))
  refine wpAny_bind (wpAny_standAt (wpAny_bind (wpAny_holding (zC (hs pins s2 σ H2 x y v ov iv u _ I2 r1 r2 r q2) fun _ s3 ⟨H3, I3, q3⟩ => ?_))))
  exact wpAny_release ⟨σ, H3, I3, q3⟩
def Ur (te : TE) (g : TG) : TS := fun D σ H => te σ H fun x H1 => g x σ H1 D.nx
theorem zf3 {tg e : Expr} {te : TE} {g : TG} (he : PE X e te) (hg : PG X tg g) (hs : swapsWithSole [tg] e pos.line X.env = pure false := by rfl) (hw : swappedStores [tg] e X.env = pure none := by rfl)
    (h1 : (assignEach [tg] X.env).map (·.2) = [assign tg X.env] := by rfl) : PS X (.Assign [tg] e pos) (Ur te g) := by
  intro pins s σ H D I h
  refine wpAny_Assign_stores (zC (he pins s σ H _ I h) fun v s1 ⟨x, H1, I1, r1, q1⟩ => ?_) hs hw
  rw [h1]
  exact zC (hg pins s1 σ H1 x v _ I1 r1 q1) fun _ s2 q => q
theorem zbs {i : Nat} {x : Str} {e : Expr} {te : TE} {pos' : Pos} (hN : X.N.Nodup) (hi : X.N[i]? = some x) (hx : VU X.env.scope x) (he : PE X e te) (hs : swapsWith e (some (.Name x pos')) pos.line X.env = pure false := by rfl) (hf : X.fn x = true \/ X.env.scope.names.lookup x = some .local := by first | exact .inl rfl | exact .inr rfl | assumption) :
    PS X (.Assign [.Name x pos'] e pos) (Ur te (ZM i)) := by
  intro pins s σ H D I h
  refine wpAny_Assign_Name (zC (he pins s σ H _ I h) fun v s1 ⟨y, H1, I1, r1, q1⟩ => ?_) hs
  exact VW I1 hN hi hx r1 (fun s2 I2 => ⟨_, H1, I2, q1⟩) hf
end
section
variable {X : Cx} {pos : Pos}
end
structure It where
  go : Nat -> Hp -> Prop
  yld : Nat -> Hp -> V -> Hp -> Prop
  stop : Nat -> Hp -> Prop
def FpOk (X : Cx) (pins : List (Addr × Obj)) (H : Hp) (b : Addr) : Prop :=
  H b = none /\ b ≠ X.env.locals /\ b ∉ X.fs /\ (b ∈ X.ex \/ X.s₀.heap.objs.size <= b) /\ (∀ x c, X.env.cells.lookup x = some c -> c ≠ b) /\ ∀ p ∈ X.pn ++ pins, p.1 ≠ b
theorem Inv.fpOk {X : Cx} {pins : List (Addr × Obj)} {σ : St} {H H' : Hp} {s : Shared} {b : Addr} (I : Inv X pins σ H s) (hb : s.heap.objs.size <= b) (hn : H' b = none) : FpOk X pins H' b := by
  refine ⟨hn, Nat.ne_of_gt (Nat.lt_of_lt_of_le I.lt hb), I.nofs hb, .inr (Nat.le_trans I.sz hb), fun x c e z => ?_, fun p hp z => ?_⟩
  · obtain ⟨v, q⟩ := I.cell x c e
    exact absurd (Nat.lt_of_lt_of_le q.lt (by rw [z]; exact hb)) (Nat.lt_irrefl _)
  · exact absurd (Nat.lt_of_lt_of_le (Heap.lt_size (I.pin p hp).1) (by rw [z]; exact hb)) (Nat.lt_irrefl _)
structure Yi (P : Program) (w : World) (K : PySem.W.Frag) (tg : Expr) (J : It) (fp : List Addr) (it : Addr) (tn : Nat -> Heap -> Prop) : Prop where
  mem : it ∈ fp
  obj : ∀ i h, tn i h -> ∀ b ∈ fp, ∃ o, h.get? b = some o /\ ∀ v, o.data ≠ .cell v
  keep : ∀ i h h', tn i h -> (∀ b ∈ fp, ∀ o, h.get? b = some o -> h'.get? b = some o) -> tn i h'
  item : ∀ (X : Cx), X.prog = P -> X.w = w -> X.K = K -> X.calm = true -> ∀ (i : Nat) (pins : List (Addr × Obj)) (s : Shared) (σ : St) (H : Hp) (E : Value -> Shared -> Prop), Inv X pins σ H s -> (∀ b ∈ fp, FpOk X pins H b) -> tn i s.heap -> J.go i H ->
    wpAny (model P w) X.A (pyNext (.ref it)) (fun r s1 => ∃ u, r = some u /\
      wpAny (model P w) X.A (letOwnedTupleGo tg (.ref it) u) (fun _ s2 => ∃ x H', Inv X pins σ H' s2 /\ RelV x u /\ J.yld i H x H' /\ tn (i + 1) s2.heap /\ ∀ b ∈ fp, H' b = none) E s1) E s
  done : ∀ (X : Cx), X.prog = P -> X.w = w -> X.K = K -> X.calm = true -> ∀ (i : Nat) (pins : List (Addr × Obj)) (s : Shared) (σ : St) (H : Hp) (E : Value -> Shared -> Prop), Inv X pins σ H s -> (∀ b ∈ fp, FpOk X pins H b) -> tn i s.heap -> J.stop i H ->
    wpAny (model P w) X.A (pyNext (.ref it)) (fun r s1 => r = none /\ Inv X pins σ H s1) E s
  self : ∀ (A : Around) (i : Nat) (s : Shared) (Q : Value -> Shared -> Prop) (E : Value -> Shared -> Prop), tn i s.heap -> Q (.ref it) s -> wpAny (model P w) A (pyIter (.ref it)) Q E s
abbrev TI := St -> Hp -> (It -> Hp -> Prop) -> Prop
def PIE (X : Cx) (pins : List (Addr × Obj)) (σ : St) (tg : Expr) (R : It -> Hp -> Prop) (itv : Value) (s2 : Shared) : Prop :=
  ∃ (it : Addr) (fp : List Addr) (tn : Nat -> Heap -> Prop) (J : It) (H' : Hp), itv = .ref it /\ Inv X pins σ H' s2 /\ Yi X.prog X.w X.K tg J fp it tn /\ tn 0 s2.heap /\ (∀ b ∈ fp, FpOk X pins H' b) /\ R J H'
def PI (X : Cx) (tg iter : Expr) (wi : TI) : Prop :=
  ∀ (pins : List (Addr × Obj)) (s : Shared) (σ : St) (H : Hp) (R : It -> Hp -> Prop), Inv X pins σ H s -> wi σ H R ->
    wpAny (model X.prog X.w) X.A (eval iter X.env) (fun v s1 => wpAny (model X.prog X.w) X.A (pyIter v) (PIE X pins σ tg R) X.xe s1) X.xe s
theorem Vz {M : Model} {A : Around} {E : Value -> Shared -> Prop} {s : Shared} {tg : Expr} {it : Addr} {u : Value} {o : Obj} {n : String} {vs : Array Value} {Q : Unit -> Shared -> Prop} (ho : s.heap.get? it = some o) (hc : o.cls = .type n) (hd : o.data = .fields vs)
    (hn : ["enumerate", "zip", "dict_itemiterator", "dict_reverseitemiterator", "odict_iterator", "itertools.zip_longest", "itertools.pairwise"].contains n = false) (hQ : Q () s) : wpAny M A (letOwnedTupleGo tg (.ref it) u) Q E s := by
  unfold letOwnedTupleGo
  cases tg <;> first
    | exact wpAny_pure hQ
    | (cases u <;> first
        | exact wpAny_pure hQ
        | (refine wpAny_bind (wpAny_load ho ?_)
           rw [hc, hd]
           show wpAny M A (if (["enumerate", "zip", "dict_itemiterator", "dict_reverseitemiterator", "odict_iterator", "itertools.zip_longest", "itertools.pairwise"].contains n && vs[0]? == some (rawInt _)) = true then _ else _) Q E s
           rw [if_neg (by intro h; rw [hn, Bool.false_and] at h; cases h)]
           exact wpAny_pure hQ))
def Itl (K : PySem.W.Frag) (a : Addr) : It :=
  ⟨fun i H => ∃ xs x, yM K H a xs /\ xs[i]? = some x, fun i H x H' => H' = H /\ ∀ xs, yM K H a xs -> xs[i]? = some x, fun i H => ∃ xs, yM K H a xs /\ xs.length <= i⟩
def Itt (K : PySem.W.Frag) (a : Addr) : It :=
  ⟨fun i H => ∃ xs x, SqT K H a xs /\ xs[i]? = some x, fun i H x H' => H' = H /\ ∀ xs, SqT K H a xs -> xs[i]? = some x, fun i H => ∃ xs, SqT K H a xs /\ xs.length <= i⟩
def Itr (lo : Int) (n : Nat) : It := ⟨fun i _ => i < n, fun i H x H' => H' = H /\ x = .int (lo + i), fun i _ => n <= i⟩
theorem zbt {P : Program} {w : World} {K : PySem.W.Frag} {tg : Expr} (a it : Addr) : Yi P w K tg (Itl K a) [it] it (fun i h => h.IsListIter it a i) where
  mem := by simp
  obj := fun i h st b hb => by
    have e : b = it := by simpa using hb
    subst e
    obtain ⟨o, e, c, d⟩ := st
    exact ⟨o, e, fun v z => by rw [d] at z; cases z⟩
  keep := fun i h h' st k => st.at fun o e => k it (by simp) o e
  item := by
    intro X hP hw hK hc i pins s σ H E I hf st hg
    subst hP hw hK
    obtain ⟨xs, x, hq, hx⟩ := hg
    obtain ⟨its, rv, p, hz⟩ := I.list hq
    obtain ⟨u, hu, ru⟩ := rv.get hx
    obtain ⟨f0, f1, f2, f3, f4, f5⟩ := hf it (by simp)
    refine wpAny_pyNext_list_item st p.isList (x := u) (by simpa using hu) fun h' st' sb => ?_
    have I1 : Inv X pins σ H { s with heap := h' } := I.turned (t' := s.toks) (fun b o hb e => (sb.2 b hb).trans e) f0 f1 f3 f4 f5
    obtain ⟨o, e, c, d⟩ := id st'
    exact ⟨u, rfl, Vz (s := { s with heap := h' }) e c d (by decide) ⟨x, H, I1, ru, ⟨rfl, fun ys hy => by rw [I.list_inj hy hq]; exact hx⟩, st', fun b hb => (hf b hb).1⟩⟩
  done := by
    intro X hP hw hK hc i pins s σ H E I hf st hg
    subst hP hw hK
    obtain ⟨xs, hq, hx⟩ := hg
    obtain ⟨its, rv, p, hz⟩ := I.list hq
    obtain ⟨f0, f1, f2, f3, f4, f5⟩ := hf it (by simp)
    have hl := rv.length
    exact wpAny_pyNext_list_end (I.ok.hd hc) st p.isList (by simp; omega) fun h' eb => ⟨rfl, I.turned (t' := s.toks) (fun b o hb e => eb b o hb e) f0 f1 f3 f4 f5⟩
  self := fun _ _ _ _ _ st h => wpAny_pyIter_listiter st h
theorem zal {P : Program} {w : World} {K : PySem.W.Frag} {tg : Expr} (a it : Addr) : Yi P w K tg (Itt K a) [it] it (fun i h => h.IsTupleIter it a i) where
  mem := by simp
  obj := fun i h st b hb => by
    have e : b = it := by simpa using hb
    subst e
    obtain ⟨o, e, c, d⟩ := st
    exact ⟨o, e, fun v z => by rw [d] at z; cases z⟩
  keep := fun i h h' st k => st.at fun o e => k it (by simp) o e
  item := by
    intro X hP hw hK hc i pins s σ H E I hf st hg
    subst hP hw hK
    obtain ⟨xs, x, hq, hx⟩ := hg
    obtain ⟨its, rv, p, hz⟩ := I.tuple hq
    obtain ⟨u, hu, ru⟩ := rv.get hx
    obtain ⟨f0, f1, f2, f3, f4, f5⟩ := hf it (by simp)
    refine wpAny_pyNext_tuple_item st (show s.heap.IsTuple a its.toArray from p) (x := u) (by simpa using hu) fun h' st' sb => ?_
    have I1 : Inv X pins σ H { s with heap := h' } := I.turned (t' := s.toks) (fun b o hb e => (sb.2 b hb).trans e) f0 f1 f3 f4 f5
    obtain ⟨o, e, c, d⟩ := id st'
    exact ⟨u, rfl, Vz (s := { s with heap := h' }) e c d (by decide) ⟨x, H, I1, ru, ⟨rfl, fun ys hy => by rw [I.tuple_inj hy hq]; exact hx⟩, st', fun b hb => (hf b hb).1⟩⟩
  done := by
    intro X hP hw hK hc i pins s σ H E I hf st hg
    subst hP hw hK
    obtain ⟨xs, hq, hx⟩ := hg
    obtain ⟨its, rv, p, hz⟩ := I.tuple hq
    obtain ⟨f0, f1, f2, f3, f4, f5⟩ := hf it (by simp)
    have hl := rv.length
    exact wpAny_pyNext_tuple_end (I.ok.hd hc) st (show s.heap.IsTuple a its.toArray from p) (by simp; omega) fun h' eb => ⟨rfl, I.turned (t' := s.toks) (fun b o hb e => eb b o hb e) f0 f1 f3 f4 f5⟩
  self := fun _ _ _ _ _ st h => wpAny_pyIter_tupleiter st h
theorem zam {P : Program} {w : World} {K : PySem.W.Frag} {tg : Expr} (it : Addr) (lo : Int) (n : Nat) : Yi P w K tg (Itr lo n) [it] it (fun i h => IsRangeIter h it (lo + (i : Nat) * 1) ((n : Int) - (i : Nat)) 1) where
  mem := by simp
  obj := fun i h st b hb => by
    have e : b = it := by simpa using hb
    subst e
    exact ⟨_, st, fun v z => by
      have z' : Data.fields _ = Data.cell v := z
      cases z'⟩
  keep := fun i h h' st k => k it (by simp) _ st
  item := by
    intro X hP hw hK hc i pins s σ H E I hf st hg
    subst hP hw hK
    obtain ⟨f0, f1, f2, f3, f4, f5⟩ := hf it (by simp)
    have W := Walks.range (prog := X.prog) (w := X.w) (I.ok.hd hc) it lo 1 n
    refine W.item i s _ _ hg st fun v h' tk hv st' kk => ?_
    obtain ⟨t, rfl⟩ := hv
    have I1 : Inv X pins σ H { s with heap := h', toks := tk } := I.turned (fun b o hb e => kk b o (by simpa using hb) e) f0 f1 f3 f4 f5
    refine ⟨_, rfl, Vz (s := { s with heap := h', toks := tk }) (n := "range_iterator") st' rfl rfl (by decide) ⟨.int (lo + i), H, I1, ⟨t, ?_⟩, ⟨rfl, rfl⟩, st', fun b hb => (hf b hb).1⟩⟩
    rw [Int.mul_one]
  done := by
    intro X hP hw hK hc i pins s σ H E I hf st hg
    subst hP hw hK
    obtain ⟨f0, f1, f2, f3, f4, f5⟩ := hf it (by simp)
    exact wpAny_pyNext_range_end (I.ok.hd hc) st (by have : n <= i := hg; omega) fun h' eb => ⟨rfl, I.turned (t' := s.toks) (fun b o hb e => eb b o hb e) f0 f1 f3 f4 f5⟩
  self := fun _ _ _ _ _ st h => wpAny_pyIter_rangeiter st h
end L2
namespace L2
open PySem PySem.Spec PyProof.Rows
section
variable {X : Cx} {tg : Expr}
def zdP (K : PySem.W.Frag) (tl : TE) : TI := fun σ H R => tl σ H fun x H1 => ∃ a, x = .ref a /\ (∃ xs, yM K H1 a xs) /\ R (Itl K a) H1
def zf5 (K : PySem.W.Frag) (tl : TE) : TI := fun σ H R => tl σ H fun x H1 => ∃ a, x = .ref a /\ (∃ xs, SqT K H1 a xs) /\ R (Itt K a) H1
theorem zeA {l : Expr} {tl : TE} (hl : PE X l tl) : PI X tg l (zdP X.K tl) := by
  intro pins s σ H R I h
  refine zC (hl pins s σ H _ I h) fun v s1 ⟨x, H1, I1, r1, q1⟩ => ?_
  obtain ⟨a, e, ⟨xs, hq⟩, q⟩ := q1
  subst e
  cases r1
  obtain ⟨its, rv, p, hz⟩ := I1.list hq
  refine wpAny_pyIter_list p.isList ?_
  refine ⟨s1.heap.objs.size, [s1.heap.objs.size], _, _, H1, rfl, I1.kept (t' := s1.toks) fun b o e => Heap.get?_push_of_some _ e, zbt a _, ⟨_, Heap.get?_push_size _ rfl, rfl, rfl⟩, fun b hb => ?_, q⟩
  have e : b = s1.heap.objs.size := by simpa using hb
  subst e
  exact I1.fpOk (Nat.le_refl _) (I1.hok.fresh (Nat.le_refl _))
theorem zf6 {l : Expr} {tl : TE} (hl : PE X l tl) : PI X tg l (zf5 X.K tl) := by
  intro pins s σ H R I h
  refine zC (hl pins s σ H _ I h) fun v s1 ⟨x, H1, I1, r1, q1⟩ => ?_
  obtain ⟨a, e, ⟨xs, hq⟩, q⟩ := q1
  subst e
  cases r1
  obtain ⟨its, rv, p, hz⟩ := I1.tuple hq
  refine wpAny_pyIter_tuple (show s1.heap.IsTuple a its.toArray from p) ?_
  refine ⟨s1.heap.objs.size, [s1.heap.objs.size], _, _, H1, rfl, I1.kept (t' := s1.toks) fun b o e => Heap.get?_push_of_some _ e, zal a _, ⟨_, Heap.get?_push_size _ rfl, rfl, rfl⟩, fun b hb => ?_, q⟩
  have e : b = s1.heap.objs.size := by simpa using hb
  subst e
  exact I1.fpOk (Nat.le_refl _) (I1.hok.fresh (Nat.le_refl _))
theorem zcH {pins : List (Addr × Obj)} {σ : St} {H : Hp} {s : Shared} {R : It -> Hp -> Prop} {E : Value -> Shared -> Prop} {lo hi : Int} {t u v : Tok} {tk : Nat} (I : Inv X pins σ H s) (h1 : -(2 ^ 62) <= lo) (h2 : lo < 2 ^ 62) (h3 : -(2 ^ 62) <= hi) (h4 : hi < 2 ^ 62)
    (q : R (Itr lo (hi - lo).toNat) H) : wpAny (model X.prog X.w) X.A (pyIter (.ref s.heap.objs.size)) (PIE X pins σ tg R) E { s with heap := s.heap.push { cls := .type "range", data := .fields #[.int lo t, .int hi u, .int 1 v] }, toks := tk } := by
  refine wpAny_pyIter_range (IsRange.new ..) (small_one h1 h2 h3 h4) ?_
  have I1 : Inv X pins σ H { s with heap := s.heap.push { cls := .type "range", data := .fields #[.int lo t, .int hi u, .int 1 v] }, toks := tk } := I.kept fun b o e => Heap.get?_push_of_some _ e
  refine ⟨(s.heap.push { cls := .type "range", data := .fields #[.int lo t, .int hi u, .int 1 v] }).objs.size, [(s.heap.push { cls := .type "range", data := .fields #[.int lo t, .int hi u, .int 1 v] }).objs.size], _, _, H, rfl,
    I1.kept (t' := tk) fun b o e => Heap.get?_push_of_some _ e, zam _ lo (hi - lo).toNat, ?_, fun b hb => ?_, q⟩
  · have e1 : lo + ((0 : Nat) : Int) * 1 = lo := by simp
    have e2 : (((hi - lo).toNat : Nat) : Int) - ((0 : Nat) : Int) = Builtin.Range.rangeSize lo hi 1 := by rw [rangeSize_one]; split <;> omega
    show IsRangeIter _ _ (lo + ((0 : Nat) : Int) * 1) ((((hi - lo).toNat : Nat) : Int) - ((0 : Nat) : Int)) 1
    rw [e1, e2]
    exact Heap.get?_push_size _ rfl
  · have e : b = (s.heap.push { cls := .type "range", data := .fields #[.int lo t, .int hi u, .int 1 v] }).objs.size := by simpa using hb
    subst e
    exact I1.fpOk (Nat.le_refl _) (I1.hok.fresh (Nat.le_refl _))
def zdQ (ta : TA) : TI := fun σ H R => ta σ H fun vs H1 => ∃ j : Int, vs = [.int j] /\ -(2 ^ 62) <= j /\ j < 2 ^ 62 /\ R (Itr 0 j.toNat) H1
theorem zbu {a : Expr} {ta : TA} {p pos : Pos} (hg : Gl X "range") (hm : X.mg "range" = none) (ha : PA X [a] ta) (hs : starEach [a] X.env = [(false, eval a X.env)] := by rfl) : PI X tg (.Call (.Name "range" p) [a] [] pos) (zdQ ta) := by
  intro pins s σ H R I h
  refine Call_ (Zo I hg hm boot_range (PyProof.Rows.callWith_type1 (zC (ha pos pins s σ H _ I h) fun us s1 ⟨vs, H1, I1, r1, q1⟩ => ?_) hs rfl))
  obtain ⟨j, e, q1, q2, q⟩ := q1
  subst e
  cases r1 with
  | cons r rr =>
    cases rr
    obtain ⟨t, rfl⟩ := r
    exact call_range_1 (zcH I1 (by omega) (by omega) q1 q2 (by simpa using q))
def zf7 (wi : TI) (g : TG) (tb : TS) : TS := fun D σ H => wi σ H fun J H1 => ∃ W : Nat -> Nat -> St -> Hp -> Prop, (∃ m, W 0 m σ H1) /\ ∀ i m σ H, W i m σ H ->
  (J.stop i H /\ D.nx σ H) \/ (J.go i H /\ ∃ N : St -> Hp -> Prop, (∀ σ' H', N σ' H' -> ∃ m', m' < m /\ W (i + 1) m' σ' H') /\ ∀ x H', J.yld i H x H' -> g x σ H' fun σ2 H2 => tb { D with nx := N, ct := N, bk := D.nx } σ2 H2)
def Zp (fp : List Addr) (h : Heap) : List (Addr × Obj) := fp.filterMap fun b => (h.get? b).map fun o => (b, o)
theorem JP {fp : List Addr} {h : Heap} {b : Addr} {o : Obj} (hb : b ∈ fp) (e : h.get? b = some o) : (b, o) ∈ Zp fp h := List.mem_filterMap.mpr ⟨b, hb, by rw [e]; rfl⟩
theorem zbv {fp : List Addr} {h : Heap} {p : Addr × Obj} (hp : p ∈ Zp fp h) : p.1 ∈ fp /\ h.get? p.1 = some p.2 := by
  obtain ⟨b, hb, e⟩ := List.mem_filterMap.mp hp
  cases q : h.get? b with
  | none => rw [q] at e; cases e
  | some o =>
    rw [q] at e
    have e' : (b, o) = p := Option.some.inj e
    subst e'
    exact ⟨hb, q⟩
theorem Inv.pinned {pins : List (Addr × Obj)} {σ : St} {H : Hp} {s : Shared} {fp : List Addr} (I : Inv X pins σ H s) (hf : ∀ b ∈ fp, FpOk X pins H b) (ho : ∀ b ∈ fp, ∃ o, s.heap.get? b = some o /\ ∀ v, o.data ≠ .cell v) : Inv X (pins ++ Zp fp s.heap) σ H s :=
  I.pins_of fun p hp => (List.mem_append.mp hp).elim (fun z => I.pin p (List.mem_append_right _ z)) fun z => by
    obtain ⟨hb, e⟩ := zbv z
    obtain ⟨f0, f1, f2, _⟩ := hf p.1 hb
    obtain ⟨o, e', d⟩ := ho p.1 hb
    rw [e] at e'; cases e'
    exact ⟨e, f0, f1, f2, d⟩
theorem Inv.unpinned {pins pl : List (Addr × Obj)} {σ : St} {H : Hp} {s : Shared} (I : Inv X (pins ++ pl) σ H s) : Inv X pins σ H s := I.pins_of fun p hp => I.pin p (List.mem_append_right _ (List.mem_append_left _ hp))
theorem zf8 {iter : Expr} {body : List Stmt} {wi : TI} {g : TG} {tb : TS} {pos : Pos} (hp : PassesOwn (model X.prog X.w) X.A X.env X.xe) (hc : X.calm = true) (hi : PI X tg iter wi) (hg : PG X tg g) (hb : PSs X body tb)
    (hs : ∀ x, foldedSetIterable iter X.env x = pure x := by intro _; rfl) : PS X (.For tg iter body [] pos) (zf7 wi g tb) := by
  intro pins s σ H D I h
  refine wpAny_For (zC (hi pins s σ H _ I h) fun v s1 h1 => zC h1 fun itv s2 h2 => ?_) hs
  obtain ⟨it, fp, tn, J, H2, e, I2, T, st2, f2, W, ⟨m0, w0⟩, turn⟩ := h2
  subst e
  have stat : ∀ {H' : Hp}, (∀ b ∈ fp, H' b = none) -> ∀ b ∈ fp, FpOk X pins H' b := fun hn b hb => ⟨hn b hb, (f2 b hb).2⟩
  refine codeAny_forLoop_any (fun n s' => ∃ i σ' H', Inv X pins σ' H' s' /\ tn i s'.heap /\ (∀ b ∈ fp, H' b = none) /\ W i n σ' H') ?_ m0 ⟨0, σ, H2, I2, st2, fun b hb => (f2 b hb).1, w0⟩
  rintro n s3 ⟨i, σ3, H3, I3, st3, fr3, w3⟩
  rcases turn i n σ3 H3 w3 with ⟨stop, qn⟩ | ⟨go, N, hN, step⟩
  · refine wpAny_passesOwn hp (zC (T.done X rfl rfl rfl hc i pins s3 σ3 H3 X.xe I3 (stat fr3) st3 stop) fun r s4 ⟨hr, I4⟩ => ?_)
    subst hr
    exact wpAny_execs_nil ⟨σ3, H3, I4, qn⟩
  · refine wpAny_passesOwn hp (zC (T.item X rfl rfl rfl hc i pins s3 σ3 H3 X.xe I3 (stat fr3) st3 go) fun r s4 ⟨u, hr, h4⟩ => ?_)
    subst hr
    refine wpAny_passesOwn hp (zC h4 fun _ s5 ⟨x, H5, I5, r5, y5, st5, fr5⟩ => ?_)
    have I5' := I5.pinned (stat fr5) (T.obj _ _ st5)
    refine wpAny_passesOwn hp (zC (hg _ s5 σ3 H5 x u _ I5' r5 (step x H5 y5)) fun _ s6 ⟨σ6, H6, I6, q6⟩ => ?_)
    refine wpAny_passesOwn hp (zC (hb _ s6 σ6 H6 _ I6 q6) fun f s7 q7 => ?_)
    have again : ∀ {σ7 : St} {H7 : Hp}, Inv X (pins ++ Zp fp s5.heap) σ7 H7 s7 -> N σ7 H7 -> ∃ m, m < n /\ ∃ i σ' H', Inv X pins σ' H' s7 /\ tn i s7.heap /\ (∀ b ∈ fp, H' b = none) /\ W i m σ' H' := fun {σ7 H7} I7 n7 => by
      obtain ⟨m', hm, w7⟩ := hN σ7 H7 n7
      refine ⟨m', hm, i + 1, σ7, H7, I7.unpinned, T.keep _ _ _ st5 fun b hb o e => (I7.pin (b, o) (List.mem_append_right _ (List.mem_append_right _ (JP hb e)))).1, fun b hb => ?_, w7⟩
      obtain ⟨o, e, d⟩ := T.obj _ _ st5 b hb
      exact (I7.pin (b, o) (List.mem_append_right _ (List.mem_append_right _ (JP hb e)))).2.1
    cases f with
    | next => obtain ⟨σ7, H7, I7, n7⟩ := q7; exact again I7 n7
    | cont => obtain ⟨σ7, H7, I7, n7⟩ := q7; exact again I7 n7
    | brk => obtain ⟨σ7, H7, I7, q7⟩ := q7; exact ⟨σ7, H7, I7.unpinned, q7⟩
    | ret v => obtain ⟨x7, σ7, H7, I7, r7, q7⟩ := q7; exact ⟨x7, σ7, H7, I7.unpinned, r7, q7⟩
end
end L2
namespace L2
open PySem PySem.Spec PyProof.Rows
abbrev R2 := V -> V -> Hp -> VK -> Prop
def ye (X : Cx) (f : Value -> Value -> Sem Value) (r : R2) : Prop :=
  ∀ (pins : List (Addr × Obj)) (s : Shared) (σ : St) (H : Hp) (x y : V) (v u : Value) (Q : VK), Inv X pins σ H s -> RelV x v -> RelV y u -> r x y H Q ->
    wpAny (model X.prog X.w) X.A (f v u) (EP X pins σ Q) X.xe s
def yO (X : Cx) (f : Value) (r : List V -> Hp -> VK -> Prop) : Prop :=
  ∀ (pins : List (Addr × Obj)) (s : Shared) (σ : St) (H : Hp) (xs : List V) (us : List Value) (Q : VK), Inv X pins σ H s -> Vals xs us -> r xs H Q ->
    wpAny (model X.prog X.w) X.A (call f us) (EP X pins σ Q) X.xe s
def ziX (X : Cx) (r : V -> Hp -> (Bool -> Hp -> Prop) -> Prop) : Prop :=
  ∀ (pins : List (Addr × Obj)) (s : Shared) (σ : St) (H : Hp) (x : V) (v : Value) (Q : Bool -> Hp -> Prop), Inv X pins σ H s -> RelV x v -> r x H Q ->
    wpAny (model X.prog X.w) X.A (truthy v) (TP X pins σ Q) X.xe s
def Rb (r : R2) (ta tb : TE) : TE := fun σ H Q => ta σ H fun x H1 => tb σ H1 fun y H2 => r x y H2 Q
def rI (C : Int -> Int -> Prop) (g : Int -> Int -> V) : R2 := fun x y H Q => ∃ i j, x = .int i /\ y = .int j /\ C i j /\ Q (g i j) H
def QG (g : Int -> Int -> V) : R2 := fun x y H Q => ∃ i j, x = .int i /\ y = .int j /\ Q (g i j) H
section
variable {X : Cx} {a b c : Expr} {ta tb tc : TE} {pos : Pos}
theorem zcI (ha : PE X a ta) (hb : PE X b tb) {pins : List (Addr × Obj)} {s : Shared} {σ : St} {H : Hp} {R : V -> V -> Hp -> Prop} (I : Inv X pins σ H s)
    (h : ta σ H fun x H1 => tb σ H1 fun y H2 => R x y H2) {Q : Value -> Shared -> Prop} {f : Value -> Value -> Sem Value}
    (hf : ∀ v u s2 x y H2, Inv X pins σ H2 s2 -> RelV x v -> RelV y u -> R x y H2 -> wpAny (model X.prog X.w) X.A (f v u) Q X.xe s2) :
    wpAny (model X.prog X.w) X.A (eval a X.env) (fun v s₁ => wpAny (model X.prog X.w) X.A (eval b X.env) (fun u s₂ => wpAny (model X.prog X.w) X.A (f v u) Q X.xe s₂) X.xe s₁) X.xe s := by
  refine zC (ha pins s σ H _ I h) fun v s1 ⟨x, H1, I1, r1, q1⟩ => ?_
  refine zC (hb pins s1 σ H1 _ I1 q1) fun u s2 ⟨y, H2, I2, r2, q2⟩ => ?_
  exact hf v u s2 x y H2 I2 r1 r2 q2
theorem zdR {op : Operator} {r : R2} (ho : ye X (binaryOp op) r) (ha : PE X a ta) (hb : PE X b tb) : PE X (.BinOp a op b pos) (Rb r ta tb) := by
  intro pins s σ H Q I h
  exact wpAny_BinOp (zcI ha hb I h fun v u s2 x y H2 I2 rx ry q => ho pins s2 σ H2 x y v u Q I2 rx ry q)
theorem opI {f : Value -> Value -> Sem Value} {C : Int -> Int -> Prop} {g : Int -> Int -> Int}
    (rule : ∀ (i j : Int) (t u : Tok) (s : Shared) (Q : Value -> Shared -> Prop) (E : Value -> Shared -> Prop), C i j -> Q (.int (g i j) s.toks) { s with toks := s.toks + 1 } -> wpAny (model X.prog X.w) X.A (f (.int i t) (.int j u)) Q E s) :
    ye X f (rI C fun i j => .int (g i j)) := by
  intro pins s σ H x y v u Q I rx ry h
  obtain ⟨i, j, rfl, rfl, hc, q⟩ := h
  obtain ⟨t, rfl⟩ := rx
  obtain ⟨t', rfl⟩ := ry
  exact rule i j t t' s _ _ hc ⟨.int (g i j), H, I.tok _, ⟨_, rfl⟩, q⟩
theorem zf9 {f : Value -> Value -> Sem Value} {g : Int -> Int -> Int}
    (rule : ∀ (i j : Int) (t u : Tok) (s : Shared) (Q : Value -> Shared -> Prop) (E : Value -> Shared -> Prop), Q (.int (g i j) s.toks) { s with toks := s.toks + 1 } -> wpAny (model X.prog X.w) X.A (f (.int i t) (.int j u)) Q E s) :
    ye X f (QG fun i j => .int (g i j)) := by
  intro pins s σ H x y v u Q I rx ry h
  obtain ⟨i, j, rfl, rfl, q⟩ := h
  obtain ⟨t, rfl⟩ := rx
  obtain ⟨t', rfl⟩ := ry
  exact rule i j t t' s _ _ ⟨.int (g i j), H, I.tok _, ⟨_, rfl⟩, q⟩
theorem zan {f : Value -> Value -> Sem Value} {g : Int -> Int -> Bool}
    (rule : ∀ (i j : Int) (t u : Tok) (s : Shared) (Q : Value -> Shared -> Prop) (E : Value -> Shared -> Prop), Q (.bool (g i j)) s -> wpAny (model X.prog X.w) X.A (f (.int i t) (.int j u)) Q E s) :
    ye X f (QG fun i j => .bl (g i j)) := by
  intro pins s σ H x y v u Q I rx ry h
  obtain ⟨i, j, rfl, rfl, q⟩ := h
  obtain ⟨t, rfl⟩ := rx
  obtain ⟨t', rfl⟩ := ry
  exact rule i j t t' s _ _ ⟨.bl (g i j), H, I, rfl, q⟩
def Us (i j : Int) : Prop := 0 <= j /\ j <= 1000000 /\ i.natAbs < 2 ^ 64
def CMul (i j : Int) : Prop := (-(2 ^ 64) < i /\ i < 2 ^ 64) \/ (-(2 ^ 64) < j /\ j < 2 ^ 64)
theorem CMul.ok {i j : Int} (h : CMul i j) : IntMulOk i j := by
  rcases h with ⟨h1, h2⟩ | ⟨h1, h2⟩
  · exact .of_left (intBits_le_64 h1 h2)
  · exact .of_right (intBits_le_64 h1 h2)
theorem zf_ : ye X (binaryOp .Add) (QG fun i j => .int (i + j)) := zf9 fun _ _ _ _ _ _ _ q => add_int q
theorem zga : ye X (binaryOp .Sub) (QG fun i j => .int (i - j)) := zf9 fun _ _ _ _ _ _ _ q => sub_int q
theorem zgb : ye X (binaryOp .Mult) (rI CMul fun i j => .int (i * j)) := opI fun _ _ _ _ _ _ _ hc q => mul_int q hc.ok
theorem zgc : ye X (binaryOp .Mod) (rI (fun _ j => 0 < j) fun i j => .int (i % j)) := opI fun i j _ _ _ _ _ hc q => by
  have h1 : (0 : Int) < j := hc
  exact mod_int' (by omega) (by rw [Int.fmod_eq_emod_of_nonneg i (by omega)]; exact q)
theorem zgd : ye X (binaryOp .Pow) (rI Us fun i j => .int (i ^ j.toNat)) := opI fun _ _ _ _ _ _ _ hc q => pow_int_small hc.1 hc.2.1 hc.2.2 q
end
def zcJ : V -> V -> Bool
  | .non, .non => true | .non, .int _ => true | .int _, .non => true | .non, .bl _ => true | .bl _, .non => true | .non, .str _ => true | .str _, .non => true
  | .int _, .int _ => true | .bl _, .bl _ => true | .str _, .str _ => true | .byt _, .byt _ => true
  | .int _, .str _ => true | .str _, .int _ => true | .bl _, .str _ => true | .str _, .bl _ => true
  | _, _ => false
def rEq : R2 := fun x y H Q => zcJ x y = true /\ Q (.bl (decide (x = y))) H
def rNe : R2 := fun x y H Q => zcJ x y = true /\ Q (.bl (!decide (x = y))) H
theorem Rc {i j : Int} : decide (V.int i = V.int j) = (i == j) := by
  rw [Bool.eq_iff_iff]
  simp
theorem zbw {i j : Bool} : decide (V.bl i = V.bl j) = (i == j) := by
  rw [Bool.eq_iff_iff]
  simp
theorem Re {i j : Str} : decide (V.str i = V.str j) = (i == j) := by
  rw [Bool.eq_iff_iff]
  simp
theorem Rf {i j : Array UInt8} : decide (V.byt i = V.byt j) = (i.toList == j.toList) := by
  rw [Bool.eq_iff_iff]
  cases i
  cases j
  simp
section
variable {X : Cx} {a b c : Expr} {ta tb tc : TE} {pos : Pos}
theorem zv {pins : List (Addr × Obj)} {σ : St} {H : Hp} {s : Shared} {Q : VK} {k k' : Bool} (I : Inv X pins σ H s) (q : Q (.bl k) H) (e : k = k') : EP X pins σ Q (.bool k') s := by
  subst e
  exact ⟨.bl k, H, I, rfl, q⟩
theorem jh : ye X (compareOp .Eq) rEq := by
  intro pins s σ H x y v u Q I rx ry h
  obtain ⟨hs, q⟩ := h
  cases x with
  | non =>
    cases rx
    cases y with
    | non => cases ry; exact PySem.EqNone.eq_none_none (zv I q (by simp))
    | bl j => cases ry; exact PySem.EqNone.eq_none_bool (zv I q (by simp))
    | int j => obtain ⟨t', rfl⟩ := ry; exact PySem.EqNone.eq_none_int (zv I q (by simp))
    | str j => obtain ⟨t', rfl⟩ := ry; exact PySem.EqNone.eq_none_str (zv I q (by simp))
    | _ => exact absurd (show false = true from hs) Bool.false_ne_true
  | bl i =>
    cases rx
    cases y with
    | non => cases ry; exact PySem.EqNone.eq_bool_none (zv I q (by simp))
    | bl j => cases ry; exact eq_bool (zv I q zbw)
    | str j => obtain ⟨t', rfl⟩ := ry; exact PySem.EqMixed.eq_bool_str (zv I q (by simp))
    | _ => exact absurd (show false = true from hs) Bool.false_ne_true
  | int i =>
    obtain ⟨t, rfl⟩ := rx
    cases y with
    | non => cases ry; exact PySem.EqNone.eq_int_none (zv I q (by simp))
    | int j => obtain ⟨t', rfl⟩ := ry; exact eq_int (zv I q Rc)
    | str j => obtain ⟨t', rfl⟩ := ry; exact PySem.EqMixed.eq_int_str (zv I q (by simp))
    | _ => exact absurd (show false = true from hs) Bool.false_ne_true
  | str i =>
    obtain ⟨t, rfl⟩ := rx
    cases y with
    | non => cases ry; exact PySem.EqNone.eq_str_none (zv I q (by simp))
    | bl j => cases ry; exact PySem.EqMixed.eq_str_bool (zv I q (by simp))
    | int j => obtain ⟨t', rfl⟩ := ry; exact PySem.EqMixed.eq_str_int (zv I q (by simp))
    | str j => obtain ⟨t', rfl⟩ := ry; exact eq_str (zv I q Re)
    | _ => exact absurd (show false = true from hs) Bool.false_ne_true
  | byt i =>
    obtain ⟨t, rfl⟩ := rx
    cases y with
    | byt j => obtain ⟨t', rfl⟩ := ry; exact PySem.W.eq_bytes (zv I q Rf)
    | _ => exact absurd (show false = true from hs) Bool.false_ne_true
  | _ => cases y <;> exact absurd (show false = true from hs) Bool.false_ne_true
theorem YE : ye X (compareOp .NotEq) rNe := by
  intro pins s σ H x y v u Q I rx ry h
  obtain ⟨hs, q⟩ := h
  cases x with
  | non =>
    cases rx
    cases y with
    | non => cases ry; exact PySem.EqNone.ne_none_none (zv I q (by simp))
    | bl j => cases ry; exact PySem.EqNone.ne_none_bool (zv I q (by simp))
    | int j => obtain ⟨t', rfl⟩ := ry; exact PySem.EqNone.ne_none_int (zv I q (by simp))
    | str j => obtain ⟨t', rfl⟩ := ry; exact PySem.EqNone.ne_none_str (zv I q (by simp))
    | _ => exact absurd (show false = true from hs) Bool.false_ne_true
  | bl i =>
    cases rx
    cases y with
    | non => cases ry; exact PySem.EqNone.ne_bool_none (zv I q (by simp))
    | bl j => cases ry; exact ne_bool (zv I q (congrArg not zbw))
    | str j => obtain ⟨t', rfl⟩ := ry; exact PySem.EqMixed.ne_bool_str (zv I q (by simp))
    | _ => exact absurd (show false = true from hs) Bool.false_ne_true
  | int i =>
    obtain ⟨t, rfl⟩ := rx
    cases y with
    | non => cases ry; exact PySem.EqNone.ne_int_none (zv I q (by simp))
    | int j => obtain ⟨t', rfl⟩ := ry; exact ne_int (zv I q (congrArg not Rc))
    | str j => obtain ⟨t', rfl⟩ := ry; exact PySem.EqMixed.ne_int_str (zv I q (by simp))
    | _ => exact absurd (show false = true from hs) Bool.false_ne_true
  | str i =>
    obtain ⟨t, rfl⟩ := rx
    cases y with
    | non => cases ry; exact PySem.EqNone.ne_str_none (zv I q (by simp))
    | bl j => cases ry; exact PySem.EqMixed.ne_str_bool (zv I q (by simp))
    | int j => obtain ⟨t', rfl⟩ := ry; exact PySem.EqMixed.ne_str_int (zv I q (by simp))
    | str j => obtain ⟨t', rfl⟩ := ry; exact ne_str (zv I q (congrArg not Re))
    | _ => exact absurd (show false = true from hs) Bool.false_ne_true
  | byt i =>
    obtain ⟨t, rfl⟩ := rx
    cases y with
    | byt j => obtain ⟨t', rfl⟩ := ry; exact PySem.W.ne_bytes (zv I q (congrArg not Rf))
    | _ => exact absurd (show false = true from hs) Bool.false_ne_true
  | _ => cases y <;> exact absurd (show false = true from hs) Bool.false_ne_true
theorem zhU : ye X (compareOp .Lt) (QG fun i j => .bl (decide (i < j))) := zan fun _ _ _ _ _ _ _ q => lt_int q
theorem zao : ye X (compareOp .LtE) (QG fun i j => .bl (decide (i <= j))) := zan fun _ _ _ _ _ _ _ q => le_int q
theorem zhV : ye X (compareOp .Gt) (QG fun i j => .bl (decide (j < i))) := zan fun _ _ _ _ _ _ _ q => gt_int q
theorem zdT : ye X (compareOp .GtE) (QG fun i j => .bl (decide (j <= i))) := zan fun _ _ _ _ _ _ _ q => ge_int q
theorem VX : ye X (compareOp .Is) (fun x y H Q => y = .non /\ Q (.bl (decide (x = .non))) H) := by
  intro pins s σ H x y v u Q I rx ry h
  obtain ⟨rfl, q⟩ := h
  cases ry
  refine is_none_gen (zv I q ?_)
  cases x <;> first
    | (cases rx; rfl)
    | (obtain ⟨t, rfl⟩ := rx; rfl)
theorem zeB : ye X (compareOp .IsNot) (fun x y H Q => y = .non /\ Q (.bl (!decide (x = .non))) H) := by
  intro pins s σ H x y v u Q I rx ry h
  obtain ⟨rfl, q⟩ := h
  cases ry
  refine isnot_none_gen (zv I q ?_)
  cases x <;> first
    | (cases rx; rfl)
    | (obtain ⟨t, rfl⟩ := rx; rfl)
theorem zH (b : Expr) {op : CmpOp} (h : op ≠ .In := by decide) (h2 : op ≠ .NotIn := by decide) : behindInMarks op b = false := by
  have e1 : (op == CmpOp.In) = false := by cases op <;> first | rfl | exact absurd rfl h
  have e2 : (op == CmpOp.NotIn) = false := by cases op <;> first | rfl | exact absurd rfl h2
  cases b <;> simp [behindInMarks, e1, e2]
theorem zeC {op : CmpOp} {r : R2} (ho : ye X (compareOp op) r) (ha : PE X a ta) (hb : PE X b tb) (hm : behindInMarks op b = false) : PE X (.Compare a [op] [b] pos) (Rb r ta tb) := by
  intro pins s σ H Q I h
  exact wpAny_Compare1 (zcI ha hb I h fun v u s2 x y H2 I2 rx ry q => ho pins s2 σ H2 x y v u Q I2 rx ry q) hm
def zap (t : TE) : TT := fun σ H Q => t σ H fun x H' => ∃ k, x = .bl k /\ Q k H'
theorem zeD {op : CmpOp} {r : R2} (ho : ye X (compareOp op) r) (ha : PE X a ta) (hb : PE X b tb) (hm : behindInMarks op b = false) : PT X (.Compare a [op] [b] pos) (zap (Rb r ta tb)) := by
  intro pins s σ H Q I h
  refine wpAny_isTrue_Compare1 (zC (ha pins s σ H _ I h) fun v s1 ⟨x, H1, I1, r1, q1⟩ => zC (hb pins s1 σ H1 _ I1 q1) fun u s2 ⟨y, H2, I2, r2, q2⟩ =>
    zC (ho pins s2 σ H2 x y v u _ I2 r1 r2 q2) fun c s3 ⟨z, H3, I3, r3, k, e, q3⟩ => ?_) hm
  subst e
  cases r3
  exact wpAny_truthy_bool ⟨H3, I3, q3⟩
def VY (r r' : R2) (ta tb tc : TE) : TE := fun σ H Q => ta σ H fun x H1 => tb σ H1 fun y H2 => r x y H2 fun z H3 => ∃ k, z = .bl k /\
  (if k = true then tc σ H3 fun w' H4 => r' y w' H4 Q else Q (.bl false) H3)
theorem zcK {op op' : CmpOp} {r r' : R2} (ho : ye X (compareOp op) r) (ho' : ye X (compareOp op') r') (ha : PE X a ta) (hb : PE X b tb) (hc : PE X c tc)
    (hm : lastMarks [op, op'] [b, c] = false := by with_unfolding_all rfl) : PE X (.Compare a [op, op'] [b, c] pos) (VY r r' ta tb tc) := by
  intro pins s σ H Q I h
  refine Compare_chain (zC (ha pins s σ H _ I h) fun v s1 ⟨x, H1, I1, r1, q1⟩ => chain_link (zC (hb pins s1 σ H1 _ I1 q1) fun u s2 ⟨y, H2, I2, r2, q2⟩ =>
    zC (ho pins s2 σ H2 x y v u _ I2 r1 r2 q2) fun d s3 ⟨z, H3, I3, r3, k, e, q3⟩ => ?_)) hm
  subst e
  cases r3
  refine wpAny_truthy_bool ?_
  cases k with
  | false => exact ite_ff ⟨.bl false, H3, I3, rfl, q3⟩
  | true => exact ite_tt (chain_last (zC (hc pins s3 σ H3 _ I3 q3) fun w' s4 ⟨z', H4, I4, r4, q4⟩ => ho' pins s4 σ H4 y z' u w' Q I4 r2 r4 q4))
theorem zcL {op op' : CmpOp} {r r' : R2} (ho : ye X (compareOp op) r) (ho' : ye X (compareOp op') r') (ha : PE X a ta) (hb : PE X b tb) (hc : PE X c tc)
    (hm : lastMarks [op, op'] [b, c] = false := by with_unfolding_all rfl) : PT X (.Compare a [op, op'] [b, c] pos) (zap (VY r r' ta tb tc)) := by
  intro pins s σ H Q I h
  refine isTrue_chain (zC (ha pins s σ H _ I h) fun v s1 ⟨x, H1, I1, r1, q1⟩ => test_link (zC (hb pins s1 σ H1 _ I1 q1) fun u s2 ⟨y, H2, I2, r2, q2⟩ =>
    zC (ho pins s2 σ H2 x y v u _ I2 r1 r2 q2) fun d s3 ⟨z, H3, I3, r3, k, e, q3⟩ => ?_)) hm
  subst e
  cases r3
  refine wpAny_truthy_bool ?_
  cases k with
  | false =>
    obtain ⟨k', e', q'⟩ := q3
    cases e'
    exact ite_ff ⟨H3, I3, q'⟩
  | true =>
    refine ite_tt (test_last (zC (hc pins s3 σ H3 _ I3 q3) fun w' s4 ⟨z', H4, I4, r4, q4⟩ => zC (ho' pins s4 σ H4 y z' u w' _ I4 r2 r4 q4) fun d' s5 ⟨z2, H5, I5, r5, k2, e2, q5⟩ => ?_))
    subst e2
    cases r5
    exact wpAny_truthy_bool ⟨H5, I5, q5⟩
def zcM (K : PySem.W.Frag) (x : V) (H : Hp) (k : Bool) : Prop :=
  match x with
  | .non => k = false
  | .bl b => k = b
  | .int i => k = (i != 0)
  | .str y => y.length <= sizeLine /\ k = ((y.length : Int) != 0)
  | .byt y => y.size <= sizeLine /\ k = ((y.size : Int) != 0)
  | .ref p => (∃ xs, yM K H p xs /\ k = !xs.isEmpty) \/ (∃ xs, SqT K H p xs /\ k = !xs.isEmpty) \/ ∃ kvs, H p = some (.dK kvs) /\ k = !kvs.isEmpty
  | _ => False
theorem zaq {κ : Type} {kvs : List (κ × V)} {vs : List (κ × Value)} (r : KV kvs vs) : (!vs.isEmpty) = !kvs.isEmpty := by
  cases r <;> rfl
theorem YF {xs : List V} {its : List Value} (r : Vals xs its) : (!its.toArray.isEmpty) = !xs.isEmpty := by
  cases r <;> simp
theorem QH : (sizeLine : Nat) < 2 ^ 63 := by rw [sizeLine_eq]; decide
theorem zge : ziX X (fun x H Q => ∃ k, zcM X.K x H k /\ Q k H) := by
  intro pins s σ H x v Q I rx h
  obtain ⟨k, e, q⟩ := h
  have hl := QH
  have hs : sizeLine = 16777216 := sizeLine_eq
  cases x with
  | non =>
    cases rx
    have e' : k = false := e
    subst e'
    exact truthy_none ⟨H, I, q⟩
  | bl b =>
    cases rx
    have e' : k = b := e
    subst e'
    exact wpAny_truthy_bool ⟨H, I, q⟩
  | int i =>
    obtain ⟨t, rfl⟩ := rx
    have e' : k = (i != 0) := e
    subst e'
    exact PySem.P.truthy_int ⟨H, I, q⟩
  | str y =>
    obtain ⟨t, rfl⟩ := rx
    obtain ⟨hy, e'⟩ : y.length <= sizeLine /\ k = ((y.length : Int) != 0) := e
    subst e'
    exact PySem.P.truthy_str (by omega) ⟨H, I.tok _, q⟩
  | byt y =>
    obtain ⟨t, rfl⟩ := rx
    obtain ⟨hy, e'⟩ : y.size <= sizeLine /\ k = ((y.size : Int) != 0) := e
    subst e'
    exact PySem.W.truthy_bytes (by omega) ⟨H, I.tok _, q⟩
  | ref p =>
    cases rx
    have e' : (∃ xs, yM X.K H p xs /\ k = !xs.isEmpty) \/ (∃ xs, SqT X.K H p xs /\ k = !xs.isEmpty) \/ ∃ kvs, H p = some (.dK kvs) /\ k = !kvs.isEmpty := e
    rcases e' with ⟨xs, hx, e'⟩ | ⟨xs, hx, e'⟩ | ⟨kvs, hx, e'⟩
    · subst e'
      obtain ⟨its, r, pl, hz⟩ := I.list hx
      have hlen := r.length
      exact wpAny_truthy_list pl.isList (by simp only [List.size_toArray]; omega) ⟨H, I.tok _, by rw [YF r]; exact q⟩
    · subst e'
      obtain ⟨its, r, pl, hz⟩ := I.tuple hx
      have hlen := r.length
      exact truthy_tuple pl (by simp only [List.size_toArray]; omega) ⟨H, I.tok _, by rw [YF r]; exact q⟩
    · subst e'
      obtain ⟨hz, hS, vs, r, m⟩ : kvs.length <= sizeLine /\ (p == sysModules) = false /\ ∃ vs, KV kvs vs /\ s.heap.DictOf (Uo X.prog X.w) p vs := I.hok p _ hx
      have hlen : kvs.length = vs.length := Paired.length r
      exact wpAny_truthy_dict hS m (by omega) ⟨H, I.tok _, by rw [zaq r]; exact q⟩
  | _ => exact (show False from e).elim
theorem zcN (ha : PE X a ta) (he : ∀ whole, isTrue a X.env whole = (do let v ← whole; standAt a.pos; holding [v] (truthy v))) :
    PT X a (fun σ H Q => ta σ H fun x H' => ∃ k, zcM X.K x H' k /\ Q k H') := by
  intro pins s σ H Q I h
  exact isTrue_plain (zC (ha pins s σ H _ I h) fun v s1 ⟨x, H1, I1, r1, q1⟩ => zge pins s1 σ H1 x v Q I1 r1 q1) (he _)
theorem zar : ye X (binaryOp .Add) (fun x y H Q => ∃ i j, x = .str i /\ y = .str j /\ i.length + j.length <= sizeLine /\ Q (.str (i ++ j)) H) := by
  intro pins s σ H x y v u Q I rx ry h
  obtain ⟨i, j, rfl, rfl, hz, q⟩ := h
  obtain ⟨t, rfl⟩ := rx
  obtain ⟨t', rfl⟩ := ry
  exact add_str (fun t' tk => ⟨.str (i ++ j), H, I.tok _, ⟨_, rfl⟩, q⟩) hz
theorem QQ {x : V} {us : List Value} (r : Vals [x] us) : ∃ u, us = [u] /\ RelV x u := by
  cases r with
  | cons r1 r2 => cases r2; exact ⟨_, rfl, r1⟩
theorem zdU {x y : V} {us : List Value} (r : Vals [x, y] us) : ∃ u w', us = [u, w'] /\ RelV x u /\ RelV y w' := by
  cases r with
  | cons r1 r2 =>
    cases r2 with
    | cons r3 r4 => cases r4; exact ⟨_, _, rfl, r1, r3⟩
theorem zbx (hc : X.calm = true) : yO X (.builtin "max") (fun xs H Q => ∃ i j, xs = [.int i, .int j] /\ Q (.int (if j > i then j else i)) H) := by
  intro pins s σ H xs us Q I r h
  obtain ⟨i, j, rfl, q⟩ := h
  obtain ⟨u, w', rfl, ⟨t, rfl⟩, ⟨t', rfl⟩⟩ := zdU r
  refine max_two_ints (I.ok.hd hc) fun h' tk k => ⟨_, H, I.kept k, ?_, q⟩
  by_cases hj : j > i
  · rw [if_pos hj, if_pos hj]; exact ⟨_, rfl⟩
  · rw [if_neg hj, if_neg hj]; exact ⟨_, rfl⟩
theorem zby (hc : X.calm = true) : yO X (.builtin "min") (fun xs H Q => ∃ i j, xs = [.int i, .int j] /\ Q (.int (if j < i then j else i)) H) := by
  intro pins s σ H xs us Q I r h
  obtain ⟨i, j, rfl, q⟩ := h
  obtain ⟨u, w', rfl, ⟨t, rfl⟩, ⟨t', rfl⟩⟩ := zdU r
  refine min_two_ints (I.ok.hd hc) fun h' tk k => ⟨_, H, I.kept k, ?_, q⟩
  by_cases hj : j < i
  · rw [if_pos hj, if_pos hj]; exact ⟨_, rfl⟩
  · rw [if_neg hj, if_neg hj]; exact ⟨_, rfl⟩
theorem zbz : yO X (.type "int") (fun xs H Q => (∃ i, xs = [.int i] /\ Q (.int i) H) \/ ∃ k, xs = [.bl k] /\ Q (.int (if k then 1 else 0)) H) := by
  intro pins s σ H xs us Q I r h
  rcases h with ⟨i, rfl, q⟩ | ⟨k, rfl, q⟩
  · obtain ⟨u, rfl, t, rfl⟩ := QQ r
    exact call_int_int ⟨.int i, H, I, ⟨_, rfl⟩, q⟩
  · obtain ⟨u, rfl, r1⟩ := QQ r
    cases r1
    exact call_int_bool ⟨.int (if k then 1 else 0), H, I.tok _, ⟨_, rfl⟩, q⟩
theorem VZ : yO X (.type "str") (fun xs H Q => ∃ i, xs = [.int i] /\ i.natAbs.log2 < 1920 /\ Q (.str (toString i)) H) := by
  intro pins s σ H xs us Q I r h
  obtain ⟨i, rfl, hz, q⟩ := h
  obtain ⟨u, rfl, t, rfl⟩ := QQ r
  exact PySem.P.str_of_int hz ⟨.str _, H, I.tok _, ⟨_, rfl⟩, q⟩
def zgf (K : PySem.W.Frag) (x : V) (H : Hp) (n : Nat) : Prop :=
  match x with
  | .str y => y.length <= sizeLine /\ n = y.length
  | .byt y => y.size <= sizeLine /\ n = y.size
  | .ref p => (∃ xs, yM K H p xs /\ n = xs.length) \/ ∃ xs, SqT K H p xs /\ n = xs.length
  | _ => False
theorem zcO : yO X (.builtin "len") (fun xs H Q => ∃ x n, xs = [x] /\ zgf X.K x H n /\ Q (.int n) H) := by
  intro pins s σ H xs us Q I r h
  obtain ⟨x, n, rfl, e, q⟩ := h
  obtain ⟨u, rfl, rx⟩ := QQ r
  have hl := QH
  have hs : sizeLine = 16777216 := sizeLine_eq
  cases x with
  | str y =>
    obtain ⟨t, rfl⟩ := rx
    obtain ⟨hy, e'⟩ : y.length <= sizeLine /\ n = y.length := e
    subst e'
    exact len_str (by omega) ⟨.int _, H, I.tok _, ⟨_, rfl⟩, q⟩
  | byt y =>
    obtain ⟨t, rfl⟩ := rx
    obtain ⟨hy, e'⟩ : y.size <= sizeLine /\ n = y.size := e
    subst e'
    exact PySem.W.len_bytes (by omega) ⟨.int _, H, I.tok _, ⟨_, rfl⟩, q⟩
  | ref p =>
    cases rx
    have e' : (∃ xs, yM X.K H p xs /\ n = xs.length) \/ ∃ xs, SqT X.K H p xs /\ n = xs.length := e
    rcases e' with ⟨xs, hx, e'⟩ | ⟨xs, hx, e'⟩
    · subst e'
      obtain ⟨its, r', pl, hz⟩ := I.list hx
      have hlen := r'.length
      exact Calls.call_len_list pl.isList (by simp only [List.size_toArray]; omega) ⟨.int xs.length, H, I.tok _, ⟨_, by simp only [List.size_toArray]; rw [hlen]⟩, q⟩
    · subst e'
      obtain ⟨its, r', pl, hz⟩ := I.tuple hx
      have hlen := r'.length
      exact len_tuple pl (by simp only [List.size_toArray]; omega) ⟨.int xs.length, H, I.tok _, ⟨_, by simp only [List.size_toArray]; rw [hlen]⟩, q⟩
  | _ => exact (show False from e).elim
end
end L2
namespace L2
open PySem PySem.Spec PyProof.Rows
structure ObjM (h : Heap) (x dx C : Addr) (mA : Str -> Option Value) : Prop where
  obj : h.get? x = some (PySem.W.instObj C dx)
  ns : h.Ns1 dx mA
  ne : dx ≠ x
theorem zbA {h : Heap} {dx : Addr} {mA : Str -> Option Value} (n : h.Ns1 dx mA) : ∃ od, h.get? dx = some od /\ ∀ name, PySem.W.lookIn name od = some (mA name) := by
  obtain ⟨o, es, ep, ho, hd, hk, _, hm⟩ := n
  refine ⟨o, ho, fun name => ?_⟩
  have e := hm name
  unfold nsFind findBy at e
  rw [← Array.find?_toList] at e
  unfold PySem.W.lookIn
  rw [hd]
  dsimp only
  split
  · rename_i y q
    rw [q] at e
    exact congrArg some e
  · rename_i q
    rw [q] at e
    have a : es.toList.any (·.refKey) = false := by
      rw [List.any_eq_false]
      intro y hy
      obtain ⟨z, t, hkey⟩ := hk y (Array.mem_toList_iff.mp hy)
      simp [DictEntry.refKey, hkey]
    have a' : ¬ es.toList.any (·.refKey) = true := by rw [a]; exact Bool.false_ne_true
    rw [if_neg a']
    exact congrArg some e
theorem ObjM.look {h : Heap} {x dx C : Addr} {mA : Str -> Option Value} (I : ObjM h x dx C mA) : ∃ od, PySem.W.InstAt h x (PySem.W.instObj C dx) C (some od) /\ ∀ name, PySem.W.lookIn name od = some (mA name) :=
  let ⟨od, ho, hl⟩ := zbA I.ns
  ⟨od, ⟨I.obj, rfl, rfl, ho⟩, hl⟩
section
variable {prog : Program} {w : World} {A : Around} {E : Value -> Shared -> Prop} {s : Shared} {K : PySem.W.Frag} {x dx C f : Addr} {mA : Str -> Option Value} {name : Str} {v : Value}
end
section
variable {P : Program} {w : World} {H H' : Hp} {h h' : Heap} {a C dx : Addr} {fs fs' : List (Str × V)}
theorem zeE (hok : HOk P w H h) (e : H a = some (.ins C dx fs)) : ∃ mA, ObjM h a dx C mA /\ (∀ f, zcz (fs.lookup f) (mA f)) /\ PySem.Within mA (fs.map (·.1)) /\ fs.length <= 1000 /\ H dx = some (.own a) := by
  obtain ⟨d, z, ne, ob, mA, n, r, q⟩ := (show ObjOk P w H h a (.ins C dx fs) from hok a _ e)
  exact ⟨mA, ⟨ob, n, ne⟩, r, q, z, d⟩
end
structure Cls (K : PySem.W.Frag) (C : Addr) : Prop where
  pg : PySem.W.plainGet K C Str.empty = true
  hd : PySem.W.hasDictIn K C = true
  po : PySem.W.plainOver K C = true
  sa : PySem.W.findIn K (.ref C) "__setattr__" = some (some (.builtin "object.__setattr__"))
theorem Cls.get {K : PySem.W.Frag} {C : Addr} (c : Cls K C) (f : Str) : PySem.W.plainGet K C f = true := c.pg
section
variable {X : Cx} {pins : List (Addr × Obj)} {σ : St} {H : Hp} {s : Shared} {a C dx : Addr} {fs : List (Str × V)} {f : Str} {v : V} {A : Around} {E : Value -> Shared -> Prop}
end
section
variable {X : Cx} {o e value : Expr} {f : Str} {pos pos' tpos : Pos} {ta tv : TE}
end
section
variable {X : Cx} {pins : List (Addr × Obj)} {σ : St} {H : Hp} {s : Shared} {A : Around} {E : Value -> Shared -> Prop} {Q : Value -> Shared -> Prop} {c : Value} {b : Bool}
inductive Jd (K : PySem.W.Frag) (H : Hp) : V -> Value -> Prop where
  | non : Jd K H .non (.type "NoneType")
  | bl (x : Bool) : Jd K H (.bl x) (.type "bool")
  | int (i : Int) : Jd K H (.int i) (.type "int")
  | str (x : Str) : Jd K H (.str x) (.type "str")
  | flt (x : UInt64) : Jd K H (.flt x) (.type "float")
  | lst {a : Addr} {xs : List V} (e : H a = some (.lst xs)) : Jd K H (.ref a) (.type "list")
  | frz {a : Addr} {o : Obj} {xs : List V} (e : H a = some (.frz o (.lst xs))) : Jd K H (.ref a) (.type "list")
  | tup {a : Addr} {xs : List V} (e : H a = some (.tup xs)) : Jd K H (.ref a) (.type "tuple")
  | dK {a : Addr} {kvs : List (yP × V)} (e : H a = some (.dK kvs)) : Jd K H (.ref a) (.type "dict")
  | dT {a : Addr} {kvs : List (List yP × V)} (e : H a = some (.dT kvs)) : Jd K H (.ref a) (.type "dict")
  | ins {a C dx : Addr} {fs : List (Str × V)} (e : H a = some (.ins C dx fs)) (cl : Cls K C) (ha : PySem.W.findIn K (.ref C) "__class__" = some (some (.builtin "object.__class__")))
      (hn : PySem.W.specialIn K (.builtin "object.__class__") "__get__" = some (some (.builtin "getset_descriptor.__get__"))) (htk : PySem.W.takesIn K (.builtin "object.__class__") = some true)
      (hm : PySem.W.mroIn K C (.type "object") = some true) : Jd K H (.ref a) (.ref C)
theorem zbB {x : V} {u t : Value} (I : Inv X pins σ H s) (rx : RelV x u) (ty : Jd X.K H x t) (e : PySem.W.kitOne X.K t c = some b) (h : ∀ tk, Q (.bool b) { s with toks := tk }) :
    wpAny (model X.prog X.w) A (call (.builtin "isinstance") [u, c]) Q E s := by
  cases ty with
  | non => cases (show u = Value.none from rx); exact PySem.W.kia_one PySem.W.kitx_none I.kIn True.intro e (fun z => nomatch z) h
  | bl y => cases (show u = Value.bool y from rx); exact PySem.W.kia_one PySem.W.kitx_bool I.kIn True.intro e (fun z => nomatch z) h
  | int i => obtain ⟨t, q⟩ := (show ∃ t, u = Value.int i t from rx); cases q; exact PySem.W.kia_one PySem.W.kitx_int I.kIn True.intro e (fun z => nomatch z) h
  | str y => obtain ⟨t, q⟩ := (show ∃ t, u = Value.str y t from rx); cases q; exact PySem.W.kia_one PySem.W.kitx_str I.kIn True.intro e (fun z => nomatch z) h
  | flt y => obtain ⟨t, q⟩ := (show ∃ t, u = Value.float y t from rx); cases q; exact PySem.W.kia_one PySem.W.kitx_float I.kIn True.intro e (fun z => nomatch z) h
  | @lst a xs ea =>
    cases (show u = Value.ref a from rx)
    obtain ⟨_, _, n, _, h1⟩ := (show ObjOk X.prog X.w H s.heap a (.lst xs) from I.hok a _ ea)
    exact PySem.W.kia_one PySem.W.kitx_list I.kIn ⟨_, h1, rfl⟩ e (fun z => nomatch z) h
  | @frz a ob xs ea =>
    cases (show u = Value.ref a from rx)
    obtain ⟨_, _, _, n, _, h1⟩ := (show ObjOk X.prog X.w H s.heap a (.frz ob (.lst xs)) from I.hok a _ ea)
    exact PySem.W.kia_one PySem.W.kitx_list I.kIn ⟨_, h1, rfl⟩ e (fun z => nomatch z) h
  | @tup a xs ea =>
    cases (show u = Value.ref a from rx)
    obtain ⟨_, _, _, p⟩ := (show ObjOk X.prog X.w H s.heap a (.tup xs) from I.hok a _ ea)
    obtain ⟨o, h1, h2, _⟩ := p
    exact PySem.W.kia_one PySem.W.kitx_tuple I.kIn ⟨o, h1, h2⟩ e (fun z => nomatch z) h
  | @dK a kvs ea =>
    cases (show u = Value.ref a from rx)
    obtain ⟨_, _, vs, _, p⟩ := (show ObjOk X.prog X.w H s.heap a (.dK kvs) from I.hok a _ ea)
    obtain ⟨o, es, ep, h1, h2, _⟩ := p
    exact PySem.W.kia_one PySem.W.kitx_dict I.kIn ⟨o, h1, h2.1⟩ e (fun z => nomatch z) h
  | @dT a kvs ea =>
    cases (show u = Value.ref a from rx)
    obtain ⟨_, _, xs, _, o, es, ep, h1, h2, _⟩ := (show ObjOk X.prog X.w H s.heap a (.dT kvs) from I.hok a _ ea)
    exact PySem.W.kia_one PySem.W.kitx_dict I.kIn ⟨o, h1, h2.1⟩ e (fun z => nomatch z) h
  | @ins a C dx fs ea cl ha hn htk hm =>
    cases (show u = Value.ref a from rx)
    obtain ⟨mA, O, _⟩ := zeE I.hok ea
    obtain ⟨od, J, _⟩ := O.look
    exact PySem.W.kia_one (PySem.W.kitx_own (cl.get _) cl.hd ha hn htk hm) I.kIn J e (fun z => nomatch z) h
end
end L2
namespace L2
open PySem PySem.Spec PyProof.Rows
structure Room (k : Nat) (A : Around) : Prop where
  hd : A.handled = none
  dp : A.depth + 3 * k + 5 < recursionLimit
  un : A.units + 16 * k + 200 < cLine
theorem Room.mono {j k : Nat} {A : Around} (r : Room k A) (h : j <= k) : Room j A := ⟨r.hd, by have := r.dp; omega, by have := r.un; omega⟩
theorem Room.deeper {k : Nat} {A : Around} (r : Room (k + 1) A) (env : Env) : Room k (A.deeper env) :=
  ⟨r.hd, by have := r.dp; show A.depth + 1 + 3 * k + 5 < _; omega, by have := r.un; show A.units + 3 + 16 * k + 200 < _; omega⟩
theorem Room.depth {k : Nat} {A : Around} (r : Room k A) : A.depth < recursionLimit := by have := r.dp; omega
def QR : TA := fun _ H Q => Q [] H
def jV (ta : TE) (tr : TA) : TA := fun σ H Q => ta σ H fun x H1 => tr σ H1 fun xs H2 => Q (x :: xs) H2
section
variable {X : Cx} {e : Expr} {es : List Expr} {te : TE} {t : TA} {pos : Pos}
theorem Ju : PA X [] QR := fun _ _ _ _ H Q I h => Calls.spliced_nil ⟨[], H, I, .nil, h⟩
theorem jd (ha : PE X e te) (hr : PA X es t) (hs : starEach (e :: es) X.env = (false, eval e X.env) :: starEach es X.env := by rfl) : PA X (e :: es) (jV te t) := by
  intro pos pins s σ H Q I h
  rw [hs]
  show wpAny _ _ (spliced ((false, eval e X.env) :: backTo pos (starEach es X.env))) _ _ s
  refine Calls.spliced_cons (zC (ha pins s σ H _ I h) fun u s1 ⟨x, H1, I1, r1, q1⟩ => ?_)
  exact zC (hr pos pins s1 σ H1 _ I1 q1) fun us s2 ⟨xs, H2, I2, r2, q2⟩ => ⟨x :: xs, H2, I2, .cons r1 r2, q2⟩
def zgg (t : TA) : TE := fun σ H Q => t σ H fun xs H1 => xs.length <= sizeLine /\ ∀ p, H1 p = none -> Q (.ref p) (zG H1 p (.tup xs))
def zgh (t : TA) : TE := fun σ H Q => t σ H fun xs H1 => xs.length <= sizeLine /\ ∀ p, H1 p = none -> Q (.ref p) (zG H1 p (.lst xs))
theorem zgi {x1} (h : PA X es t) : PE X (.Tuple es x1 pos) (zgg t) := by
  intro pins s σ H Q I hq
  refine wpAny_Tuple_spliced (zC (h pos pins s σ H _ I hq) fun us s1 ⟨xs, H1, I1, r, z, q⟩ => ⟨by rw [← r.length]; exact z, ?_⟩)
  have hf : H1 s1.heap.objs.size = none := I1.hok.fresh (Nat.le_refl _)
  refine ⟨.ref s1.heap.objs.size, zG H1 s1.heap.objs.size (.tup xs), I1.laid (t' := s1.toks) (fun b u e => Heap.get?_push_of_some _ e) (Nat.le_refl _) ?_, rfl, q _ hf⟩
  exact ⟨z, us, r, ⟨_, Heap.get?_push_size _ rfl, rfl, _, rfl⟩⟩
theorem zgj (h : PA X es t) : PE X (.List es pos) (zgh t) := by
  intro pins s σ H Q I hq
  refine wpAny_List_spliced (zC (h pos pins s σ H _ I hq) fun us s1 ⟨xs, H1, I1, r, z, q⟩ => ⟨by rw [← r.length]; exact z, ?_⟩)
  have hf : H1 s1.heap.objs.size = none := I1.hok.fresh (Nat.le_refl _)
  refine ⟨.ref s1.heap.objs.size, zG H1 s1.heap.objs.size (.lst xs), I1.laid (t' := s1.toks) (fun b u e => Heap.get?_push_of_some _ e) (Nat.le_refl _) ?_, rfl, q _ hf⟩
  exact ⟨z, us, 0, r, Heap.get?_push_size _ rfl⟩
end
abbrev Sp := List V -> Hp -> VK -> XK -> Prop
abbrev Qi := List Env -> Hp -> Shared -> XK -> Value -> Shared -> Prop
structure zas (P : Program) (w : World) (K : PySem.W.Frag) (mg : Str -> Option Value) (base : Heap) (A : Around) (outer : List Env) (s : Shared) (H : Hp) : Prop where
  frames : A.frames = some outer
  mod : Mod K mg base
  bs : ∀ b o, base.get? b = some o -> s.heap.get? b = some o /\ H b = none
  bsz : base.objs.size <= s.heap.objs.size
  funs : s.heap.FunFrames base outer
  frf : ∀ b ∈ Zm outer, H b = none
  hok : HOk P w H s.heap
  bare : AllBare s.gens
def CE (outer : List Env) (P : Program) (w : World) (H : Hp) (s : Shared) (Q : VK) (u : Value) (s' : Shared) : Prop :=
  ∃ v H', s'.os = s.os /\ AllBare s'.gens /\ Un (Zm outer) [] H H' s.heap s'.heap /\ HOk P w H' s'.heap /\ RelV v u /\ Q v H'
def CR (CX : Qi) (outer : List Env) (P : Program) (w : World) (H : Hp) (s : Shared) (Q : VK) (E : XK) (r : Result) (s' : Shared) : Prop :=
  match r with
  | .ok (.ret u) => CE outer P w H s Q u s'
  | .ok _ => False
  | .error e => CX outer H s E e s'
structure FnOk (P : Program) (w : World) (K : PySem.W.Frag) (mg : Str -> Option Value) (base : Heap) (CX : Qi) (k : Nat) (f : Addr) (fd : FuncData) (ps : List Str) (sp : Sp) : Prop where
  len : ∀ vs H Q E, sp vs H Q E -> vs.length = ps.length
  run : ∀ (A : Around) (outer : List Env) (s : Shared) (H : Hp) (args : Args) (us : List Value) (vs : List V) (Q : VK) (E : XK), Room k A -> zas P w K mg base A outer s H -> BindsTo s fd args (ps.zip us) -> Vals vs us -> sp vs H Q E ->
    codeAny (model P w) A (.call (.ref f) args) (CR CX outer P w H s Q E) s
theorem FnOk.mono {P : Program} {w : World} {K : PySem.W.Frag} {mg : Str -> Option Value} {base : Heap} {CX : Qi} {j k : Nat} {f : Addr} {fd : FuncData} {ps : List Str} {sp : Sp} (F : FnOk P w K mg base CX j f fd ps sp) (h : j <= k) :
    FnOk P w K mg base CX k f fd ps sp := ⟨F.len, fun A outer s H args us vs Q E hr => F.run A outer s H args us vs Q E (hr.mono h)⟩
theorem FnOk.imp {P : Program} {w : World} {K : PySem.W.Frag} {mg : Str -> Option Value} {base : Heap} {CX : Qi} {k : Nat} {f : Addr} {fd : FuncData} {ps : List Str} {sp sp' : Sp} (F : FnOk P w K mg base CX k f fd ps sp)
    (h : ∀ vs H Q E, sp' vs H Q E -> sp vs H Q E) : FnOk P w K mg base CX k f fd ps sp' :=
  ⟨fun vs H Q E q => F.len vs H Q E (h _ _ _ _ q), fun A outer s H args us vs Q E hr he hb hv hs => F.run A outer s H args us vs Q E hr he hb hv (h _ _ _ _ hs)⟩
section
variable {X : Cx} {pins : List (Addr × Obj)} {σ : St} {H : Hp} {s s' : Shared}
theorem Inv.env0 (I : Inv X pins σ H s) : zas X.prog X.w X.K X.mg X.base X.A X.stack s H :=
  ⟨I.ok.frames, I.ok.mod, I.bs, Nat.le_trans I.ok.bsz I.sz, I.stack, I.stkFree, I.hok, I.bare⟩
theorem Inv.after {Q : VK} {u : Value} (I : Inv X pins σ H s) (h : CE X.stack X.prog X.w H s Q u s') : EP X pins σ Q u s' := by
  obtain ⟨v, H', os, bare, un, hok, r, q⟩ := h
  obtain ⟨hh, g, d, t, os'⟩ := s'
  obtain rfl : os' = s.os := os
  exact ⟨v, H', I.call (h' := hh) (g' := g) (d' := d) (t' := t) (ch := []) un hok bare (fun b z => absurd z (by simp)), r, q⟩
end
def YG (sp : Sp) (dvs : List V) (E : XK) (t : TA) : TE := fun σ H Q => t σ H fun vs H1 => sp (vs ++ dvs) H1 Q E
def Binds (K : PySem.W.Frag) (fd : FuncData) (ps : List Str) (ds : List Value) : Prop :=
  ∀ (s : Shared) (us : List Value), K.In s.heap -> (us ++ ds).length = ps.length -> BindsTo s fd ⟨us, []⟩ (ps.zip (us ++ ds))
theorem Binds.all {K : PySem.W.Frag} {fd : FuncData} {ps : List Str} (h : ∀ us : List Value, us.length = ps.length -> bindArgs fd ⟨us, []⟩ = pure (ps.zip us)) : Binds K fd ps [] := fun s us _ hl => by
  rw [List.append_nil] at hl ⊢
  exact .of_eq (h us hl)
def V0 (CX : Qi) (X : Cx) (E : XK) : Prop := ∀ (pins : List (Addr × Obj)) (σ : St) (H : Hp) (s : Shared) (e : Value) (s' : Shared), Inv X pins σ H s -> CX X.stack H s E e s' -> X.xe e s'
section
variable {X : Cx} {CX : Qi} {k : Nat} {f C : Addr} {fd : FuncData} {ps : List Str} {sp : Sp} {dvs : List V} {ds : List Value} {E : XK} {x m : Str} {p pos apos : Pos} {e o : Expr} {es : List Expr} {ta : TE} {t : TA}
theorem zgk {pins : List (Addr × Obj)} {σ : St} {H : Hp} {s : Shared} {Q : VK} {us : List Value} {vs : List V} (F : FnOk X.prog X.w X.K X.mg X.base CX k f fd ps sp) (hr : Room k X.A) (hb : Binds X.K fd ps ds) (hd : Vals dvs ds) (hx : V0 CX X E)
    (I : Inv X pins σ H s) (r : Vals vs us) (h : sp (vs ++ dvs) H Q E) : wpAny (model X.prog X.w) X.A (call (.ref f) us) (EP X pins σ Q) X.xe s := by
  have r2 : Vals (vs ++ dvs) (us ++ ds) := r.append hd
  have hl : (us ++ ds).length = ps.length := by rw [← r2.length]; exact F.len _ _ _ _ h
  refine wpAny_call (codeAny_mono (F.run X.A X.stack s H ⟨us, []⟩ (us ++ ds) (vs ++ dvs) Q E hr I.env0 (hb s us I.kIn hl) r2 h) fun r s' hq => ?_)
  cases r with
  | error e => exact hx pins σ H s e s' I hq
  | ok fl =>
    cases fl with
    | ret u => exact I.after hq
    | next => exact False.elim hq
    | brk => exact False.elim hq
    | cont => exact False.elim hq
theorem zeF (F : FnOk X.prog X.w X.K X.mg X.base CX k f fd ps sp) (hr : Room k X.A) (hg : Gl X x) (hm : X.mg x = some (.ref f)) (hk : PySem.W.keepIn X.K (.ref f) = true) (hb : Binds X.K fd ps ds) (hd : Vals dvs ds) (hx : V0 CX X E)
    (ha : PA X (e :: es) t) (hdb : (x == ("__debug__" : Str)) = false := by decide) (he : starEach (e :: es) X.env = (false, eval e X.env) :: starEach es X.env := by rfl) (hpl : (backTo pos (starEach es X.env)).any (·.1) = false := by rfl) :
    PE X (.Call (.Name x p) (e :: es) [] pos) (YG sp dvs E t) := by
  intro pins s σ H Q I h
  refine wpAny_Call_Name_kw (Ra I hg hm ?_ hdb)
  refine PySem.W.callWith_K (h₀ := X.base) I.ok.mod.kin hk (zC (ha pos pins s σ H _ I h) fun us s1 ⟨vs, H1, I1, r, q⟩ => ⟨I1.kIn, ?_⟩) he hpl
  exact zgk F hr hb hd hx I1 r q
end
section
variable {X : Cx} {CX : Qi} {k : Nat} {f C : Addr} {fd : FuncData} {ps ks : List Str} {sp : Sp} {E : XK} {x m : Str} {p pos apos kpos : Pos} {e o : Expr} {es : List Expr} {kws : List Keyword} {te ta : TE} {t tk : TA} {nm : Option Str}
variable {g : List Value -> List Value -> List Value} {gV : List V -> List V -> List V}
end
structure zL (N P : List Str) (sc : Scope) : Prop where
  kind : sc.kind = .function
  co : sc.isCoroutine = false
  gen : sc.isGenerator = false
  nd : N.Nodup
  pre : N.take P.length = P
  par : ∀ x ∈ P, sc.names.lookup x = some .local \/ sc.names.lookup x = some .cell
  nofree : ∀ y ∈ sc.names, y.2 ≠ .free
theorem U0 {kindOf : Str -> Option NameKind} {x : Str} : ∀ {binds : List (Str × Value)} {m : Str -> Option Value}, (∀ v, (x, v) ∉ binds) -> bindL kindOf binds m x = m x
  | [], _, _ => rfl
  | (n, v) :: r, m, h => by
    unfold bindL
    rw [U0 fun w hw => h w (List.mem_cons_of_mem _ hw)]
    split
    · have : x ≠ n := by rintro rfl; exact h v List.mem_cons_self
      simp [this]
    · rfl
theorem U1 {kindOf : Str -> Option NameKind} {x : Str} : ∀ {binds : List (Str × Value)} {m : Str -> Option Value}, (∀ v, (x, v) ∉ binds) -> bindC kindOf binds m x = m x
  | [], _, _ => rfl
  | (n, v) :: r, m, h => by
    unfold bindC
    rw [U1 fun w hw => h w (List.mem_cons_of_mem _ hw)]
    split
    · rfl
    · have : x ≠ n := by rintro rfl; exact h v List.mem_cons_self
      simp [this]
theorem U2 {kindOf : Str -> Option NameKind} {x : Str} {v : Value} : ∀ {P : List Str} {vs : List Value} {i : Nat} {m : Str -> Option Value}, P.Nodup -> P[i]? = some x -> vs[i]? = some v -> kindOf x = some .local ->
    bindL kindOf (P.zip vs) m x = some v
  | [], _, _, _, _, h, _, _ => by simp at h
  | _ :: _, [], _, _, _, _, h, _ => by simp at h
  | p :: P, w :: vs, 0, m, nd, h1, h2, hk => by
    simp at h1 h2; subst h1; subst h2
    show bindL kindOf ((p, w) :: P.zip vs) m p = _
    unfold bindL
    rw [U0 fun v hv => (List.nodup_cons.mp nd).1 (List.of_mem_zip hv).1, if_pos hk]
    simp
  | p :: P, w :: vs, i + 1, m, nd, h1, h2, hk => by
    show bindL kindOf ((p, w) :: P.zip vs) m x = _
    unfold bindL
    exact U2 (i := i) (List.nodup_cons.mp nd).2 (by simpa using h1) (by simpa using h2) hk
theorem U3 {kindOf : Str -> Option NameKind} {x : Str} {v : Value} : ∀ {P : List Str} {vs : List Value} {i : Nat} {m : Str -> Option Value}, P.Nodup -> P[i]? = some x -> vs[i]? = some v -> kindOf x ≠ some .local ->
    bindC kindOf (P.zip vs) m x = some v
  | [], _, _, _, _, h, _, _ => by simp at h
  | _ :: _, [], _, _, _, _, h, _ => by simp at h
  | p :: P, w :: vs, 0, m, nd, h1, h2, hk => by
    simp at h1 h2; subst h1; subst h2
    show bindC kindOf ((p, w) :: P.zip vs) m p = _
    unfold bindC
    rw [U1 fun v hv => (List.nodup_cons.mp nd).1 (List.of_mem_zip hv).1, if_neg hk]
    simp
  | p :: P, w :: vs, i + 1, m, nd, h1, h2, hk => by
    show bindC kindOf ((p, w) :: P.zip vs) m x = _
    unfold bindC
    exact U3 (i := i) (List.nodup_cons.mp nd).2 (by simpa using h1) (by simpa using h2) hk
def start (N : List Str) (vs : List V) : St := vs.map some ++ List.replicate (N.length - vs.length) none
def Yj (CX : Qi) (P : Program) (w : World) (K : PySem.W.Frag) (mg : Str -> Option Value) (base : Heap) (N : List Str) (qual : Str) (scope : Scope) (f : Addr) (cd : Value) (A : Around) (outer : List Env) (s : Shared) (H : Hp) (E : XK) : Cx where
  prog := P
  w := w
  K := K
  mg := mg
  base := base
  A := A.deeper (envOfC qual scope s.heap.objs.size f cd)
  N := N
  s₀ := s
  H₀ := H
  env := envOfC qual scope s.heap.objs.size f cd
  outer := outer
  stack := envOfC qual scope s.heap.objs.size f cd :: outer
  ex := []
  calm := true
  fn := fun _ => true
  pn := []
  xe := fun e s' => wpAny (model P w) (A.deeper (envOfC qual scope s.heap.objs.size f cd)) (leaving (envOfC qual scope s.heap.objs.size f cd) e) (fun _ s'' => CX outer H s E e s'') (fun e' s'' => CX outer H s E e' s'') s'
theorem V1 {sc : Scope} {n : Nat} {x : Str} (h : sc.names.lookup x = some .cell) : ∃ c, (cellsFrom n sc.names []).lookup x = some c := by
  have q := PySem.W.cellsFrom_some sc.names n [] (.inl h)
  exact Option.isSome_iff_exists.mp q
theorem zbC {CX : Qi} {P : Program} {w : World} {K : PySem.W.Frag} {mg : Str -> Option Value} {base : Heap} {N ps : List Str} {qual : Str} {scope : Scope} {f : Addr} {cd : Value} {A : Around} {outer : List Env} {s s1 : Shared} {H : Hp} {E : XK} {us : List Value} {vs : List V}
    (S : zL N ps scope) (hd : A.handled = none) (e0 : zas P w K mg base A outer s H) (hl : vs.length = ps.length) (r : Vals vs us)
    (x : InCallC s s.heap.objs.size (bindL (envOfC qual scope s.heap.objs.size f cd).kindOf (ps.zip us) fun _ => none) (cellsFrom (s.heap.objs.size + 1) scope.names []) (bindC (envOfC qual scope s.heap.objs.size f cd).kindOf (ps.zip us) fun _ => none) s1) :
    Inv (Yj CX P w K mg base N qual scope f cd A outer s H E) [] (start N vs) H s1 := by
  have hpl : ps.length <= N.length := by have := congrArg List.length S.pre; rw [List.length_take] at this; omega
  obtain ⟨h1, tk, rfl, hk⟩ := x.done
  have noA : ∀ b : Addr, b ∉ (Yj CX P w K mg base N qual scope f cd A outer s H E).ex := fun b z => absurd (show b ∈ ([] : List Addr) from z) (by simp)
  refine ⟨⟨e0.mod, S.kind, rfl, rfl, Nat.le_refl _, fun y z c h1 h2 => ?_, fun y hy => ?_, fun y c _ h => ?_, fun _ => hd, Around.frames_deeper e0.frames, .inr ⟨rfl, rfl⟩, fun b z => absurd z (noA b), e0.bs, e0.bsz, fun b _ _ => noA b, fun b z => absurd z (noA b), e0.funs, e0.frf⟩,
    rfl, e0.bare, Un.kept hk, ⟨_, x.toInCall.ns, fun i y v h1 h2 h3 => ?_⟩, fun y c h => ⟨_, x.cell y c h⟩, e0.hok.fresh (Nat.le_refl _), fun y c h => ?_, fun p hp => absurd (show p ∈ ([] : List (Addr × Obj)) from hp) (by simp), e0.hok.kept hk, ?_⟩
  · exact name_of_addr x.apart (PySem.mem_of_lookup h1) (PySem.mem_of_lookup h2)
  · have hy : scope.names.lookup y = some .cell \/ scope.names.lookup y = some .free := hy
    rcases hy with hy | hy
    · exact V1 hy
    · exact absurd rfl (S.nofree _ (PySem.mem_of_lookup hy))
  · exact Nat.le_of_lt (x.above y c (PySem.mem_of_lookup h))
  · have hi : i < vs.length := by
      unfold start at h2
      by_cases hi : i < vs.length
      · exact hi
      · rw [List.getElem?_append_right (by simpa using hi)] at h2
        rw [List.getElem?_replicate] at h2
        split at h2 <;> cases h2
    have ha : vs[i]? = some v := by
      unfold start at h2
      rw [List.getElem?_append_left (by simpa using hi), List.getElem?_map] at h2
      cases e : vs[i]? with
      | none => rw [e] at h2; cases h2
      | some a => rw [e] at h2; cases h2; rfl
    obtain ⟨u, hu, rv⟩ := r.get ha
    have hp : ps[i]? = some y := by
      rw [← S.pre, List.getElem?_take_of_lt (by omega)]; exact h1
    have ndP : ps.Nodup := by rw [← S.pre]; exact S.nd.sublist (List.take_sublist _ _)
    refine ⟨u, rv, ?_⟩
    rcases S.par y (List.mem_of_getElem? hp) with k | k
    · exact .inl ⟨k, U2 ndP hp hu k⟩
    · obtain ⟨c, e⟩ := V1 (n := s.heap.objs.size + 1) k
      refine .inr ⟨.inl k, c, e, ?_⟩
      have q := x.cell y c e
      rw [U3 ndP hp hu (by show scope.names.lookup y ≠ _; rw [k]; decide)] at q
      exact q
  · exact e0.hok.fresh (Nat.le_of_lt (x.above y c (PySem.mem_of_lookup h)))
  · unfold start
    show _ = N.length
    rw [List.length_append, List.length_map, List.length_replicate]
    omega
theorem zhW {CX : Qi} {P : Program} {w : World} {K : PySem.W.Frag} {mg : Str -> Option Value} {base : Heap} {k : Nat} {f : Addr} {name qual : Str} {params : Arguments} {body : List Stmt} {scope : Scope} {dV kV doc pm cdv ct oc : Value} {an od : Option Addr}
    {osl : Array (Option Value)} {N ps : List Str} {sp : Sp} (lk : K.lookup f = some ⟨oc, od, .func (PySem.W.fnOf name qual params body scope dV kV doc pm an cdv ct), osl⟩) (hcd : PySem.W.codeIn K cdv qual = true) (S : zL N ps scope)
    (len : ∀ vs H Q E, sp vs H Q E -> vs.length = ps.length)
    (hbody : ∀ (A : Around) (outer : List Env) (s : Shared) (H : Hp) (vs : List V) (Q : VK) (E : XK), Room k (A.deeper (envOfC qual scope s.heap.objs.size f cdv)) -> sp vs H Q E ->
      ∃ t, PSs (Yj CX P w K mg base N qual scope f cdv A outer s H E) body t /\ t { nx := fun _ H' => Q .non H', rt := Q } (start N vs) H) :
    FnOk P w K mg base CX (k + 1) f (PySem.W.fnOf name qual params body scope dV kV doc pm an cdv ct) ps sp := by
  refine ⟨len, fun A outer s H args us vs Q E hr e0 hb r hsp => ?_⟩
  have hl := len _ _ _ _ hsp
  have KX : K.In s.heap := e0.mod.kin.keeps fun b o e => (e0.bs b o e).1
  have lim : s.heap.NoLimit := e0.mod.nolimit.keeps fun b o e => (e0.bs b o e).1
  have hkind : ∀ y ∈ ps.zip us, scope.names.lookup y.1 = some .local \/ (scope.names.lookup y.1 = some .cell /\ ((cellsFrom (s.heap.objs.size + 1) scope.names []).lookup y.1).isSome = true) := fun ⟨n, v⟩ hy => by
    rcases S.par n (List.of_mem_zip hy).1 with q | q
    · exact .inl q
    · exact .inr ⟨q, PySem.W.cellsFrom_some _ _ _ (.inl q)⟩
  refine codeAny_call_function hr.depth (KX _ _ lk) rfl S.co S.gen rfl (PySem.W.codeRec_of KX hcd) (hb _ _ _ _ ?_)
  refine wpAny_newFunctionEnv_cells S.kind hkind fun env he s1 x => ?_
  subst he
  refine ⟨lim.keeps x.toInCall.keep, codeAny_func ?_⟩
  obtain ⟨t, ht, hq⟩ := hbody A outer s H vs Q E (hr.deeper _) hsp
  have I : Inv (Yj CX P w K mg base N qual scope f cdv A outer s H E) [] (start N vs) H s1 := zbC S hr.hd e0 hl r x
  refine wpAny_mono (ht [] s1 (start N vs) H _ I hq) (fun fl s' hs => ?_) fun e s' hs => hs
  have fin : ∀ {σ' : St} {H' : Hp} {v : V} {u : Value}, Inv (Yj CX P w K mg base N qual scope f cdv A outer s H E) [] σ' H' s' -> RelV v u -> Q v H' -> CE outer P w H s Q u s' :=
    fun {σ' H' v u} J rv q => ⟨v, H', J.os, J.bare, J.base, J.hok, rv, q⟩
  cases fl with
  | ret u =>
    obtain ⟨v, σ', H', J, rv, q⟩ := hs
    exact fin J rv q
  | next =>
    obtain ⟨σ', H', J, q⟩ := hs
    exact fin (v := V.non) (u := Value.none) J rfl q
  | brk =>
    obtain ⟨_, _, _, q⟩ := hs
    exact False.elim q
  | cont =>
    obtain ⟨_, _, _, q⟩ := hs
    exact False.elim q
end L2
namespace L2
open PySem PySem.Spec PyProof.Rows
section
variable {X : Cx} {x : Str} {p pos : Pos} {e : Expr} {es : List Expr} {t : TA} {id T : String} {r : List V -> Hp -> VK -> Prop}
def tCB (r : List V -> Hp -> VK -> Prop) (t : TA) : TE := fun σ H Q => t σ H fun vs H1 => r vs H1 Q
theorem V2 (hc : yO X (.builtin id) r) (hg : Gl X x) (hm : X.mg x = none) (hv : bootBuiltins x = some (.builtin id)) (ha : PA X (e :: es) t) (hn : x ≠ "__name__" := by decide) (hdb : (x == ("__debug__" : Str)) = false := by decide)
    (he : starEach (e :: es) X.env = (false, eval e X.env) :: starEach es X.env := by rfl) (hpl : (backTo pos (starEach es X.env)).any (·.1) = false := by rfl) : PE X (.Call (.Name x p) (e :: es) [] pos) (tCB r t) := by
  intro pins s σ H Q I h
  refine wpAny_Call_Name_kw (Zo I hg hm hv ?_ hn hdb)
  exact PyProof.Rows.callWith_builtin1 (zC (ha pos pins s σ H _ I h) fun us s1 ⟨vs, H1, I1, r1, q1⟩ => hc pins s1 σ H1 vs us Q I1 r1 q1) he hpl
theorem U4 (hc : yO X (.type T) r) (hg : Gl X x) (hm : X.mg x = none) (hv : bootBuiltins x = some (.type T)) (ha : PA X (e :: es) t) (hn : x ≠ "__name__" := by decide) (hdb : (x == ("__debug__" : Str)) = false := by decide)
    (he : starEach (e :: es) X.env = (false, eval e X.env) :: starEach es X.env := by rfl) (hpl : (backTo pos (starEach es X.env)).any (·.1) = false := by rfl) : PE X (.Call (.Name x p) (e :: es) [] pos) (tCB r t) := by
  intro pins s σ H Q I h
  refine wpAny_Call_Name_kw (Zo I hg hm hv ?_ hn hdb)
  exact PyProof.Rows.callWith_type1 (zC (ha pos pins s σ H _ I h) fun us s1 ⟨vs, H1, I1, r1, q1⟩ => hc pins s1 σ H1 vs us Q I1 r1 q1) he hpl
end
end L2
namespace HT
open PySem PyProof.Rows
section
open PySem.SeqAt
open PySem.AutoSeq1 (wpAny_loadPart')
open PySem.MeetsSeq PySem.MeetsSeq2 PySem.MeetsSeq3
end
section
variable {prog : Program} {w : World} {A : Around} {E : Value -> Shared -> Prop} {s : Shared}
def sIx (n d : Nat) : Option Int -> Nat
  | none => d
  | some v => if v < 0 then (v + (n : Int)).toNat else min v.toNat n
theorem zgl (n d : Nat) (hd : d <= n) (o : Option Int) : sIx n d o <= n := by
  cases o with
  | none => exact hd
  | some v =>
    show (if v < 0 then (v + (n : Int)).toNat else min v.toNat n) <= n
    by_cases hv : v < 0
    · rw [if_pos hv]; omega
    · rw [if_neg hv]; exact Nat.min_le_right _ _
theorem Rg (v : Int) (n d : Nat) : (if v < 0 then max (v + (n : Int)) 0 else min v (n : Int)) = ((sIx n d (some v) : Nat) : Int) := by
  show (if v < 0 then max (v + (n : Int)) 0 else min v (n : Int)) = (((if v < 0 then (v + (n : Int)).toNat else min v.toNat n) : Nat) : Int)
  by_cases hv : v < 0
  · simp only [if_pos hv]; omega
  · simp only [if_neg hv]; omega
theorem zat (lo hi : Option Int) (n : Nat) : Builtin.Slice.sliceAdjust lo hi 1 (n : Int) = (((sIx n 0 lo : Nat) : Int), ((sIx n n hi : Nat) : Int)) := by
  have h1 : ¬ ((1 : Int) < 0) := by omega
  unfold Builtin.Slice.sliceAdjust
  simp only [h1, if_false]
  refine Prod.ext ?_ ?_
  · cases lo with
    | none => rfl
    | some v => exact Rg v n 0
  · cases hi with
    | none => rfl
    | some v => exact Rg v n n
theorem zau (i j : Nat) : Builtin.Slice.slicePlaces (i : Int) (j : Int) 1 = j - i := by
  unfold Builtin.Slice.slicePlaces
  have h1 : (1 : Int) > 0 := by omega
  simp only [h1, if_true, Int.ediv_one]
  split <;> omega
theorem YH {v : Value} {o : Option Int} {Q : Option Int -> Shared -> Prop} (p : IsPart v o) (h : Q o s) : wpAny (model prog w) A (Builtin.Slice.slicePartIndex v) Q E s := by
  cases p with
  | none => exact slicePart_none h
  | int i t => exact slicePart_int h
theorem Yk {sl : Addr} {vl vu : Value} {lo hi : Option Int} {n : Nat} {Q : Int × Int × Nat -> Shared -> Prop} (hs : s.heap.IsSliceOf sl vl vu .none) (pl : IsPart vl lo) (pu : IsPart vu hi)
    (h : Q (((sIx n 0 lo : Nat) : Int), 1, sIx n n hi - sIx n 0 lo) s) : wpAny (model prog w) A (Builtin.Slice.sliceApplied (.ref sl) (pure (n : Int))) Q E s := by
  obtain ⟨os, hos, hcs, hds⟩ := id hs
  unfold Builtin.Slice.sliceApplied Builtin.Slice.sliceFields
  refine wpAny_bind (wpAny_bind (wpAny_field hos hds (x := vl) rfl (wpAny_bind (wpAny_field hos hds (x := vu) rfl (wpAny_bind (wpAny_field hos hds (x := .none) rfl (wpAny_pure ?_)))))))
  refine wpAny_bind (slicePart_none ?_)
  show wpAny _ _ (if ((1 : Int) == 0) = true then _ else _) _ _ s
  rw [if_neg (by decide)]
  refine wpAny_bind (YH pl (wpAny_bind (YH pu (wpAny_bind (wpAny_pure ?_)))))
  show wpAny _ _ (match Builtin.Slice.sliceAdjust lo hi 1 (n : Int) with | (lo, hi) => pure (lo, (1 : Int), Builtin.Slice.slicePlaces lo hi 1)) _ _ s
  rw [zat lo hi n]
  show wpAny _ _ (pure (((sIx n 0 lo : Nat) : Int), (1 : Int), Builtin.Slice.slicePlaces ((sIx n 0 lo : Nat) : Int) ((sIx n n hi : Nat) : Int) 1)) _ _ s
  rw [zau]
  exact wpAny_pure h
theorem zcP (xs : Array Value) (i k : Nat) : ((List.range k).filterMap fun (m : Nat) => xs[((i : Int) + (m : Int) * 1).toNat]?).toArray = ((xs.toList.drop i).take k).toArray := by
  have e : (fun (m : Nat) => xs[((i : Int) + (m : Int) * 1).toNat]?) = fun m => xs[i + m]? := by
    funext m
    have : ((i : Int) + (m : Int) * 1).toNat = i + m := by omega
    rw [this]
  rw [e]
  have := pick_run xs i k
  rw [List.filterMap_map] at this
  have e2 : ((fun x => xs[x]?) ∘ fun x => i + x) = fun m => xs[i + m]? := rfl
  rw [e2] at this
  rw [this]
theorem getItem_tuple_cut {t sl : Addr} {items : Array Value} {vl vu : Value} {lo hi : Option Int} {Q : Value -> Shared -> Prop} (ht : IsTup s.heap t items) (hs : s.heap.IsSliceOf sl vl vu .none) (pl : IsPart vl lo) (pu : IsPart vu hi)
    (hw : ¬ (sIx items.size 0 lo = 0 /\ sIx items.size items.size hi = items.size))
    (h : Q (.ref s.heap.objs.size) { s with heap := s.heap.push { cls := .type "tuple", data := .seq ((items.toList.drop (sIx items.size 0 lo)).take (sIx items.size items.size hi - sIx items.size 0 lo)).toArray } })
    (hsz : items.size <= sizeLine) : wpAny (model prog w) A (getItem (.ref t) (.ref sl)) Q E s := by
  have htake : sizeOk (.seq ((items.toList.drop (sIx items.size 0 lo)).take (sIx items.size items.size hi - sIx items.size 0 lo)).toArray) := by
    show ((items.toList.drop (sIx items.size 0 lo)).take (sIx items.size items.size hi - sIx items.size 0 lo)).toArray.size <= sizeLine
    rw [List.size_toArray, List.length_take, List.length_drop, Array.length_toList]
    omega
  have hj : sIx items.size items.size hi <= items.size := zgl _ _ (Nat.le_refl _) hi
  obtain ⟨os, hos, hcs, hds⟩ := id hs
  have hTs : s.TypeIs (.ref sl) "slice" := ⟨os, hos, hcs⟩
  unfold getItem
  try with_reducible refine wpAny_holding ?_
  first | refine wpAny_bind (wpAny_pure ?_) | skip
  refine wpAny_bind (wpAny_sequenceKey ht.typeIs (by decide) ?_)
  refine wpAny_bind (wpAny_callSpecial?_slot (name := Str.ofString "__getitem__") ht.typeIs PyProof.Rows.slot_tuple_getitem
    (wpAny_call_entry PyProof.Rows.slot_tuple_getitem ht.typeIs entry_tuple_getitem ?_ (args_tuple_getitem _ _)))
  show wpAny _ _ (Builtin.Tuple.tupleItemsOf (.ref t) >>= _) _ _ s
  refine wpAny_bind (tupleItemsOf_ ht ?_)
  refine wpAny_bind (wpAny_typeOf hTs ?_)
  rw [if_pos (by decide)]
  refine wpAny_bind (Yk hs pl pu ?_)
  have hno : ¬ ((((sIx items.size 0 lo : Nat) : Int) == 0 && (1 : Int) == 1 && (sIx items.size items.size hi - sIx items.size 0 lo) == items.size) = true) := by
    intro q
    rw [Bool.and_eq_true, Bool.and_eq_true] at q
    have q1 : ((sIx items.size 0 lo : Nat) : Int) = 0 := eq_of_beq q.1.1
    have q2 : sIx items.size items.size hi - sIx items.size 0 lo = items.size := eq_of_beq q.2
    exact hw ⟨by omega, by omega⟩
  show wpAny _ _ (if (((sIx items.size 0 lo : Nat) : Int) == 0 && (1 : Int) == 1 && (sIx items.size items.size hi - sIx items.size 0 lo) == items.size) = true then _ else _) _ _ s
  rw [if_neg hno, zcP]
  first
    | exact wpAny_bind (m := Builtin.Tuple.tupleExact _) (wpAny_newObj_type (wpAny_pure ⟨_, rfl, wpAny_pure h⟩) htake)
    | exact wpAny_bind (m := Builtin.Tuple.tupleExact _) (wpAny_newObj_type (wpAny_bind (wpAny_pure (wpAny_pure ⟨_, rfl, wpAny_pure h⟩))) htake)
    | exact wpAny_bind (wpAny_bind (m := Builtin.Tuple.tupleExact _) (wpAny_newObj_type (wpAny_pure (wpAny_pure ⟨_, rfl, wpAny_pure h⟩)) htake))
    | exact wpAny_bind (wpAny_bind (m := Builtin.Tuple.tupleExact _) (wpAny_newObj_type (wpAny_pure ⟨_, rfl, wpAny_pure h⟩) htake))
end
end HT
namespace L2
open PySem PySem.Spec PyProof.Rows
abbrev TO := St -> Hp -> (Option Int -> Hp -> Prop) -> Prop
def PO (X : Cx) (e : Option Expr) (t : TO) : Prop :=
  ∀ (pins : List (Addr × Obj)) (s : Shared) (σ : St) (H : Hp) (Q : Option Int -> Hp -> Prop), Inv X pins σ H s -> t σ H Q ->
    wpAny (model X.prog X.w) X.A (evalPart e X.env) (fun u s' => ∃ o H', Inv X pins σ H' s' /\ IsPart u o /\ Q o H') X.xe s
def Rh : TO := fun _ H Q => Q none H
def zdV (t : TE) : TO := fun σ H Q => t σ H fun x H1 => ∃ i, x = .int i /\ Q (some i) H1
section
variable {X : Cx} {e : Expr} {te : TE} {lo hi : Option Expr} {tl th : TO} {pos p2 : Pos}
theorem zeG : PO X none Rh := by
  intro pins s σ H Q I h
  rw [evalPart_none]
  exact wpAny_pure ⟨none, H, I, .none, h⟩
theorem zeH (h : PE X e te) : PO X (some e) (zdV te) := by
  intro pins s σ H Q I hw
  rw [evalPart_some]
  refine zC (h pins s σ H _ I hw) fun u s1 ⟨x, H1, I1, r1, q1⟩ => ?_
  obtain ⟨i, rfl, q⟩ := q1
  obtain ⟨t, rfl⟩ := r1
  exact ⟨some i, H1, I1, .int i t, q⟩
def SlR (X : Cx) (r : V -> Option Int -> Option Int -> Hp -> VK -> Prop) : Prop :=
  ∀ (pins : List (Addr × Obj)) (s : Shared) (σ : St) (H : Hp) (x : V) (v vl vu : Value) (lo hi : Option Int) (sl : Addr) (Q : VK), Inv X pins σ H s -> RelV x v -> s.heap.IsSliceOf sl vl vu .none -> IsPart vl lo -> IsPart vu hi -> r x lo hi H Q ->
    ∃ T id, typeLookup (.type T) "__getitem__" = pure (some (.builtin id)) /\ s.TypeIs v T /\ wpAny (model X.prog X.w) X.A (getItem v (.ref sl)) (EP X pins σ Q) X.xe s
def tSl (r : V -> Option Int -> Option Int -> Hp -> VK -> Prop) (te : TE) (tl th : TO) : TE := fun σ H Q => te σ H fun x H1 => tl σ H1 fun l H2 => th σ H2 fun u H3 => r x l u H3 Q
theorem V3 {r : V -> Option Int -> Option Int -> Hp -> VK -> Prop} (hr : SlR X r) (he : PE X e te) (hl : PO X lo tl) (hu : PO X hi th) : PE X (.Subscript e (.Slice lo hi none p2) pos) (tSl r te tl th) := by
  intro pins s σ H Q I h
  refine Subscript_ (zC (he pins s σ H _ I h) fun v s1 ⟨x, H1, I1, r1, q1⟩ => ?_)
  refine wpAny_Slice (zC (hl pins s1 σ H1 _ I1 q1) fun vl s2 ⟨l, H2, I2, pl, q2⟩ => zC (hu pins s2 σ H2 _ I2 q2) fun vu s3 ⟨u, H3, I3, pu, q3⟩ => ?_)
  rw [evalPart_none]
  refine wpAny_pure ?_
  have I4 : Inv X pins σ H3 { s3 with heap := s3.heap.push { cls := .type "slice", data := .fields #[vl, vu, .none] } } := I3.kept (t' := s3.toks) fun b ob q => Heap.get?_push_of_some _ q
  obtain ⟨T, id, hT, ht, hg⟩ := hr pins { s3 with heap := s3.heap.push { cls := .type "slice", data := .fields #[vl, vu, .none] } } σ H3 x v vl vu l u s3.heap.objs.size Q I4 r1 (Heap.IsSliceOf.new ..) pl pu q3
  show wpAny (model X.prog X.w) X.A (subscriptTail e (.Slice lo hi none p2) v (.ref s3.heap.objs.size)) (EP X pins σ Q) X.xe { s3 with heap := s3.heap.push { cls := .type "slice", data := .fields #[vl, vu, .none] } }
  exact tail_any (ops := [.ref s3.heap.objs.size, v]) ht hT hg (by with_unfolding_all rfl)
def Zq (xs : List V) (lo hi : Option Int) : List V := (xs.drop (HT.sIx xs.length 0 lo)).take (HT.sIx xs.length xs.length hi - HT.sIx xs.length 0 lo)
theorem Z8 (xs : List V) (lo hi : Option Int) : (Zq xs lo hi).length <= xs.length := by
  unfold Zq
  rw [List.length_take, List.length_drop]
  omega
def zgo (K : PySem.W.Frag) : V -> Option Int -> Option Int -> Hp -> VK -> Prop := fun x lo hi H Q => ∃ a xs, x = .ref a /\ SqT K H a xs /\
  ¬ (HT.sIx xs.length 0 lo = 0 /\ HT.sIx xs.length xs.length hi = xs.length) /\ ∀ p, H p = none -> Q (.ref p) (zG H p (.tup (Zq xs lo hi)))
theorem zgp : SlR X (zgo X.K) := by
  intro pins s σ H x v vl vu lo hi sl Q I rx hs pl pu h
  obtain ⟨a, xs, rfl, hx, hw, q⟩ := h
  cases rx
  obtain ⟨its, r, ht, hz⟩ := I.tuple hx
  have hlen : its.toArray.size = xs.length := by rw [List.size_toArray]; exact r.length.symm
  refine ⟨"tuple", _, PyProof.Rows.slot_tuple_getitem.lookup, ht.typeIs, ?_⟩
  refine HT.getItem_tuple_cut ht hs pl pu (by rw [hlen]; exact hw) ?_ (by rw [hlen]; exact hz)
  rw [hlen]
  refine ⟨.ref s.heap.objs.size, _, I.laid (t' := s.toks) (o := .tup (Zq xs lo hi)) (fun b ob q => Heap.get?_push_of_some _ q) (Nat.le_refl _) ?_, rfl, q _ (I.hok.fresh (Nat.le_refl _))⟩
  exact ⟨Nat.le_trans (Z8 xs lo hi) hz, _, (r.drop (HT.sIx xs.length 0 lo)).take (HT.sIx xs.length xs.length hi - HT.sIx xs.length 0 lo), IsTup.new _ _⟩
end
end L2
namespace L2
open PySem PySem.Spec PyProof.Rows
def jx (n : Nat) (i : Int) : Option Nat := if 0 <= i then (if i < n then some i.toNat else none) else if -(n : Int) <= i then some (i + n).toNat else none
def YI {α : Type} (xs : List α) (i : Int) : Option α := (jx xs.length i).bind fun j => xs[j]?
theorem Ri {n : Nat} {i : Int} {j : Nat} (h : jx n i = some j) : seqIndex? i n = some j /\ j < n /\ -(n : Int) <= i /\ i < n := by
  unfold jx at h
  by_cases h0 : 0 <= i
  · rw [if_pos h0] at h
    by_cases h1 : i < n
    · rw [if_pos h1] at h
      have e : i.toNat = j := Option.some.inj h
      exact ⟨by rw [seqIndex_of h0 h1, e], by omega, by omega, h1⟩
    · rw [if_neg h1] at h; cases h
  · rw [if_neg h0] at h
    by_cases h1 : -(n : Int) <= i
    · rw [if_pos h1] at h
      have e : (i + n).toNat = j := Option.some.inj h
      exact ⟨by rw [seqIndex_neg (by omega) h1, e], by omega, h1, by omega⟩
    · rw [if_neg h1] at h; cases h
theorem Ut {α : Type} {xs : List α} {i : Int} {v : α} (h : YI xs i = some v) : ∃ j, seqIndex? i xs.length = some j /\ xs[j]? = some v /\ j < xs.length /\ -(xs.length : Int) <= i /\ i < xs.length := by
  unfold YI at h
  cases e : jx xs.length i with
  | none => rw [e] at h; cases h
  | some j =>
    rw [e] at h
    obtain ⟨h1, h2, h3, h4⟩ := Ri e
    exact ⟨j, h1, h, h2, h3, h4⟩
def ZN (b : Expr) : Prop := ∀ o i, subscripted b false o i = operate [o, i] (getItem o i)
def IxR (X : Cx) (r : R2) : Prop :=
  ∀ (value slice : Expr) (pins : List (Addr × Obj)) (s : Shared) (σ : St) (H : Hp) (x y : V) (v u : Value) (Q : VK), Inv X pins σ H s -> RelV x v -> RelV y u -> r x y H Q ->
    subscripted slice false v u = operate [v, u] (getItem v u) -> wpAny (model X.prog X.w) X.A (subscriptTail value slice v u) (EP X pins σ Q) X.xe s
def MtR (X : Cx) (id : String) (r : V -> List V -> Hp -> VK -> Prop) : Prop :=
  ∀ (pins : List (Addr × Obj)) (s : Shared) (σ : St) (H : Hp) (x : V) (xs : List V) (v : Value) (us : List Value) (Q : VK), Inv X pins σ H s -> RelV x v -> Vals xs us -> r x xs H Q ->
    wpAny (model X.prog X.w) X.A (call (.builtin id) (v :: us)) (EP X pins σ Q) X.xe s
section
variable {X : Cx} {a b : Expr} {ta tb : TE} {pos : Pos}
theorem IxR.or {r r' : R2} (h : IxR X r) (h' : IxR X r') : IxR X (fun x y H Q => r x y H Q \/ r' x y H Q) := by
  intro value slice pins s σ H x y v u Q I rx ry q hs
  rcases q with q | q
  · exact h value slice pins s σ H x y v u Q I rx ry q hs
  · exact h' value slice pins s σ H x y v u Q I rx ry q hs
theorem zdW {r : R2} (hr : IxR X r) (ha : PE X a ta) (hb : PE X b tb) (hs : ZN b) : PE X (.Subscript a b pos) (Rb r ta tb) := by
  intro pins s σ H Q I h
  exact Subscript_ (zcI ha hb I h fun v u s2 x y H2 I2 rx ry q => hr a b pins s2 σ H2 x y v u Q I2 rx ry q (hs _ _))
def zcQ (K : PySem.W.Frag) : R2 := fun x y H Q => ∃ p xs i v, x = .ref p /\ y = .int i /\ yM K H p xs /\ YI xs i = some v /\ Q v H
def zcR (K : PySem.W.Frag) : R2 := fun x y H Q => ∃ p xs i v, x = .ref p /\ y = .int i /\ SqT K H p xs /\ YI xs i = some v /\ Q v H
def zcS : R2 := fun x y H Q => ∃ z i c, x = .str z /\ y = .int i /\ z.length <= sizeLine /\ YI z.cps.toList i = some c /\ Q (.str ⟨#[c]⟩) H
theorem ix_list : IxR X (zcQ X.K) := by
  intro value slice pins s σ H x y v u Q I rx ry h hs
  obtain ⟨p, xs, i, z, rfl, rfl, hq, he, q⟩ := h
  cases rx
  obtain ⟨t, rfl⟩ := ry
  obtain ⟨its, r, pl, hz⟩ := I.list hq
  obtain ⟨j, h1, h2, h3, h4, h5⟩ := Ut he
  obtain ⟨w, ew, rw'⟩ := r.get h2
  have hl := r.length
  have hn := QH
  have fin : EP X pins σ Q w s := ⟨z, H, I, rw', q⟩
  by_cases h0 : 0 <= i
  · have hj : i.toNat = j := by
      rw [seqIndex_of h0 h5] at h1
      exact Option.some.inj h1
    exact item_listR pl.isList h0 (by omega) (by rw [hj]; simpa using ew) fin hs
  · have hj : (i + (its.toArray.size : Int)).toNat = j := by
      rw [seqIndex_neg (by omega) h4] at h1
      rw [List.size_toArray, ← hl]
      exact Option.some.inj h1
    exact subscriptTail_builtinR (x := w) pl.isList.typeIs slot_list_getitem.lookup
      (wpAny_getItem_list_neg (Q := fun r s' => r = w /\ EP X pins σ Q r s') pl.isList (by omega) (by rw [List.size_toArray] <;> omega) (by omega) (by rw [hj]; simpa using ew) ⟨rfl, fin⟩) hs
theorem ix_tup : IxR X (zcR X.K) := by
  intro value slice pins s σ H x y v u Q I rx ry h hs
  obtain ⟨p, xs, i, z, rfl, rfl, hq, he, q⟩ := h
  cases rx
  obtain ⟨t, rfl⟩ := ry
  obtain ⟨its, r, pl, hz⟩ := I.tuple hq
  obtain ⟨j, h1, h2, h3, h4, h5⟩ := Ut he
  obtain ⟨w, ew, rw'⟩ := r.get h2
  have hl := r.length
  have hn := QH
  have fin : EP X pins σ Q w s := ⟨z, H, I, rw', q⟩
  exact subscriptTail_builtinR (x := w) pl.typeIs slot_tuple_getitem.lookup
    (getItem_tuple (j := j) (Q := fun r s' => r = w /\ EP X pins σ Q r s') pl (by omega) (by omega) (by rw [List.size_toArray, ← hl]; exact h1) (by simpa using ew) ⟨rfl, fin⟩) hs
theorem zgr : IxR X zcS := by
  intro value slice pins s σ H x y v u Q I rx ry h hs
  obtain ⟨z, i, c, rfl, rfl, hz, he, q⟩ := h
  obtain ⟨t, rfl⟩ := rx
  obtain ⟨t', rfl⟩ := ry
  obtain ⟨j, h1, h2, h3, h4, h5⟩ := Ut he
  have hl : z.cps.toList.length = z.length := by simp [Str.length]
  rw [hl] at h1 h4 h5
  have hn := QH
  exact tail_any (typeIs_str s z t) slot_str_getitem.lookup (getItem_str (c := c) (by
    have e1 : decide (i < -(2 ^ 63 : Int)) = false := decide_eq_false (by omega)
    have e2 : decide (i ≥ 2 ^ 63) = false := decide_eq_false (by omega)
    rw [e1, e2, Bool.or_false]) (by rw [h1]; simpa using h2) ⟨.str ⟨#[c]⟩, H, I.tok _, ⟨_, rfl⟩, q⟩) hs
def rIx (K : PySem.W.Frag) : R2 := fun x y H Q => zcQ K x y H Q \/ zcR K x y H Q \/ zcS x y H Q
theorem zgs : IxR X (rIx X.K) := ix_list.or (ix_tup.or zgr)
theorem zav (its : List Value) (n j : Nat) (u : Value) : Obj.mapSeq (·.setIfInBounds j u) { cls := .type "list", data := .seq its.toArray n } = { cls := .type "list", data := .seq (its.set j u).toArray n } := by
  simp [Obj.mapSeq]
theorem Inv.lst {pins : List (Addr × Obj)} {σ : St} {H : Hp} {s : Shared} {p : Addr} {xs : List V} (I : Inv X pins σ H s) (h : H p = some (.lst xs)) :
    ∃ (its : List Value) (n : Nat), Vals xs its /\ s.heap.get? p = some { cls := .type "list", data := .seq its.toArray n } /\ xs.length <= sizeLine := by
  obtain ⟨z, its, n, r, e⟩ := I.hok p _ h
  exact ⟨its, n, r, e, z⟩
theorem Inv.lstUpd {pins : List (Addr × Obj)} {σ : St} {H : Hp} {s : Shared} {p : Addr} {xs ys : List V} {its its' : List Value} {n n' : Nat} {f : Obj -> Obj} (I : Inv X pins σ H s) (h : H p = some (.lst xs))
    (ho : s.heap.get? p = some { cls := .type "list", data := .seq its.toArray n }) (hf : f { cls := .type "list", data := .seq its.toArray n } = { cls := .type "list", data := .seq its'.toArray n' }) (r : Vals ys its') (hz : ys.length <= sizeLine) (t : Nat) :
    Inv X pins σ (zG H p (.lst ys)) { s with heap := s.heap.update p f, toks := t } := by
  have e : (s.heap.update p f).get? p = some { cls := .type "list", data := .seq its'.toArray n' } := by
    rw [Heap.get?_update_self f ho (by rw [hf] <;> rfl), hf]
  refine I.write (x := p) (e := p) (by rw [h]; trivial) (.inl rfl) (fun b u hb q => (Heap.get?_update_other _ _ (Ne.symm hb)).trans q) ⟨_, e⟩ ?_
  exact ⟨hz, its', n', r, e⟩
def zdX : V -> V -> V -> Hp -> (Hp -> Prop) -> Prop := fun o i v H Q => ∃ p xs k j, o = .ref p /\ i = .int k /\ H p = some (.lst xs) /\ jx xs.length k = some j /\ Q (zG H p (.lst (xs.set j v)))
theorem zcT : zfZ X zdX := by
  intro pins s σ H o i v ov iv u Q I ro ri rv h
  obtain ⟨p, xs, k, j, rfl, rfl, hp, hj, q⟩ := h
  cases ro
  obtain ⟨t, rfl⟩ := ri
  obtain ⟨its, n, r, ho, hz⟩ := I.lst hp
  obtain ⟨h1, h2, h3, h4⟩ := Ri hj
  have hl := r.length
  have hn := QH
  have I' : Inv X pins σ (zG H p (.lst (xs.set j v))) { s with heap := s.heap.update p (Obj.mapSeq (·.setIfInBounds j u)) } :=
    I.lstUpd hp ho (zav its n j u) (r.set rv j) (by rw [List.length_set]; exact hz) s.toks
  by_cases h0 : 0 <= k
  · have hk : k.toNat = j := by
      rw [seqIndex_of h0 h4] at h1
      exact Option.some.inj h1
    exact PySem.W.ki_setAt ho h0 (by omega) (by rw [List.size_toArray, ← hl]; exact h4) (by rw [hk]; exact ⟨_, I', q⟩)
  · have hk : (k + (its.toArray.size : Int)).toNat = j := by
      rw [seqIndex_neg (by omega) h3] at h1
      rw [List.size_toArray, ← hl]
      exact Option.some.inj h1
    exact PySem.W.ki_setBack ho (by omega) (by rw [List.size_toArray, ← hl]; exact h3) (by omega) (by rw [hk]; exact ⟨_, I', q⟩)
theorem V4 (lo hi : Option Int) (n : Nat) : (sliceBounds lo hi none n).1 = ((HT.sIx n 0 lo : Nat) : Int) /\ (sliceBounds lo hi none n).2.1 = ((HT.sIx n n hi : Nat) : Int) /\ (sliceBounds lo hi none n).2.2 = 1 := by
  refine ⟨?_, ?_, rfl⟩
  · cases lo with
    | none => simp [sliceBounds, HT.sIx]
    | some i =>
      simp only [sliceBounds, HT.sIx, Option.getD_none, show (1 : Int) > 0 by decide, if_true]
      by_cases h : i < 0
      · simp only [h, if_true] <;> omega
      · simp only [h, if_false] <;> omega
  · cases hi with
    | none => simp [sliceBounds, HT.sIx]
    | some i =>
      simp only [sliceBounds, HT.sIx, Option.getD_none, show (1 : Int) > 0 by decide, if_true]
      by_cases h : i < 0
      · simp only [h, if_true] <;> omega
      · simp only [h, if_false] <;> omega
theorem Vs (its : List Value) (lo hi : Option Int) : slicePick its.toArray lo hi none = ((its.drop (HT.sIx its.length 0 lo)).take (HT.sIx its.length its.length hi - HT.sIx its.length 0 lo)).toArray := by
  obtain ⟨h1, h2, h3⟩ := V4 lo hi its.toArray.size
  unfold slicePick
  rw [h1, h2, h3]
  simp only [sliceRange_one, pick_run, List.size_toArray] <;> rfl
def zgt (K : PySem.W.Frag) : V -> Option Int -> Option Int -> Hp -> VK -> Prop := fun x lo hi H Q => ∃ a xs, x = .ref a /\ yM K H a xs /\ ∀ p, H p = none -> Q (.ref p) (zG H p (.lst (Zq xs lo hi)))
theorem zeI : SlR X (zgt X.K) := by
  intro pins s σ H x v vl vu lo hi sl Q I rx hs pl pu h
  obtain ⟨a, xs, rfl, hx, q⟩ := h
  cases rx
  obtain ⟨its, r, ht, hz⟩ := I.list hx
  have hlen := r.length
  refine ⟨"list", _, slot_list_getitem.lookup, ht.isList.typeIs, ?_⟩
  refine wpAny_getItem_list_slice ht.isList hs pl pu .none (by simp) ?_ (by rw [List.size_toArray] <;> omega)
  rw [Vs, ← hlen]
  refine ⟨.ref s.heap.objs.size, _, I.laid (t' := s.toks) (o := .lst (Zq xs lo hi)) (fun b ob q => Heap.get?_push_of_some _ q) (Nat.le_refl _) ?_, rfl, q _ (I.hok.fresh (Nat.le_refl _))⟩
  exact ⟨Nat.le_trans (Z8 xs lo hi) hz, _, 0, (r.drop (HT.sIx xs.length 0 lo)).take (HT.sIx xs.length xs.length hi - HT.sIx xs.length 0 lo), Heap.get?_push_size _ rfl⟩
def jt : V -> Bool
  | .non => true
  | .bl _ => true
  | .int _ => true
  | .str _ => true
  | _ => false
def jO : V -> V -> Bool
  | .non, .non => true
  | .bl a, .bl b => a == b
  | .bl a, .int b => (if a then 1 else 0) == b
  | .int a, .bl b => a == (if b then 1 else 0)
  | .int a, .int b => a == b
  | .str a, .str b => a == b
  | _, _ => false
theorem zbE {A : Around} {s : Shared} {y x : V} {u v : Value} (ry : RelV y u) (rx : RelV x v) (fy : jt y = true) (fx : jt x = true) : SeqAt.EqAt A s u v (jO y x) := by
  cases y with
  | non =>
    cases ry
    cases x with
    | non => cases rx; exact SeqAt.EqAt.same _
    | bl b => cases rx; exact SeqAt.EqAt.none_bool b
    | int b => obtain ⟨t, rfl⟩ := rx; exact SeqAt.EqAt.none_int b t
    | str b => obtain ⟨t, rfl⟩ := rx; exact SeqAt.EqAt.none_str b t
    | _ => exact absurd (show false = true from fx) Bool.false_ne_true
  | bl a =>
    cases ry
    cases x with
    | non => cases rx; exact SeqAt.EqAt.bool_none a
    | bl b => cases rx; exact SeqAt.EqAt.bool_bool a b
    | int b => obtain ⟨t, rfl⟩ := rx; exact SeqAt.EqAt.bool_int a b t
    | str b => obtain ⟨t, rfl⟩ := rx; exact SeqAt.EqAt.bool_str a b t
    | _ => exact absurd (show false = true from fx) Bool.false_ne_true
  | int a =>
    obtain ⟨t', rfl⟩ := ry
    cases x with
    | non => cases rx; exact SeqAt.EqAt.int_none a t'
    | bl b => cases rx; exact SeqAt.EqAt.int_bool a t' b
    | int b => obtain ⟨t, rfl⟩ := rx; exact SeqAt.EqAt.int_int a t' b t
    | str b => obtain ⟨t, rfl⟩ := rx; exact SeqAt.EqAt.int_str a t' b t
    | _ => exact absurd (show false = true from fx) Bool.false_ne_true
  | str a =>
    obtain ⟨t', rfl⟩ := ry
    cases x with
    | non => cases rx; exact SeqAt.EqAt.str_none a t'
    | bl b => cases rx; exact SeqAt.EqAt.str_bool a t' b
    | int b => obtain ⟨t, rfl⟩ := rx; exact SeqAt.EqAt.str_int a t' b t
    | str b => obtain ⟨t, rfl⟩ := rx; exact SeqAt.EqAt.str_str a t' b t
    | _ => exact absurd (show false = true from fx) Bool.false_ne_true
  | _ => exact absurd (show false = true from fy) Bool.false_ne_true
def YJ (x : V) (u : Value) : Bool := match u with
  | .none => jO .non x
  | .bool b => jO (.bl b) x
  | .int i _ => jO (.int i) x
  | .str z _ => jO (.str z) x
  | _ => false
theorem zbF {x y : V} {u : Value} (r : RelV y u) (f : jt y = true) : YJ x u = jO y x := by
  cases y with
  | non => cases r; rfl
  | bl b => cases r; rfl
  | int i => obtain ⟨t, rfl⟩ := r; rfl
  | str z => obtain ⟨t, rfl⟩ := r; rfl
  | _ => exact absurd (show false = true from f) Bool.false_ne_true
theorem Uu {x : V} : ∀ {xs : List V} {us : List Value}, Vals xs us -> xs.all jt = true -> us.any (YJ x) = xs.any fun y => jO y x
  | _, _, .nil, _ => rfl
  | y :: xs, u :: us, .cons r t, f => by
    rw [List.all_cons, Bool.and_eq_true] at f
    rw [List.any_cons, List.any_cons, zbF r f.1, Uu t f.2]
theorem Yl {A : Around} {s : Shared} {x : V} {v : Value} (rx : RelV x v) (fx : jt x = true) : ∀ {xs : List V} {us : List Value}, Vals xs us -> xs.all jt = true -> ∀ u ∈ us, SeqAt.EqAt A s u v (YJ x u)
  | _, _, .nil, _ => fun u hu => by cases hu
  | y :: xs, u :: us, .cons r t, f => fun u' hu => by
    rw [List.all_cons, Bool.and_eq_true] at f
    rcases List.mem_cons.mp hu with rfl | hu
    · rw [zbF r f.1]; exact zbE r rx f.1 fx
    · exact Yl rx fx t f.2 u' hu
def inV (x : V) (xs : List V) : Bool := xs.any fun y => jO y x
def rIn (K : PySem.W.Frag) (neg : Bool) : R2 := fun x y H Q => ∃ p xs, y = .ref p /\ (yM K H p xs \/ SqT K H p xs) /\ jt x = true /\ xs.all jt = true /\ Q (.bl (if neg then !inV x xs else inV x xs)) H
theorem U5 : ye X (compareOp .In) (rIn X.K false) := by
  intro pins s σ H x y v u Q I rx ry h
  obtain ⟨p, xs, rfl, hq, fx, fs, q⟩ := h
  cases ry
  rcases hq with hq | hq
  · obtain ⟨its, r, pl, hz⟩ := I.list hq
    refine SeqAt.in_listAt (YJ x) pl.isList (fun w hw => Yl rx fx r fs w (by simpa using hw)) ⟨.bl _, H, I, rfl, ?_⟩
    rw [show its.toArray.any (YJ x) = its.any (YJ x) by simp, Uu r fs]
    exact q
  · obtain ⟨its, r, pl, hz⟩ := I.tuple hq
    refine SeqAt.in_tupleAt (YJ x) pl (fun w hw => Yl rx fx r fs w (by simpa using hw)) ⟨.bl _, H, I, rfl, ?_⟩
    rw [show its.toArray.any (YJ x) = its.any (YJ x) by simp, Uu r fs]
    exact q
theorem V5 : yO X (.type "list") (fun xs H Q => ∃ p ys, xs = [.ref p] /\ (yM X.K H p ys \/ SqT X.K H p ys) /\ ∀ l, H l = none -> Q (.ref l) (zG H l (.lst ys))) := by
  intro pins s σ H xs us Q I r h
  obtain ⟨p, ys, rfl, hq, q⟩ := h
  obtain ⟨u, rfl, rx⟩ := QQ r
  cases rx
  have fin : ∀ (its : List Value), Vals ys its -> ys.length <= sizeLine -> ∀ (h' : Heap) (c' : Nat), (∀ b o', s.heap.get? b = some o' -> h'.get? b = some o') ->
      h'.get? s.heap.objs.size = some { cls := .type "list", dict := none, data := .seq its.toArray c', slots := #[] } -> EP X pins σ Q (.ref s.heap.objs.size) { s with heap := h' } := fun its r' hz h' c' kp e =>
    ⟨.ref s.heap.objs.size, _, I.laid (t' := s.toks) kp (Nat.le_refl _) (show ObjOk X.prog X.w _ h' _ (.lst ys) from ⟨hz, its, c', r', e⟩), rfl, q _ (I.hok.fresh (Nat.le_refl _))⟩
  rcases hq with hq | hq
  · obtain ⟨its, r', pl, hz⟩ := I.list hq
    have hlen := r'.length
    obtain ⟨o, ho, hc, n, hd⟩ := pl.isList
    exact call_list_seq p (.inl rfl) ho hc hd (fun h' c' kp e => fin its r' hz h' c' kp e) (by simp only [List.size_toArray] <;> omega)
  · obtain ⟨its, r', pl, hz⟩ := I.tuple hq
    have hlen := r'.length
    obtain ⟨o, ho, hc, n, hd⟩ := pl
    exact call_list_seq p (.inr rfl) ho hc hd (fun h' c' kp e => fin its r' hz h' c' kp e) (by simp only [List.size_toArray] <;> omega)
theorem Vt : yO X (.type "tuple") (fun xs H Q => ∃ p ys, xs = [.ref p] /\ ((yM X.K H p ys /\ ∀ l, H l = none -> Q (.ref l) (zG H l (.tup ys))) \/ (SqT X.K H p ys /\ Q (.ref p) H))) := by
  intro pins s σ H xs us Q I r h
  obtain ⟨p, ys, rfl, h⟩ := h
  obtain ⟨u, rfl, rx⟩ := QQ r
  cases rx
  rcases h with ⟨hq, q⟩ | ⟨hq, q⟩
  · obtain ⟨its, r', pl, hz⟩ := I.list hq
    have hlen := r'.length
    refine call_tuple_list pl.isList (fun h' kp => ?_) (by simp only [List.size_toArray] <;> omega)
    have I1 : Inv X pins σ H { s with heap := h' } := I.kept (t' := s.toks) kp
    have I2 : Inv X pins σ (zG H h'.objs.size (.tup ys)) { s with heap := h'.push { cls := .type "tuple", data := .seq its.toArray } } :=
      I1.laid (t' := s.toks) (fun b o e => Heap.get?_push_of_some _ e) (Nat.le_refl _) (show ObjOk X.prog X.w _ _ _ (.tup ys) from ⟨hz, its, r', IsTup.new _ _⟩)
    exact ⟨.ref h'.objs.size, _, I2, rfl, q _ (I1.hok.fresh (Nat.le_refl _))⟩
  · obtain ⟨its, r', pl, hz⟩ := I.tuple hq
    exact call_tuple_same pl ⟨.ref p, H, I, rfl, q⟩
def tyV (K : PySem.W.Frag) (T : String) (x : V) (H : Hp) : Prop := match x with
  | .str _ => T = "str"
  | .int _ => T = "int"
  | .ref p => (T = "list" /\ ∃ xs, yM K H p xs) \/ (T = "tuple" /\ ∃ o, K.lookup p = some o /\ o.cls = .type "tuple" /\ o.dict = none) \/
      (T = "dict" /\ ((∃ kvs, H p = some (.dK kvs)) \/ ∃ kvs, H p = some (.dT kvs))) \/ (T = "set" /\ ∃ S n, H p = some (.set S n))
  | _ => False
theorem zgu {pins : List (Addr × Obj)} {σ : St} {H : Hp} {s : Shared} {T : String} {x : V} {v : Value} (I : Inv X pins σ H s) (r : RelV x v) (ty : tyV X.K T x H) :
    s.TypeIs v T /\ ∀ a, v = .ref a -> ∃ ob, s.heap.get? a = some ob /\ ob.dict = none := by
  cases x with
  | str z =>
    obtain ⟨t, rfl⟩ := r
    cases (show T = "str" from ty)
    exact ⟨typeIs_str s z t, fun _ e => nomatch e⟩
  | int i =>
    obtain ⟨t, rfl⟩ := r
    cases (show T = "int" from ty)
    exact ⟨typeIs_int s i t, fun _ e => nomatch e⟩
  | ref p =>
    cases r
    rcases ty with ⟨rfl, xs, hq⟩ | ⟨rfl, o, hk, hc, hd⟩ | ⟨rfl, hk⟩ | ⟨rfl, S, n, hk⟩
    · obtain ⟨its, _, pl, _⟩ := I.list hq
      refine ⟨pl.isList.typeIs, fun a e => ?_⟩
      cases e
      obtain ⟨o, n, e, c, hd, _⟩ := pl
      exact ⟨o, e, hd⟩
    · refine ⟨⟨o, I.kIn p o hk, hc⟩, fun a e => ?_⟩
      cases e
      exact ⟨o, I.kIn _ o hk, hd⟩
    · have z : ∃ o, s.heap.get? p = some o /\ o.ExactDict := by
        rcases hk with ⟨kvs, hk⟩ | ⟨kvs, hk⟩
        · obtain ⟨_, _, _, _, o, _, _, e, ex, _⟩ := I.hok p _ hk
          exact ⟨o, e, ex⟩
        · obtain ⟨_, _, _, _, o, _, _, e, ex, _⟩ := I.hok p _ hk
          exact ⟨o, e, ex⟩
      obtain ⟨o, e, ex⟩ := z
      refine ⟨⟨o, e, ex.1⟩, fun a e2 => ?_⟩
      cases e2
      exact ⟨o, e, ex.2.1⟩
    · obtain ⟨o, _, _, _, e, ex, _⟩ := I.hok p _ hk
      refine ⟨⟨o, e, ex.1⟩, fun a e2 => ?_⟩
      cases e2
      exact ⟨o, e, ex.2.1⟩
  | _ => exact False.elim ty
def tBM (K : PySem.W.Frag) (T : String) (r : V -> List V -> Hp -> VK -> Prop) (to : TE) (t : TA) : TE := fun σ H Q => to σ H fun x H1 => tyV K T x H1 /\ t σ H1 fun xs H2 => r x xs H2 Q
variable {o e : Expr} {es : List Expr} {to : TE} {t : TA} {name : Str} {apos cpos : Pos} {T id : String} {r : V -> List V -> Hp -> VK -> Prop}
theorem zdZ (pa : PlainAttrs T) (slot : Slot T name id) (hty : typeOf (.builtin id) = pure (.type "method_descriptor")) (hm : MtR X id r) (ho : PE X o to) (ha : PA X (e :: es) t)
    (hbase : attributeBase o name X.env (eval o X.env) = eval o X.env := by rfl)
    (hfew : ((backTo cpos (starEach (e :: es) X.env)).all (fun x => !x.1) && (backToKw cpos (keywordEach [] X.env)).all (fun x => x.1.isSome)
      && decide ((e :: es).length + ([] : List Keyword).length + (if ([] : List Keyword).isEmpty then 0 else 1) < 30)) = true := by rfl)
    (hline : (apos.endLine == cpos.line) = true := by rfl) (hs : starEach (e :: es) X.env = (false, eval e X.env) :: starEach es X.env := by rfl) (hplain : (backTo cpos (starEach es X.env)).any (·.1) = false := by rfl) :
    PE X (.Call (.Attribute o name apos) (e :: es) [] cpos) (tBM X.K T r to t) := by
  intro pins s σ H Q I h
  refine wpAny_Call_method_late hbase hfew hline rfl (zC (ho pins s σ H _ I h) fun v s1 ⟨x, H1, I1, r1, ty, q1⟩ => ?_)
  obtain ⟨h1, h2⟩ := zgu I1 r1 ty
  refine ⟨T, id, pa, slot, hty, h1, h2, ?_⟩
  have hA := ha cpos pins s1 σ H1 _ I1 q1
  rw [hs] at hA ⊢
  refine Calls.callWith_builtin (by show (false || (backTo cpos (starEach es X.env)).any (·.1)) = false; rw [hplain] <;> rfl) (Calls.evalArgs_plain ?_)
  exact zC hA fun us s2 ⟨vs, H2, I2, r2, q2⟩ => hm pins s2 σ H2 x vs v us Q I2 r1 r2 q2
end
end L2
namespace L2
open PySem PySem.Spec PyProof.Rows
def MtM (X : Cx) (id : String) (r : V -> List V -> Hp -> VK -> Prop) : Prop :=
  ∀ (pins : List (Addr × Obj)) (s : Shared) (σ : St) (H : Hp) (x : V) (xs : List V) (v : Value) (us : List Value) (Q : VK), Inv X pins σ H s -> RelV x v -> Vals xs us -> r x xs H Q ->
    wpAny (model X.prog X.w) X.A (call (.builtin id) (v :: us)) (EP X pins σ Q) X.xe s
theorem Vals.one : ∀ {x : V} {us : List Value}, Vals [x] us -> ∃ u, us = [u] /\ RelV x u
  | _, _, .cons r .nil => ⟨_, rfl, r⟩
theorem Vals.two : ∀ {x y : V} {us : List Value}, Vals [x, y] us -> ∃ u v, us = [u, v] /\ RelV x u /\ RelV y v
  | _, _, _, .cons r (.cons q .nil) => ⟨_, _, rfl, r, q⟩
theorem Vals.rep {xs : List V} {us : List Value} (h : Vals xs us) : ∀ k : Nat, Vals (List.replicate k xs).flatten (List.replicate k us).flatten
  | 0 => .nil
  | k + 1 => by
    rw [List.replicate_succ, List.replicate_succ, List.flatten_cons, List.flatten_cons]
    exact Vals.append h (Vals.rep h k)
theorem U6 (its : List Value) : ∀ (k : Nat) (acc : List Value),
    List.foldl (fun x1 x2 => x1 ++ x2) acc.toArray (List.replicate k its.toArray) = (acc ++ (List.replicate k its).flatten).toArray
  | 0, acc => by simp
  | k + 1, acc => by
    have e : acc.toArray ++ its.toArray = (acc ++ its).toArray := by simp
    have e2 : (acc ++ its) ++ (List.replicate k its).flatten = acc ++ (List.replicate (k + 1) its).flatten := by
      rw [List.replicate_succ, List.flatten_cons, List.append_assoc]
    rw [← e2, ← U6 its k (acc ++ its), ← e, List.replicate_succ, List.foldl_cons]
section
variable {X : Cx} {pins : List (Addr × Obj)} {σ : St} {H : Hp} {s : Shared} {l b : Addr} {xs ys zs : List V}
theorem Inv.lset {its its' : List Value} {n : Nat} {f : Array Value -> Array Value} {t' : Nat} (I : Inv X pins σ H s) (hH : H l = some (.lst xs))
    (e : s.heap.get? l = some { cls := .type "list", data := .seq its.toArray n }) (hf : f its.toArray = its'.toArray) (hv : Vals ys its') (hz : ys.length <= sizeLine) :
    Inv X pins σ (zG H l (.lst ys)) { s with heap := s.heap.update l (Obj.mapSeq f), toks := t' } := by
  have q := PySem.IsL.update e f
  rw [hf] at q
  refine I.write (x := l) (e := l) (by rw [hH]; exact trivial) (.inl rfl) (fun b' u hb hu => (Heap.get?_update_other s.heap (Obj.mapSeq f) (Ne.symm hb)).trans hu) ⟨_, q⟩ ?_
  exact ⟨hz, its', _, hv, q⟩
theorem Inv.lnew {its : List Value} {t' : Nat} (I : Inv X pins σ H s) (hv : Vals ys its) (hz : ys.length <= sizeLine) :
    Inv X pins σ (zG H s.heap.objs.size (.lst ys)) { s with heap := s.heap.push { cls := .type "list", data := .seq its.toArray }, toks := t' } :=
  I.laid (fun _ _ q => Heap.get?_push_of_some _ q) (Nat.le_refl _) ⟨hz, its, 0, hv, Heap.get?_push_size _ rfl⟩
theorem Inv.fresh (I : Inv X pins σ H s) : H s.heap.objs.size = none := I.hok.fresh (Nat.le_refl _)
theorem Inv.lstM (I : Inv X pins σ H s) (hH : H l = some (.lst xs)) : xs.length <= sizeLine /\ ∃ (its : List Value) (n : Nat), Vals xs its /\ xs.length = its.length /\ s.heap.get? l = some { cls := .type "list", data := .seq its.toArray n } := by
  obtain ⟨z, its, n, r, e⟩ := I.hok l _ hH
  exact ⟨z, its, n, r, r.length, e⟩
theorem V6 {n : Nat} (h : n <= sizeLine) : Builtin.List.listTooLong n = false := by
  unfold Builtin.List.listTooLong
  exact decide_eq_false (by omega)
end
section
variable {X : Cx}
def Rj : V -> List V -> Hp -> VK -> Prop := fun x vs H Q => ∃ l xs y, x = .ref l /\ vs = [y] /\ H l = some (.lst xs) /\ xs.length < sizeLine /\ Q .non (zG H l (.lst (xs ++ [y])))
theorem zbH : MtM X "list.append" Rj := by
  intro pins s σ H x vs v us Q I rx rv h
  obtain ⟨l, xs, y, rfl, rfl, hH, hz, q⟩ := h
  cases rx
  obtain ⟨u, rfl, ru⟩ := rv.one
  obtain ⟨z, its, n, r, hl, e⟩ := I.lstM hH
  refine call_meets F.slot_list_append ⟨_, e, rfl⟩ F.entry_list_append (F.args_list_append_2 _ _) (PySem.list_append l its.toArray n u (by rw [List.size_toArray]; omega)) ⟨e, ?_⟩
  refine ⟨.non, _, I.lset (its' := its ++ [u]) hH e (by simp) (r.append (.cons ru .nil)) ?_, rfl, q⟩
  rw [List.length_append, List.length_singleton]
  omega
def zgv : R2 := fun x y H Q => ∃ l b xs zs, x = .ref l /\ y = .ref b /\ H l = some (.lst xs) /\ H b = some (.lst zs) /\ xs.length + zs.length <= sizeLine /\ ∀ p, H p = none -> Q (.ref p) (zG H p (.lst (xs ++ zs)))
theorem zgw : ye X (binaryOp .Add) zgv := by
  intro pins s σ H x y v u Q I rx ry h
  obtain ⟨l, b, xs, zs, rfl, rfl, hH, hB, hz, q⟩ := h
  cases rx
  cases ry
  obtain ⟨z, its, n, r, hl, e⟩ := I.lstM hH
  obtain ⟨z2, its2, n2, r2, hl2, e2⟩ := I.lstM hB
  refine PySem.P.add_list e e2 ?_ (by rw [List.size_toArray, List.size_toArray]; omega)
  have ea : its.toArray ++ its2.toArray = (its ++ its2).toArray := by simp
  rw [ea]
  exact ⟨.ref _, _, I.lnew (t' := s.toks) (r.append r2) (by rw [List.length_append]; omega), rfl, q _ I.fresh⟩
def zgx : R2 := fun x y H Q => ∃ l k xs, x = .ref l /\ y = .int k /\ H l = some (.lst xs) /\ -(2 ^ 63) <= k /\ k < 2 ^ 63 /\ xs.length * k.toNat <= sizeLine /\
  ∀ p, H p = none -> Q (.ref p) (zG H p (.lst (List.replicate k.toNat xs).flatten))
theorem zeJ {α : Type} (xs : List α) (k : Nat) : (List.replicate k xs).flatten.length = k * xs.length := by
  induction k with
  | zero => simp
  | succ k ih => rw [List.replicate_succ, List.flatten_cons, List.length_append, ih, Nat.succ_mul, Nat.add_comm]
theorem zgy : ye X (binaryOp .Mult) zgx := by
  intro pins s σ H x y v u Q I rx ry h
  obtain ⟨l, k, xs, rfl, rfl, hH, h1, h2, hz, q⟩ := h
  cases rx
  obtain ⟨t, rfl⟩ := ry
  obtain ⟨z, its, n, r, hl, e⟩ := I.lstM hH
  have hlen : its.toArray.size * k.toNat <= sizeLine := by rw [List.size_toArray, ← hl]; exact hz
  have hcap : ¬ its.toArray.size * k.toNat > (2 ^ 63 - 1) / 8 := by
    have : (sizeLine : Nat) <= (2 ^ 63 - 1) / 8 := by decide
    omega
  have hfit : ¬ (!Builtin.List.listFitsIndex k) = true := by
    rw [fitsIndex_both h1 h2]
    exact Bool.false_ne_true
  have hlong : ¬ Builtin.List.listTooLong (its.toArray.size * k.toNat) = true := by
    rw [V6 hlen]
    exact Bool.false_ne_true
  have hnew : List.foldl (fun x1 x2 => x1 ++ x2) #[] (List.replicate (if its.toArray.isEmpty = true then 0 else k.toNat) its.toArray) = (List.replicate k.toNat its).flatten.toArray := by
    have f0 : ∀ m : Nat, List.foldl (fun x1 x2 => x1 ++ x2) #[] (List.replicate m its.toArray) = (List.replicate m its).flatten.toArray := fun m => by
      have := U6 its m []
      rw [List.nil_append] at this
      exact this
    rw [f0]
    cases its with
    | nil => simp
    | cons a r' => rw [if_neg (by simp)]
  refine wpAny_binaryOp_repeat_ref (T := "list") (U := "int") (by decide) ⟨_, e, rfl⟩ (fun s' => typeIs_int s' k t) noFill_list_mul F.fills_int_mul F.slot_int_rmul repeat_list F.slot_int_index.lookup
    (call_meets F.slot_int_rmul (typeIs_int s k t) F.entry_int_rmul (F.args_int_rmul_2 _ _) (int___rmul___int_list k t l its.toArray n)
      ⟨e, rfl, ⟨_, e, rfl⟩, call_meets F.slot_list_mul ⟨_, e, rfl⟩ F.entry_list_mul (F.args_list_mul_2 _ _) (AutoListH.list___mul___list_int_3 l its.toArray n k t hfit hcap hlong) ⟨e, ?_⟩⟩)
  rw [hnew]
  exact ⟨.ref _, _, I.lnew (t' := s.toks) (r.rep k.toNat) (by rw [zeJ, Nat.mul_comm]; exact hz), rfl, q _ I.fresh⟩
end
section
variable {prog : Program} {w : World} {A : Around} {E : Value -> Shared -> Prop} {s : Shared}
end
section
variable {X : Cx}
end
end L2
namespace Att
open PySem PySem.W PySem.Calls PyProof.Rows
theorem YK {P : Params} {h : Heap} : ∀ (ns : List Int) (vs : List Value), WellAll P h vs (ns.map WData.int) -> IntsAre vs ns := by
  intro ns
  induction ns with
  | nil =>
    intro vs w
    rw [List.map_nil] at w
    cases w
    exact .nil
  | cons n ns ih =>
    intro vs w
    rw [List.map_cons] at w
    cases w with
    | cons a b =>
      cases a
      exact .cons _ _ (ih _ b)
theorem zbI {l : OpenLaw} {n : Nat} (hn : l.most = some n) {P : Params} {h : Heap} {args : List WData} {vals : List Value}
    (hpre : l.row.toRowW.claim.pre args = true) (hwl : WellAll P h vals args) :
    ∃ a vs ns, vals = [Value.ref a] /\ args = [WData.list (ns.map WData.int)] /\ h.get? a = some { cls := .type "list", data := .seq vs.toArray } /\ IntsAre vs ns /\ ns.length <= n := by
  have hsh : WShape.hasAll [] args [.list .int] = true := (pre_splitW hpre).1
  have hc : l.pre.holds [] { args := args } = true := (pre_splitW hpre).2
  obtain ⟨d, r, rfl, h1, h2⟩ := hasAllW_cons hsh
  obtain rfl := hasAllW_nil h2
  obtain ⟨xs, rfl, h3⟩ := hasW_list h1
  obtain ⟨ns, rfl⟩ := items_int h3
  have hlen : ns.length <= n := by
    unfold OpenLaw.pre at hc
    have h4 : (WTm.not (.lt (.lit (.int (n : Int))) (.len (.arg 0)))).holds [] { args := [.list (ns.map .int)] } = true := by
      have h4 := (holds_andW hc).1
      rw [hn] at h4
      exact h4
    have h5 := condW_of h4 (w_not (w_lt w_lit (w_len_list (w_arg rfl))))
    rw [List.length_map] at h5
    refine Nat.le_of_not_lt fun q => ?_
    have q' : (n : Int) < ((ns.length : Nat) : Int) := by omega
    first
      | (rw [decide_eq_true q'] at h5; exact absurd h5 (by decide))
      | (simp at h5; omega)
  cases hwl with
  | cons w1 w2 =>
    cases w2
    cases w1 with
    | list ho hall => exact ⟨_, _, ns, rfl, rfl, ho, YK ns _ hall, hlen⟩
theorem zbJ (l : OpenLaw) (args : List WData) : l.row.toRowW.claim.post args (.bool true) args = true :=
  postW_of (r := l.row.toRowW) (X := (true == true))
    (show WShape.has [] (.bool true) .bool = true by first | rfl | decide | simp [WShape.has, WShape.arms, WShape.armsAll])
    (show (WTm.eq .res (.lit (.bool true))).value [] { args := args, res := some (.bool true), after := args } = some (.bool (true == true)) from w_eq_bool (w_res rfl) w_lit) rfl
theorem attach_call {l : OpenLaw} {n : Nat} {q : Program} {loose : List Str} {XP : (Str -> Option Value) -> Heap -> Prop} {YP : World -> Heap -> Prop} {d : DefRec}
    (hn : l.most = some n) (hdf : d.params.defaults = [])
    (call : ∀ (w : World) (s₀ s₁ : Shared) (mg mb : Str -> Option Value) (fa : Addr) (o : Obj) (pm cd doc : Value) (a : Addr) (vs : List Value) (ns : List Int),
      Ground q loose [] XP w s₀ mg mb s₁.heap -> YP w s₁.heap ->
      s₁.heap.get? fa = some o -> o.data = .func (docDef d.name d.params d.body d.scope pm cd doc) -> s₁.heap.CodeRec cd d.name -> mg d.name = some (.ref fa) ->
      s₁.heap.get? a = some { cls := .type "list", data := .seq vs.toArray } -> IntsAre vs ns -> ns.length <= n -> s₁.gens = #[] ->
      codeAny (model l.prog w) callerA (.call (.ref fa) ⟨[.ref a], []⟩) (fun r s' => r = .ok (.ret (.bool true)) /\ OldK s₁.heap s'.heap /\ s'.os = s₁.os /\ AllBare s'.gens) s₁) :
    WalkO q loose XP YP l.row.toRowW d [] (fun f vs => PySem.call f vs) := by
  intro w s₀ s₁ mg mb G Y fa o pm cd doc dV kV ho hd hcd hD hmg hg args vals as hpre hlay hrd hwl hlo
  obtain rfl : dV = .none := Dflts.none hD hdf
  obtain rfl : kV = .none := Dflts.noKw hD
  obtain ⟨a, vs, ns, rfl, rfl, hobj, hints, hlen⟩ := zbI hn hpre hwl
  refine enter_call (codeAny_mono (call w s₀ s₁ mg mb fa o pm cd doc a vs ns G Y ho (fd_plain hd) hcd hmg hobj hints hlen hg) fun r s' hq => ?_)
  obtain ⟨rfl, h2, h3, h4⟩ := hq
  exact ⟨.inl ⟨.bool true, .bool true, [], rfl, fun _ => rfl, .bool true, zbJ l _, fun _ => ⟨List.Pairwise.nil, fun _ hm => (nomatch hm)⟩⟩, h2, h3, h4⟩
section
variable {prog : Program} {w : World} {A : Around} {E : Value -> Shared -> Prop} {s : Shared} {K : Frag}
end
end Att
namespace L2
open PySem PySem.Spec PyProof.Rows
theorem U7 : ∀ {vs : List Value} {ns : List Int}, IntsAre vs ns -> Vals (ns.map V.int) vs
  | _, _, .nil => .nil
  | _, _, .cons n t h => .cons ⟨t, rfl⟩ (U7 h)
def zcU (H : Hp) : Prop := ∀ b, H b = none \/ ∃ o xs, H b = some (.frz o (.lst xs))
theorem zcV {P : Program} {w : World} {K : PySem.W.Frag} {mg mb : Str -> Option Value} {CX : Qi} {k : Nat} {fa a : Addr} {fd : FuncData} {x : Str} {sp : Sp} {s₁ : Shared} {vs : List Value} {ns : List Int}
    (KX : K.In s₁.heap) (hns : s₁.heap.Ns mainGlobals mg) (hb : s₁.heap.Ns builtinsNs mb) (hbb : ∀ x : Str, x ≠ "__name__" -> mb x = bootBuiltins x) (hlim : s₁.heap.NoLimit) (hg : s₁.gens = #[])
    (ha : s₁.heap.get? a = some { cls := .type "list", data := .seq vs.toArray }) (hi : IntsAre vs ns) (hl : ns.length <= sizeLine) (hr : Room k callerA)
    (F : ∀ base : Heap, K.In base -> base.Ns mainGlobals mg -> FnOk P w K mg base CX k fa fd [x] sp) (hbind : ∀ (s : Shared) (u : Value), BindsTo s fd ⟨[u], []⟩ [(x, u)])
    (hsp : ∀ H : Hp, zcU H -> yM K H a (ns.map V.int) -> sp [.ref a] H (fun v _ => v = .bl true) fun _ _ _ => False)
    (hCX : ∀ H e s', CX [] H s₁ (fun _ _ _ => False) e s' -> False) :
    codeAny (model P w) callerA (.call (.ref fa) ⟨[.ref a], []⟩) (fun r s' => r = .ok (.ret (.bool true)) /\ OldK s₁.heap s'.heap /\ s'.os = s₁.os /\ AllBare s'.gens) s₁ := by
  have rv := U7 hi
  have lenV := hi.length
  have core : ∀ H : Hp, zcU H -> yM K H a (ns.map V.int) -> HOk P w H s₁.heap -> (∀ b, H b ≠ none -> b = a) -> (H a ≠ none -> K.lookup a = none) ->
      codeAny (model P w) callerA (.call (.ref fa) ⟨[.ref a], []⟩) (fun r s' => r = .ok (.ret (.bool true)) /\ OldK s₁.heap s'.heap /\ s'.os = s₁.os /\ AllBare s'.gens) s₁ := by
    intro H hO hS hok hA hK
    have base_of : ∀ {b : Addr} {o : Obj}, s₁.heap.get? b = some o -> H b = none -> (QP s₁.heap H).get? b = some o := fun e n => zcA e n
    have noA : ∀ {b : Addr} {o : Obj} {es : Array DictEntry} {ep : Nat}, s₁.heap.get? b = some o -> o.data = .dict es ep -> H b = none := fun {b o es ep} e d => by
      cases q : H b with
      | none => rfl
      | some u =>
        have e' : b = a := hA b (by rw [q]; simp)
        subst e'
        rw [ha] at e; cases e
        have d' : Data.seq vs.toArray _ = Data.dict es ep := d
        cases d'
    have nsK : ∀ {b : Addr} {m : Str -> Option Value}, s₁.heap.Ns b m -> (QP s₁.heap H).Ns b m := fun {b m} ⟨o, es, ep, e, d, r⟩ => ⟨o, es, ep, base_of e (noA e d), d, r⟩
    have hKb : K.In (QP s₁.heap H) := fun b o e => base_of (KX b o e) (by
      cases q : H b with
      | none => rfl
      | some u =>
        have e' : b = a := hA b (by rw [q]; simp)
        subst e'
        rw [hK (by rw [q]; simp)] at e; cases e)
    have hM : Mod K mg (QP s₁.heap H) := ⟨hKb, nsK hns, ⟨mb, nsK hb, hbb⟩, let ⟨mc, h1, h2⟩ := hlim; ⟨mc, nsK h1, h2⟩⟩
    have e0 : zas P w K mg (QP s₁.heap H) callerA [] s₁ H := ⟨rfl, hM, fun b o e => zer e, Nat.le_of_eq (zbo _ _), trivial, fun b hb => absurd (show b ∈ ([] : List Addr) from hb) (by simp), hok, .of_eq hg⟩
    refine codeAny_mono ((F _ hKb (nsK hns)).run callerA [] s₁ H ⟨[.ref a], []⟩ [.ref a] [.ref a] _ _ hr e0 (hbind s₁ (.ref a)) (.cons rfl .nil) (hsp H hO hS)) fun r s' h => ?_
    cases r with
    | error e => exact (hCX H e s' h).elim
    | ok fl =>
      cases fl with
      | next => exact False.elim h
      | brk => exact False.elim h
      | cont => exact False.elim h
      | ret u =>
        obtain ⟨v, H', os, bare, un, hok', r', q⟩ := h
        have q' : v = .bl true := q
        subst q'
        obtain rfl : u = Value.bool true := r'
        refine ⟨rfl, OldK.of_keep fun b o e => ?_, os, bare⟩
        cases q : H b with
        | none => exact un.keep b o e q (by intro z; exact absurd (show b ∈ ([] : List Addr) from z) (by simp)) (by simp)
        | some u =>
          rcases hO b with z | ⟨ob, xs, z⟩
          · rw [q] at z; cases z
          · have z2 := un.frzs b ob _ z
            obtain ⟨e1, _⟩ := hok b _ z
            obtain ⟨e2, _⟩ := hok' b _ z2
            rw [e] at e1; cases e1
            exact e2
  cases hk : K.lookup a with
  | some o =>
    have e := KX a o hk
    rw [ha] at e
    cases e
    refine core (fun _ => none) (fun _ => .inl rfl) (.inr ⟨_, vs.toArray, _, hk, rfl, rfl, rfl, by rw [List.size_toArray, lenV]; exact hl, by simpa using rv⟩) (fun b u z => by have z' : (none : Option HO) = some u := z; cases z') (fun b z => absurd rfl z) fun z => absurd rfl z
  | none =>
    refine core (fun b => if b = a then some (.frz { cls := .type "list", data := .seq vs.toArray } (.lst (ns.map V.int))) else none) (fun b => ?_) (.inl (.inr ⟨{ cls := .type "list", data := .seq vs.toArray }, if_pos rfl⟩)) (fun b u z => ?_) (fun b z => ?_) fun _ => hk
    · by_cases hb : b = a
      · exact .inr ⟨_, _, if_pos hb⟩
      · exact .inl (if_neg hb)
    · by_cases hb : b = a
      · have z' := (if_pos hb).symm.trans z
        cases z'
        subst hb
        exact ⟨ha, by rw [List.length_map]; exact hl, vs, _, rv, ha⟩
      · have z' := (if_neg hb).symm.trans z
        cases z'
    · by_cases hb : b = a
      · exact hb
      · exact absurd (if_neg hb) z
end L2
namespace L2
open PySem PySem.Spec PyProof.Rows
theorem walk_of {l : PySem.W.OpenLaw} {n k : Nat} {q : Program} {loose : List Str} {XP : (Str -> Option Value) -> Heap -> Prop} {YP : World -> Heap -> Prop} {d : DefRec} {K : Params -> PySem.W.Frag} {CX : World -> Qi} {sp : World -> Sp} {x : Str}
    (hn : l.most = some n) (hn2 : n <= sizeLine) (hdf : d.params.defaults = []) (hr : Room k callerA)
    (hY : ∀ (w : World) (h : Heap), YP w h -> (K w.params).In h)
    (F : ∀ (w : World) (mg : Str -> Option Value) (fa : Addr) (h : Heap), (K w.params).In h -> h.Ns mainGlobals mg -> mg d.name = some (.ref fa) ->
      ∃ fd : FuncData, (∀ (s : Shared) (u : Value), BindsTo s fd ⟨[u], []⟩ [(x, u)]) /\
        ∀ base : Heap, (K w.params).In base -> base.Ns mainGlobals mg -> FnOk l.prog w (K w.params) mg base (CX w) k fa fd [x] (sp w))
    (hsp : ∀ (w : World) (H : Hp) (a : Addr) (ns : List Int), ns.length <= n -> zcU H -> yM (K w.params) H a (ns.map V.int) -> sp w [.ref a] H (fun v _ => v = .bl true) fun _ _ _ => False)
    (hCX : ∀ (w : World) (H : Hp) (s : Shared) (e : Value) (s' : Shared), CX w [] H s (fun _ _ _ => False) e s' -> False) :
    PySem.W.WalkO q loose XP YP l.row.toRowW d [] (fun f vs => PySem.call f vs) := by
  refine Att.attach_call hn hdf fun w s₀ s₁ mg mb fa o pm cd doc a vs ns G Y ho hd hcd hmg hobj hints hlen hg => ?_
  have KX := hY w _ Y
  obtain ⟨fd, hb, hF⟩ := F w mg fa _ KX G.T.g hmg
  exact zcV KX G.T.g G.T.b G.T.builtins G.T.nolimit hg hobj hints (Nat.le_trans hlen hn2) hr hF hb (fun H hO hS => hsp w H a ns hlen hO hS) fun H e s' => hCX w H s₁ e s'
end L2
namespace L2
open PySem PySem.Spec PyProof.Rows
def JY (s : Stmt) : Arguments := match s with
  | .FunctionDef _ a _ _ _ _ _ _ _ _ => a
  | _ => { posonlyargs := [], args := [], vararg := none, kwonlyargs := [], kw_defaults := [], kwarg := none, defaults := [] }
def jP (s : Stmt) : List Stmt := match s with
  | .FunctionDef _ _ b _ _ _ _ _ _ _ => b
  | _ => []
def zt (s : Stmt) : Scope := match s with
  | .FunctionDef _ _ _ _ _ _ sc _ _ _ => sc
  | _ => { kind := .function, names := [], isGenerator := false, isCoroutine := false }
abbrev yN : Qi := fun _ _ _ _ _ _ => False
abbrev E0 : XK := fun _ _ _ => False
theorem zhX {X : Cx} : V0 yN X E0 := fun _ _ _ _ _ _ _ h => h.elim
structure Fun (K : PySem.W.Frag) (x qual : Str) (st : Stmt) (f : Addr) (fd : FuncData) : Prop where
  ex : ∃ (oc : Value) (od : Option Addr) (kV doc pm : Value) (an : Option Addr) (cdv ct : Value) (osl : Array (Option Value)),
    fd = PySem.W.fnOf x qual (JY st) (jP st) (zt st) .none kV doc pm an cdv ct /\ K.lookup f = some ⟨oc, od, .func fd, osl⟩ /\ PySem.W.codeIn K cdv qual = true
  kp : PySem.W.keepIn K (.ref f) = true
section
variable {P : Program} {w : World} {K : PySem.W.Frag} {mg : Str -> Option Value} {base : Heap}
theorem Fun.ok {x qual : Str} {st : Stmt} {f : Addr} {fd : FuncData} {N ps : List Str} {k : Nat} {sp : Sp} (F : Fun K x qual st f fd) (S : zL N ps (zt st)) (len : ∀ vs H Q E, sp vs H Q E -> vs.length = ps.length)
    (hbody : ∀ (cdv : Value) (A : Around) (outer : List Env) (s : Shared) (H : Hp) (vs : List V) (Q : VK) (E : XK), Room k (A.deeper (envOfC qual (zt st) s.heap.objs.size f cdv)) -> sp vs H Q E ->
      ∃ t, PSs (Yj yN P w K mg base N qual (zt st) f cdv A outer s H E).nox (jP st) t /\ t { nx := fun _ H' => Q .non H', rt := Q } (start N vs) H) : FnOk P w K mg base yN (k + 1) f fd ps sp := by
  obtain ⟨oc, od, kV, doc, pm, an, cdv, ct, osl, rfl, lk, hcd⟩ := F.ex
  refine zhW lk hcd S len fun A outer s H vs Q E hr hsp => ?_
  obtain ⟨t, h, q⟩ := hbody cdv A outer s H vs Q E hr hsp
  exact ⟨t, h.nox, q⟩
theorem Fun.binds {x qual : Str} {st : Stmt} {f : Addr} {fd : FuncData} {ps : List Str} (F : Fun K x qual st f fd)
    (h : ∀ (kV doc pm : Value) (an : Option Addr) (cdv ct : Value) (us : List Value), us.length = ps.length -> bindArgs (PySem.W.fnOf x qual (JY st) (jP st) (zt st) .none kV doc pm an cdv ct) ⟨us, []⟩ = pure (ps.zip us)) : Binds K fd ps [] := by
  obtain ⟨oc, od, kV, doc, pm, an, cdv, ct, osl, rfl, lk, hcd⟩ := F.ex
  exact .all (h kV doc pm an cdv ct)
theorem yf {x qual : Str} {st : Stmt} {f : Addr} {oc : Value} {od an : Option Addr} {osl : Array (Option Value)} {kV doc pm cdv ct : Value} (l : K.lookup f = some ⟨oc, od, .func (PySem.W.fnOf x qual (JY st) (jP st) (zt st) .none kV doc pm an cdv ct), osl⟩)
    (c : PySem.W.codeIn K cdv qual = true) (k : PySem.W.keepIn K (.ref f) = true) : Fun K x qual st f (PySem.W.fnOf x qual (JY st) (jP st) (zt st) .none kV doc pm an cdv ct) := ⟨⟨oc, od, kV, doc, pm, an, cdv, ct, osl, rfl, l, c⟩, k⟩
end
section
variable {X : Cx}
end
def Same (H H' : Hp) : Prop := ∀ b o, H b = some o -> H' b = some o
theorem Same.refl (H : Hp) : Same H H := fun _ _ h => h
end L2
namespace L2
open PySem PySem.Spec PyProof.Rows
section
variable {κ : Type} [DecidableEq κ]
end
section
variable {P : Program} {w : World} {H : Hp} {h : Heap} {a : Addr}
end
section
variable {X : Cx} {pins : List (Addr × Obj)} {σ : St} {H : Hp} {s : Shared} {a : Addr} {y v : V} {u r : Value} {o : Option V} {A : Around} {E : Value -> Shared -> Prop}
end
section
variable {X : Cx} {pins : List (Addr × Obj)} {σ : St} {H : Hp} {s : Shared} {a : Addr} {kvs : List (yP × V)} {k : yP} {u : Value} {A : Around} {E : Value -> Shared -> Prop}
end
section
variable {X : Cx} {o i e value : Expr} {pos pos' tpos : Pos} {td ty tv : TE}
end
section
variable {X : Cx} {pos : Pos}
end
section
variable {X : Cx} {pins : List (Addr × Obj)} {σ : St} {H : Hp} {s : Shared} {a : Addr} {y d : V} {u r : Value} {o : Option V} {A : Around} {E : Value -> Shared -> Prop}
end
section
variable {X : Cx} {o e f : Expr} {apos cpos : Pos} {td ty tx : TE}
end
section
variable {X : Cx} {pins : List (Addr × Obj)} {σ : St} {H : Hp} {s : Shared} {a : Addr} {kvs : List (yP × V)} {A : Around} {E : Value -> Shared -> Prop}
end
section
variable {X : Cx} {pins : List (Addr × Obj)} {σ : St} {H : Hp} {s : Shared} {a : Addr} {y : V} {u : Value} {A : Around} {E : Value -> Shared -> Prop}
end
end L2
namespace L2
open PySem PySem.Spec PyProof.Rows
section
variable {X : Cx}
end
section
variable {κ : Type} [DecidableEq κ]
end
end L2
namespace L2
open PySem PySem.Spec PyProof.Rows
def zP (env : Env) : List (Str × NameKind) -> List (Str × Addr) -> List (Str × Addr)
  | [], cs => cs
  | (n, k) :: r, cs => zP env r (if k == .free then (match env.cells.lookup n with | some a => (n, a) :: cs | none => cs) else cs)
theorem Rk {env : Env} {scope : Scope} (h : ∀ p ∈ scope.names, p.2 = .free -> ∃ a, env.cells.lookup p.1 = some a) : closureFor scope env = pure (zP env scope.names []) := by
  have go : ∀ (l : List (Str × NameKind)) (cs : List (Str × Addr)), (∀ p ∈ l, p.2 = .free -> ∃ a, env.cells.lookup p.1 = some a) ->
      (forIn l cs fun (x : Str × NameKind) (r : List (Str × Addr)) => if (x.2 == .free) = true then (do let a ← cellOf env x.1; pure (ForInStep.yield ((x.1, a) :: r))) else (pure (ForInStep.yield r) : Sem _)) = (pure (zP env l cs) : Sem _) := by
    intro l
    induction l with
    | nil => intro cs _; rfl
    | cons p r ih =>
      intro cs hp
      obtain ⟨n, k⟩ := p
      rw [List.forIn_cons]
      cases hk : k == NameKind.free with
      | false =>
        simp only [hk, Bool.false_eq_true, if_false]
        have e : zP env ((n, k) :: r) cs = zP env r cs := by simp only [zP, hk, Bool.false_eq_true, if_false]
        rw [e, ← ih cs fun q hq => hp q (List.mem_cons_of_mem _ hq)]
        rfl
      | true =>
        obtain ⟨a, ha⟩ := hp (n, k) List.mem_cons_self (by simpa using hk)
        have ha' : env.cells.lookup n = some a := ha
        have e : zP env ((n, k) :: r) cs = zP env r ((n, a) :: cs) := by simp only [zP, hk, ha', if_true]
        have ec : cellOf env n = pure a := by unfold cellOf; rw [ha']
        simp only [hk, if_true, ec]
        rw [e, ← ih ((n, a) :: cs) fun q hq => hp q (List.mem_cons_of_mem _ hq)]
        rfl
  have q := go scope.names [] h
  simp only [closureFor]
  refine Eq.trans (congrArg (fun z => z >>= fun s => pure s) q) ?_
  rfl
theorem J4 {env : Env} {x : Str} {c : Addr} : ∀ (l : List (Str × NameKind)) (cs : List (Str × Addr)), (cs.lookup x = some c -> env.cells.lookup x = some c) -> (zP env l cs).lookup x = some c -> env.cells.lookup x = some c
  | [], _, h, e => h e
  | (n, k) :: r, cs, h, e => by
    unfold zP at e
    refine J4 r _ ?_ e
    intro q
    split at q
    · split at q
      · rename_i a ha
        rw [List.lookup_cons] at q
        split at q
        · rename_i hx
          have : x = n := by simpa using hx
          cases q
          rw [this]; exact ha
        · exact h q
      · exact h q
    · exact h q
theorem Ym {env : Env} {x : Str} : ∀ (l : List (Str × NameKind)) (cs : List (Str × Addr)), (∀ p ∈ l, p.2 = .free -> ∃ a, env.cells.lookup p.1 = some a) ->
    ((∃ c, cs.lookup x = some c) \/ (x, NameKind.free) ∈ l) -> ∃ c, (zP env l cs).lookup x = some c
  | [], _, _, h => h.elim id (fun z => nomatch z)
  | (n, k) :: r, cs, hf, h => by
    unfold zP
    refine Ym r _ (fun p hp => hf p (List.mem_cons_of_mem _ hp)) ?_
    rcases h with ⟨c, h⟩ | h
    · left
      split
      · split
        · rw [List.lookup_cons]
          split
          · exact ⟨_, rfl⟩
          · exact ⟨c, h⟩
        · exact ⟨c, h⟩
      · exact ⟨c, h⟩
    · rcases List.mem_cons.mp h with e | h
      · cases e
        left
        obtain ⟨a, ha⟩ := hf (x, .free) List.mem_cons_self rfl
        have ha' : env.cells.lookup x = some a := ha
        simp only [ha']
        refine ⟨a, ?_⟩
        show List.lookup x (if (NameKind.free == NameKind.free) = true then (x, a) :: cs else cs) = some a
        rw [if_pos (by decide), List.lookup_cons]
        simp
      · exact .inr h
def zS (X : Cx) (N' : List Str) (scope : Scope) (cl : List (Str × Addr)) (C : Addr) (s2 : Shared) (H2 : Hp) (fp : List Addr) : Cx where
  prog := X.prog
  w := X.w
  K := X.K
  mg := X.mg
  base := X.base
  A := X.A
  N := N'
  s₀ := s2
  H₀ := H2
  env := compEnvC scope cl C X.env
  outer := X.stack
  stack := X.stack
  ex := fp
  fn := fun _ => false
  calm := X.calm
  pn := []
  xe := fun _ _ => False
def blk (js : List (Option Nat)) (σ : St) : St := js.map fun j => match j with | some j => (σ[j]?).join | none => none
def PTs (X : Cx) (ifs : List Expr) (tc : TT) : Prop :=
  ∀ (pins : List (Addr × Obj)) (s : Shared) (σ : St) (H : Hp) (Q : Bool -> Hp -> Prop), Inv X pins σ H s -> tc σ H Q ->
    wpAny (model X.prog X.w) X.A (forIn ifs true fun c r => if r = true then do let ok ← isTrue c X.env (eval c X.env); pure (ForInStep.yield ok) else pure (ForInStep.yield r)) (TP X pins σ Q) X.xe s
def tTT : TT := fun _ H Q => Q true H
theorem zeK {X : Cx} : PTs X [] tTT := fun _ _ _ H _ I h => wpAny_tests_nil ⟨H, I, h⟩
def zd0 (J : It) (g : TG) (tc : TT) (te : TE) (σ : St) (H : Hp) (Q : List V -> Hp -> Prop) : Prop :=
  ∃ W : Nat -> Nat -> List V -> St -> Hp -> Prop, (∃ m, W 0 m [] σ H) /\ ∀ i m ys σ H, W i m ys σ H ->
    (J.stop i H /\ ys.length <= sizeLine /\ Q ys H) \/
    (J.go i H /\ ys.length < sizeLine /\ ∃ N : List V -> St -> Hp -> Prop, (∀ ys' σ' H', N ys' σ' H' -> ∃ m', m' < m /\ W (i + 1) m' ys' σ' H') /\
      ∀ x H', J.yld i H x H' -> g x σ H' fun σ2 H2 => tc σ2 H2 fun b H3 => if b = true then te σ2 H3 fun y H4 => N (ys ++ [y]) σ2 H4 else N ys σ2 H3)
def zaw (wi : TI) (js : List (Option Nat)) (g : TG) (tc : TT) (te : TE) : TE := fun σ H Q => wi σ H fun J H1 => zd0 J g tc te (blk js σ) H1 fun ys H2 => ∀ p, H2 p = none -> Q (.ref p) (zG H2 p (.lst ys))
theorem zbL {prog : Program} {w : World} {A : Around} {R : Result -> Shared -> Prop} {s : Shared} {elt target iter : Expr} {ifs : List Expr} {scope : Scope} {pos : Pos} {it acc : Value} {env : Env} (I : Nat -> Shared -> Prop)
    (turn : ∀ n s, I n s -> wpAny (model prog w) A (pyNext it) (fun r s₁ => match r with
      | none => R (.ok .next) s₁
      | some v => wpAny (model prog w) A (letOwnedTupleGo target it v) (fun _ s₁ => wpAny (model prog w) A (assign target env v) (fun _ s₂ =>
          wpAny (model prog w) A (forIn ifs true fun c r => if r = true then do let ok ← isTrue c env (eval c env); pure (ForInStep.yield ok) else pure (ForInStep.yield r)) (fun ok s₃ =>
            if ok = true then wpAny (model prog w) A (eval elt env) (fun x s₄ =>
              wpAny (model prog w) A (call (.builtin "list.append") [acc, x]) (fun _ s₅ => ∃ m, m < n /\ I m s₅) (fun _ _ => False) s₄) (fun _ _ => False) s₃
            else ∃ m, m < n /\ I m s₃) (fun _ _ => False) s₂) (fun _ _ => False) s₁) (fun _ _ => False) s₁) (fun _ _ => False) s)
    (n : Nat) (h : I n s) : codeAny (model prog w) A (.compLoop (.ListComp elt [⟨target, iter, ifs, 0⟩] scope pos) 0 it acc env) R s := by
  refine codeAny_loop rfl I (fun n s hI => ?_) n h
  show wpAny _ A ((compTurn (.ListComp elt [⟨target, iter, ifs, 0⟩] scope pos) 0 it acc env).onRaise (fun x => do noteFrame x env; theTreesLotGoes x)) _ _ s
  refine wpAny_noted ?_
  rw [compTurn_list]
  refine wpAny_bind (wpAny_standAt (wpAny_bind (wpAny_mono (turn n s hI) (fun r s₁ h₁ => ?_) fun _ _ h' => h'.elim)))
  cases r with
  | none => exact wpAny_pure h₁
  | some v =>
    refine wpAny_bind (wpAny_mono h₁ (fun _ s₁ h₁ => ?_) fun _ _ h' => h'.elim)
    refine wpAny_bind (wpAny_mono h₁ (fun _ s₂ h₂ => wpAny_bind (wpAny_mono h₂ (fun ok s₃ h₃ => ?_) fun _ _ h' => h'.elim)) fun _ _ h' => h'.elim)
    cases ok with
    | false => exact wpAny_pure ⟨rfl, h₃⟩
    | true =>
      exact wpAny_bind (wpAny_bind (wpAny_mono h₃ (fun x s₄ h₄ => wpAny_bind (wpAny_mono h₄ (fun _ s₅ h₅ => wpAny_pure (wpAny_pure ⟨rfl, h₅⟩)) fun _ _ h' => h'.elim)) fun _ _ h' => h'.elim))
end L2
namespace L2
open PySem PySem.Spec PyProof.Rows
section
variable {X : Cx} {pins : List (Addr × Obj)} {σ : St} {H H2 : Hp} {s2 : Shared}
theorem mem_of_lookup {α : Type} {x : Str} {k : α} : ∀ {l : List (Str × α)}, l.lookup x = some k -> (x, k) ∈ l
  | [], h => by simp at h
  | (n, k') :: r, h => by
    rw [List.lookup_cons] at h
    split at h
    · rename_i hx
      have : x = n := by simpa using hx
      cases h; rw [this]; exact List.mem_cons_self
    · exact List.mem_cons_of_mem _ (mem_of_lookup h)
theorem Je {env : Env} {x : Str} {k : NameKind} : ∀ {l : List (Str × NameKind)},
    (l.map fun (n, k) => if (k == NameKind.free && env.scope.kind == .function && env.kindOf n == some .cell) then (n, NameKind.cell) else (n, k)).lookup x = some k ->
    l.lookup x = some k \/ (k = .cell /\ l.lookup x = some .free)
  | [], h => by simp at h
  | (n, k') :: r, h => by
    have ih := @Je env x k r
    rw [List.map_cons, List.lookup_cons] at h
    rw [List.lookup_cons]
    by_cases hc : (k' == NameKind.free && env.scope.kind == .function && env.kindOf n == some .cell) = true
    · simp only [hc, if_true] at h
      have hk : k' = .free := by
        simp only [Bool.and_eq_true] at hc
        simpa using hc.1.1
      cases hx : x == n with
      | true => rw [hx] at h; cases h; exact .inr ⟨rfl, by rw [hk]⟩
      | false => rw [hx] at h; exact ih h
    · simp only [hc, if_false, Bool.false_eq_true] at h
      cases hx : x == n with
      | true => rw [hx] at h; exact .inl h
      | false => rw [hx] at h; exact ih h
structure CompOk (X : Cx) (N' : List Str) (js : List (Option Nat)) (scope : Scope) : Prop where
  kind : scope.kind = .function
  cell : ∀ y ∈ scope.names, y.2 ≠ .cell
  names : ∀ y ∈ scope.names, y.2 = .local -> scope.names.lookup y.1 = some .local
  free : ∀ y ∈ scope.names, y.2 = .free -> X.env.kindOf y.1 = some .cell \/ X.env.kindOf y.1 = some .free
  len : js.length = N'.length
  ix : ∀ (i j : Nat) (x : Str), js[i]? = some (some j) -> N'[i]? = some x -> X.N[j]? = some x /\ scope.names.lookup x = some .free
variable {N' : List Str} {js : List (Option Nat)} {scope : Scope} {fp : List Addr}
theorem CompOk.clos (K : CompOk X N' js scope) (I : Inv X pins σ H s2) : ∀ p ∈ scope.names, p.2 = .free -> ∃ a, X.env.cells.lookup p.1 = some a := fun p hp hf => I.ok.has p.1 (K.free p hp hf)
theorem zhY {cl : List (Str × Addr)} {C : Addr} {x : Str} : (compEnvC scope cl C X.env).kindOf x = (scope.names.map fun (n, k) => if (k == NameKind.free && X.env.scope.kind == .function && X.env.kindOf n == some .cell) then (n, NameKind.cell) else (n, k)).lookup x := rfl
theorem CompOk.ok (K : CompOk X N' js scope) (I : Inv X pins σ H2 s2) (hf : ∀ b ∈ fp, FpOk X pins H2 b) (hfp : ∀ b ∈ fp, b < s2.heap.objs.size) {C : Addr} (hC : s2.heap.objs.size <= C) :
    (zS X N' scope (zP X.env scope.names []) C s2 H2 fp).Ok := by
  have sub : ∀ x c, (zP X.env scope.names []).lookup x = some c -> X.env.cells.lookup x = some c := fun x c e => J4 scope.names [] (fun z => by simp at z) e
  refine ⟨I.mod, K.kind, I.ok.glob, I.ok.blt, hC, fun x y c a b => I.ok.inj x y c (sub x c a) (sub y c b), fun x hk => ?_, fun x c h => (nomatch h), I.ok.hd, I.ok.frames, .inl rfl, fun b hb => ⟨?_, fun x c e => ?_⟩, I.bs, ?_, fun b o e hb => ?_, fun b hb => ?_, I.stack, I.stkFree⟩
  · refine Ym scope.names [] (K.clos I) (.inr ?_)
    have z : ∀ k, (compEnvC scope (zP X.env scope.names []) C X.env).kindOf x = some k -> k = .cell \/ k = .free -> (x, NameKind.free) ∈ scope.names := fun k e hk => by
      rw [zhY] at e
      rcases Je e with e | ⟨_, e⟩
      · rcases hk with rfl | rfl
        · exact absurd rfl (K.cell _ (mem_of_lookup e))
        · exact mem_of_lookup e
      · exact mem_of_lookup e
    rcases hk with e | e
    · exact z _ e (.inl rfl)
    · exact z _ e (.inr rfl)
  · exact Nat.ne_of_lt (Nat.lt_of_lt_of_le (hfp b hb) hC)
  · exact (hf b hb).2.2.2.2.1 x c (sub x c e)
  · exact Nat.le_trans I.ok.bsz I.sz
  · rcases (hf b hb).2.2.2.1 with z | z
    · exact I.ok.noex b o e z
    · exact absurd (Nat.lt_of_lt_of_le (Nat.lt_of_lt_of_le (Heap.lt_size e) I.ok.bsz) z) (Nat.lt_irrefl _)
  · intro hs
    rcases List.mem_cons.mp (I.stkSub b hs) with e | e
    · exact (hf b hb).2.1 e
    · exact (hf b hb).2.2.1 e
theorem CompOk.inv (K : CompOk X N' js scope) (I : Inv X pins σ H2 s2) (hf : ∀ b ∈ fp, FpOk X pins H2 b) (hfp : ∀ b ∈ fp, b < s2.heap.objs.size) {C D : Addr} {o : Obj} {h1 : Heap} {tk : Nat} {m : Str -> Option Value}
    (hD : s2.heap.objs.size <= D) (hC : s2.heap.objs.size <= C) (hDC : D ≠ C) (up : ∀ b u, s2.heap.get? b = some u -> h1.get? b = some u) (hn : h1.Ns C m) (ho : h1.get? D = some o) (hcell : ∀ v, o.data ≠ .cell v) :
    Inv (zS X N' scope (zP X.env scope.names []) C s2 H2 fp) [(D, o)] (blk js σ) H2 { s2 with heap := h1, toks := tk } := by
  have ok := K.ok I hf hfp hC
  have sub : ∀ x c, (zP X.env scope.names []).lookup x = some c -> X.env.cells.lookup x = some c := fun x c e => J4 scope.names [] (fun z => by simp at z) e
  refine ⟨ok, rfl, I.bare, Un.kept up, ⟨m, hn, fun i x v e1 e2 e3 => ?_⟩, fun x c e => ?_, I.hok.fresh hC, fun x c e => I.freeC x c (sub x c e), fun p hp => ?_, I.hok.kept up, ?_⟩
  · have e2' : (js.map fun j => match j with | some j => (σ[j]?).join | none => none)[i]? = some (some v) := e2
    rw [List.getElem?_map] at e2'
    cases hj : js[i]? with
    | none => rw [hj] at e2'; cases e2'
    | some j =>
      rw [hj] at e2'
      cases j with
      | none => cases e2'
      | some j =>
        have e4 : (σ[j]?).join = some v := Option.some.inj e2'
        have e5 : σ[j]? = some (some v) := by
          cases q : σ[j]? with
          | none => rw [q] at e4; cases e4
          | some z => rw [q] at e4; cases z with
            | none => cases e4
            | some z => cases e4; rfl
        obtain ⟨hX, hfr⟩ := K.ix i j x hj e1
        obtain ⟨mX, hnX, hl⟩ := I.loc
        have hm := mem_of_lookup hfr
        have hk := K.free _ hm rfl
        have hv : Zn X.env.scope x := hk.elim (fun z => .inr (.inl z)) fun z => .inr (.inr z)
        obtain ⟨u, r, q⟩ := hl j x v hX e5 hv
        refine ⟨u, r, ?_⟩
        rcases q with ⟨q, _⟩ | ⟨_, c, ec, z⟩
        · rcases hk with hk | hk
          · have hk' : X.env.kindOf x = some .cell := hk
            rw [q] at hk'; cases hk'
          · have hk' : X.env.kindOf x = some .free := hk
            rw [q] at hk'; cases hk'
        · obtain ⟨c', ec'⟩ := Ym (x := x) scope.names [] (K.clos I) (.inr hm)
          have e6 := sub x c' ec'
          rw [ec] at e6; cases e6
          obtain ⟨oz, hoz, hdz⟩ := z
          refine .inr ⟨?_, c, ec', ⟨oz, up _ _ hoz, hdz⟩⟩
          rcases e3 with e3 | e3 | e3
          · rcases Je e3 with e | ⟨z, _⟩
            · rw [hfr] at e; cases e
            · cases z
          · exact .inl e3
          · exact .inr e3
  · obtain ⟨v, oz, hoz, hdz⟩ := I.cell x c (sub x c e)
    exact ⟨v, oz, up _ _ hoz, hdz⟩
  · have e : p = (D, o) := by
      have : p ∈ ([] : List (Addr × Obj)) ++ [(D, o)] := hp
      simpa using this
    subst e
    refine ⟨ho, I.hok.fresh hD, hDC, fun z => ?_, hcell⟩
    rcases List.mem_cons.mp (I.stkSub D z) with e | e
    · exact absurd (Nat.lt_of_lt_of_le I.lt hD) (by rw [show D = X.env.locals from e]; exact Nat.lt_irrefl _)
    · exact I.nofs hD e
  · show (js.map _).length = N'.length
    rw [List.length_map]; exact K.len
theorem zbM (I : Inv X pins σ H2 s2) (hf : ∀ b ∈ fp, FpOk X pins H2 b) {cl : List (Str × Addr)} {C D : Addr} {o : Obj} {ys : List V} {us : List Value} {k : Nat} {σ' : St} {H4 : Hp} {s4 : Shared} {pl : List (Addr × Obj)}
    (hD : s2.heap.objs.size <= D) (I4 : Inv (zS X N' scope cl C s2 H2 fp) pl σ' H4 s4) (hp : (D, o) ∈ pl) (ho : o = { cls := .type "list", data := .seq us.toArray k }) (r : Vals ys us) (hz : ys.length <= sizeLine) :
    Inv X pins σ (zG H4 D (.lst ys)) s4 := by
  have pD := I4.pin (D, o) (List.mem_append_right _ hp)
  have nD : H4 D = none := pD.2.1
  have eD : s4.heap.get? D = some o := pD.1
  have neD : ∀ b u, s2.heap.get? b = some u -> b ≠ D := fun b u e => Nat.ne_of_lt (Nat.lt_of_lt_of_le (Heap.lt_size e) hD)
  have n2 : H2 D = none := I.hok.fresh hD
  have U := I4.base
  refine I.call' (ch := fp) I4.os ⟨fun b u e n hb hx => U.keep b u e n hb hx, fun b u e n hb hx => U.slot b u e n hb hx, fun b u e n hx => ?_, fun b u e hx => U.there b u e hx, fun b xs e => ?_, fun b u xs e => ?_, fun b ps e => ?_⟩ (fun b u e => ?_) I4.bare fun b hb => ⟨(hf b hb).2.2.2.1, (hf b hb).2.1, (hf b hb).2.2.2.2.1, (hf b hb).2.2.2.2.2⟩
  · rw [zx (neD b u e)]; exact U.free b u e n hx
  · have q := U.tups b xs e
    rw [zx (zF q nD)]; exact q
  · have q := U.frzs b u xs e
    rw [zx (zF q nD)]; exact q
  · obtain ⟨more, q⟩ := U.tbls b ps e
    exact ⟨more, by rw [zx (zF q nD)]; exact q⟩
  · by_cases hb : b = D
    · subst hb
      rw [yI] at e
      cases e
      exact ⟨hz, us, k, r, by rw [eD, ho]⟩
    · rw [zx hb] at e
      exact (I4.hok b u e).stay (fun c v _ q => q) (fun c q => by rw [zx (zF q nD)]; exact q) fun c xs q => by rw [zx (zF q nD)]; exact q
end
end L2
namespace L2
open PySem PySem.Spec PyProof.Rows
section
variable {X : Cx} {pins : List (Addr × Obj)} {σ : St} {H H2 : Hp} {s2 : Shared} {N' : List Str} {js : List (Option Nat)} {scope : Scope} {fp : List Addr}
abbrev J5 (us : List Value) : Obj := { cls := .type "list", data := .seq us.toArray us.length }
theorem U8 {tg elt iter : Expr} {ifs : List Expr} {pos : Pos} {g : TG} {tc : TT} {te : TE} {J : It} {it : Addr} {tn : Nat -> Heap -> Prop} {Qy : List V -> Hp -> Prop} {RR : Value -> Addr -> Result -> Shared -> Prop} {E : Value -> Shared -> Prop}
    (hc : X.calm = true) (K : CompOk X N' js scope) (I : Inv X pins σ H2 s2) (T : Yi X.prog X.w X.K tg J fp it tn) (st2 : tn 0 s2.heap) (f2 : ∀ b ∈ fp, FpOk X pins H2 b)
    (hb : ∀ C cl, PG (zS X N' scope cl C s2 H2 fp) tg g /\ PTs (zS X N' scope cl C s2 H2 fp) ifs tc /\ PE (zS X N' scope cl C s2 H2 fp) elt te)
    (hw : zd0 J g tc te (blk js σ) H2 Qy)
    (hR : ∀ D C s4 H4 ys m, Inv X pins σ (zG H4 D (.lst ys)) s4 -> s4.heap.Ns C m -> s2.heap.objs.size <= C -> D ≠ C -> H4 C = none -> H4 D = none -> Qy ys H4 -> RR (.ref D) C (.ok .next) s4) :
    wpAny (model X.prog X.w) X.A (newList []) (fun acc s₃ => wpAny (model X.prog X.w) X.A (newFunctionEnv scope X.env.globals (zP X.env scope.names []) [] X.env.qual none .none (some X.env)) (fun cenv s₄ =>
      codeAny (model X.prog X.w) X.A (.compStart (.ListComp elt [⟨tg, iter, ifs, 0⟩] scope pos) 0 (.ref it) acc { cenv with scope := relabel scope X.env }) (RR acc cenv.locals) s₄) E s₃) E s2 := by
  refine wpAny_newObj_type (wpAny_newFunctionEnv K.cell (by intro y hy; simp at hy) (fun h₁ hns₁ hsb₁ => ?_) K.kind)
  dsimp only at hns₁ hsb₁ ⊢
  generalize hH2 : s2.heap.push { cls := .type "list", dict := none, data := .seq ([] : List Value).toArray } = HH at hns₁ hsb₁ ⊢
  have hC : HH.objs.size = s2.heap.objs.size + 1 := by rw [← hH2, Heap.size_push]
  have hDC : s2.heap.objs.size ≠ HH.objs.size := by rw [hC]; exact Nat.ne_of_lt (Nat.lt_succ_self _)
  have below : ∀ b, b < s2.heap.objs.size -> b ≠ HH.objs.size /\ b ≠ s2.heap.objs.size := fun b hb => ⟨by rw [hC]; exact Nat.ne_of_lt (Nat.lt_succ_of_lt hb), Nat.ne_of_lt hb⟩
  have old : ∀ b o, s2.heap.get? b = some o -> h₁.get? b = some o := fun b o e => hsb₁.extBut b o (below b (Heap.lt_size e)).1 (Heap.get?_push_of_some _ (hH2 ▸ Heap.get?_push_of_some _ e))
  have hacc : h₁.get? s2.heap.objs.size = some (J5 []) := hsb₁.extBut _ _ hDC (Heap.get?_push_of_some _ (hH2 ▸ Heap.get?_push_size _ rfl))
  have hfp : ∀ b ∈ fp, b < s2.heap.objs.size := fun b hb => by obtain ⟨o, e, _⟩ := T.obj 0 _ st2 b hb; exact Heap.lt_size e
  have hCle : s2.heap.objs.size <= HH.objs.size := by rw [hC]; exact Nat.le_succ _
  generalize hCC : HH.objs.size = C at *
  generalize hDD : s2.heap.objs.size = D at *
  obtain ⟨W, ⟨m0, w0⟩, turn⟩ := hw
  obtain ⟨hG, hT, hE⟩ := hb C (zP X.env scope.names [])
  have st1 : tn 0 h₁ := T.keep 0 _ _ st2 fun b _ o e => old b o e
  have loop : ∀ s₃ : Shared, s₃ = { s2 with heap := h₁, toks := s2.toks + ([] : List (Str × Value)).length } ->
      codeAny (model X.prog X.w) X.A (.compLoop (.ListComp elt [⟨tg, iter, ifs, 0⟩] scope pos) 0 (.ref it) (.ref D) (compEnvC scope (zP X.env scope.names []) C X.env)) (RR (.ref D) C) s₃ := by
    rintro s₃ rfl
    have I0 : Inv (zS X N' scope (zP X.env scope.names []) C s2 H2 fp) [(D, J5 [])] (blk js σ) H2 { s2 with heap := h₁, toks := s2.toks + ([] : List (Str × Value)).length } :=
      K.inv I f2 (fun b hb => by rw [hDD]; exact hfp b hb) (by rw [hDD]; exact Nat.le_refl _) (by rw [hDD]; exact hCle) hDC old hns₁ hacc (fun v z => by cases z)
    have cfree : ∀ {σ' : St} {H' : Hp} {s' : Shared} {pl : List (Addr × Obj)}, Inv (zS X N' scope (zP X.env scope.names []) C s2 H2 fp) pl σ' H' s' -> H' C = none := fun I' => I'.free
    have stat : ∀ {H' : Hp} {us : List Value}, (∀ b ∈ fp, H' b = none) -> ∀ b ∈ fp, FpOk (zS X N' scope (zP X.env scope.names []) C s2 H2 fp) [(D, J5 us)] H' b := fun {H' us} hn b hb => by
      refine ⟨hn b hb, (below b (hfp b hb)).1, fun z => ?_, .inl hb, fun x c e => ?_, fun p hp => ?_⟩
      · rcases List.mem_cons.mp (I.stkSub b z) with e | e
        · exact (f2 b hb).2.1 e
        · exact (f2 b hb).2.2.1 e
      · exact (f2 b hb).2.2.2.2.1 x c (J4 scope.names [] (fun z => by simp at z) e)
      · have e : p = (D, J5 us) := by
          have hp' : p ∈ ([] : List (Addr × Obj)) ++ [(D, J5 us)] := hp
          simpa using hp'
        subst e
        exact Ne.symm (below b (hfp b hb)).2
    refine zbL (fun n s' => ∃ i ys us σ' H', Inv (zS X N' scope (zP X.env scope.names []) C s2 H2 fp) [(D, J5 us)] σ' H' s' /\ tn i s'.heap /\ (∀ b ∈ fp, H' b = none) /\ Vals ys us /\ W i n ys σ' H') ?_ m0
      ⟨0, [], [], blk js σ, H2, I0, st1, fun b hb => (f2 b hb).1, .nil, w0⟩
    rintro n s3 ⟨i, ys, us, σ3, H3, I3, st3, fr3, rv, w3⟩
    rcases turn i n ys σ3 H3 w3 with ⟨stop, hz, q⟩ | ⟨go, hz, N, hN, step⟩
    · refine zC (T.done (zS X N' scope (zP X.env scope.names []) C s2 H2 fp) rfl rfl rfl hc i _ s3 σ3 H3 _ I3 (stat fr3) st3 stop) fun r s4 ⟨hr, I4⟩ => ?_
      subst hr
      obtain ⟨mC, hnC, _⟩ := I4.loc
      exact hR D C s4 H3 ys mC (zbM I f2 (by rw [hDD]; exact Nat.le_refl _) I4 List.mem_cons_self rfl rv hz) hnC (by first | exact hCle | (rw [hDD]; exact hCle)) hDC (cfree I4) (I4.pin (D, J5 us) (List.mem_append_right _ List.mem_cons_self)).2.1 q
    · refine zC (T.item (zS X N' scope (zP X.env scope.names []) C s2 H2 fp) rfl rfl rfl hc i _ s3 σ3 H3 _ I3 (stat fr3) st3 go) fun r s4 ⟨u, hr, h4⟩ => ?_
      subst hr
      refine zC h4 fun _ s5 ⟨x, H5, I5, r5, y5, st5, fr5⟩ => ?_
      have I5' := I5.pinned (stat fr5) (T.obj _ _ st5)
      refine zC (hG _ s5 σ3 H5 x u _ I5' r5 (step x H5 y5)) fun _ s6 ⟨σ6, H6, I6, q6⟩ => ?_
      refine zC (hT _ s6 σ6 H6 _ I6 q6) fun ok s7 ⟨H7, I7, q7⟩ => ?_
      have again : ∀ {H8 : Hp} {s8 : Shared}, Inv (zS X N' scope (zP X.env scope.names []) C s2 H2 fp) ([(D, J5 us)] ++ Zp fp s5.heap) σ6 H8 s8 -> tn (i + 1) s8.heap /\ ∀ b ∈ fp, H8 b = none := fun {H8 s8} I8 =>
        ⟨T.keep _ _ _ st5 fun b hb o e => (I8.pin (b, o) (List.mem_append_right _ (List.mem_append_right _ (JP hb e)))).1, fun b hb => by
          obtain ⟨o, e, d⟩ := T.obj _ _ st5 b hb
          exact (I8.pin (b, o) (List.mem_append_right _ (List.mem_append_right _ (JP hb e)))).2.1⟩
      cases ok with
      | false =>
        have q7' : N ys σ6 H7 := by simpa using q7
        obtain ⟨m', hm, w7⟩ := hN _ _ _ q7'
        obtain ⟨t7, fr7⟩ := again I7
        exact ⟨m', hm, i + 1, ys, us, σ6, H7, I7.unpinned, t7, fr7, rv, w7⟩
      | true =>
        have q7' : te σ6 H7 fun y H4 => N (ys ++ [y]) σ6 H4 := by simpa using q7
        refine zC (hE _ s7 σ6 H7 _ I7 q7') fun z s8 ⟨y, H8, I8, r8, q8⟩ => ?_
        obtain ⟨t8, fr8⟩ := again I8
        obtain ⟨eD, nD, neL, nf, _⟩ := I8.pin (D, J5 us) (List.mem_append_right _ (List.mem_append_left _ List.mem_cons_self))
        have hul : us.length < sizeLine := by rw [← rv.length]; exact hz
        refine append_at (hsz := by show us.toArray.size <= sizeLine; rw [List.size_toArray]; exact Nat.le_of_lt hul) eD fun h₉ hs₉ hD₉ => ?_
        obtain ⟨m', hm, w8⟩ := hN _ _ _ q8
        have I8' : Inv (zS X N' scope (zP X.env scope.names []) C s2 H2 fp) [] σ6 H8 s8 := I8.pins_of fun p hp => (nomatch hp)
        have I9 : Inv (zS X N' scope (zP X.env scope.names []) C s2 H2 fp) [] σ6 H8 { s8 with heap := h₉ } := I8'.turned (t' := s8.toks) (it := D) (fun b o hb e => (hs₉.2 b hb).trans e) nD neL (.inr (by show s2.heap.objs.size <= D; rw [hDD]; exact Nat.le_refl _)) (fun x c e z => by
            have e' : (zP X.env scope.names []).lookup x = some c := e
            obtain ⟨v, q⟩ := I.cell x c (J4 scope.names [] (fun z => by simp at z) e')
            have l := q.lt
            rw [hDD, z] at l; exact Nat.lt_irrefl _ l) (fun p hp => (nomatch hp))
        have eq9 : h₉.get? D = some (J5 (us ++ [z])) := hD₉.trans (congrArg some (by
          show ({ cls := .type "list", data := .seq (us.toArray.push z) (us.length + 1) } : Obj) = { cls := .type "list", data := .seq (us ++ [z]).toArray (us ++ [z]).length }
          rw [List.length_append, List.length_singleton, List.push_toArray]))
        refine ⟨m', hm, i + 1, ys ++ [y], us ++ [z], σ6, H8, I9.pins_of fun p hp => ?_, T.keep _ _ _ t8 fun b hb o e => (hs₉.2 b ((below b (hfp b hb)).2)).trans e, fr8, rv.append (.cons r8 .nil), w8⟩
        have e : p = (D, J5 (us ++ [z])) := by simpa using hp
        subst e
        exact ⟨eq9, nD, neL, nf, fun v z => by cases z⟩
  exact codeAny_compStart_list (loop _ rfl) (T.self X.A 0 _ _ _ st1 (loop _ rfl))
end
end L2
namespace L2
open PySem PySem.Spec PyProof.Rows
section
variable {X : Cx} {N' : List Str} {js : List (Option Nat)} {scope : Scope} {tg elt iter : Expr} {ifs : List Expr} {pos : Pos} {wi : TI} {g : TG} {tc : TT} {te : TE}
def PB (X : Cx) (N' : List Str) (scope : Scope) (tg : Expr) (ifs : List Expr) (elt : Expr) (g : TG) (tc : TT) (te : TE) : Prop :=
  ∀ s2 H2 fp C cl, PG (zS X N' scope cl C s2 H2 fp) tg g /\ PTs (zS X N' scope cl C s2 H2 fp) ifs tc /\ PE (zS X N' scope cl C s2 H2 fp) elt te
theorem zeL (hc : X.calm = true) (K : CompOk X N' js scope) (hi : PI X tg iter wi) (hb : PB X N' scope tg ifs elt g tc te) (hs : ∀ x, foldedSetIterable iter X.env x = pure x := by intro _; rfl) :
    PE X (.ListComp elt [⟨tg, iter, ifs, 0⟩] scope pos) (zaw wi js g tc te) := by
  intro pins s σ H Q I h
  rw [eval_ListComp]
  refine wpAny_comprehension_free (use := none) rfl hs (Rk (K.clos I)) K.kind K.names (zC (hi pins s σ H _ I h) fun v s1 h1 => zC h1 fun itv s2 h2 => ?_)
  obtain ⟨it, fp, tn, J, H2, e, I2, T, st2, f2, hw⟩ := h2
  subst e
  refine U8 hc K I2 T st2 f2 (fun C cl => hb s2 H2 fp C cl) hw fun D C s4 H4 ys m I4 hn hC hDC nC nD q => ?_
  have nC' : zG H4 D (.lst ys) C = none := by rw [zx (Ne.symm hDC)]; exact nC
  obtain ⟨f0, f1, f2', f3, f4, f5⟩ := I2.fpOk (H' := zG H4 D (.lst ys)) hC nC'
  refine ⟨m, hn, fun h' hs' => ⟨.ref D, _, I4.turned (t' := s4.toks) (it := C) (fun b o hb e => (hs'.2 b hb).trans e) nC' f1 f3 f4 f5, rfl, q D nD⟩⟩
theorem zeM {i : Nat} {y : Str} {py spos : Pos} (hc : X.calm = true) (hN : X.N.Nodup) (hi' : X.N[i]? = some y) (hy : X.env.scope.names.lookup y = some .local) (K : CompOk X N' js scope) (hi : PI X tg iter wi) (hb : PB X N' scope tg ifs elt g tc te)
    (hsw : swapsWith (.ListComp elt [⟨tg, iter, ifs, 0⟩] scope pos) (some (.Name y py)) spos.line X.env = pure true) (hs : ∀ x, foldedSetIterable iter X.env x = pure x := by intro _; rfl) :
    PS X (.Assign [.Name y py] (.ListComp elt [⟨tg, iter, ifs, 0⟩] scope pos) spos) (Ur (zaw wi js g tc te) (ZM i)) := by
  intro pins s σ H Dn I h
  rw [exec_Assign_Name_used _ _ _ _ hsw]
  refine wpAny_bind (wpAny_standAt (wpAny_bind ?_))
  show wpAny _ _ (do let _ ← comprehension (.ListComp elt [⟨tg, iter, ifs, 0⟩] scope pos) scope X.env _ (newList []) false (eval iter X.env) (some (assign (.Name y py) X.env))) _ _ s
  refine wpAny_bind (wpAny_mono (wpAny_comprehension_free (use := some (assign (.Name y py) X.env)) (Q := fun _ s' => SP X pins Dn .next s') rfl hs (Rk (K.clos I)) K.kind K.names
    (zC (hi pins s σ H _ I h) fun v s1 h1 => zC h1 fun itv s2 h2 => ?_)) (fun _ s' hq => wpAny_pure (wpAny_pure hq)) fun _ _ e => e)
  obtain ⟨it, fp, tn, J, H2, e, I2, T, st2, f2, hw⟩ := h2
  subst e
  refine U8 hc K I2 T st2 f2 (fun C cl => hb s2 H2 fp C cl) hw fun D C s4 H4 ys m I4 hn hC hDC nC nD q => ?_
  have nC' : zG H4 D (.lst ys) C = none := by rw [zx (Ne.symm hDC)]; exact nC
  obtain ⟨f0, f1, f2', f3, f4, f5⟩ := I2.fpOk (H' := zG H4 D (.lst ys)) hC nC'
  show wpAny _ _ (assign (.Name y py) X.env (.ref D)) _ _ _
  refine wpAny_assign_Name (UZ (v := .ref D) I4 hN hi' (.inl hy) rfl (fun s5 I5 ⟨a, sb, ha⟩ => ?_) (.inr hy))
  have nCa : C ≠ a := by
    rcases ha with e | e
    · rw [e]; exact f1
    · exact fun z => f4 y a e z.symm
  exact ⟨m, hn.sameBut sb nCa, fun h' hs' => ⟨_, _, I5.turned (t' := s5.toks) (it := C) (fun b o hb e => (hs'.2 b hb).trans e) nC' f1 f3 f4 f5, q D nD⟩⟩
end
section
variable {g : TG} {tc : TT} {te : TE} {σ : St} {H : Hp} {Q : List V -> Hp -> Prop}
end
end L2
namespace L2
open PySem PySem.Spec PyProof.Rows
section
variable {X : Cx}
theorem U9 : ye X (compareOp .LtE) (fun x y H Q => ∃ i j, x = .str i /\ y = .str j /\ Q (.bl (!(decide (j.cps.toList < i.cps.toList)))) H) := by
  intro pins s σ H x y v u Q I rx ry h
  obtain ⟨i, j, rfl, rfl, q⟩ := h
  obtain ⟨t, rfl⟩ := rx
  obtain ⟨t', rfl⟩ := ry
  exact PySem.P.le_str (zv I q rfl)
theorem Vals.texts : ∀ {ys : List Str} {us : List Value}, Vals (ys.map V.str) us -> StrsAre us ys
  | [], _, r => by cases r; exact .nil
  | y :: ys, _, r => by
    cases r with
    | cons r1 r2 =>
      obtain ⟨t, rfl⟩ := r1
      exact .cons y t (Vals.texts r2)
def zhZ (K : PySem.W.Frag) : V -> List V -> Hp -> VK -> Prop := fun x vs H Q => ∃ z a ys, x = .str z /\ vs = [.ref a] /\ yM K H a (ys.map V.str) /\ (ys.map (·.length)).sum + ys.length * z.length <= 16777216 /\ Q (.str (Txt.join z ys)) H
theorem zeN : MtR X "str.join" (zhZ X.K) := by
  intro pins s σ H x vs v us Q I rx rv h
  obtain ⟨z, a, ys, rfl, rfl, hq, hz, q⟩ := h
  obtain ⟨t, rfl⟩ := rx
  obtain ⟨u, rfl, ru⟩ := rv.one
  cases ru
  obtain ⟨its, r, pl, _⟩ := I.list hq
  exact join_list pl.isList (by simpa using Vals.texts r) hz fun t' k => ⟨.str _, H, I.tok k, ⟨t', rfl⟩, q⟩
def Its (x : Str) : It := ⟨fun i _ => i < x.cps.size, fun i H v H' => H' = H /\ ∃ c, x.cps[i]? = some c /\ v = .str ⟨#[c]⟩, fun i _ => i = x.cps.size⟩
theorem zcW {P : Program} {w : World} {K : PySem.W.Frag} {tg : Expr} (it : Addr) (x : Str) (t : Tok) (T : String) (hT : T = "str_ascii_iterator" \/ T = "str_iterator") : Yi P w K tg (Its x) [it] it (fun i h => h.IsStrIter it T x t i) where
  mem := by simp
  obj := fun i h st b hb => by
    have e : b = it := by simpa using hb
    subst e
    obtain ⟨o, e, c, d⟩ := st
    exact ⟨o, e, fun v z => by rw [d] at z; cases z⟩
  keep := fun i h h' st k => by obtain ⟨o, e, r⟩ := st; exact ⟨o, k it (by simp) o e, r⟩
  item := by
    intro X hP hw hK hc i pins s σ H E I hf st hg
    subst hP hw hK
    obtain ⟨f0, f1, f2, f3, f4, f5⟩ := hf it (by simp)
    have fin : ∀ v h' tk, SignAt x i v -> h'.IsStrIter it T x t (i + 1) -> (∀ b o, b ∉ [it] -> s.heap.get? b = some o -> h'.get? b = some o) -> ∃ u, some v = some u /\
        wpAny (model X.prog X.w) X.A (letOwnedTupleGo tg (.ref it) u) (fun _ s2 => ∃ y H', Inv X pins σ H' s2 /\ RelV y u /\ (Its x).yld i H y H' /\ s2.heap.IsStrIter it T x t (i + 1) /\ ∀ b ∈ [it], H' b = none) E { s with heap := h', toks := tk } := by
      intro v h' tk hv st' kk
      obtain ⟨c, u, hcu, rfl⟩ := hv
      have I1 : Inv X pins σ H { s with heap := h', toks := tk } := I.turned (fun b o hb e => kk b o (by simpa using hb) e) f0 f1 f3 f4 f5
      obtain ⟨o, e, cc, d⟩ := id st'
      refine ⟨_, rfl, Vz (s := { s with heap := h', toks := tk }) e cc d ?_ ⟨.str ⟨#[c]⟩, H, I1, ⟨u, rfl⟩, ⟨rfl, c, hcu, rfl⟩, st', fun b hb => (hf b hb).1⟩⟩
      rcases hT with rfl | rfl <;> decide
    rcases hT with rfl | rfl
    · exact (Walks.strAscii (prog := X.prog) (w := X.w) (I.ok.hd hc) it x t).item i s _ _ hg st fin
    · exact (Walks.strWide (prog := X.prog) (w := X.w) (I.ok.hd hc) it x t).item i s _ _ hg st fin
  done := by
    intro X hP hw hK hc i pins s σ H E I hf st hg
    subst hP hw hK
    obtain ⟨f0, f1, f2, f3, f4, f5⟩ := hf it (by simp)
    have hg' : i = x.cps.size := hg
    subst hg'
    have fin : ∀ (h' : Heap) (tk : Nat), (∀ b o, b ∉ [it] -> s.heap.get? b = some o -> h'.get? b = some o) -> (none : Option Value) = none /\ Inv X pins σ H { s with heap := h', toks := tk } := fun h' tk kk =>
      ⟨rfl, I.turned (fun b o hb e => kk b o (by simpa using hb) e) f0 f1 f3 f4 f5⟩
    rcases hT with rfl | rfl
    · exact (Walks.strAscii (prog := X.prog) (w := X.w) (I.ok.hd hc) it x t).done s _ _ st fin
    · exact (Walks.strWide (prog := X.prog) (w := X.w) (I.ok.hd hc) it x t).done s _ _ st fin
  self := fun A i s Q E st h => by
    rcases hT with rfl | rfl
    · exact wpAny_pyIter_striter_ascii st h
    · exact wpAny_pyIter_striter_wide st h
def zgA (tl : TE) : TI := fun σ H R => tl σ H fun x H1 => ∃ z, x = .str z /\ R (Its z) H1
theorem zgB {tg l : Expr} {tl : TE} (hl : PE X l tl) : PI X tg l (zgA tl) := by
  intro pins s σ H R I h
  refine zC (hl pins s σ H _ I h) fun v s1 ⟨x, H1, I1, r1, q1⟩ => ?_
  obtain ⟨z, e, q⟩ := q1
  subst e
  obtain ⟨t, rfl⟩ := r1
  have fin : ∀ (o : Obj) (T : String), T = "str_ascii_iterator" \/ T = "str_iterator" -> o.cls = .type T -> o.data = .fields #[.str z t, .int 0 0] -> PIE X pins σ tg R (.ref s1.heap.objs.size) { s1 with heap := s1.heap.push o } := fun o T hT hc hd => by
    refine ⟨s1.heap.objs.size, [s1.heap.objs.size], _, _, H1, rfl, I1.kept (t' := s1.toks) fun b o e => Heap.get?_push_of_some _ e, zcW _ z t T hT, ⟨o, Heap.get?_push_size _ (by obtain ⟨c0, d0, dt0, sl0⟩ := o; cases hd; rfl), hc, hd⟩, fun b hb => ?_, q⟩
    have e : b = s1.heap.objs.size := by simpa using hb
    subst e
    exact I1.fpOk (Nat.le_refl _) (I1.hok.fresh (Nat.le_refl _))
  cases ha : z.cps.all (· < 128)
  · exact wpAny_pyIter_wide ha (fin _ "str_iterator" (.inr rfl) rfl rfl)
  · exact wpAny_pyIter_ascii ha (fin _ "str_ascii_iterator" (.inl rfl) rfl rfl)
theorem zcX (hc : X.calm = true) : yO X (.builtin "all") (fun xs H Q => ∃ (a : Addr) (bs : List Bool), xs = [.ref a] /\ yM X.K H a (bs.map V.bl) /\ Q (.bl (bs.all id)) H) := by
  intro pins s σ H xs us Q I rv h
  obtain ⟨a, bs, rfl, hq, q⟩ := h
  obtain ⟨u, rfl, ru⟩ := rv.one
  cases ru
  obtain ⟨its, r, pl, hz⟩ := I.list hq
  have hlt : a < s.heap.objs.size := by obtain ⟨o, n, e, _⟩ := pl; exact Heap.lt_size e
  refine call_all_walk (wpAny_pyIter_list pl.isList ⟨_, _, _, _, _, _, fun i => bs.getD i true, rfl, Walks.list (by simpa using I.ok.hd hc) s.heap.objs.size a (Nat.ne_of_lt hlt) its.toArray, ⟨⟨_, Heap.get?_push_size _ rfl, rfl, rfl⟩, pl.isList.push _⟩, ?_, ?_⟩)
  · intro i v s' Q' E' hP hQ
    have hv : its[i]? = some v := by simpa using hP
    have hi : i < its.length := (List.getElem?_eq_some_iff.mp hv).1
    have hl := r.length
    rw [List.length_map] at hl
    obtain ⟨u, hu, ru⟩ := r.get (i := i) (x := .bl (bs.getD i true)) (by
      rw [List.getElem?_map, List.getElem?_eq_getElem (by omega), List.getD_eq_getElem?_getD, List.getElem?_eq_getElem (by omega)]; rfl)
    rw [hv] at hu; cases hu; cases ru
    exact wpAny_truthy_bool hQ
  · intro h' tk kk
    have hl := r.length
    rw [List.length_map] at hl
    have e : (List.range its.toArray.size).all (fun i => bs.getD i true) = bs.all id := by
      rw [List.size_toArray, ← hl]
      rw [Bool.eq_iff_iff, List.all_eq_true, List.all_eq_true]
      constructor
      · intro z b hb
        obtain ⟨i, hi, e⟩ := List.mem_iff_getElem.mp hb
        have z' := z i (List.mem_range.mpr hi)
        rw [List.getD_eq_getElem?_getD, List.getElem?_eq_getElem hi, e] at z'
        exact z'
      · intro z i hi
        have hi' := List.mem_range.mp hi
        rw [List.getD_eq_getElem?_getD, List.getElem?_eq_getElem hi']
        exact z _ (List.getElem_mem hi')
    have I1 : Inv X pins σ H { s with heap := h', toks := tk } := I.kept fun b o e => kk b o (by simp only [List.mem_singleton]; exact Nat.ne_of_lt (Heap.lt_size e)) (Heap.get?_push_of_some _ e)
    refine ⟨.bl (bs.all id), H, I1, ?_, q⟩
    rw [e]; rfl
end
end L2
namespace L2
open PySem PySem.Spec PyProof.Rows
section
variable {prog : Program} {w : World} {A : Around} {R : Result -> Shared -> Prop}
end
end L2
namespace L2
open PySem PySem.Spec PyProof.Rows
section
variable {prog : Program} {w : World} {A : Around} {E : Value -> Shared -> Prop} {s : Shared}
end
end L2
namespace L2
open PySem PySem.Spec PyProof.Rows
section
variable {X : Cx}
def zd1 (a : Addr) : HO := .ext fun h => ∃ o, h.get? a = some o /\ o.cls = .type "dict"
inductive YL (K : PySem.W.Frag) (H : Hp) : V -> Value -> Prop where
  | of {x : V} {t : Value} (h : Jd K H x t) : YL K H x t
  | dict {a : Addr} (e : H a = some (zd1 a)) : YL K H (.ref a) (.type "dict")
theorem V7 : yO X (.builtin "isinstance") (fun xs H Q => ∃ x t c b, xs = [x, .ty c] /\ YL X.K H x t /\ PySem.W.kitOne X.K t (.type c) = some b /\ Q (.bl b) H) := by
  intro pins s σ H xs us Q I rv h
  obtain ⟨x, t, c, b, rfl, ht, hk, q⟩ := h
  obtain ⟨u, u', rfl, ru, ru'⟩ := rv.two
  cases ru'
  cases ht with
  | of ht => exact zbB I ru ht hk fun tk => ⟨.bl b, H, I.tok tk, rfl, q⟩
  | @dict a e =>
    cases (show u = Value.ref a from ru)
    obtain ⟨⟨o, ho, hc⟩, _, _⟩ := (show ObjOk X.prog X.w H s.heap a (zd1 a) from I.hok a _ e)
    exact PySem.W.kia_one PySem.W.kitx_dict I.kIn ⟨o, ho, hc⟩ hk (fun z => nomatch z) fun tk => ⟨.bl b, H, I.tok tk, rfl, q⟩
end
end L2
namespace L2
open PySem PySem.Spec PyProof.Rows
def Rl (names outer : List (Str × NameKind)) (N' N : List Str) (js : List (Option Nat)) : Bool :=
  names.all (fun y => decide (y.2 ≠ .cell) && (decide (y.2 ≠ .local) || decide (names.lookup y.1 = some .local)) && (decide (y.2 ≠ .free) || (decide (outer.lookup y.1 = some .cell) || decide (outer.lookup y.1 = some .free))))
  && decide (js.length = N'.length) && (js.zip N').all fun p => match p.1 with | none => true | some j => decide (N[j]? = some p.2) && decide (names.lookup p.2 = some .free)
theorem CompOk.of_b {X : Cx} {N' : List Str} {js : List (Option Nat)} {scope : Scope} (hk : scope.kind = .function) (h : Rl scope.names X.env.scope.names N' X.N js = true) : CompOk X N' js scope := by
  unfold Rl at h
  simp only [Bool.and_eq_true, List.all_eq_true, Bool.or_eq_true, decide_eq_true_eq] at h
  obtain ⟨⟨h1, h2⟩, h3⟩ := h
  refine ⟨hk, fun y hy => (h1 y hy).1.1, fun y hy e => (h1 y hy).1.2.elim (fun z => absurd e z) id, fun y hy e => (h1 y hy).2.elim (fun z => absurd e z) id, h2, fun i j x e1 e2 => ?_⟩
  have hm : (some j, x) ∈ js.zip N' := by
    refine List.mem_iff_getElem?.mpr ⟨i, ?_⟩
    rw [List.getElem?_zip_eq_some]
    exact ⟨e1, e2⟩
  have q := h3 _ hm
  simp only [Bool.and_eq_true, decide_eq_true_eq] at q
  exact q
def Has (P : Program) (w : World) (K : PySem.W.Frag) (mg : Str -> Option Value) (base : Heap) (x : Str) (k : Nat) (ps : List Str) (sp : Sp) : Prop :=
  ∃ f fd, FnOk P w K mg base yN k f fd ps sp /\ Binds K fd ps [] /\ PySem.W.keepIn K (.ref f) = true /\ mg x = some (.ref f)
section
variable {X : Cx} {x : Str} {k : Nat} {ps : List Str} {sp : Sp} {p pos : Pos} {e : Expr} {es : List Expr} {t : TA}
theorem Yn (h : Has X.prog X.w X.K X.mg X.base x k ps sp) (hr : Room k X.A) (hg : Gl X x) (ha : PA X (e :: es) t) (hd : (x == ("__debug__" : Str)) = false := by decide)
    (hs : starEach (e :: es) X.env = (false, eval e X.env) :: starEach es X.env := by rfl) (hp : (backTo pos (starEach es X.env)).any (·.1) = false := by rfl) :
    PE X (.Call (.Name x p) (e :: es) [] pos) (YG sp [] E0 t) := by
  obtain ⟨f, fd, G, b, kp, m⟩ := h
  exact zeF G hr hg m kp b .nil zhX ha hd hs hp
end
def Jv : List Expr -> Option (List Str)
  | [] => some []
  | .Constant (.str x) _ _ :: r => (Jv r).map (x :: ·)
  | _ => none
def zd2 (ss : List Str) : TA := fun _ H Q => Q (ss.map V.str) H
theorem Rm {X : Cx} : ∀ {es : List Expr} {ss : List Str}, Jv es = some ss -> PA X es (zd2 ss)
  | [], ss, h => by
    cases h
    intro pos pins s σ H Q I hq
    exact Ju pos pins s σ H Q I hq
  | e :: es, ss, h => by
    cases e with
    | Constant c j p =>
      cases c with
      | str x =>
        have h' : (Jv es).map (x :: ·) = some ss := h
        cases hr : Jv es with
        | none => rw [hr] at h'; cases h'
        | some r =>
          rw [hr] at h'
          cases h'
          exact fun pos pins s σ H Q I hq => jd zbp (Rm hr) rfl pos pins s σ H Q I hq
      | _ => exact nomatch h
    | _ => exact nomatch h
end L2
namespace L2
open PySem PySem.Spec PyProof.Rows
section
variable {X : Cx} {N' : List Str} {js : List (Option Nat)} {scope : Scope} {tg elt iter : Expr} {ifs : List Expr} {pos : Pos} {wi : TI} {g : TG} {tc : TT} {te : TE}
end
end L2
namespace L2
open PySem PySem.Spec PyProof.Rows
section
variable {prog : Program} {w : World} {A : Around} {E : Value -> Shared -> Prop}
end
section
variable {X : Cx}
end
end L2
namespace L2
open PySem PySem.Spec PyProof.Rows
section
variable {X : Cx} {pins : List (Addr × Obj)} {σ : St} {H : Hp} {s : Shared}
end
section
variable {P : Program} {w : World} {K : PySem.W.Frag} {mg : Str -> Option Value} {base : Heap} {N : List Str} {qual : Str} {scope : Scope} {f : Addr} {cd : Value} {A : Around} {outer : List Env} {s₀ : Shared} {H₀ : Hp} {E E₀ : XK}
end
end L2
namespace L2
open PySem PySem.Spec PyProof.Rows
def ziY (e : Addr) (cls : Value) (h : Heap) : Prop := ∃ oe vs, h.get? e = some oe /\ oe.cls = cls /\ oe.data = .fields vs
section
variable {X : Cx} {pins : List (Addr × Obj)} {σ : St} {H : Hp} {s : Shared}
end
section
variable {X : Cx} {CX : Qi} {k : Nat} {f C : Addr} {fd : FuncData} {ps : List Str} {sp : Sp} {dvs : List V} {ds : List Value} {E : St -> XK} {x m : Str} {p pos apos : Pos} {e o : Expr} {es : List Expr} {ta : TE} {t : TA}
end
end L2
namespace L2
open PySem PySem.Spec PyProof.Rows
section
variable {X : Cx}
end
end L2
namespace L2
open PySem PySem.Spec PyProof.Rows
inductive DQ (H : Hp) : Nat -> V -> V -> Bool -> Prop where
  | fl {n : Nat} {x y : V} (fx : jt x = true) (fy : jt y = true) : DQ H n x y (jO x y)
  | ll {n : Nat} {a b : Addr} {xs ys : List V} (e : Nat -> Bool) (ha : H a = some (.lst xs)) (hb : H b = some (.lst ys)) (hl : xs.length = ys.length) (h : ∀ (j : Nat) x y, xs[j]? = some x -> ys[j]? = some y -> DQ H n x y (e j)) : DQ H (n + 1) (.ref a) (.ref b) ((List.range xs.length).all e)
  | ln {n : Nat} {a b : Addr} {xs ys : List V} (ha : H a = some (.lst xs)) (hb : H b = some (.lst ys)) (hl : xs.length ≠ ys.length) : DQ H (n + 1) (.ref a) (.ref b) false
  | tt {n : Nat} {a b : Addr} {xs ys : List V} (e : Nat -> Bool) (ha : H a = some (.tup xs)) (hb : H b = some (.tup ys)) (h : ∀ (j : Nat) x y, xs[j]? = some x -> ys[j]? = some y -> DQ H n x y (e j)) : DQ H (n + 1) (.ref a) (.ref b) ((List.range (min xs.length ys.length)).all e && xs.length == ys.length)
  | lt {n : Nat} {a b : Addr} {xs ys : List V} (ha : H a = some (.lst xs)) (hb : H b = some (.tup ys)) : DQ H (n + 1) (.ref a) (.ref b) false
  | tl {n : Nat} {a b : Addr} {xs ys : List V} (ha : H a = some (.tup xs)) (hb : H b = some (.lst ys)) : DQ H (n + 1) (.ref a) (.ref b) false
theorem eqV_self {x : V} (h : jt x = true) : jO x x = true := by
  cases x with
  | non => rfl
  | bl b => simp [jO]
  | int b => simp [jO]
  | str b => simp [jO]
  | _ => cases h
theorem Rn {H : Hp} {n : Nat} {x y : V} {b : Bool} (h : DQ H n x y b) : x = y -> b = true := by
  induction h with
  | fl fx fy => intro e; subst e; exact eqV_self fx
  | ll e ha hb hl h ih =>
    intro z; cases z
    rw [ha] at hb; cases hb
    rw [List.all_eq_true]
    intro j hj
    have hj := List.mem_range.mp hj
    exact ih j _ _ (List.getElem?_eq_getElem hj) (List.getElem?_eq_getElem hj) rfl
  | ln ha hb hl => intro z; cases z; rw [ha] at hb; cases hb; exact absurd rfl hl
  | tt e ha hb h ih =>
    intro z; cases z
    rw [ha] at hb; cases hb
    rw [Nat.min_self, Bool.and_eq_true]
    refine ⟨?_, by simp⟩
    rw [List.all_eq_true]
    intro j hj
    have hj := List.mem_range.mp hj
    exact ih j _ _ (List.getElem?_eq_getElem hj) (List.getElem?_eq_getElem hj) rfl
  | lt ha hb => intro z; cases z; rw [ha] at hb; cases hb
  | tl ha hb => intro z; cases z; rw [ha] at hb; cases hb
section
variable {X : Cx} {pins : List (Addr × Obj)} {σ : St} {H : Hp} {s : Shared}
theorem QS {A : Around} {xs ys : List V} {us ws : List Value} {e : Nat -> Bool} (rx : Vals xs us) (ry : Vals ys ws) (h : ∀ (j : Nat) x y u v, xs[j]? = some x -> ys[j]? = some y -> RelV x u -> RelV y v -> SeqAt.EqAt A s u v (e j)) (j : Nat) (h1 : j < us.toArray.size) (h2 : j < ws.toArray.size) :
    SeqAt.EqAt A s us.toArray[j] ws.toArray[j] (e j) := by
  have l1 : j < us.length := by simpa using h1
  have l2 : j < ws.length := by simpa using h2
  have e1 := rx.length
  have e2 := ry.length
  obtain ⟨u, hu, ru⟩ := rx.get (i := j) (x := xs[j]'(by omega)) (List.getElem?_eq_getElem _)
  obtain ⟨v, hv, rv⟩ := ry.get (i := j) (x := ys[j]'(by omega)) (List.getElem?_eq_getElem _)
  have q1 : us.toArray[j] = u := by
    have : us[j]? = some us[j] := List.getElem?_eq_getElem l1
    rw [hu] at this; cases this; simp
  have q2 : ws.toArray[j] = v := by
    have : ws[j]? = some ws[j] := List.getElem?_eq_getElem l2
    rw [hv] at this; cases this; simp
  rw [q1, q2]
  exact h j _ _ u v (List.getElem?_eq_getElem (by omega)) (List.getElem?_eq_getElem (by omega)) ru rv
theorem zd3 (I : Inv X pins σ H s) {n : Nat} {x y : V} {b : Bool} (h : DQ H n x y b) : ∀ (A : Around) (u v : Value), A.units + n < cLine -> RelV x u -> RelV y v -> SeqAt.EqAt A s u v b := by
  induction h with
  | fl fx fy => intro A u v _ ru rv; exact zbE ru rv fx fy
  | @ll n a c xs ys e ha hb hl h ih =>
    intro A u v hu ru rv
    have self := Rn (DQ.ll e ha hb hl h)
    cases ru; cases rv
    by_cases z : a = c
    · subst z
      rw [self rfl]; exact SeqAt.EqAt.same _
    · obtain ⟨us, ra, pa, za⟩ := I.list (.inl (.inl ha))
      obtain ⟨ws, rb, pb, zb⟩ := I.list (.inl (.inl hb))
      have e1 := ra.length
      have e2 := rb.length
      have := SeqAt.RcAt.lists (A := A) pa.isList pb.isList (by simp; omega) (by omega) (QS ra rb fun j x y u v h1 h2 r1 r2 => ih j x y h1 h2 A.in1 u v (by rw [Around.in1_units]; omega) r1 r2)
      rw [List.size_toArray, ← e1] at this
      exact SeqAt.EqAt.of_refs z this
  | @ln n a c xs ys ha hb hl =>
    intro A u v hu ru rv
    cases ru; cases rv
    have z : a ≠ c := fun z => by subst z; rw [ha] at hb; cases hb; exact hl rfl
    obtain ⟨us, ra, pa, za⟩ := I.list (.inl (.inl ha))
    obtain ⟨ws, rb, pb, zb⟩ := I.list (.inl (.inl hb))
    have e1 := ra.length
    have e2 := rb.length
    exact SeqAt.EqAt.of_refs z (SeqAt.RcAt.lists_lengths pa.isList pb.isList (by simp; omega) (by omega))
  | @tt n a c xs ys e ha hb h ih =>
    intro A u v hu ru rv
    have self := Rn (DQ.tt e ha hb h)
    cases ru; cases rv
    by_cases z : a = c
    · subst z
      rw [self rfl]; exact SeqAt.EqAt.same _
    · obtain ⟨us, ra, pa, za⟩ := I.tuple (.inl (.inl ha))
      obtain ⟨ws, rb, pb, zb⟩ := I.tuple (.inl (.inl hb))
      have e1 := ra.length
      have e2 := rb.length
      have := SeqAt.RcAt.tuples (A := A) pa pb (by omega) (QS ra rb fun j x y u v h1 h2 r1 r2 => ih j x y h1 h2 A.in1 u v (by rw [Around.in1_units]; omega) r1 r2)
      rw [List.size_toArray, List.size_toArray, ← e1, ← e2] at this
      exact SeqAt.EqAt.of_refs z this
  | @lt n a c xs ys ha hb =>
    intro A u v hu ru rv
    cases ru; cases rv
    obtain ⟨us, ra, pa, za⟩ := I.list (.inl (.inl ha))
    obtain ⟨ws, rb, pb, zb⟩ := I.tuple (.inl (.inl hb))
    exact SeqAt.EqAt.list_tuple pa.isList pb (by omega)
  | @tl n a c xs ys ha hb =>
    intro A u v hu ru rv
    cases ru; cases rv
    obtain ⟨us, ra, pa, za⟩ := I.tuple (.inl (.inl ha))
    obtain ⟨ws, rb, pb, zb⟩ := I.list (.inl (.inl hb))
    exact SeqAt.EqAt.tuple_list pa pb.isList (by omega)
def zax : V -> Bool | .ref _ => true | _ => false
def zgC (neg : Bool) : R2 := fun x y H Q => ∃ b, DQ H 40 x y b /\ zax x = true /\ zax y = true /\ Q (.bl (if neg then !b else b)) H
theorem zgD (hu : X.A.units + 41 < cLine) : ye X (compareOp .NotEq) (zgC true) := by
  intro pins s σ H x y v u Q I rx ry h
  obtain ⟨b, hd, i1, i2, q⟩ := h
  cases hd with
  | fl fx fy =>
    cases x with
    | ref a => cases fx
    | _ => cases i1
  | @ll n a c xs ys e ha hb hl h =>
    cases rx; cases ry
    obtain ⟨us, ra, pa, za⟩ := I.list (.inl (.inl ha))
    obtain ⟨ws, rb, pb, zb⟩ := I.list (.inl (.inl hb))
    have e1 := ra.length
    have e2 := rb.length
    have := SeqAt.RcNeAt.lists (A := X.A) pa.isList pb.isList (by simp; omega) (by omega) (QS ra rb fun j x y u v h1 h2 r1 r2 => zd3 I (h j x y h1 h2) X.A.in1 u v (by rw [Around.in1_units]; omega) r1 r2)
    exact this X.prog X.w X.xe _ (zv I q (by rw [List.size_toArray, ← e1]; rfl))
  | @ln n a c xs ys ha hb hl =>
    cases rx; cases ry
    obtain ⟨us, ra, pa, za⟩ := I.list (.inl (.inl ha))
    obtain ⟨ws, rb, pb, zb⟩ := I.list (.inl (.inl hb))
    have e1 := ra.length
    have e2 := rb.length
    exact SeqAt.RcNeAt.lists_lengths pa.isList pb.isList (by simp; omega) (by omega) X.prog X.w X.xe _ (zv I q rfl)
  | @tt n a c xs ys e ha hb h =>
    cases rx; cases ry
    obtain ⟨us, ra, pa, za⟩ := I.tuple (.inl (.inl ha))
    obtain ⟨ws, rb, pb, zb⟩ := I.tuple (.inl (.inl hb))
    have e1 := ra.length
    have e2 := rb.length
    have := SeqAt.RcNeAt.tuples (A := X.A) pa pb (by omega) (QS ra rb fun j x y u v h1 h2 r1 r2 => zd3 I (h j x y h1 h2) X.A.in1 u v (by rw [Around.in1_units]; omega) r1 r2)
    exact this X.prog X.w X.xe _ (zv I q (by rw [List.size_toArray, List.size_toArray, ← e1, ← e2]; rfl))
  | @lt n a c xs ys ha hb =>
    cases rx; cases ry
    obtain ⟨us, ra, pa, za⟩ := I.list (.inl (.inl ha))
    obtain ⟨ws, rb, pb, zb⟩ := I.tuple (.inl (.inl hb))
    exact SeqAt.RcNeAt.list_tuple pa.isList pb (by omega) X.prog X.w X.xe _ (zv I q rfl)
  | @tl n a c xs ys ha hb =>
    cases rx; cases ry
    obtain ⟨us, ra, pa, za⟩ := I.tuple (.inl (.inl ha))
    obtain ⟨ws, rb, pb, zb⟩ := I.list (.inl (.inl hb))
    exact SeqAt.RcNeAt.tuple_list pa pb.isList (by omega) X.prog X.w X.xe _ (zv I q rfl)
end
end L2
namespace M
open PySem L2
inductive D where
  | non | bl (b : Bool) | int (i : Int) | str (x : Str) | ty (n : String)
  | lst (xs : List D) | tup (xs : List D) | fz (ns : List Int)
  | dK (kvs : List (yP × D)) | dT (kvs : List (List yP × D))
  | obj (c : Nat) (fs : List (Nat × D))
  | exc (k : Nat)
  | kt (xs : List Str)
  | kd (kvs : List (Str × List Str))
inductive Slot where
  | no | val (d : D) | own (o : D)
abbrev Env := List Slot
def fNames : List Str := ["many", "names", "least", "pairs", "each", "houses", "wishes", "one", "other", "name", "ask", "value", "stamp", "seal", "at"]
def fnm (n : Nat) : Str := fNames.getD n ""
structure Cn where
  K : PySem.W.Frag
  cls : Nat -> Option Addr
def KnL (K : PySem.W.Frag) (a : Addr) (xs : List V) : Prop :=
  ∃ (o : Obj) (its : Array Value) (n : Nat), K.lookup a = some o /\ o.cls = .type "list" /\ o.dict = none /\ o.data = .seq its n /\ its.size <= sizeLine /\ Vals xs its.toList
def Va (K : PySem.W.Frag) (a : Addr) (xs : List V) : Prop :=
  ∃ (o : Obj) (its : Array Value) (n : Nat), K.lookup a = some o /\ o.cls = .type "tuple" /\ o.data = .seq its n /\ its.size <= sizeLine /\ Vals xs its.toList
def KnD (K : PySem.W.Frag) (a : Addr) (kvs : List (Str × List Str)) : Prop :=
  (a == sysModules) = false /\ ∃ (o : Obj) (es : Array DictEntry) (n : Nat), K.lookup a = some o /\ o.ExactDict /\ o.data = .dict es n /\ PyProof.Rows.KTD.Rows (fun (ss : List Str) v => ∃ t, v = .ref t /\ Va K t (ss.map V.str)) es.toList kvs
inductive Rep (Γ : Cn) (E : Addr -> Prop) (H : Hp) : V -> D -> Prop where
  | non : Rep Γ E H .non .non
  | bl (b : Bool) : Rep Γ E H (.bl b) (.bl b)
  | int (i : Int) : Rep Γ E H (.int i) (.int i)
  | str (x : Str) : Rep Γ E H (.str x) (.str x)
  | ty (n : String) : Rep Γ E H (.ty n) (.ty n)
  | lst {a : Addr} {xs : List V} {ds : List D} (ne : ¬ E a) (h : H a = some (.lst xs)) (l : xs.length = ds.length) (r : ∀ (i : Nat) v d, xs[i]? = some v -> ds[i]? = some d -> Rep Γ E H v d) : Rep Γ E H (.ref a) (.lst ds)
  | fz {a : Addr} {ns : List Int} (h : (¬ E a /\ Rd H a (.lst (ns.map V.int))) \/ KnL Γ.K a (ns.map V.int)) : Rep Γ E H (.ref a) (.fz ns)
  | tup {a : Addr} {xs : List V} {ds : List D} (ne : ¬ E a) (h : H a = some (.tup xs)) (l : xs.length = ds.length) (r : ∀ (i : Nat) v d, xs[i]? = some v -> ds[i]? = some d -> Rep Γ E H v d) : Rep Γ E H (.ref a) (.tup ds)
  | dK {a : Addr} {ks : List (yP × V)} {ds : List (yP × D)} (ne : ¬ E a) (h : H a = some (.dK ks)) (l : ks.map (·.1) = ds.map (·.1)) (r : ∀ (i : Nat) v d, (ks.map (·.2))[i]? = some v -> (ds.map (·.2))[i]? = some d -> Rep Γ E H v d) : Rep Γ E H (.ref a) (.dK ds)
  | dT {a : Addr} {ks : List (List yP × V)} {ds : List (List yP × D)} (ne : ¬ E a) (h : H a = some (.dT ks)) (l : ks.map (·.1) = ds.map (·.1)) (r : ∀ (i : Nat) v d, (ks.map (·.2))[i]? = some v -> (ds.map (·.2))[i]? = some d -> Rep Γ E H v d) : Rep Γ E H (.ref a) (.dT ds)
  | obj {a C dx : Addr} {c : Nat} {gs : List (Str × V)} {fs : List (Nat × D)} (ne : ¬ E a) (hc : Γ.cls c = some C) (h : H a = some (.ins C dx gs)) (l : gs.map (·.1) = fs.map fun x => fnm x.1) (r : ∀ (i : Nat) v d, (gs.map (·.2))[i]? = some v -> (fs.map (·.2))[i]? = some d -> Rep Γ E H v d) : Rep Γ E H (.ref a) (.obj c fs)
  | exc {a C : Addr} {k : Nat} (ne : ¬ E a) (hc : Γ.cls k = some C) (h : H a = some (.ext (ziY a (.ref C)))) : Rep Γ E H (.ref a) (.exc k)
  | kt {a : Addr} {xs : List Str} (h : Va Γ.K a (xs.map V.str)) : Rep Γ E H (.ref a) (.kt xs)
  | kd {a : Addr} {kvs : List (Str × List Str)} (h : KnD Γ.K a kvs) : Rep Γ E H (.ref a) (.kd kvs)
def Reps (Γ : Cn) (E : Addr -> Prop) (H : Hp) (xs : List V) (ds : List D) : Prop := xs.length = ds.length /\ ∀ (i : Nat) v d, xs[i]? = some v -> ds[i]? = some d -> Rep Γ E H v d
section
variable {Γ : Cn} {E E' : Addr -> Prop} {H H' : Hp}
theorem zh0 {a : Addr} {u : HO} (h : Rd H a u) : H a ≠ none := by
  rcases h with h | ⟨o, h⟩ <;> rw [h] <;> simp
theorem zeO {a : Addr} {u : HO} (h : Rd H a u) (k : ∀ o, H a = some o -> H' a = some o) : Rd H' a u := by
  rcases h with h | ⟨o, h⟩
  · exact .inl (k _ h)
  · exact .inr ⟨o, k _ h⟩
theorem Rep.up {v : V} {d : D} (r : Rep Γ E H v d) (he : ∀ b, H b ≠ none -> E' b -> E b) (k : ∀ b o, ¬ E b -> H b = some o -> H' b = some o) : Rep Γ E' H' v d := by
  induction r with
  | non => exact .non
  | bl b => exact .bl b
  | int i => exact .int i
  | str x => exact .str x
  | ty n => exact .ty n
  | lst ne h l _ ih => exact .lst (fun z => ne (he _ (by rw [h]; simp) z)) (k _ _ ne h) l ih
  | fz h => exact .fz (h.imp (fun ⟨ne, h⟩ => ⟨fun z => ne (he _ (zh0 h) z), zeO h fun o => k _ o ne⟩) id)
  | tup ne h l _ ih => exact .tup (fun z => ne (he _ (by rw [h]; simp) z)) (k _ _ ne h) l ih
  | dK ne h l _ ih => exact .dK (fun z => ne (he _ (by rw [h]; simp) z)) (k _ _ ne h) l ih
  | dT ne h l _ ih => exact .dT (fun z => ne (he _ (by rw [h]; simp) z)) (k _ _ ne h) l ih
  | obj ne hc h l _ ih => exact .obj (fun z => ne (he _ (by rw [h]; simp) z)) hc (k _ _ ne h) l ih
  | exc ne hc h => exact .exc (fun z => ne (he _ (by rw [h]; simp) z)) hc (k _ _ ne h)
  | kt h => exact .kt h
  | kd h => exact .kd h
theorem Reps.up {xs : List V} {ds : List D} (r : Reps Γ E H xs ds) (he : ∀ b, H b ≠ none -> E' b -> E b) (k : ∀ b o, ¬ E b -> H b = some o -> H' b = some o) : Reps Γ E' H' xs ds := ⟨r.1, fun i v d h1 h2 => (r.2 i v d h1 h2).up he k⟩
theorem Reps.nil : Reps Γ E H [] [] := ⟨rfl, fun i v d h => by simp at h⟩
theorem Reps.cons {v : V} {d : D} {xs : List V} {ds : List D} (h : Rep Γ E H v d) (r : Reps Γ E H xs ds) : Reps Γ E H (v :: xs) (d :: ds) := by
  refine ⟨by simp [r.1], fun i v' d' h1 h2 => ?_⟩
  cases i with
  | zero => simp at h1 h2; subst h1 h2; exact h
  | succ i => simp at h1 h2; exact r.2 i v' d' h1 h2
theorem Reps.head {v : V} {d : D} {xs : List V} {ds : List D} (r : Reps Γ E H (v :: xs) (d :: ds)) : Rep Γ E H v d := r.2 0 v d rfl rfl
theorem Reps.tail {v : V} {d : D} {xs : List V} {ds : List D} (r : Reps Γ E H (v :: xs) (d :: ds)) : Reps Γ E H xs ds := ⟨by simpa using r.1, fun i v' d' h1 h2 => r.2 (i + 1) v' d' (by simpa using h1) (by simpa using h2)⟩
theorem Reps.append {xs ys : List V} {ds es : List D} (a : Reps Γ E H xs ds) (b : Reps Γ E H ys es) : Reps Γ E H (xs ++ ys) (ds ++ es) := by
  induction xs generalizing ds with
  | nil => have h := a.1; cases ds with | nil => exact b | cons _ _ => simp at h
  | cons x xs ih => cases ds with | nil => have h := a.1; simp at h | cons d ds => exact .cons a.head (ih a.tail)
theorem Reps.get {xs : List V} {ds : List D} {i : Nat} {d : D} (r : Reps Γ E H xs ds) (h : ds[i]? = some d) : ∃ v, xs[i]? = some v /\ Rep Γ E H v d := by
  have hl := r.1
  have hi : i < xs.length := by rw [hl]; exact (List.getElem?_eq_some_iff.mp h).1
  exact ⟨xs[i], List.getElem?_eq_getElem hi, r.2 i _ d (List.getElem?_eq_getElem hi) h⟩
theorem Reps.sub {xs : List V} {ds : List D} {xs' : List V} {ds' : List D} (r : Reps Γ E H xs ds) (hl : xs'.length = ds'.length) (h : ∀ (i : Nat) v d, xs'[i]? = some v -> ds'[i]? = some d -> ∃ (j : Nat), xs[j]? = some v /\ ds[j]? = some d) : Reps Γ E H xs' ds' :=
  ⟨hl, fun i v d h1 h2 => let ⟨j, a, b⟩ := h i v d h1 h2; r.2 j v d a b⟩
theorem Reps.drop {xs : List V} {ds : List D} (r : Reps Γ E H xs ds) (n : Nat) : Reps Γ E H (xs.drop n) (ds.drop n) :=
  r.sub (by simp [r.1]) fun i v d h1 h2 => ⟨n + i, by simpa using h1, by simpa using h2⟩
theorem Reps.take {xs : List V} {ds : List D} (r : Reps Γ E H xs ds) (n : Nat) : Reps Γ E H (xs.take n) (ds.take n) :=
  r.sub (by simp [r.1]) fun i v d h1 h2 => by
    rw [List.getElem?_take] at h1 h2
    split at h1
    · rename_i hi; rw [if_pos hi] at h2; exact ⟨i, h1, h2⟩
    · cases h1
theorem Reps.set {xs : List V} {ds : List D} {v : V} {d : D} (r : Reps Γ E H xs ds) (j : Nat) (h : Rep Γ E H v d) : Reps Γ E H (xs.set j v) (ds.set j d) := by
  refine ⟨by simp [r.1], fun i v' d' h1 h2 => ?_⟩
  rw [List.getElem?_set] at h1 h2
  by_cases e : j = i
  · subst e
    rw [if_pos rfl] at h1 h2
    split at h1
    · split at h2
      · cases h1; cases h2; exact h
      · cases h2
    · cases h1
  · rw [if_neg e] at h1 h2
    exact r.2 i v' d' h1 h2
theorem Rep.list {ds : List D} {v : V} (r : Rep Γ E H v (.lst ds)) : ∃ a xs, v = .ref a /\ H a = some (.lst xs) /\ Reps Γ E H xs ds := by
  cases r with
  | lst ne h l r => exact ⟨_, _, rfl, h, l, r⟩
theorem Rep.script {ns : List Int} {v : V} (r : Rep Γ E H v (.fz ns)) : ∃ a, v = .ref a /\ yM Γ.K H a (ns.map V.int) := by
  cases r with
  | fz h => exact ⟨_, rfl, h.imp (fun z => z.2) id⟩
theorem Rep.kept {xs : List Str} {v : V} (r : Rep Γ E H v (.kt xs)) : ∃ a, v = .ref a /\ SqT Γ.K H a (xs.map V.str) := by
  cases r with
  | kt h => exact ⟨_, rfl, .inr h⟩
theorem Rep.table {kvs : List (Str × List Str)} {v : V} (r : Rep Γ E H v (.kd kvs)) : ∃ a, v = .ref a /\ KnD Γ.K a kvs := by
  cases r with
  | kd h => exact ⟨_, rfl, h⟩
theorem Rep.tuple {ds : List D} {v : V} (r : Rep Γ E H v (.tup ds)) : ∃ a xs, v = .ref a /\ H a = some (.tup xs) /\ Reps Γ E H xs ds := by
  cases r with
  | tup ne h l r => exact ⟨_, _, rfl, h, l, r⟩
end
def OwnAt (Γ : Cn) (E : Addr -> Prop) (H : Hp) (p : Addr) : D -> Prop
  | .lst ds => ∃ xs, H p = some (.lst xs) /\ Reps Γ E H xs ds
  | .dK ds => ∃ ks, H p = some (.dK ks) /\ ks.map (·.1) = ds.map (·.1) /\ Reps Γ E H (ks.map (·.2)) (ds.map (·.2))
  | .dT ds => ∃ ks, H p = some (.dT ks) /\ ks.map (·.1) = ds.map (·.1) /\ Reps Γ E H (ks.map (·.2)) (ds.map (·.2))
  | .obj c fs => ∃ C dx gs, Γ.cls c = some C /\ H p = some (.ins C dx gs) /\ (gs.map (·.1) = fs.map fun x => fnm x.1) /\ Reps Γ E H (gs.map (·.2)) (fs.map (·.2))
  | _ => False
section
variable {Γ : Cn} {E E' : Addr -> Prop} {H H' : Hp} {p : Addr} {o : D}
theorem OwnAt.ne0 (h : OwnAt Γ E H p o) : H p ≠ none := by
  cases o with
  | lst ds => obtain ⟨_, e, _⟩ := h; rw [e]; simp
  | dK ds => obtain ⟨_, e, _⟩ := h; rw [e]; simp
  | dT ds => obtain ⟨_, e, _⟩ := h; rw [e]; simp
  | obj c fs => obtain ⟨_, _, _, _, e, _⟩ := h; rw [e]; simp
  | _ => exact False.elim h
theorem OwnAt.up (h : OwnAt Γ E H p o) (hp : ∀ u, H p = some u -> H' p = some u) (he : ∀ b, H b ≠ none -> E' b -> E b) (k : ∀ b o, ¬ E b -> H b = some o -> H' b = some o) : OwnAt Γ E' H' p o := by
  cases o with
  | lst ds => obtain ⟨xs, e, r⟩ := h; exact ⟨xs, hp _ e, r.up he k⟩
  | dK ds => obtain ⟨xs, e, l, r⟩ := h; exact ⟨xs, hp _ e, l, r.up he k⟩
  | dT ds => obtain ⟨xs, e, l, r⟩ := h; exact ⟨xs, hp _ e, l, r.up he k⟩
  | obj c fs => obtain ⟨C, dx, gs, hc, e, l, r⟩ := h; exact ⟨C, dx, gs, hc, hp _ e, l, r.up he k⟩
  | _ => exact False.elim h
theorem OwnAt.rep (h : OwnAt Γ E H p o) (ne : ¬ E p) : Rep Γ E H (.ref p) o := by
  cases o with
  | lst ds => obtain ⟨xs, e, r⟩ := h; exact .lst ne e r.1 r.2
  | dK ds => obtain ⟨xs, e, l, r⟩ := h; exact .dK ne e l r.2
  | dT ds => obtain ⟨xs, e, l, r⟩ := h; exact .dT ne e l r.2
  | obj c fs => obtain ⟨C, dx, gs, hc, e, l, r⟩ := h; exact .obj ne hc e l r.2
  | _ => exact False.elim h
end
structure Fs where
  C : Addr -> Prop
  H0 : Hp
  pin : Nat -> Option Addr
def Fs.add (S : Fs) (p : Addr) : Fs := { S with C := fun a => S.C a \/ a = p }
def zV (ρ : Env) (i : Nat) : Prop := ∃ o, ρ[i]? = some (.own o)
def zn (S : Fs) (σ : St) (ρ : Env) (a : Addr) : Prop := S.C a \/ ∃ i, zV ρ i /\ σ[i]? = some (some (.ref a))
structure Rel (Γ : Cn) (S : Fs) (H : Hp) (σ : St) (ρ : Env) (τ : List (V × D)) : Prop where
  len : σ.length = ρ.length
  val : ∀ (i : Nat) d, ρ[i]? = some (.val d) -> ∃ v, σ[i]? = some (some v) /\ Rep Γ (zn S σ ρ) H v d
  own : ∀ (i : Nat) o, ρ[i]? = some (.own o) -> ∃ p, σ[i]? = some (some (.ref p)) /\ OwnAt Γ (zn S σ ρ) H p o /\ ¬ S.C p /\ (S.pin i = some p \/ (S.pin i = none /\ S.H0 p = none))
  pin : ∀ i p, S.pin i = some p -> σ[i]? = some (some (.ref p)) /\ zV ρ i
  inj : ∀ i j p, zV ρ i -> zV ρ j -> σ[i]? = some (some (.ref p)) -> σ[j]? = some (some (.ref p)) -> i = j
  dom : ∀ a, S.C a -> H a ≠ none
  fr : ∀ b o, S.H0 b = some o -> (∀ i, S.pin i ≠ some b) -> H b = some o
  tmp : ∀ x ∈ τ, Rep Γ (zn S σ ρ) H x.1 x.2
section
variable {Γ : Cn} {S : Fs} {H H' : Hp} {σ : St} {ρ : Env} {τ : List (V × D)}
theorem Rel.grow (R : Rel Γ S H σ ρ τ) (g : Same H H') : Rel Γ S H' σ ρ τ where
  len := R.len
  val := fun i d h => let ⟨v, e, r⟩ := R.val i d h; ⟨v, e, r.up (fun _ _ z => z) fun b o _ q => g b o q⟩
  own := fun i o h => let ⟨p, e, r, q⟩ := R.own i o h; ⟨p, e, r.up (fun u => g p u) (fun _ _ z => z) fun b o _ q => g b o q, q⟩
  pin := R.pin
  inj := R.inj
  dom := fun a h z => by
    cases e : H a with
    | none => exact R.dom a h e
    | some o => rw [g a o e] at z; cases z
  fr := fun b o h n => g b o (R.fr b o h n)
  tmp := fun x hx => (R.tmp x hx).up (fun _ _ z => z) fun b o _ q => g b o q
theorem Rel.push (R : Rel Γ S H σ ρ τ) {v : V} {d : D} (h : Rep Γ (zn S σ ρ) H v d) : Rel Γ S H σ ρ ((v, d) :: τ) :=
  { R with tmp := fun x hx => (List.mem_cons.mp hx).elim (fun e => by subst e; exact h) (R.tmp x) }
theorem Rel.pop {x : V × D} (R : Rel Γ S H σ ρ (x :: τ)) : Rel Γ S H σ ρ τ /\ Rep Γ (zn S σ ρ) H x.1 x.2 :=
  ⟨{ R with tmp := fun y hy => R.tmp y (List.mem_cons_of_mem _ hy) }, R.tmp x List.mem_cons_self⟩
theorem yq (R : Rel Γ S H σ ρ τ) {a : Addr} (h : zn S σ ρ a) : H a ≠ none := by
  rcases h with h | ⟨i, ⟨o, ho⟩, e⟩
  · exact R.dom a h
  · obtain ⟨p, e', r, _⟩ := R.own i o ho
    rw [e] at e'; cases e'
    exact r.ne0
theorem Rel.add (R : Rel Γ S H σ ρ τ) {p : Addr} {u : HO} (hp : H p = none) (h0 : S.H0 p = none) : Rel Γ (S.add p) (zG H p u) σ ρ τ := by
  have g : Same H (zG H p u) := fun b o q => by rw [zx (zF q hp)]; exact q
  have he : ∀ b, H b ≠ none -> zn (S.add p) σ ρ b -> zn S σ ρ b := fun b hb h => by
    rcases h with (h | h) | h
    · exact .inl h
    · subst h; exact absurd hp hb
    · exact .inr h
  exact {
    len := R.len
    val := fun i d h => let ⟨v, e, r⟩ := R.val i d h; ⟨v, e, r.up he fun b o _ q => g b o q⟩
    own := fun i o h => by
      obtain ⟨q, e, r, n, pn⟩ := R.own i o h
      refine ⟨q, e, r.up (fun u => g q u) he fun b o _ q => g b o q, ?_, pn⟩
      rintro (z | z)
      · exact n z
      · subst z; exact r.ne0 hp
    pin := R.pin
    inj := R.inj
    dom := fun a h => by
      rcases h with h | h
      · have := R.dom a h
        have hne : a ≠ p := fun z => by subst z; exact this hp
        rw [zx hne]; exact this
      · subst h; rw [yI]; simp
    fr := fun b o h n => g b o (R.fr b o h n)
    tmp := fun x hx => (R.tmp x hx).up he fun b o _ q => g b o q }
theorem Rel.unadd {p : Addr} (R : Rel Γ (S.add p) H σ ρ τ) : Rel Γ S H σ ρ τ := by
  have he : ∀ b, H b ≠ none -> zn S σ ρ b -> zn (S.add p) σ ρ b := fun b _ h => h.elim (fun z => .inl (.inl z)) .inr
  exact {
    len := R.len
    val := fun i d h => let ⟨v, e, r⟩ := R.val i d h; ⟨v, e, r.up he fun _ _ _ q => q⟩
    own := fun i o h => let ⟨q, e, r, n, pn⟩ := R.own i o h; ⟨q, e, r.up (fun _ q => q) he fun _ _ _ q => q, fun z => n (.inl z), pn⟩
    pin := R.pin
    inj := R.inj
    dom := fun a h => R.dom a (.inl h)
    fr := R.fr
    tmp := fun x hx => (R.tmp x hx).up he fun _ _ _ q => q }
theorem Rel.new (R : Rel Γ S H σ ρ τ) {p : Addr} (hp : H p = none) : S.H0 p = none := by
  cases e : S.H0 p with
  | none => rfl
  | some o =>
    by_cases h : ∃ i, S.pin i = some p
    · obtain ⟨i, hi⟩ := h
      obtain ⟨e1, o', ho⟩ := R.pin i p hi
      obtain ⟨q, e2, r, _⟩ := R.own i o' ho
      rw [e1] at e2; cases e2
      exact absurd hp r.ne0
    · have := R.fr p o e fun i z => h ⟨i, z⟩
      rw [hp] at this; cases this
theorem getElem?_set_ne {α : Type} {l : List α} {i j : Nat} {x : α} (h : i ≠ j) : (l.set i x)[j]? = l[j]? := by rw [List.getElem?_set, if_neg h]
theorem getElem?_set_here {α : Type} {l : List α} {i : Nat} {x y : α} (h : (l.set i x)[i]? = some y) : y = x := by
  rw [List.getElem?_set, if_pos rfl] at h
  split at h
  · cases h; rfl
  · cases h
theorem Rel.asg (R : Rel Γ S H σ ρ τ) {i : Nat} {v : V} {d : D} (hi : S.pin i = none) (h : Rep Γ (zn S σ ρ) H v d) : Rel Γ S H (σ.set i (some v)) (ρ.set i (.val d)) τ := by
  have own_ne : ∀ j, zV (ρ.set i (.val d)) j -> j ≠ i /\ zV ρ j := fun j ⟨o, ho⟩ => by
    by_cases e : i = j
    · subst e; cases getElem?_set_here ho
    · rw [getElem?_set_ne e] at ho; exact ⟨Ne.symm e, o, ho⟩
  have he : ∀ b, H b ≠ none -> zn S (σ.set i (some v)) (ρ.set i (.val d)) b -> zn S σ ρ b := fun b _ h => by
    rcases h with h | ⟨j, hj, e⟩
    · exact .inl h
    · obtain ⟨ne, oj⟩ := own_ne j hj
      rw [getElem?_set_ne (Ne.symm ne)] at e
      exact .inr ⟨j, oj, e⟩
  have keep : ∀ b o, ¬ zn S σ ρ b -> H b = some o -> H b = some o := fun _ _ _ q => q
  exact {
    len := by simp [R.len]
    val := fun j e hj => by
      by_cases eq : i = j
      · subst eq
        have e1 := getElem?_set_here hj
        cases e1
        have hl : i < σ.length := by
          rw [R.len]
          have := (List.getElem?_eq_some_iff.mp hj).1
          simpa using this
        exact ⟨v, by rw [List.getElem?_set, if_pos rfl, if_pos hl], h.up he keep⟩
      · rw [getElem?_set_ne eq] at hj
        obtain ⟨w, e1, r⟩ := R.val j e hj
        exact ⟨w, by rw [getElem?_set_ne eq]; exact e1, r.up he keep⟩
    own := fun j o hj => by
      have ne := (own_ne j ⟨o, hj⟩).1
      rw [getElem?_set_ne (Ne.symm ne)] at hj
      obtain ⟨p, e1, r, n, pn⟩ := R.own j o hj
      exact ⟨p, by rw [getElem?_set_ne (Ne.symm ne)]; exact e1, r.up (fun _ q => q) he keep, n, pn⟩
    pin := fun j p hj => by
      have ne : i ≠ j := fun z => by subst z; rw [hi] at hj; cases hj
      obtain ⟨a, o, b⟩ := R.pin j p hj
      exact ⟨by rw [getElem?_set_ne ne]; exact a, o, by rw [getElem?_set_ne ne]; exact b⟩
    inj := fun j k p hj hk e1 e2 => by
      obtain ⟨nj, oj⟩ := own_ne j hj
      obtain ⟨nk, ok⟩ := own_ne k hk
      rw [getElem?_set_ne (Ne.symm nj)] at e1
      rw [getElem?_set_ne (Ne.symm nk)] at e2
      exact R.inj j k p oj ok e1 e2
    dom := R.dom
    fr := R.fr
    tmp := fun x hx => (R.tmp x hx).up he keep }
theorem Rel.asgOwn {p : Addr} (R : Rel Γ (S.add p) H σ ρ τ) {i : Nat} {o : D} (hi : S.pin i = none) (h : OwnAt Γ (zn (S.add p) σ ρ) H p o) (h0 : S.H0 p = none) (hp : ¬ S.C p) : Rel Γ S H (σ.set i (some (.ref p))) (ρ.set i (.own o)) τ := by
  have own_ne : ∀ j, j ≠ i -> zV (ρ.set i (.own o)) j -> zV ρ j := fun j hj ⟨o', ho⟩ => by
    rw [getElem?_set_ne (Ne.symm hj)] at ho; exact ⟨o', ho⟩
  have notp : ∀ j q, zV ρ j -> σ[j]? = some (some (.ref q)) -> q ≠ p := fun j q ⟨o', ho⟩ e z => by
    obtain ⟨q', e1, _, n, _⟩ := R.own j o' ho
    rw [e] at e1; cases e1
    exact n (.inr z)
  have he : ∀ b, H b ≠ none -> zn S (σ.set i (some (.ref p))) (ρ.set i (.own o)) b -> zn (S.add p) σ ρ b := fun b _ h => by
    rcases h with h | ⟨j, hj, e⟩
    · exact .inl (.inl h)
    · by_cases ne : j = i
      · subst ne
        rw [List.getElem?_set, if_pos rfl] at e
        split at e
        · cases e; exact .inl (.inr rfl)
        · cases e
      · rw [getElem?_set_ne (Ne.symm ne)] at e
        exact .inr ⟨j, own_ne j ne hj, e⟩
  have keep : ∀ b o, ¬ zn (S.add p) σ ρ b -> H b = some o -> H b = some o := fun _ _ _ q => q
  exact {
    len := by simp [R.len]
    val := fun j e hj => by
      by_cases eq : i = j
      · subst eq; cases getElem?_set_here hj
      · rw [getElem?_set_ne eq] at hj
        obtain ⟨w, e1, r⟩ := R.val j e hj
        exact ⟨w, by rw [getElem?_set_ne eq]; exact e1, r.up he keep⟩
    own := fun j o' hj => by
      by_cases eq : i = j
      · subst eq
        have e1 := getElem?_set_here hj
        cases e1
        have hl : i < σ.length := by
          rw [R.len]
          have := (List.getElem?_eq_some_iff.mp hj).1
          simpa using this
        exact ⟨p, by rw [List.getElem?_set, if_pos rfl, if_pos hl], h.up (fun _ q => q) he keep, hp, .inr ⟨hi, h0⟩⟩
      · rw [getElem?_set_ne eq] at hj
        obtain ⟨q, e1, r, n, pn⟩ := R.own j o' hj
        exact ⟨q, by rw [getElem?_set_ne eq]; exact e1, r.up (fun _ q => q) he keep, fun z => n (.inl z), pn⟩
    pin := fun j q hj => by
      have ne : i ≠ j := fun z => by subst z; rw [hi] at hj; cases hj
      obtain ⟨a, o', b⟩ := R.pin j q hj
      exact ⟨by rw [getElem?_set_ne ne]; exact a, o', by rw [getElem?_set_ne ne]; exact b⟩
    inj := fun j k q hj hk e1 e2 => by
      by_cases ej : j = i
      · by_cases ek : k = i
        · rw [ej, ek]
        · subst ej
          rw [List.getElem?_set, if_pos rfl] at e1
          split at e1
          · cases e1
            rw [getElem?_set_ne (Ne.symm ek)] at e2
            exact absurd rfl (notp k _ (own_ne k ek hk) e2)
          · cases e1
      · by_cases ek : k = i
        · subst ek
          rw [List.getElem?_set, if_pos rfl] at e2
          split at e2
          · cases e2
            rw [getElem?_set_ne (Ne.symm ej)] at e1
            exact absurd rfl (notp j _ (own_ne j ej hj) e1)
          · cases e2
        · rw [getElem?_set_ne (Ne.symm ej)] at e1
          rw [getElem?_set_ne (Ne.symm ek)] at e2
          exact R.inj j k q (own_ne j ej hj) (own_ne k ek hk) e1 e2
    dom := fun a h => R.dom a (.inl h)
    fr := R.fr
    tmp := fun x hx => (R.tmp x hx).up he keep }
theorem Rel.freeze (R : Rel Γ S H σ ρ τ) {i : Nat} {o : D} (hi : S.pin i = none) (h : ρ[i]? = some (.own o)) : ∃ v, σ[i]? = some (some v) /\ Rep Γ (zn S σ (ρ.set i (.val o))) H v o /\ Rel Γ S H σ (ρ.set i (.val o)) τ := by
  obtain ⟨p, e, r, n, _⟩ := R.own i o h
  have own_ne : ∀ j, zV (ρ.set i (.val o)) j -> j ≠ i /\ zV ρ j := fun j ⟨o, ho⟩ => by
    by_cases e : i = j
    · subst e; cases getElem?_set_here ho
    · rw [getElem?_set_ne e] at ho; exact ⟨Ne.symm e, o, ho⟩
  have he : ∀ b, H b ≠ none -> zn S σ (ρ.set i (.val o)) b -> zn S σ ρ b := fun b _ h => by
    rcases h with h | ⟨j, hj, e⟩
    · exact .inl h
    · exact .inr ⟨j, (own_ne j hj).2, e⟩
  have keep : ∀ b o, ¬ zn S σ ρ b -> H b = some o -> H b = some o := fun _ _ _ q => q
  have hp : ¬ zn S σ (ρ.set i (.val o)) p := by
    rintro (z | ⟨j, hj, ej⟩)
    · exact n z
    · obtain ⟨ne, oj⟩ := own_ne j hj
      exact ne (R.inj j i p oj ⟨o, h⟩ ej e)
  have rep := (r.up (fun _ q => q) he keep).rep hp
  refine ⟨_, e, rep, ?_⟩
  exact {
    len := by simp [R.len]
    val := fun j d hj => by
      by_cases eq : i = j
      · subst eq
        have e1 := getElem?_set_here hj
        cases e1
        exact ⟨_, e, rep⟩
      · rw [getElem?_set_ne eq] at hj
        obtain ⟨w, e1, r⟩ := R.val j d hj
        exact ⟨w, e1, r.up he keep⟩
    own := fun j o' hj => by
      have ne := (own_ne j ⟨o', hj⟩).1
      rw [getElem?_set_ne (Ne.symm ne)] at hj
      obtain ⟨q, e1, r, n, pn⟩ := R.own j o' hj
      exact ⟨q, e1, r.up (fun _ q => q) he keep, n, pn⟩
    pin := fun j p hj => by
      have ne : i ≠ j := fun z => by subst z; rw [hi] at hj; cases hj
      obtain ⟨a, o', b⟩ := R.pin j p hj
      exact ⟨a, o', by rw [getElem?_set_ne ne]; exact b⟩
    inj := fun j k p hj hk e1 e2 => R.inj j k p (own_ne j hj).2 (own_ne k hk).2 e1 e2
    dom := R.dom
    fr := R.fr
    tmp := fun x hx => (R.tmp x hx).up he keep }
theorem Rel.write (R : Rel Γ S H σ ρ τ) {i : Nat} {p : Addr} {o o' : D} (h : ρ[i]? = some (.own o)) (e : σ[i]? = some (some (.ref p))) (hk : ∀ b u, b ≠ p -> H b = some u -> H' b = some u)
    (hn : OwnAt Γ (zn S σ ρ) H' p o') : Rel Γ S H' σ (ρ.set i (.own o')) τ := by
  have iff : ∀ j, zV (ρ.set i (.own o')) j -> zV ρ j := fun j ⟨q, hq⟩ => by
    by_cases z : i = j
    · subst z; exact ⟨o, h⟩
    · rw [getElem?_set_ne z] at hq; exact ⟨q, hq⟩
  have he : ∀ b, H b ≠ none -> zn S σ (ρ.set i (.own o')) b -> zn S σ ρ b := fun b _ h => by
    rcases h with h | ⟨j, hj, e⟩
    · exact .inl h
    · exact .inr ⟨j, iff j hj, e⟩
  have pex : zn S σ ρ p := .inr ⟨i, ⟨o, h⟩, e⟩
  have keep : ∀ b u, ¬ zn S σ ρ b -> H b = some u -> H' b = some u := fun b u n q => hk b u (fun z => n (by rw [z]; exact pex)) q
  obtain ⟨p', e', _, n0, pn0⟩ := R.own i o h
  rw [e] at e'; cases e'
  exact {
    len := by simp [R.len]
    val := fun j d hj => by
      by_cases eq : i = j
      · subst eq; cases getElem?_set_here hj
      · rw [getElem?_set_ne eq] at hj
        obtain ⟨w, e1, r⟩ := R.val j d hj
        exact ⟨w, e1, r.up he keep⟩
    own := fun j q hj => by
      by_cases eq : i = j
      · subst eq
        have e1 := getElem?_set_here hj
        cases e1
        refine ⟨p, e, hn.up (fun _ q => q) (fun b _ z => ?_) (fun _ _ _ q => q), n0, pn0⟩
        rcases z with z | ⟨k, hk, ek⟩
        · exact .inl z
        · exact .inr ⟨k, iff k hk, ek⟩
      · rw [getElem?_set_ne eq] at hj
        obtain ⟨q', e1, r, n, pn⟩ := R.own j q hj
        refine ⟨q', e1, r.up (fun u hu => hk _ u (fun z => ?_) hu) he keep, n, pn⟩
        subst z
        exact eq (R.inj i j _ ⟨o, h⟩ ⟨q, hj⟩ e e1)
    pin := fun j q hj => by
      obtain ⟨a, o', b⟩ := R.pin j q hj
      refine ⟨a, ?_⟩
      by_cases eq : i = j
      · subst eq
        have hl : i < ρ.length := (List.getElem?_eq_some_iff.mp h).1
        exact ⟨_, by rw [List.getElem?_set, if_pos rfl, if_pos hl]⟩
      · exact ⟨o', by rw [getElem?_set_ne eq]; exact b⟩
    inj := fun j k p hj hk e1 e2 => R.inj j k p (iff j hj) (iff k hk) e1 e2
    dom := fun a ha => by
      have := R.dom a ha
      by_cases z : a = p
      · subst z; exact absurd ha n0
      · cases q : H a with
        | none => exact absurd q this
        | some u => rw [hk a u z q]; simp
    fr := fun b u h0 n => by
      refine hk b u (fun z => ?_) (R.fr b u h0 n)
      subst z
      rcases pn0 with q | ⟨_, q⟩
      · exact n i q
      · rw [q] at h0; cases h0
    tmp := fun x hx => (R.tmp x hx).up he keep }
end
end M
namespace M
open PySem L2
abbrev EK := D -> Env -> Prop
abbrev ME := Env -> EK -> Prop
abbrev MT := Env -> (Bool -> Env -> Prop) -> Prop
abbrev MA := Env -> (List D -> Env -> Prop) -> Prop
structure JQ where
  nx : Env -> Prop
  rt : EK
  bk : Env -> Prop
  ct : Env -> Prop
abbrev MS := JQ -> Env -> Prop
def yZ (pn : List Nat) (S : Fs) : Prop := ∀ i, i ∉ pn -> S.pin i = none
def JE (Γ : Cn) (pn : List Nat) (t : TE) (m : ME) : Prop :=
  ∀ (S : Fs) (σ : St) (ρ : Env) (H : Hp) (τ : List (V × D)) (Q : VK) (q : EK), yZ pn S -> Rel Γ S H σ ρ τ -> m ρ q -> (∀ v d H' ρ', Rel Γ S H' σ ρ' τ -> Rep Γ (zn S σ ρ') H' v d -> q d ρ' -> Q v H') -> t σ H Q
def JT (Γ : Cn) (pn : List Nat) (t : TT) (m : MT) : Prop :=
  ∀ (S : Fs) (σ : St) (ρ : Env) (H : Hp) (τ : List (V × D)) (Q : Bool -> Hp -> Prop) (q : Bool -> Env -> Prop), yZ pn S -> Rel Γ S H σ ρ τ -> m ρ q -> (∀ b H' ρ', Rel Γ S H' σ ρ' τ -> q b ρ' -> Q b H') -> t σ H Q
def JA (Γ : Cn) (pn : List Nat) (t : TA) (m : MA) : Prop :=
  ∀ (S : Fs) (σ : St) (ρ : Env) (H : Hp) (τ : List (V × D)) (Q : List V -> Hp -> Prop) (q : List D -> Env -> Prop), yZ pn S -> Rel Γ S H σ ρ τ -> m ρ q -> (∀ vs ds H' ρ', Rel Γ S H' σ ρ' τ -> Reps Γ (zn S σ ρ') H' vs ds -> q ds ρ' -> Q vs H') -> t σ H Q
def JF (Γ : Cn) (pn : List Nat) (t : TE) (m : ME) : Prop :=
  ∀ (S : Fs) (σ : St) (ρ : Env) (H : Hp) (τ : List (V × D)) (Q : VK) (q : EK), yZ pn S -> Rel Γ S H σ ρ τ -> m ρ q ->
    (∀ p o H' ρ', Rel Γ (S.add p) H' σ ρ' τ -> OwnAt Γ (zn (S.add p) σ ρ') H' p o -> S.H0 p = none -> ¬ zn S σ ρ' p -> q o ρ' -> Q (.ref p) H') -> t σ H Q
def RR (Γ : Cn) (fr : Bool) (S : Fs) (σ : St) (ρ : Env) (H : Hp) (τ : List (V × D)) (v : V) (d : D) : Prop := match fr with
  | false => Rel Γ S H σ ρ τ /\ Rep Γ (zn S σ ρ) H v d
  | true => ∃ p, v = .ref p /\ Rel Γ (S.add p) H σ ρ τ /\ OwnAt Γ (zn (S.add p) σ ρ) H p d /\ S.H0 p = none /\ ¬ zn S σ ρ p
def JS (Γ : Cn) (pn : List Nat) (fr : Bool) (t : TS) (m : MS) : Prop :=
  ∀ (S : Fs) (σ : St) (ρ : Env) (H : Hp) (τ : List (V × D)) (D : Up) (N : JQ), yZ pn S -> Rel Γ S H σ ρ τ -> m N ρ -> (∀ σ' H' ρ', Rel Γ S H' σ' ρ' τ -> N.nx ρ' -> D.nx σ' H') ->
    (∀ v d σ' H' ρ', RR Γ fr S σ' ρ' H' τ v d -> N.rt d ρ' -> D.rt v H') -> (∀ σ' H' ρ', Rel Γ S H' σ' ρ' τ -> N.bk ρ' -> D.bk σ' H') -> (∀ σ' H' ρ', Rel Γ S H' σ' ρ' τ -> N.ct ρ' -> D.ct σ' H') -> t D σ H
inductive Opd where
  | d (x : D) | v (i : Nat)
def zay : Option Slot -> (D -> Prop) -> Prop
  | some (.val d), k => k d
  | some (.own d), k => k d
  | _, _ => False
def Opd.on (r : Opd) (ρ : Env) (k : D -> Prop) : Prop := match r with
  | .d x => k x
  | .v i => zay ρ[i]? k
abbrev MO := Env -> (Opd -> Env -> Prop) -> Prop
def OpIn (σ : St) (τ : List (V × D)) (v : V) (r : Opd) : Prop := match r with
  | .d x => (v, x) ∈ τ
  | .v i => σ[i]? = some (some v)
def JO (Γ : Cn) (pn : List Nat) (t : TE) (m : MO) : Prop :=
  ∀ (S : Fs) (σ : St) (ρ : Env) (H : Hp) (τ : List (V × D)) (Q : VK) (q : Opd -> Env -> Prop), yZ pn S -> Rel Γ S H σ ρ τ -> m ρ q -> (∀ v r H' ρ' τ', Rel Γ S H' σ ρ' (τ' ++ τ) -> OpIn σ (τ' ++ τ) v r -> q r ρ' -> Q v H') -> t σ H Q
def yQ (Γ : Cn) (E : Addr -> Prop) (H : Hp) (v : V) : D -> Prop
  | .lst ds => ∃ a xs, v = .ref a /\ H a = some (.lst xs) /\ Reps Γ E H xs ds
  | .dK ds => ∃ a ks, v = .ref a /\ H a = some (.dK ks) /\ ks.map (·.1) = ds.map (·.1) /\ Reps Γ E H (ks.map (·.2)) (ds.map (·.2))
  | .dT ds => ∃ a ks, v = .ref a /\ H a = some (.dT ks) /\ ks.map (·.1) = ds.map (·.1) /\ Reps Γ E H (ks.map (·.2)) (ds.map (·.2))
  | .obj c fs => ∃ a C dx gs, v = .ref a /\ Γ.cls c = some C /\ H a = some (.ins C dx gs) /\ (gs.map (·.1) = fs.map fun x => fnm x.1) /\ Reps Γ E H (gs.map (·.2)) (fs.map (·.2))
  | d => Rep Γ E H v d
section
variable {Γ : Cn} {E E' : Addr -> Prop} {H H' : Hp} {v : V} {d : D}
theorem Rep.b (r : Rep Γ E H v d) : yQ Γ E H v d := by
  cases r with
  | non => exact .non
  | bl b => exact .bl b
  | int i => exact .int i
  | str x => exact .str x
  | ty n => exact .ty n
  | lst ne h l r => exact ⟨_, _, rfl, h, l, r⟩
  | fz h => exact .fz h
  | tup ne h l r => exact .tup ne h l r
  | dK ne h l r => exact ⟨_, _, rfl, h, l, by have := congrArg List.length l; simpa using this, r⟩
  | dT ne h l r => exact ⟨_, _, rfl, h, l, by have := congrArg List.length l; simpa using this, r⟩
  | obj ne hc h l r => exact ⟨_, _, _, _, rfl, hc, h, l, by have := congrArg List.length l; simpa using this, r⟩
  | exc ne hc h => exact .exc ne hc h
  | kt h => exact .kt h
  | kd h => exact .kd h
theorem OwnAt.b {p : Addr} (h : OwnAt Γ E H p d) : yQ Γ E H (.ref p) d := by
  cases d with
  | lst ds => obtain ⟨xs, e, r⟩ := h; exact ⟨p, xs, rfl, e, r⟩
  | dK ds => obtain ⟨xs, e, l, r⟩ := h; exact ⟨p, xs, rfl, e, l, r⟩
  | dT ds => obtain ⟨xs, e, l, r⟩ := h; exact ⟨p, xs, rfl, e, l, r⟩
  | obj c fs => obtain ⟨C, dx, gs, hc, e, l, r⟩ := h; exact ⟨p, C, dx, gs, rfl, hc, e, l, r⟩
  | _ => exact False.elim h
theorem Rel.read {S : Fs} {σ : St} {ρ : Env} {τ : List (V × D)} {r : Opd} {k : D -> Prop} (R : Rel Γ S H σ ρ τ) (h : OpIn σ τ v r) (hk : r.on ρ k) : ∃ d, yQ Γ (zn S σ ρ) H v d /\ k d := by
  cases r with
  | d x => exact ⟨x, (R.tmp _ h).b, hk⟩
  | v i =>
    have e : σ[i]? = some (some v) := h
    have hk : zay ρ[i]? k := hk
    cases q : ρ[i]? with
    | none => rw [q] at hk; exact False.elim hk
    | some s =>
      rw [q] at hk
      cases s with
      | no => exact False.elim hk
      | val d =>
        obtain ⟨w, e', r⟩ := R.val i d q
        rw [e] at e'; cases e'
        exact ⟨d, r.b, hk⟩
      | own o =>
        obtain ⟨p, e', r, _⟩ := R.own i o q
        rw [e] at e'; cases e'
        exact ⟨o, r.b, hk⟩
end
section
variable {Γ : Cn} {pn : List Nat} {fr : Bool}
def mC (d : D) : ME := fun ρ q => q d ρ
def jW : D -> Bool
  | .non => true | .bl _ => true | .int _ => true | .str _ => true | .ty _ => true | _ => false
def vD : D -> V
  | .non => .non | .bl b => .bl b | .int i => .int i | .str x => .str x | .ty n => .ty n | _ => .non
theorem Yo {E : Addr -> Prop} {H : Hp} {d : D} (h : jW d = true) : Rep Γ E H (vD d) d := by
  cases d with
  | non => exact .non
  | bl b => exact .bl b
  | int i => exact .int i
  | str x => exact .str x
  | ty n => exact .ty n
  | _ => cases h
theorem Rep.flat {E : Addr -> Prop} {H : Hp} {v : V} {d : D} (r : Rep Γ E H v d) (h : jW d = true) : v = vD d := by
  cases r <;> first | rfl | cases h
theorem Uv {v : V} {d : D} (h : jW d = true) (e : v = vD d) : JE Γ pn (tC v) (mC d) := fun S σ ρ H τ Q q _ R hm hq => by
  subst e; exact hq _ _ _ _ R (Yo h) hm
def V8 (i : Nat) : ME := fun ρ q => match ρ[i]? with
  | some (.val d) => q d ρ
  | some (.own o) => q o (ρ.set i (.val o))
  | _ => False
theorem zgF {i : Nat} (hi : i ∉ pn) : JE Γ pn (Qq i) (V8 i) := fun S σ ρ H τ Q q hp R hm hq => by
  unfold V8 at hm
  cases e : ρ[i]? with
  | none => rw [e] at hm; exact False.elim hm
  | some s =>
    rw [e] at hm
    cases s with
    | no => exact False.elim hm
    | val d =>
      obtain ⟨v, e1, r⟩ := R.val i d e
      exact ⟨v, e1, hq v d H ρ R r hm⟩
    | own o =>
      obtain ⟨v, e1, r, R'⟩ := R.freeze (hp i hi) e
      exact ⟨v, e1, hq v o H _ R' r hm⟩
def YM (i : Nat) : ME := fun ρ q => match ρ[i]? with
  | some (.val d) => q d ρ
  | _ => False
theorem zeP {i : Nat} : JE Γ pn (Qq i) (YM i) := fun S σ ρ H τ Q q hp R hm hq => by
  unfold YM at hm
  cases e : ρ[i]? with
  | none => rw [e] at hm; exact False.elim hm
  | some s =>
    rw [e] at hm
    cases s with
    | no => exact False.elim hm
    | val d =>
      obtain ⟨v, e1, r⟩ := R.val i d e
      exact ⟨v, e1, hq v d H ρ R r hm⟩
    | own o => exact False.elim hm
def mOv (i : Nat) : MO := fun ρ q => match ρ[i]? with
  | some (.val _) => q (.v i) ρ
  | some (.own _) => q (.v i) ρ
  | _ => False
theorem zgG {i : Nat} : JO Γ pn (Qq i) (mOv i) := fun S σ ρ H τ Q q hp R hm hq => by
  unfold mOv at hm
  cases e : ρ[i]? with
  | none => rw [e] at hm; exact False.elim hm
  | some s =>
    rw [e] at hm
    cases s with
    | no => exact False.elim hm
    | val d =>
      obtain ⟨v, e1, r⟩ := R.val i d e
      exact ⟨v, e1, hq v (.v i) H ρ [] R e1 hm⟩
    | own o =>
      obtain ⟨p, e1, r⟩ := R.own i o e
      exact ⟨_, e1, hq _ (.v i) H ρ [] R e1 hm⟩
def mO (m : ME) : MO := fun ρ q => m ρ fun d ρ' => q (.d d) ρ'
theorem zh1 {t : TE} {m : ME} (h : JE Γ pn t m) : JO Γ pn t (mO m) := fun S σ ρ H τ Q q hp R hm hq =>
  h S σ ρ H τ Q _ hp R hm fun v d H' ρ' R' r q' => hq v (.d d) H' ρ' [(v, d)] (R'.push r) (by show (v, d) ∈ _; simp) q'
theorem Z9 {t : TE} {m : ME} (h : JF Γ pn t m) : JE Γ pn t m := fun S σ ρ H τ Q q hp R hm hq =>
  h S σ ρ H τ Q q hp R hm fun p o H' ρ' R' ow _ ne q' => by
    have ow' : OwnAt Γ (zn S σ ρ') H' p o := ow.up (fun _ z => z) (fun b _ z => z.elim (fun z => .inl (.inl z)) .inr) fun _ _ _ z => z
    exact hq _ o H' ρ' R'.unadd (ow'.rep ne) q'
def zcY : MA := fun ρ q => q [] ρ
def VA (a : ME) (r : MA) : MA := fun ρ q => a ρ fun d ρ1 => r ρ1 fun ds ρ2 => q (d :: ds) ρ2
theorem zgH : JA Γ pn QR zcY := fun S σ ρ H τ Q q _ R hm hq => hq [] [] H ρ R .nil hm
theorem zeQ {t : TE} {m : ME} {u : TA} {n : MA} (h1 : JE Γ pn t m) (h2 : JA Γ pn u n) : JA Γ pn (jV t u) (VA m n) := fun S σ ρ H τ Q q hp R hm hq =>
  h1 S σ ρ H τ _ _ hp R hm fun v d H1 ρ1 R1 r1 q1 => h2 S σ ρ1 H1 ((v, d) :: τ) _ _ hp (R1.push r1) q1 fun vs ds H2 ρ2 R2 r2 q2 =>
    hq _ _ H2 ρ2 R2.pop.1 (.cons R2.pop.2 r2) q2
def zaz (ss : List Str) : MA := fun ρ q => q (ss.map D.str) ρ
theorem zeR {ss : List Str} : JA Γ pn (zd2 ss) (zaz ss) := fun S σ ρ H τ Q q hp R hm hq =>
  hq _ _ H ρ R ⟨by simp, fun i v d h1 h2 => by
    rw [List.getElem?_map] at h1 h2
    cases e : ss[i]? with
    | none => rw [e] at h1; cases h1
    | some x => rw [e] at h1 h2; cases h1; cases h2; exact .str x⟩ hm
theorem jQ {S : Fs} {σ : St} {ρ : Env} {H : Hp} {τ : List (V × D)} {xs : List V} {ds : List D} {p : Addr} (R : Rel Γ S H σ ρ τ) (r : Reps Γ (zn S σ ρ) H xs ds) (hp : H p = none) :
    Rel Γ (S.add p) (zG H p (.lst xs)) σ ρ τ /\ OwnAt Γ (zn (S.add p) σ ρ) (zG H p (.lst xs)) p (.lst ds) /\ S.H0 p = none /\ ¬ zn S σ ρ p := by
  have h0 := R.new hp
  refine ⟨R.add hp h0, ⟨xs, yI, r.up (fun b hb z => ?_) fun b o _ q => by rw [zx (zF q hp)]; exact q⟩, h0, fun z => yq R z hp⟩
  rcases z with (z | z) | z
  · exact .inl z
  · subst z; exact absurd hp hb
  · exact .inr z
def zaA (m : MA) : ME := fun ρ q => m ρ fun ds ρ' => ds.length <= 1000 /\ q (.lst ds) ρ'
theorem Ro {n : Nat} (h : n <= 1000) : n <= sizeLine := Nat.le_trans h (by decide)
theorem zgI {t : TA} {m : MA} (h : JA Γ pn t m) : JF Γ pn (zgh t) (zaA m) := fun S σ ρ H τ Q q hp R hm hq =>
  h S σ ρ H τ _ _ hp R hm fun vs ds H1 ρ1 R1 r1 ⟨l1, q1⟩ => ⟨by rw [r1.1]; exact Ro l1, fun p hn => by
    obtain ⟨a, b, c, d⟩ := jQ R1 r1 hn
    exact hq p _ _ ρ1 a b c d q1⟩
def zaB (m : MA) : ME := fun ρ q => m ρ fun ds ρ' => ds.length <= 1000 /\ q (.tup ds) ρ'
theorem Yp {H : Hp} {p : Addr} (h : H p = none) (o : HO) : Same H (zG H p o) := fun b u q => by rw [zx (zF q h)]; exact q
theorem Rp {S : Fs} {σ : St} {ρ : Env} {H : Hp} {τ : List (V × D)} {xs : List V} {ds : List D} {p : Addr} (R : Rel Γ S H σ ρ τ) (r : Reps Γ (zn S σ ρ) H xs ds) (hp : H p = none) :
    Rel Γ S (zG H p (.tup xs)) σ ρ τ /\ Rep Γ (zn S σ ρ) (zG H p (.tup xs)) (.ref p) (.tup ds) := by
  have g := Yp hp (.tup xs)
  have r' := r.up (E' := zn S σ ρ) (H' := zG H p (.tup xs)) (fun _ _ z => z) fun b o _ q => g b o q
  exact ⟨R.grow g, .tup (fun z => yq R z hp) yI r'.1 r'.2⟩
theorem zgJ {t : TA} {m : MA} (h : JA Γ pn t m) : JE Γ pn (zgg t) (zaB m) := fun S σ ρ H τ Q q hp R hm hq =>
  h S σ ρ H τ _ _ hp R hm fun vs ds H1 ρ1 R1 r1 ⟨l1, q1⟩ => ⟨by rw [r1.1]; exact Ro l1, fun p hn => by
    obtain ⟨a, b⟩ := Rp R1 r1 hn
    exact hq _ _ _ ρ1 a b q1⟩
abbrev F2 := D -> D -> (D -> Prop) -> Prop
def zT (Γ : Cn) (r : R2) (f : F2) : Prop :=
  ∀ (E : Addr -> Prop) (H : Hp) (x y : V) (dx dy : D) (Q : VK) (q : D -> Prop), (∀ a, E a -> H a ≠ none) -> yQ Γ E H x dx -> yQ Γ E H y dy -> f dx dy q -> (∀ v d H', Same H H' -> Rep Γ E H' v d -> q d -> Q v H') -> r x y H Q
def jz (f : F2) (a b : MO) : ME := fun ρ q => a ρ fun r ρ1 => b ρ1 fun s ρ2 => r.on ρ2 fun x => s.on ρ2 fun y => f x y fun d => q d ρ2
theorem OpIn.more {σ : St} {τ τ' : List (V × D)} {v : V} {r : Opd} (h : OpIn σ τ v r) : OpIn σ (τ' ++ τ) v r := by
  cases r with
  | d x => exact List.mem_append_right _ h
  | v i => exact h
theorem Rel.cut {Γ : Cn} {S : Fs} {H : Hp} {σ : St} {ρ : Env} {τ τ' : List (V × D)} (R : Rel Γ S H σ ρ (τ' ++ τ)) : Rel Γ S H σ ρ τ := { R with tmp := fun x hx => R.tmp x (List.mem_append_right _ hx) }
theorem ZO {r : R2} {f : F2} {ta tb : TE} {a b : MO} (ho : zT Γ r f) (ha : JO Γ pn ta a) (hb : JO Γ pn tb b) : JE Γ pn (Rb r ta tb) (jz f a b) := fun S σ ρ H τ Q q hp R hm hq =>
  ha S σ ρ H τ _ _ hp R hm fun v r1 H1 ρ1 τ1 R1 o1 q1 => hb S σ ρ1 H1 (τ1 ++ τ) _ _ hp R1 q1 fun w r2 H2 ρ2 τ2 R2 o2 q2 => by
    obtain ⟨dx, rx, q2⟩ := R2.read o1.more q2
    obtain ⟨dy, ry, q2⟩ := R2.read o2 q2
    exact ho _ H2 v w dx dy Q _ (fun a z => yq R2 z) rx ry q2 fun u d H3 g r3 q3 => hq u d H3 ρ2 ((R2.grow g).cut.cut) r3 q3
abbrev F1 := D -> (D -> Prop) -> Prop
def Qj (Γ : Cn) (r : V -> Hp -> VK -> Prop) (f : F1) : Prop :=
  ∀ (E : Addr -> Prop) (H : Hp) (x : V) (dx : D) (Q : VK) (q : D -> Prop), (∀ a, E a -> H a ≠ none) -> yQ Γ E H x dx -> f dx q -> (∀ v d H', Same H H' -> Rep Γ E H' v d -> q d -> Q v H') -> r x H Q
def Qr (f : F1) (a : MO) : ME := fun ρ q => a ρ fun r ρ1 => r.on ρ1 fun x => f x fun d => q d ρ1
theorem V9 {r : List V -> Hp -> VK -> Prop} {f : F1} {ta : TE} {a : MO} (ho : Qj Γ (fun x => r [x]) f) (ha : JO Γ pn ta a) : JE Γ pn (tCB r (jV ta QR)) (Qr f a) := fun S σ ρ H τ Q q hp R hm hq =>
  ha S σ ρ H τ _ _ hp R hm fun v r1 H1 ρ1 τ1 R1 o1 q1 => by
    obtain ⟨dx, rx, q1⟩ := R1.read o1 q1
    exact ho _ H1 v dx Q _ (fun a z => yq R1 z) rx q1 fun u d H3 g r3 q3 => hq u d H3 ρ1 ((R1.grow g).cut) r3 q3
theorem zcZ {r : List V -> Hp -> VK -> Prop} {f : F2} {ta tb : TE} {a b : MO} (ho : zT Γ (fun x y => r [x, y]) f) (ha : JO Γ pn ta a) (hb : JO Γ pn tb b) : JE Γ pn (tCB r (jV ta (jV tb QR))) (jz f a b) := fun S σ ρ H τ Q q hp R hm hq =>
  ZO (r := fun x y => r [x, y]) ho ha hb S σ ρ H τ Q q hp R hm hq
abbrev Vb := D -> D -> (List D -> Prop) -> Prop
def VB (Γ : Cn) (r : R2) (f : Vb) : Prop :=
  ∀ (E : Addr -> Prop) (H : Hp) (x y : V) (dx dy : D) (Q : VK) (q : List D -> Prop), yQ Γ E H x dx -> yQ Γ E H y dy -> f dx dy q -> (∀ p xs ds H1, Same H H1 -> H1 p = none -> Reps Γ E H1 xs ds -> q ds -> Q (.ref p) (zG H1 p (.lst xs))) -> r x y H Q
def Uw (f : Vb) (a b : MO) : ME := fun ρ q => a ρ fun r ρ1 => b ρ1 fun s ρ2 => r.on ρ2 fun x => s.on ρ2 fun y => f x y fun ds => q (.lst ds) ρ2
theorem zh2 {r : R2} {f : Vb} {ta tb : TE} {a b : MO} (ho : VB Γ r f) (ha : JO Γ pn ta a) (hb : JO Γ pn tb b) : JF Γ pn (Rb r ta tb) (Uw f a b) := fun S σ ρ H τ Q q hp R hm hq =>
  ha S σ ρ H τ _ _ hp R hm fun v r1 H1 ρ1 τ1 R1 o1 q1 => hb S σ ρ1 H1 (τ1 ++ τ) _ _ hp R1 q1 fun w r2 H2 ρ2 τ2 R2 o2 q2 => by
    obtain ⟨dx, rx, q2⟩ := R2.read o1.more q2
    obtain ⟨dy, ry, q2⟩ := R2.read o2 q2
    exact ho _ H2 v w dx dy Q _ rx ry q2 fun p xs ds H3 g hn r3 q3 => by
      obtain ⟨a, b, c, d⟩ := jQ (R2.grow g) r3 hn
      exact hq p _ _ ρ2 a.cut.cut b c d q3
abbrev Wa := D -> (List D -> Prop) -> Prop
def Wb (Γ : Cn) (r : V -> Hp -> VK -> Prop) (f : Wa) : Prop :=
  ∀ (E : Addr -> Prop) (H : Hp) (x : V) (dx : D) (Q : VK) (q : List D -> Prop), yQ Γ E H x dx -> f dx q -> (∀ p xs ds H1, Same H H1 -> H1 p = none -> Reps Γ E H1 xs ds -> q ds -> Q (.ref p) (zG H1 p (.lst xs))) -> r x H Q
def YN (f : Wa) (a : MO) : ME := fun ρ q => a ρ fun r ρ1 => r.on ρ1 fun x => f x fun ds => q (.lst ds) ρ1
theorem zc0 {r : List V -> Hp -> VK -> Prop} {f : Wa} {ta : TE} {a : MO} (ho : Wb Γ (fun x => r [x]) f) (ha : JO Γ pn ta a) : JF Γ pn (tCB r (jV ta QR)) (YN f a) := fun S σ ρ H τ Q q hp R hm hq =>
  ha S σ ρ H τ _ _ hp R hm fun v r1 H1 ρ1 τ1 R1 o1 q1 => by
    obtain ⟨dx, rx, q1⟩ := R1.read o1 q1
    exact ho _ H1 v dx Q _ rx q1 fun p xs ds H3 g hn r3 q3 => by
      obtain ⟨a, b, c, d⟩ := jQ (R1.grow g) r3 hn
      exact hq p _ _ ρ1 a.cut b c d q3
def mB (m : ME) : MT := fun ρ q => m ρ fun d ρ' => match d with | .bl b => q b ρ' | _ => False
theorem J6 {E : Addr -> Prop} {H : Hp} {v : V} {b : Bool} (r : Rep Γ E H v (.bl b)) : v = .bl b := by cases r; rfl
theorem Ux {E : Addr -> Prop} {H : Hp} {v : V} {b : Int} (r : Rep Γ E H v (.int b)) : v = .int b := by cases r; rfl
theorem Rq {E : Addr -> Prop} {H : Hp} {v : V} {b : Str} (r : Rep Γ E H v (.str b)) : v = .str b := by cases r; rfl
theorem ziZ {t : TE} {m : ME} (h : JE Γ pn t m) : JT Γ pn (tB t) (mB m) := fun S σ ρ H τ Q q hp R hm hq =>
  h S σ ρ H τ _ _ hp R hm fun v d H1 ρ1 R1 r1 q1 => by
    cases d with
    | bl b => exact ⟨b, J6 r1, hq b H1 ρ1 R1 q1⟩
    | _ => exact False.elim q1
theorem Rr {t : TE} {m : ME} (h : JE Γ pn t m) : JT Γ pn (zap t) (mB m) := fun S σ ρ H τ Q q hp R hm hq =>
  h S σ ρ H τ _ _ hp R hm fun v d H1 ρ1 R1 r1 q1 => by
    cases d with
    | bl b => exact ⟨b, J6 r1, hq b H1 ρ1 R1 q1⟩
    | _ => exact False.elim q1
def zaC (a b : MT) : MT := fun ρ q => a ρ fun c ρ1 => if c = true then b ρ1 q else q false ρ1
def mOr (a b : MT) : MT := fun ρ q => a ρ fun c ρ1 => if c = true then q true ρ1 else b ρ1 q
def zaD (a : MT) : MT := fun ρ q => a ρ fun c ρ1 => q (!c) ρ1
theorem zgK {t u : TT} {a b : MT} (h1 : JT Γ pn t a) (h2 : JT Γ pn u b) : JT Γ pn (zfO t u) (zaC a b) := fun S σ ρ H τ Q q hp R hm hq =>
  h1 S σ ρ H τ _ _ hp R hm fun c H1 ρ1 R1 q1 => by
    cases c with
    | true => rw [if_pos rfl] at q1 ⊢; exact h2 S σ ρ1 H1 τ Q q hp R1 q1 hq
    | false => rw [if_neg Bool.false_ne_true] at q1 ⊢; exact hq false H1 ρ1 R1 q1
theorem zh3 {t u : TT} {a b : MT} (h1 : JT Γ pn t a) (h2 : JT Γ pn u b) : JT Γ pn (tOr t u) (mOr a b) := fun S σ ρ H τ Q q hp R hm hq =>
  h1 S σ ρ H τ _ _ hp R hm fun c H1 ρ1 R1 q1 => by
    cases c with
    | true => rw [if_pos rfl] at q1 ⊢; exact hq true H1 ρ1 R1 q1
    | false => rw [if_neg Bool.false_ne_true] at q1 ⊢; exact h2 S σ ρ1 H1 τ Q q hp R1 q1 hq
theorem zgL {t : TT} {a : MT} (h1 : JT Γ pn t a) : JT Γ pn (zfP t) (zaD a) := fun S σ ρ H τ Q q hp R hm hq =>
  h1 S σ ρ H τ _ _ hp R hm fun c H1 ρ1 R1 q1 => hq (!c) H1 ρ1 R1 q1
def VC (a b : ME) : ME := fun ρ q => a ρ fun d ρ1 => match d with | .bl c => if c = true then b ρ1 q else q (.bl false) ρ1 | _ => False
def VD (a : ME) : ME := fun ρ q => a ρ fun d ρ1 => match d with | .bl c => q (.bl (!c)) ρ1 | _ => False
theorem zgM {t u : TE} {a b : ME} (h1 : JE Γ pn t a) (h2 : JE Γ pn u b) : JE Γ pn (zdK t u) (VC a b) := fun S σ ρ H τ Q q hp R hm hq =>
  h1 S σ ρ H τ _ _ hp R hm fun v d H1 ρ1 R1 r1 q1 => by
    cases d with
    | bl c =>
      refine ⟨c, J6 r1, ?_⟩
      dsimp only at q1
      cases c with
      | true => rw [if_pos rfl] at q1 ⊢; exact h2 S σ ρ1 H1 τ Q q hp R1 q1 hq
      | false => rw [if_neg Bool.false_ne_true] at q1 ⊢; exact hq _ _ H1 ρ1 R1 (.bl false) q1
    | _ => exact False.elim q1
theorem zgN {t : TE} {a : ME} (h1 : JE Γ pn t a) : JE Γ pn (zdL t) (VD a) := fun S σ ρ H τ Q q hp R hm hq =>
  h1 S σ ρ H τ _ _ hp R hm fun v d H1 ρ1 R1 r1 q1 => by
    cases d with
    | bl c => exact ⟨c, J6 r1, hq _ _ H1 ρ1 R1 (.bl _) q1⟩
    | _ => exact False.elim q1
def mIf (c : MT) (a b : ME) : ME := fun ρ q => c ρ fun k ρ1 => if k = true then a ρ1 q else b ρ1 q
theorem zh4 {t : TT} {ta tb : TE} {c : MT} {a b : ME} (hc : JT Γ pn t c) (h1 : JE Γ pn ta a) (h2 : JE Γ pn tb b) : JE Γ pn (tIf t ta tb) (mIf c a b) := fun S σ ρ H τ Q q hp R hm hq =>
  hc S σ ρ H τ _ _ hp R hm fun k H1 ρ1 R1 q1 => by
    cases k with
    | true => rw [if_pos rfl] at q1 ⊢; exact h1 S σ ρ1 H1 τ Q q hp R1 q1 hq
    | false => rw [if_neg Bool.false_ne_true] at q1 ⊢; exact h2 S σ ρ1 H1 τ Q q hp R1 q1 hq
def zaE : MS := fun N ρ => N.nx ρ
def zc1 (a b : MS) : MS := fun N ρ => a { N with nx := fun ρ' => b N ρ' } ρ
def VE (m : ME) : MS := fun N ρ => m ρ fun _ ρ' => N.nx ρ'
def Uy (m : ME) : MS := fun N ρ => m ρ N.rt
def zaF (c : MT) (a b : MS) : MS := fun N ρ => c ρ fun k ρ1 => if k = true then a N ρ1 else b N ρ1
def Wc : MS := fun _ _ => False
theorem zeS : JS Γ pn fr zdM zaE := fun S σ ρ H τ D N hp R hm hn hr hb hc => hn _ _ _ R hm
theorem zc2 {t : TS} : JS Γ pn fr t Wc := fun S σ ρ H τ D N hp R hm => False.elim hm
theorem zgO {t u : TS} {a b : MS} (h1 : JS Γ pn fr t a) (h2 : JS Γ pn fr u b) : JS Γ pn fr (zfW t u) (zc1 a b) := fun S σ ρ H τ D N hp R hm hn hr hb hc =>
  h1 S σ ρ H τ _ _ hp R hm (fun σ' H' ρ' R' m' => h2 S σ' ρ' H' τ D N hp R' m' hn hr hb hc) hr hb hc
theorem zeT {t : TE} {m : ME} (h : JE Γ pn t m) : JS Γ pn fr (zdN t) (VE m) := fun S σ ρ H τ D N hp R hm hn hr hb hc =>
  h S σ ρ H τ _ _ hp R hm fun v d H' ρ' R' r q => hn σ H' ρ' R' q
theorem zgP {t : TE} {m : ME} (h : JE Γ pn t m) : JS Γ pn false (zcD t) (Uy m) := fun S σ ρ H τ D N hp R hm hn hr hb hc =>
  h S σ ρ H τ _ _ hp R hm fun v d H' ρ' R' r q => hr v d σ H' ρ' ⟨R', r⟩ q
theorem zeU {t : TE} {m : ME} (h : JF Γ pn t m) : JS Γ pn true (zcD t) (Uy m) := fun S σ ρ H τ D N hp R hm hn hr hb hc =>
  h S σ ρ H τ _ _ hp R hm fun p o H' ρ' R' ow h0 ne q => hr _ o σ H' ρ' ⟨p, rfl, R', ow, h0, ne⟩ q
theorem zh5 {t : TT} {ta tb : TS} {c : MT} {a b : MS} (h0 : JT Γ pn t c) (h1 : JS Γ pn fr ta a) (h2 : JS Γ pn fr tb b) : JS Γ pn fr (zfX t ta tb) (zaF c a b) := fun S σ ρ H τ D N hp R hm hn hr hb hc =>
  h0 S σ ρ H τ _ _ hp R hm fun k H1 ρ1 R1 q1 => by
    cases k with
    | true => rw [if_pos rfl] at q1 ⊢; exact h1 S σ ρ1 H1 τ D N hp R1 q1 hn hr hb hc
    | false => rw [if_neg Bool.false_ne_true] at q1 ⊢; exact h2 S σ ρ1 H1 τ D N hp R1 q1 hn hr hb hc
def Wd (i : Nat) (m : ME) : MS := fun N ρ => m ρ fun d ρ' => N.nx (ρ'.set i (.val d))
def ZP (i : Nat) (m : ME) : MS := fun N ρ => m ρ fun d ρ' => N.nx (ρ'.set i (.own d))
theorem zbO {i : Nat} {t : TE} {m : ME} (hi : i ∉ pn) (h : JE Γ pn t m) : JS Γ pn fr (Ur t (ZM i)) (Wd i m) := fun S σ ρ H τ D N hp R hm hn hr hb hc =>
  h S σ ρ H τ _ _ hp R hm fun v d H' ρ' R' r q => hn _ H' _ (R'.asg (hp i hi) r) q
theorem zbP {i : Nat} {t : TE} {m : ME} (hi : i ∉ pn) (h : JF Γ pn t m) : JS Γ pn fr (Ur t (ZM i)) (ZP i m) := fun S σ ρ H τ D N hp R hm hn hr hb hc =>
  h S σ ρ H τ _ _ hp R hm fun p o H' ρ' R' ow h0 ne q => hn _ H' _ (R'.asgOwn (hp i hi) ow h0 (fun z => ne (.inl z))) q
end
end M
namespace M
open PySem L2
section
variable {Γ : Cn} {pn : List Nat} {fr : Bool}
abbrev MG := D -> Env -> (Env -> Prop) -> Prop
abbrev QI := List D -> Env -> (Env -> Prop) -> Prop
def JG (Γ : Cn) (pn : List Nat) (g : TG) (m : MG) : Prop :=
  ∀ (S : Fs) (σ : St) (ρ : Env) (H : Hp) (τ : List (V × D)) (v : V) (d : D) (Q : St -> Hp -> Prop) (q : Env -> Prop), yZ pn S -> Rel Γ S H σ ρ τ -> Rep Γ (zn S σ ρ) H v d -> m d ρ q -> (∀ σ' H' ρ', Rel Γ S H' σ' ρ' τ -> q ρ' -> Q σ' H') -> g v σ H Q
def JGs (Γ : Cn) (pn : List Nat) (g : Z7) (m : QI) : Prop :=
  ∀ (S : Fs) (σ : St) (ρ : Env) (H : Hp) (τ : List (V × D)) (vs : List V) (ds : List D) (Q : St -> Hp -> Prop) (q : Env -> Prop), yZ pn S -> Rel Γ S H σ ρ τ -> Reps Γ (zn S σ ρ) H vs ds -> m ds ρ q -> (∀ σ' H' ρ', Rel Γ S H' σ' ρ' τ -> q ρ' -> Q σ' H') -> g vs σ H Q
def We (i : Nat) : MG := fun d ρ q => q (ρ.set i (.val d))
theorem zeV {i : Nat} (hi : i ∉ pn) : JG Γ pn (ZM i) (We i) := fun S σ ρ H τ v d Q q hp R r hm hq => hq _ _ _ (R.asg (hp i hi) r) hm
def zaG : QI := fun ds ρ q => match ds with | [] => q ρ | _ => False
def Wf (g : MG) (r : QI) : QI := fun ds ρ q => match ds with | d :: ds => g d ρ fun ρ1 => r ds ρ1 q | _ => False
theorem Rel.pushs {S : Fs} {H : Hp} {σ : St} {ρ : Env} {τ : List (V × D)} : ∀ {vs : List V} {ds : List D}, Rel Γ S H σ ρ τ -> Reps Γ (zn S σ ρ) H vs ds -> Rel Γ S H σ ρ (vs.zip ds ++ τ)
  | [], _, R, _ => R
  | _ :: _, [], R, _ => R
  | v :: vs, d :: ds, R, r => (Rel.pushs R r.tail).push r.head
theorem Rel.pops {S : Fs} {H : Hp} {σ : St} {ρ : Env} {τ : List (V × D)} {vs : List V} {ds : List D} (R : Rel Γ S H σ ρ (vs.zip ds ++ τ)) (hl : vs.length = ds.length) : Rel Γ S H σ ρ τ /\ Reps Γ (zn S σ ρ) H vs ds := by
  refine ⟨R.cut, hl, fun i v d h1 h2 => R.tmp (v, d) (List.mem_append_left _ (List.mem_iff_getElem?.mpr ⟨i, ?_⟩))⟩
  rw [List.getElem?_zip_eq_some]
  exact ⟨h1, h2⟩
theorem zeW : JGs Γ pn gNil zaG := fun S σ ρ H τ vs ds Q q hp R r hm hq => by
  cases ds with
  | nil => have h := r.1; cases vs with | nil => exact ⟨rfl, hq _ _ _ R hm⟩ | cons _ _ => simp at h
  | cons _ _ => exact False.elim hm
theorem zc3 {g : TG} {u : Z7} {m : MG} {n : QI} (h1 : JG Γ pn g m) (h2 : JGs Γ pn u n) : JGs Γ pn (gCons g u) (Wf m n) := fun S σ ρ H τ vs ds Q q hp R r hm hq => by
  cases ds with
  | nil => exact False.elim hm
  | cons d ds =>
    cases vs with
    | nil => have h := r.1; simp at h
    | cons v vs =>
      refine ⟨v, vs, rfl, h1 S σ ρ H (vs.zip ds ++ τ) v d _ _ hp (R.pushs r.tail) r.head hm fun σ' H' ρ' R' q' => ?_⟩
      obtain ⟨R2, r2⟩ := R'.pops r.tail.1
      exact h2 S σ' ρ' H' τ vs ds Q q hp R2 r2 q' hq
def zaH (m : QI) (n : Nat) : MG := fun d ρ q => match d with | .tup ds => ds.length = n /\ m ds ρ q | _ => False
theorem zgQ {n : Nat} {g : Z7} {m : QI} (h : JGs Γ pn g m) : JG Γ pn (gTup Γ.K n g) (zaH m n) := fun S σ ρ H τ v d Q q hp R r hm hq => by
  cases d with
  | tup ds =>
    obtain ⟨a, xs, rfl, hs, rs⟩ := r.tuple
    exact ⟨a, xs, rfl, SqT.of hs, rs.1.trans hm.1, h S σ ρ H τ xs ds Q q hp R rs hm.2 hq⟩
  | _ => exact False.elim hm
abbrev MI := Env -> (List D -> Env -> Prop) -> Prop
def zgR (Γ : Cn) (J : It) (τ' : List (V × D)) (ds : List D) : Prop :=
  ∀ (E : Addr -> Prop) (H : Hp) (i : Nat), (∀ a, E a -> H a ≠ none) -> (∀ x ∈ τ', Rep Γ E H x.1 x.2) ->
    (i < ds.length -> J.go i H /\ ∀ x H', J.yld i H x H' -> Same H H' /\ ∃ d, ds[i]? = some d /\ Rep Γ E H' x d) /\ (i = ds.length -> J.stop i H)
def JI (Γ : Cn) (pn : List Nat) (wi : TI) (m : MI) : Prop :=
  ∀ (S : Fs) (σ : St) (ρ : Env) (H : Hp) (τ : List (V × D)) (Z : It -> Hp -> Prop) (q : List D -> Env -> Prop), yZ pn S -> Rel Γ S H σ ρ τ -> m ρ q ->
    (∀ J ds H' ρ' τ', Rel Γ S H' σ ρ' (τ' ++ τ) -> zgR Γ J τ' ds -> q ds ρ' -> Z J H') -> wi σ H Z
def YO (m : ME) : MI := fun ρ q => m ρ fun d ρ' => match d with | .lst ds => q ds ρ' | .fz ns => q (ns.map D.int) ρ' | _ => False
theorem zeX {t : TE} {m : ME} (h : JE Γ pn t m) : JI Γ pn (zdP Γ.K t) (YO m) := fun S σ ρ H τ Z q hp R hm hz =>
  h S σ ρ H τ _ _ hp R hm fun v d H1 ρ1 R1 r1 q1 => by
    cases d with
    | lst ds =>
      obtain ⟨a, xs, rfl, hs, rs⟩ := r1.list
      refine ⟨a, rfl, ⟨xs, .inl (.inl hs)⟩, hz _ ds H1 ρ1 [(.ref a, .lst ds)] (R1.push r1) ?_ q1⟩
      intro E H i hE hx
      have r := hx (.ref a, .lst ds) (by simp)
      have r' : Rep Γ E H (.ref a) (.lst ds) := r
      obtain ⟨a', xs', e, hs', rs'⟩ := r'.list
      cases e
      refine ⟨fun hi => ?_, fun hi => ⟨xs', .inl (.inl hs'), by rw [rs'.1]; omega⟩⟩
      have hi' : i < xs'.length := by rw [rs'.1]; exact hi
      refine ⟨⟨xs', xs'[i], .inl (.inl hs'), List.getElem?_eq_getElem hi'⟩, fun x H' y => ?_⟩
      obtain ⟨e, y⟩ := y
      subst e
      exact ⟨Same.refl _, ds[i], List.getElem?_eq_getElem hi, rs'.2 i x _ (y xs' (.inl (.inl hs'))) (List.getElem?_eq_getElem hi)⟩
    | fz ns =>
      obtain ⟨a, rfl, hs⟩ := r1.script
      refine ⟨a, rfl, ⟨_, hs⟩, hz _ (ns.map D.int) H1 ρ1 [(.ref a, .fz ns)] (R1.push r1) ?_ q1⟩
      intro E H i hE hx
      have r : Rep Γ E H (.ref a) (.fz ns) := hx (.ref a, .fz ns) (by simp)
      obtain ⟨a', e, hs'⟩ := r.script
      cases e
      refine ⟨fun hi => ?_, fun hi => ⟨_, hs', by simpa using Nat.le_of_eq hi.symm⟩⟩
      have hi' : i < ns.length := by simpa using hi
      refine ⟨⟨_, .int ns[i], hs', by rw [List.getElem?_map, List.getElem?_eq_getElem hi']; rfl⟩, fun x H' y => ?_⟩
      obtain ⟨e, y⟩ := y
      subst e
      have y' := y _ hs'
      rw [List.getElem?_map, List.getElem?_eq_getElem hi'] at y'
      cases y'
      exact ⟨Same.refl _, .int ns[i], by rw [List.getElem?_map, List.getElem?_eq_getElem hi']; rfl, .int _⟩
    | _ => exact False.elim q1
def VF (m : ME) : MI := fun ρ q => m ρ fun d ρ' => match d with | .tup ds => q ds ρ' | _ => False
def VG (m : ME) : MI := fun ρ q => m ρ fun d ρ' => match d with | .str x => q (x.cps.toList.map fun c => D.str ⟨#[c]⟩) ρ' | _ => False
theorem zgS {t : TE} {m : ME} (h : JE Γ pn t m) : JI Γ pn (zgA t) (VG m) := fun S σ ρ H τ Z q hp R hm hz =>
  h S σ ρ H τ _ _ hp R hm fun v d H1 ρ1 R1 r1 q1 => by
    cases d with
    | str x =>
      cases Rq r1
      refine ⟨x, rfl, hz _ _ H1 ρ1 [] R1 ?_ q1⟩
      intro E H i hE hx
      refine ⟨fun hi => ?_, fun hi => by show i = x.cps.size; simpa using hi⟩
      have hi' : i < x.cps.size := by simpa using hi
      refine ⟨hi', fun v H' y => ?_⟩
      obtain ⟨e, c, hc, e2⟩ := y
      subst e e2
      refine ⟨Same.refl _, .str ⟨#[c]⟩, ?_, .str _⟩
      have hc' : x.cps.toList[i]? = some c := by simpa using hc
      rw [List.getElem?_map, hc']; rfl
    | _ => exact False.elim q1
def yk (lo : Int) (n : Nat) : List D := (List.range n).map fun (i : Nat) => D.int (lo + (i : Int))
def QT (m : MA) : MI := fun ρ q => m ρ fun ds ρ' => match ds with
  | [.int j] => (-1000000 <= j /\ j <= 1000000) /\ q (yk 0 j.toNat) ρ'
  | _ => False
theorem zc4 {lo : Int} {n : Nat} : zgR Γ (Itr lo n) [] (yk lo n) := fun E H i hE hx => by
  unfold yk
  refine ⟨fun hi => ?_, fun hi => by show n <= i; simp at hi; omega⟩
  have hi' : i < n := by simpa using hi
  refine ⟨hi', fun x H' y => ?_⟩
  obtain ⟨e, y⟩ := y
  subst e y
  refine ⟨Same.refl _, .int (lo + i), ?_, .int _⟩
  rw [List.getElem?_map, List.getElem?_range hi']; rfl
theorem zc5 {E : Addr -> Prop} {H : Hp} {vs : List V} {i : Int} (r : Reps Γ E H vs [.int i]) : vs = [.int i] := by
  match vs, r with
  | [], r => have h := r.1; simp at h
  | [v], r => rw [Ux r.head]
  | _ :: _ :: _, r => have h := r.1; simp at h
theorem zbR {t : TA} {m : MA} (h : JA Γ pn t m) : JI Γ pn (zdQ t) (QT m) := fun S σ ρ H τ Z q hp R hm hz =>
  h S σ ρ H τ _ _ hp R hm fun vs ds H1 ρ1 R1 r1 q1 => by
    split at q1
    · exact ⟨_, zc5 r1, by have := q1.1; omega, by have := q1.1; omega, hz _ _ H1 ρ1 [] R1 zc4 q1.2⟩
    · exact False.elim q1
theorem RR.cut {S : Fs} {σ : St} {ρ : Env} {H : Hp} {τ τ' : List (V × D)} {v : V} {d : D} (h : RR Γ fr S σ ρ H (τ' ++ τ) v d) : RR Γ fr S σ ρ H τ v d := by
  cases fr with
  | false => exact ⟨h.1.cut, h.2⟩
  | true => obtain ⟨p, e, R, r⟩ := h; exact ⟨p, e, R.cut, r⟩
def Uz (g : MG) (b : MS) : List D -> JQ -> Env -> Prop
  | [], N, ρ => N.nx ρ
  | d :: ds, N, ρ => g d ρ fun ρ1 => b { nx := fun ρ2 => Uz g b ds N ρ2, rt := N.rt, bk := N.nx, ct := fun ρ2 => Uz g b ds N ρ2 } ρ1
def zaI (mi : MI) (g : MG) (b : MS) : MS := fun N ρ => mi ρ fun ds ρ1 => Uz g b ds N ρ1
theorem zgT {wi : TI} {g : TG} {tb : TS} {mi : MI} {mg : MG} {mb : MS} (hi : JI Γ pn wi mi) (hg : JG Γ pn g mg) (hbd : JS Γ pn fr tb mb) : JS Γ pn fr (zf7 wi g tb) (zaI mi mg mb) := fun S σ ρ H τ D N hp R hm hn hr hb hc =>
  hi S σ ρ H τ _ _ hp R hm fun J ds H1 ρ1 τ' R1 ok q1 => by
    refine ⟨fun i m σ H => m = ds.length - i /\ i <= ds.length /\ ∃ ρ, Rel Γ S H σ ρ (τ' ++ τ) /\ Uz mg mb (ds.drop i) N ρ, ⟨ds.length, by simp, Nat.zero_le _, ρ1, R1, by simpa using q1⟩, ?_⟩
    rintro i m σ2 H2 ⟨rfl, hle, ρ2, R2, q2⟩
    obtain ⟨go, stop⟩ := ok (zn S σ2 ρ2) H2 i (fun a z => yq R2 z) fun x hx => R2.tmp x (List.mem_append_left _ hx)
    by_cases hlt : i < ds.length
    · obtain ⟨g1, g2⟩ := go hlt
      have ed : ds.drop i = ds[i] :: ds.drop (i + 1) := List.drop_eq_getElem_cons hlt
      rw [ed] at q2
      refine .inr ⟨g1, fun σ' H' => ∃ ρ', Rel Γ S H' σ' ρ' (τ' ++ τ) /\ Uz mg mb (ds.drop (i + 1)) N ρ', fun σ' H' h => ⟨ds.length - (i + 1), by omega, rfl, hlt, h⟩, fun x H' y => ?_⟩
      obtain ⟨same, d, hd, rx⟩ := g2 x H' y
      rw [List.getElem?_eq_getElem hlt] at hd
      cases hd
      refine hg S σ2 ρ2 H' (τ' ++ τ) x _ _ _ hp (R2.grow same) rx q2 fun σ3 H3 ρ3 R3 q3 => ?_
      exact hbd S σ3 ρ3 H3 (τ' ++ τ) _ _ hp R3 q3 (fun σ' H' ρ' R' q' => ⟨ρ', R', q'⟩) (fun v d σ' H' ρ' r' q' => hr v d σ' H' ρ' r'.cut q') (fun σ' H' ρ' R' q' => hn σ' H' ρ' R'.cut q') (fun σ' H' ρ' R' q' => ⟨ρ', R', q'⟩)
    · have e : i = ds.length := by omega
      subst e
      rw [List.drop_length] at q2
      exact .inl ⟨stop rfl, hn _ _ _ R2.cut q2⟩
def jX (js : List (Option Nat)) (ρ : Env) : Env := js.map fun j => match j with | some j => (ρ[j]?).getD .no | none => .no
def jp (ρ : Env) (j : Nat) (o : D) : Env := match ρ[j]? with | some (.own _) => ρ.set j (.own o) | _ => ρ
def yE (ρ : Env) (x : Option Nat) (s : Slot) : Env := match x, s with
  | some j, .own o => jp ρ j o
  | _, _ => ρ
def zD : List (Option Nat) -> Env -> Env -> Env
  | x :: js, s :: ρb, ρ => zD js ρb (yE ρ x s)
  | _, _, ρ => ρ
def ZQ (g : MG) (c : MT) (e : ME) : List D -> List D -> Env -> (List D -> Env -> Prop) -> Prop
  | [], acc, ρ, q => q acc ρ
  | d :: ds, acc, ρ, q => g d ρ fun ρ1 => c ρ1 fun b ρ2 => if b = true then e ρ2 fun y ρ3 => ZQ g c e ds (acc ++ [y]) ρ3 q else ZQ g c e ds acc ρ2 q
def YQ (mi : MI) (js : List (Option Nat)) (g : MG) (c : MT) (e : ME) : ME := fun ρ q => mi ρ fun ds ρ1 => ds.length <= 100000 /\ ZQ g c e ds [] (jX js ρ1) fun ys ρb => q (.lst ys) (zD js ρb ρ1)
def Ya (js : List (Option Nat)) : List Nat := (List.range js.length).filter fun k => ((js[k]?).join).isSome
def mTT : MT := fun ρ q => q true ρ
theorem zh6 : JT Γ pn tTT mTT := fun S σ ρ H τ Q q hp R hm hq => hq true H ρ R hm
def JD (js : List (Option Nat)) (σ : St) (ρ : Env) (k : Nat) : Option Addr := match (js[k]?).join with
  | some j => match ρ[j]?, σ[j]? with
    | some (.own _), some (some (.ref p)) => some p
    | _, _ => none
  | none => none
theorem Jw {js : List (Option Nat)} {σ : St} {ρ : Env} {k : Nat} {p : Addr} (h : JD js σ ρ k = some p) : ∃ j o, js[k]? = some (some j) /\ ρ[j]? = some (.own o) /\ σ[j]? = some (some (.ref p)) := by
  unfold JD at h
  cases e : js[k]? with
  | none => rw [e] at h; cases h
  | some x =>
    rw [e] at h
    cases x with
    | none => cases h
    | some j =>
      dsimp only [Option.join] at h
      refine ⟨j, ?_⟩
      have h : (match ρ[j]?, σ[j]? with
        | some (.own _), some (some (.ref p)) => some p
        | _, _ => none) = some p := h
      split at h
      · rename_i o q e1 e2
        cases h
        exact ⟨o, rfl, e1, e2⟩
      · cases h
theorem UA {js : List (Option Nat)} {σ : St} {ρ : Env} {k j : Nat} {p : Addr} {o : D} (h1 : js[k]? = some (some j)) (h2 : ρ[j]? = some (.own o)) (h3 : σ[j]? = some (some (.ref p))) : JD js σ ρ k = some p := by
  unfold JD
  rw [h1]
  show (match ρ[j]?, σ[j]? with
        | some (.own _), some (some (.ref p)) => some p
        | _, _ => none) = some p
  rw [h2, h3]
def Fs.blk (S : Fs) (js : List (Option Nat)) (σ : St) (ρ : Env) (H : Hp) : Fs where
  C := fun a => zn S σ ρ a /\ ∀ k, JD js σ ρ k ≠ some a
  H0 := H
  pin := JD js σ ρ
theorem JZ {js : List (Option Nat)} {σ : St} {k j : Nat} (h : js[k]? = some (some j)) : (blk js σ)[k]? = some ((σ[j]?).join) := by
  unfold blk; rw [List.getElem?_map, h]; rfl
theorem zc6 {js : List (Option Nat)} {ρ : Env} {k j : Nat} (h : js[k]? = some (some j)) : (jX js ρ)[k]? = some ((ρ[j]?).getD .no) := by
  unfold jX; rw [List.getElem?_map, h]; rfl
theorem QJ {js : List (Option Nat)} {ρ : Env} {k : Nat} {s : Slot} (h : (jX js ρ)[k]? = some s) (hs : s ≠ .no) : ∃ j, js[k]? = some (some j) /\ ρ[j]? = some s := by
  unfold jX at h
  rw [List.getElem?_map] at h
  cases e : js[k]? with
  | none => rw [e] at h; cases h
  | some x =>
    rw [e] at h
    cases x with
    | none => cases h; exact absurd rfl hs
    | some j =>
      refine ⟨j, rfl, ?_⟩
      simp only [Option.map_some, Option.some.injEq] at h
      cases q : ρ[j]? with
      | none => rw [q] at h; exact absurd h.symm hs
      | some u => rw [q] at h; cases h; rfl
def Once (js : List (Option Nat)) : Prop := ∀ (k k' j : Nat), js[k]? = some (some j) -> js[k']? = some (some j) -> k = k'
section
variable {S : Fs} {H : Hp} {σ : St} {ρ : Env} {τ : List (V × D)} {js : List (Option Nat)}
theorem Rel.blkEx (R : Rel Γ S H σ ρ τ) : ∀ a, zn (S.blk js σ ρ H) (blk js σ) (jX js ρ) a -> zn S σ ρ a := fun a h => by
  rcases h with h | ⟨k, ⟨o, ho⟩, e⟩
  · exact h.1
  · obtain ⟨j, hj, hr⟩ := QJ ho (by simp)
    obtain ⟨p, e1, _⟩ := R.own j o hr
    rw [JZ hj, e1] at e
    cases e
    exact .inr ⟨j, ⟨o, hr⟩, e1⟩
theorem Rel.toBlk (R : Rel Γ S H σ ρ τ) (h1 : Once js) : Rel Γ (S.blk js σ ρ H) H (blk js σ) (jX js ρ) τ where
  len := by simp [blk, jX]
  val := fun k d h => by
    obtain ⟨j, hj, hr⟩ := QJ h (by simp)
    obtain ⟨v, e, r⟩ := R.val j d hr
    exact ⟨v, by rw [JZ hj, e]; rfl, r.up (fun b _ => R.blkEx b) fun _ _ _ q => q⟩
  own := fun k o h => by
    obtain ⟨j, hj, hr⟩ := QJ h (by simp)
    obtain ⟨p, e, r, n, pn⟩ := R.own j o hr
    have hc := UA hj hr e
    exact ⟨p, by rw [JZ hj, e]; rfl, r.up (fun _ q => q) (fun b _ => R.blkEx b) fun _ _ _ q => q, fun z => z.2 k hc, .inl hc⟩
  pin := fun k p h => by
    obtain ⟨j, o, hj, hr, e⟩ := Jw h
    exact ⟨by rw [JZ hj, e]; rfl, o, by rw [zc6 hj, hr]; rfl⟩
  inj := fun k k' p hk hk' e1 e2 => by
    obtain ⟨o, ho⟩ := hk
    obtain ⟨o', ho'⟩ := hk'
    obtain ⟨j, hj, hr⟩ := QJ ho (by simp)
    obtain ⟨j', hj', hr'⟩ := QJ ho' (by simp)
    obtain ⟨p1, q1, _⟩ := R.own j o hr
    obtain ⟨p2, q2, _⟩ := R.own j' o' hr'
    rw [JZ hj, q1] at e1
    rw [JZ hj', q2] at e2
    cases e1; cases e2
    have := R.inj j j' _ ⟨o, hr⟩ ⟨o', hr'⟩ q1 q2
    subst this
    exact h1 k k' j hj hj'
  dom := fun a h => yq R h.1
  fr := fun b o h _ => h
  tmp := fun x hx => (R.tmp x hx).up (fun b _ => R.blkEx b) fun _ _ _ q => q
theorem zaJ {ρ : Env} {j : Nat} {o : D} : (jp ρ j o).length = ρ.length := by
  unfold jp; split <;> simp
theorem Vc {ρ : Env} {i j : Nat} {o : D} (h : i ≠ j) : (jp ρ i o)[j]? = ρ[j]? := by
  unfold jp; split
  · exact getElem?_set_ne h
  · rfl
theorem Vd {ρ : Env} {j : Nat} {o : D} (h : zV ρ j) : (jp ρ j o)[j]? = some (.own o) := by
  obtain ⟨u, hu⟩ := h
  unfold jp
  rw [hu]
  dsimp only
  rw [List.getElem?_set, if_pos rfl, if_pos (List.getElem?_eq_some_iff.mp hu).1]
theorem zaK {ρ : Env} {x : Option Nat} {s : Slot} : (yE ρ x s).length = ρ.length := by
  unfold yE; split
  · exact zaJ
  · rfl
theorem zbS {ρ : Env} {x : Option Nat} {s : Slot} {j : Nat} (h : x = some j -> ∀ o, s ≠ .own o) : (yE ρ x s)[j]? = ρ[j]? := by
  unfold yE; split
  · rename_i i o
    exact Vc fun z => h (by rw [z]) o rfl
  · rfl
theorem Zr {ρ : Env} {x : Option Nat} {s : Slot} {j : Nat} : (yE ρ x s)[j]? = ρ[j]? \/ (zV ρ j /\ zV (yE ρ x s) j) := by
  unfold yE; split
  · rename_i i o
    by_cases e : i = j
    · subst e
      by_cases h : zV ρ i
      · exact .inr ⟨h, o, Vd h⟩
      · refine .inl ?_
        unfold jp
        split
        · rename_i u hu; exact absurd ⟨u, hu⟩ h
        · rfl
    · exact .inl (Vc e)
  · exact .inl rfl
theorem YR : ∀ {js : List (Option Nat)} {ρb ρ : Env}, (zD js ρb ρ).length = ρ.length
  | [], _, _ => by simp [zD]
  | x :: js, [], _ => by simp [zD]
  | x :: js, s :: ρb, ρ => by rw [zD, YR, zaK]
theorem Zs : ∀ {js : List (Option Nat)} {ρb ρ : Env} {j : Nat}, (zD js ρb ρ)[j]? = ρ[j]? \/ (zV ρ j /\ zV (zD js ρb ρ) j)
  | [], _, _, _ => .inl (by simp [zD])
  | x :: js, [], _, _ => .inl (by simp [zD])
  | x :: js, s :: ρb, ρ, j => by
    rw [zD]
    rcases Zs (js := js) (ρb := ρb) (ρ := yE ρ x s) (j := j) with h | ⟨h1, h2⟩
    · rcases Zr (ρ := ρ) (x := x) (s := s) (j := j) with g | ⟨g1, g2⟩
      · exact .inl (h.trans g)
      · obtain ⟨o, ho⟩ := g2
        exact .inr ⟨g1, o, h.trans ho⟩
    · refine .inr ⟨?_, h2⟩
      rcases Zr (ρ := ρ) (x := x) (s := s) (j := j) with g | ⟨g1, g2⟩
      · obtain ⟨o, ho⟩ := h1
        exact ⟨o, g.symm.trans ho⟩
      · exact g1
theorem J7 : ∀ {js : List (Option Nat)} {ρb ρ : Env} {j : Nat}, (∀ (k : Nat), js[k]? = some (some j) -> ∀ o, ρb[k]? ≠ some (Slot.own o)) -> (zD js ρb ρ)[j]? = ρ[j]?
  | [], _, _, _, _ => by simp [zD]
  | x :: js, [], ρ, j, _ => by simp [zD]
  | x :: js, s :: ρb, ρ, j, h => by
    have h' : ∀ (k : Nat), js[k]? = some (some j) -> ∀ o, ρb[k]? ≠ some (Slot.own o) := fun k hk o => by
      have := h (k + 1) (by simpa using hk) o
      simpa using this
    rw [zD, J7 h']
    exact zbS fun e o z => h 0 (by simp [e]) o (by simp [z])
theorem Ve : ∀ {js : List (Option Nat)} {ρb ρ : Env} {j k : Nat} {o : D}, Once js -> js[k]? = some (some j) -> ρb[k]? = some (Slot.own o) -> zV ρ j -> (zD js ρb ρ)[j]? = some (Slot.own o)
  | [], _, _, _, _, _, _, h, _, _ => by simp at h
  | x :: js, [], _, _, _, _, _, _, h, _ => by simp at h
  | x :: js, s :: ρb, ρ, j, k, o, on, h1, h2, hl => by
    have on' : Once js := fun a b i ha hb => by
      have := on (a + 1) (b + 1) i (by simpa using ha) (by simpa using hb)
      omega
    rw [zD]
    cases k with
    | zero =>
      simp at h1 h2
      subst h1 h2
      rw [J7 (fun k hk => ?_)]
      · exact Vd hl
      · have := on 0 (k + 1) j rfl (by simpa using hk)
        omega
    | succ k =>
      have h1' : js[k]? = some (some j) := by simpa using h1
      have h2' : ρb[k]? = some (Slot.own o) := by simpa using h2
      refine Ve on' h1' h2' ?_
      rcases Zr (ρ := ρ) (x := x) (s := s) (j := j) with g | ⟨_, g2⟩
      · obtain ⟨u, hu⟩ := hl
        exact ⟨u, g.trans hu⟩
      · exact g2
theorem Rel.ofBlk {H2 : Hp} {σb : St} {ρb : Env} {τb : List (V × D)} (R : Rel Γ S H σ ρ τ) (h1 : Once js) (B : Rel Γ (S.blk js σ ρ H) H2 σb ρb τb) :
    Rel Γ S H2 σ (zD js ρb ρ) τ /\ ∀ a, zn S σ (zD js ρb ρ) a -> zn (S.blk js σ ρ H) σb ρb a := by
  have at_ : ∀ (j : Nat) (o : D), ρ[j]? = some (Slot.own o) -> (∃ (k : Nat) (o' : D), js[k]? = some (some j) /\ ρb[k]? = some (Slot.own o') /\ (zD js ρb ρ)[j]? = some (Slot.own o')) \/ ((∀ (k : Nat), js[k]? ≠ some (some j)) /\ (zD js ρb ρ)[j]? = some (Slot.own o)) := fun j o ho => by
    by_cases h : ∃ (k : Nat), js[k]? = some (some j)
    · obtain ⟨k, hk⟩ := h
      obtain ⟨p, e, _⟩ := R.own j o ho
      obtain ⟨_, o', ho'⟩ := B.pin k p (UA hk ho e)
      exact .inl ⟨k, o', hk, ho', Ve h1 hk ho' ⟨o, ho⟩⟩
    · have h' : ∀ (k : Nat), js[k]? ≠ some (some j) := fun k hk => h ⟨k, hk⟩
      exact .inr ⟨h', by rw [J7 fun k hk => absurd hk (h' k)]; exact ho⟩
  have own_iff : ∀ j, zV (zD js ρb ρ) j -> zV ρ j := fun j ⟨o, ho⟩ => by
    rcases Zs (js := js) (ρb := ρb) (ρ := ρ) (j := j) with g | ⟨g, _⟩
    · exact ⟨o, g.symm.trans ho⟩
    · exact g
  have exE : ∀ a, zn S σ (zD js ρb ρ) a -> zn S σ ρ a := fun a h => by
    rcases h with h | ⟨j, hj, e⟩
    · exact .inl h
    · exact .inr ⟨j, own_iff j hj, e⟩
  have exB : ∀ a, zn S σ ρ a -> zn (S.blk js σ ρ H) σb ρb a := fun a h => by
    by_cases hc : ∃ k, JD js σ ρ k = some a
    · obtain ⟨k, hk⟩ := hc
      obtain ⟨e, ow⟩ := B.pin k a hk
      exact .inr ⟨k, ow, e⟩
    · exact .inl ⟨h, fun k z => hc ⟨k, z⟩⟩
  have keepc : ∀ b u, (∀ k, JD js σ ρ k ≠ some b) -> H b = some u -> H2 b = some u := fun b u n q => B.fr b u q n
  have captEx : ∀ k b, JD js σ ρ k = some b -> zn S σ ρ b := fun k b h => by
    obtain ⟨j, o, _, hr, e⟩ := Jw h
    exact .inr ⟨j, ⟨o, hr⟩, e⟩
  have keep : ∀ b u, ¬ zn S σ ρ b -> H b = some u -> H2 b = some u := fun b u n q => keepc b u (fun k z => n (captEx k b z)) q
  refine ⟨?_, fun a h => exB a (exE a h)⟩
  exact {
    len := by rw [YR]; exact R.len
    val := fun j d hj => by
      have hr : ρ[j]? = some (.val d) := by
        rcases Zs (js := js) (ρb := ρb) (ρ := ρ) (j := j) with g | ⟨_, o, g⟩
        · exact g.symm.trans hj
        · rw [hj] at g; cases g
      obtain ⟨v, e, r⟩ := R.val j d hr
      exact ⟨v, e, r.up (fun b _ => exE b) keep⟩
    own := fun j o hj => by
      obtain ⟨o0, ho⟩ := own_iff j ⟨o, hj⟩
      obtain ⟨p, e, r, n, pn⟩ := R.own j o0 ho
      refine ⟨p, e, ?_, n, pn⟩
      rcases at_ j o0 ho with ⟨k, o', hk, ho', hm⟩ | ⟨hk, hm⟩
      · rw [hm] at hj; cases hj
        have hc := UA hk ho e
        obtain ⟨e2, _⟩ := B.pin k p hc
        obtain ⟨p', e3, r', _⟩ := B.own k o ho'
        rw [e2] at e3; cases e3
        exact r'.up (fun _ q => q) (fun b _ z => exB b (exE b z)) fun _ _ _ q => q
      · rw [hm] at hj; cases hj
        refine r.up (fun u q => keepc p u (fun k z => ?_) q) (fun b _ => exE b) keep
        obtain ⟨j', o', hk', hr', e'⟩ := Jw z
        have := R.inj j j' p ⟨o, ho⟩ ⟨o', hr'⟩ e e'
        subst this
        exact hk k hk'
    pin := fun j p hj => by
      obtain ⟨e, o, ho⟩ := R.pin j p hj
      refine ⟨e, ?_⟩
      rcases at_ j o ho with ⟨k, o', _, _, hm⟩ | ⟨_, hm⟩
      · exact ⟨o', hm⟩
      · exact ⟨o, hm⟩
    inj := fun i j p hi hj e1 e2 => R.inj i j p (own_iff i hi) (own_iff j hj) e1 e2
    dom := fun a ha => by
      by_cases hc : ∃ k, JD js σ ρ k = some a
      · obtain ⟨k, hk⟩ := hc
        obtain ⟨e, o, ho⟩ := B.pin k a hk
        obtain ⟨p, e', r, _⟩ := B.own k o ho
        rw [e] at e'; cases e'
        exact r.ne0
      · cases q : H a with
        | none => exact absurd q (R.dom a ha)
        | some u => rw [keepc a u (fun k z => hc ⟨k, z⟩) q]; simp
    fr := fun b u h0 n => by
      refine keepc b u (fun k z => ?_) (R.fr b u h0 n)
      obtain ⟨j, o, _, hr, e⟩ := Jw z
      obtain ⟨p, e', _, _, pn⟩ := R.own j o hr
      rw [e] at e'; cases e'
      rcases pn with q | ⟨_, q⟩
      · exact n j q
      · rw [q] at h0; cases h0
    tmp := fun x hx => (R.tmp x hx).up (fun b _ => exE b) keep }
end
end
end M
namespace M
open PySem L2
section
variable {Γ : Cn} {pn : List Nat} {fr : Bool}
theorem zc7 {S : Fs} {js : List (Option Nat)} {σ : St} {ρ : Env} {H : Hp} : yZ (Ya js) (S.blk js σ ρ H) := fun k hk => by
  show JD js σ ρ k = none
  cases e : JD js σ ρ k with
  | none => rfl
  | some p =>
    obtain ⟨j, o, hj, _⟩ := Jw e
    refine absurd (List.mem_filter.mpr ⟨List.mem_range.mpr (List.getElem?_eq_some_iff.mp hj).1, ?_⟩) hk
    rw [hj]; rfl
theorem zc8 {α β : Type} {xs : List α} {ys : List β} {x : α} {y : β} (h : ys.length = xs.length) : (xs ++ [x]).zip (ys ++ [y]) = xs.zip ys ++ [(x, y)] := by
  rw [List.zip_append h.symm]; rfl
theorem Rs {wi : TI} {js : List (Option Nat)} {g : TG} {tc : TT} {te : TE} {mi : MI} {mg : MG} {mc : MT} {me : ME} (h1 : Once js) (hi : JI Γ pn wi mi) (hg : JG Γ (Ya js) g mg) (hc : JT Γ (Ya js) tc mc) (he : JE Γ (Ya js) te me) :
    JF Γ pn (zaw wi js g tc te) (YQ mi js mg mc me) := fun S σ ρ H τ Q q hp R hm hq =>
  hi S σ ρ H τ _ _ hp R hm fun J ds H1 ρ1 τ' R1 ok ⟨hlen, q1⟩ => by
    have line : (100000 : Nat) < sizeLine := by decide
    refine ⟨fun i m ys σ' H' => m = ds.length - i /\ i <= ds.length /\ ys.length <= i /\ ∃ ρb acc, acc.length = ys.length /\ Rel Γ (S.blk js σ ρ1 H1) H' σ' ρb (ys.zip acc ++ (τ' ++ τ)) /\ ZQ mg mc me (ds.drop i) acc ρb fun ys ρb => q (.lst ys) (zD js ρb ρ1),
      ⟨ds.length, by simp, Nat.zero_le _, Nat.le_refl _, jX js ρ1, [], rfl, R1.toBlk h1, by simpa using q1⟩, ?_⟩
    rintro i m ys σ2 H2 ⟨rfl, hle, hyl, ρ2, acc, hacc, R2, q2⟩
    obtain ⟨go, stop⟩ := ok (zn (S.blk js σ ρ1 H1) σ2 ρ2) H2 i (fun a z => yq R2 z) fun x hx => R2.tmp x (List.mem_append_right _ (List.mem_append_left _ hx))
    by_cases hlt : i < ds.length
    · obtain ⟨g1, g2⟩ := go hlt
      have ed : ds.drop i = ds[i] :: ds.drop (i + 1) := List.drop_eq_getElem_cons hlt
      rw [ed] at q2
      refine .inr ⟨g1, by omega, fun ys' σ' H' => ys'.length <= i + 1 /\ ∃ ρb acc, acc.length = ys'.length /\ Rel Γ (S.blk js σ ρ1 H1) H' σ' ρb (ys'.zip acc ++ (τ' ++ τ)) /\ ZQ mg mc me (ds.drop (i + 1)) acc ρb fun ys ρb => q (.lst ys) (zD js ρb ρ1),
        fun ys' σ' H' h => ⟨ds.length - (i + 1), by omega, rfl, hlt, h.1, h.2⟩, fun x H' y => ?_⟩
      obtain ⟨same, d, hd, rx⟩ := g2 x H' y
      rw [List.getElem?_eq_getElem hlt] at hd
      cases hd
      refine hg _ σ2 ρ2 H' _ x _ _ _ zc7 (R2.grow same) rx q2 fun σ3 H3 ρ3 R3 q3 => ?_
      refine hc _ σ3 ρ3 H3 _ _ _ zc7 R3 q3 fun b H4 ρ4 R4 q4 => ?_
      cases b with
      | false =>
        rw [if_neg Bool.false_ne_true] at q4 ⊢
        exact ⟨by omega, ρ4, acc, hacc, R4, q4⟩
      | true =>
        rw [if_pos rfl] at q4 ⊢
        refine he _ σ3 ρ4 H4 _ _ _ zc7 R4 q4 fun y d H5 ρ5 R5 r5 q5 => ?_
        refine ⟨by simp; omega, ρ5, acc ++ [d], by simp [hacc], { R5 with tmp := fun z hz => ?_ }, q5⟩
        rw [zc8 hacc] at hz
        rcases List.mem_append.mp hz with hz | hz
        · rcases List.mem_append.mp hz with hz | hz
          · exact R5.tmp z (List.mem_append_left _ hz)
          · have e : z = (y, d) := by simpa using hz
            subst e; exact r5
        · exact R5.tmp z (List.mem_append_right _ hz)
    · have e : i = ds.length := by omega
      subst e
      rw [List.drop_length] at q2
      refine .inl ⟨stop rfl, by omega, fun p hn => ?_⟩
      obtain ⟨R3, sub⟩ := R1.ofBlk h1 R2
      have rs := (R2.pops hacc.symm).2
      have rs' : Reps Γ (zn S σ (zD js ρ2 ρ1)) H2 ys acc := rs.up (fun b _ => sub b) fun _ _ _ z => z
      obtain ⟨a, b, c, d⟩ := jQ R3 rs' hn
      exact hq p _ _ _ a.cut b c d q2
theorem QU {S : Fs} {H : Hp} {σ : St} {ρ : Env} {τ : List (V × D)} {i : Nat} {ds : List D} (R : Rel Γ S H σ ρ τ) (h : ρ[i]? = some (.own (.lst ds))) : ∃ p xs, σ[i]? = some (some (.ref p)) /\ H p = some (.lst xs) /\ Reps Γ (zn S σ ρ) H xs ds := by
  obtain ⟨p, e, ⟨xs, hx, r⟩, _⟩ := R.own i _ h
  exact ⟨p, xs, e, hx, r⟩
theorem Rel.lset {S : Fs} {H : Hp} {σ : St} {ρ : Env} {τ : List (V × D)} {i : Nat} {ds es : List D} {p : Addr} {ys : List V} (R : Rel Γ S H σ ρ τ) (h : ρ[i]? = some (.own (.lst ds))) (e : σ[i]? = some (some (.ref p))) (r : Reps Γ (zn S σ ρ) H ys es) :
    Rel Γ S (zG H p (.lst ys)) σ (ρ.set i (.own (.lst es))) τ := by
  have hk : ∀ b u, b ≠ p -> H b = some u -> zG H p (.lst ys) b = some u := fun b u n q => by rw [zx n]; exact q
  refine R.write h e hk ⟨ys, yI, r.up (fun _ _ z => z) fun b o n q => hk b o (fun z => n ?_) q⟩
  rw [z]; exact .inr ⟨i, ⟨_, h⟩, e⟩
def Yq (s : Option Slot) (k : List D -> Prop) : Prop := match s with | some (.own (.lst ds)) => k ds | _ => False
theorem ZR {s : Option Slot} {k : List D -> Prop} (h : Yq s k) : ∃ ds, s = some (.own (.lst ds)) /\ k ds := by
  unfold Yq at h
  split at h
  · exact ⟨_, rfl, h⟩
  · exact False.elim h
def ZS (f : List D -> D -> (D -> List D -> Prop) -> Prop) (i : Nat) (a : ME) : ME := fun ρ q => Yq ρ[i]? fun _ => a ρ fun d ρ1 => Yq ρ1[i]? fun ds => f ds d fun r es => q r (ρ1.set i (.own (.lst es)))
theorem Rt {r : V -> List V -> Hp -> VK -> Prop} {f : List D -> D -> (D -> List D -> Prop) -> Prop} {i : Nat} {ta : TE} {a : ME} (ha : JE Γ pn ta a)
    (hr : ∀ (E : Addr -> Prop) (H : Hp) (p : Addr) (xs : List V) (ds : List D) (y : V) (d : D) (Q : VK) (q : D -> List D -> Prop), H p = some (.lst xs) -> Reps Γ E H xs ds -> Rep Γ E H y d -> f ds d q -> (∀ v ys r es, Rep Γ E H v r -> Reps Γ E H ys es -> q r es -> Q v (zG H p (.lst ys))) -> r (.ref p) [y] H Q) :
    JE Γ pn (tBM Γ.K "list" r (Qq i) (jV ta QR)) (ZS f i a) := fun S σ ρ H τ Q q hp R hm hq => by
  obtain ⟨_, h0, hm⟩ := ZR hm
  obtain ⟨p, xs, e, hx, rs⟩ := QU R h0
  refine ⟨_, e, .inl ⟨rfl, xs, .inl (.inl hx)⟩, ?_⟩
  refine ha S σ ρ H τ _ _ hp R hm fun y d H1 ρ1 R1 r1 q1 => ?_
  obtain ⟨ds, h1, q1⟩ := ZR q1
  obtain ⟨p', xs', e', hx', rs'⟩ := QU R1 h1
  rw [e] at e'; cases e'
  refine hr (zn S σ ρ1) H1 p xs' ds y d Q _ hx' rs' r1 q1 fun v ys r es rv re q' => ?_
  have hk : ∀ b u, ¬ zn S σ ρ1 b -> H1 b = some u -> zG H1 p (.lst ys) b = some u := fun b u n z => by rw [zx (fun w => n (by rw [w]; exact .inr ⟨i, ⟨_, h1⟩, e⟩))]; exact z
  refine hq v r _ _ (R1.lset h1 e re) (rv.up (fun b _ z => ?_) hk) q'
  rcases z with z | ⟨j, ⟨o, ho⟩, ej⟩
  · exact .inl z
  · by_cases ij : i = j
    · subst ij; exact .inr ⟨i, ⟨_, h1⟩, ej⟩
    · rw [getElem?_set_ne ij] at ho; exact .inr ⟨j, ⟨o, ho⟩, ej⟩
def UB : List D -> D -> (D -> List D -> Prop) -> Prop := fun ds d q => ds.length < 100000 /\ q .non (ds ++ [d])
theorem zbT {i : Nat} {ta : TE} {a : ME} (ha : JE Γ pn ta a) : JE Γ pn (tBM Γ.K "list" Rj (Qq i) (jV ta QR)) (ZS UB i a) :=
  Rt ha fun E H p xs ds y d Q q hx rs ry ⟨hl, hq⟩ k => ⟨p, xs, y, rfl, rfl, hx, by rw [rs.1]; exact Nat.lt_trans hl (by decide), k _ _ _ _ .non (rs.append (.cons ry .nil)) hq⟩
def YS (i : Nat) (a v : ME) : MS := fun N ρ => v ρ fun d ρ0 => Yq ρ0[i]? fun _ => a ρ0 fun x ρ1 => Yq ρ1[i]? fun ds => match x with
  | .int j => (0 <= j /\ j.toNat < ds.length) /\ N.nx (ρ1.set i (.own (.lst (ds.set j.toNat d))))
  | _ => False
theorem zc9 {i : Nat} {tv ta : TE} {v a : ME} (hv : JE Γ pn tv v) (ha : JE Γ pn ta a) : JS Γ pn fr (Ur tv (zf1 (Qq i) ta zdX)) (YS i a v) := fun S σ ρ H τ D N hp R hm hn hr hb hc =>
  hv S σ ρ H τ _ _ hp R hm fun w d H0 ρ0 R0 r0 q0 => by
    obtain ⟨_, h0, q0⟩ := ZR q0
    obtain ⟨p, xs, e, hx, rs⟩ := QU R0 h0
    refine ⟨_, e, ?_⟩
    refine ha S σ ρ0 H0 ((w, d) :: τ) _ _ hp (R0.push r0) q0 fun y x H1 ρ1 R1 r1 q1 => ?_
    obtain ⟨ds, h1, q1⟩ := ZR q1
    cases x with
    | int j =>
      obtain ⟨⟨j0, j1⟩, q1⟩ := q1
      cases Ux r1
      obtain ⟨p', xs', e', hx', rs'⟩ := QU R1 h1
      rw [e] at e'; cases e'
      have hl : j.toNat < xs'.length := by rw [rs'.1]; exact j1
      refine ⟨p, xs', j, j.toNat, rfl, rfl, hx', ?_, hn _ _ _ (R1.pop.1.lset h1 e (rs'.set _ R1.pop.2)) q1⟩
      unfold jx
      rw [if_pos j0, if_pos (by omega)]
    | _ => exact False.elim q1
end
end M
namespace M
open PySem L2
abbrev Zj := List Slot -> (D -> List D -> Prop) -> (D -> List D -> Prop) -> Prop
def QV : List Nat -> Env -> (List D -> Prop) -> Prop
  | [], _, k => k []
  | i :: r, ρ, k => match ρ[i]? with | some (.own o) => QV r ρ fun os => k (o :: os) | _ => False
def zc_ (pn : List Nat) (ρ : Env) (os : List D) : Prop := os.length = pn.length /\ ∀ (k i : Nat) o, pn[k]? = some i -> os[k]? = some o -> ρ[i]? = some (.own o)
theorem Ru : ∀ {pn : List Nat} {ρ : Env} {k : List D -> Prop}, QV pn ρ k -> ∃ os, zc_ pn ρ os /\ k os
  | [], ρ, k, h => ⟨[], ⟨rfl, fun k i o h => by simp at h⟩, h⟩
  | i :: r, ρ, k, h => by
    unfold QV at h
    split at h
    · rename_i o ho
      obtain ⟨os, ⟨hl, hp⟩, hk⟩ := Ru h
      refine ⟨o :: os, ⟨by simp [hl], fun j x u h1 h2 => ?_⟩, hk⟩
      cases j with
      | zero => simp at h1 h2; subst h1 h2; exact ho
      | succ j => simp at h1 h2; exact hp j x u h1 h2
    · exact False.elim h
def Z0 : D -> List D -> Prop := fun _ _ => False
def yR (Γ : Cn) (pn : List Nat) (fr : Bool) (n : Nat) (p : Zj) : Sp := fun vs H Q _ => vs.length = n /\ ∃ (S : Fs) (ss : List Slot) (q : D -> List D -> Prop), yZ pn S /\ S.H0 = H /\ Rel Γ S H (vs.map some) ss [] /\ p ss q Z0 /\
  ∀ v d H' σ' ρ' os, RR Γ fr S σ' ρ' H' [] v d -> zc_ pn ρ' os -> q d os -> Q v H'
section
variable {Γ : Cn} {pn : List Nat} {fr : Bool}
theorem Jf {α : Type} {l : List α} {n i : Nat} {x y : α} (h : (l ++ List.replicate n x)[i]? = some y) (hy : y ≠ x) : l[i]? = some y := by
  by_cases hi : i < l.length
  · rwa [List.getElem?_append_left hi] at h
  · rw [List.getElem?_append_right (by omega), List.getElem?_replicate] at h
    split at h
    · cases h; exact absurd rfl hy
    · cases h
theorem QW {α : Type} {l m : List α} {i : Nat} {y : α} (h : l[i]? = some y) : (l ++ m)[i]? = some y := by
  rw [List.getElem?_append_left (List.getElem?_eq_some_iff.mp h).1]; exact h
theorem Rel.ext {S : Fs} {H : Hp} {σ : St} {ρ : Env} {τ : List (V × D)} (R : Rel Γ S H σ ρ τ) (n : Nat) : Rel Γ S H (σ ++ List.replicate n none) (ρ ++ List.replicate n .no) τ := by
  have ow : ∀ i, zV (ρ ++ List.replicate n .no) i -> zV ρ i := fun i ⟨o, h⟩ => ⟨o, Jf h (by simp)⟩
  have he : ∀ b, zn S (σ ++ List.replicate n none) (ρ ++ List.replicate n .no) b -> zn S σ ρ b := fun b h => by
    rcases h with h | ⟨i, hi, e⟩
    · exact .inl h
    · exact .inr ⟨i, ow i hi, Jf e (by simp)⟩
  exact {
    len := by simp [R.len]
    val := fun i d h => let ⟨v, e, r⟩ := R.val i d (Jf h (by simp)); ⟨v, QW e, r.up (fun b _ => he b) fun _ _ _ z => z⟩
    own := fun i o h => let ⟨p, e, r, q⟩ := R.own i o (Jf h (by simp)); ⟨p, QW e, r.up (fun _ z => z) (fun b _ => he b) fun _ _ _ z => z, q⟩
    pin := fun i p h => let ⟨e, o, q⟩ := R.pin i p h; ⟨QW e, o, QW q⟩
    inj := fun i j p hi hj e1 e2 => R.inj i j p (ow i hi) (ow j hj) (Jf e1 (by simp)) (Jf e2 (by simp))
    dom := R.dom
    fr := R.fr
    tmp := fun x hx => (R.tmp x hx).up (fun b _ => he b) fun _ _ _ z => z }
theorem Wg {S : Fs} {H : Hp} {σ : St} {ρ : Env} {τ : List (V × D)} {vs : List V} {ds : List D} (R : Rel Γ S H σ ρ τ) (r : Reps Γ (zn S σ ρ) H vs ds) :
    Rel Γ ⟨zn S σ ρ, H, fun _ => none⟩ H (vs.map some) (ds.map .val) [] := by
  have no : ∀ i, ¬ zV (ds.map Slot.val) i := fun i ⟨o, h⟩ => by
    rw [List.getElem?_map] at h
    cases e : ds[i]? with
    | none => rw [e] at h; cases h
    | some d => rw [e] at h; cases h
  have he : ∀ b, zn ⟨zn S σ ρ, H, fun _ => none⟩ (vs.map some) (ds.map .val) b -> zn S σ ρ b := fun b h => h.elim id fun ⟨i, hi, _⟩ => absurd hi (no i)
  exact {
    len := by simp [r.1]
    val := fun i d h => by
      rw [List.getElem?_map] at h
      cases e : ds[i]? with
      | none => rw [e] at h; cases h
      | some d' =>
        rw [e] at h; cases h
        obtain ⟨v, h1, h2⟩ := r.get e
        exact ⟨v, by rw [List.getElem?_map, h1]; rfl, h2.up (fun b _ => he b) fun _ _ _ z => z⟩
    own := fun i o h => absurd ⟨o, h⟩ (no i)
    pin := fun i p h => by cases h
    inj := fun i j p hi => absurd hi (no i)
    dom := fun a h => yq R h
    fr := fun b o h _ => h
    tmp := fun x h => nomatch h }
def ZT (p : Zj) (a : MA) : ME := fun ρ q => a ρ fun ds ρ1 => p (ds.map .val) (fun d _ => q d ρ1) Z0
theorem zaL {S : Fs} {H H' : Hp} {σ σ' : St} {ρ ρ' : Env} {τ : List (V × D)} {v : V} {d : D} (R : Rel Γ S H σ ρ τ) (R' : Rel Γ ⟨zn S σ ρ, H, fun _ => none⟩ H' σ' ρ' []) (r : Rep Γ (zn ⟨zn S σ ρ, H, fun _ => none⟩ σ' ρ') H' v d) :
    Rel Γ S H' σ ρ τ /\ Rep Γ (zn S σ ρ) H' v d :=
  ⟨R.grow fun b o h => R'.fr b o h fun i => by simp, r.up (fun b _ z => .inl z) fun _ _ _ z => z⟩
theorem je_call {n : Nat} {p : Zj} {ta : TA} {a : MA} (ha : JA Γ pn ta a) (hn : ∀ ss q, p ss q Z0 -> ss.length = n) : JE Γ pn (YG (yR Γ [] false n p) [] E0 ta) (ZT p a) := fun S σ ρ H τ Q q hp R hm hq =>
  ha S σ ρ H τ _ _ hp R hm fun vs ds H1 ρ1 R1 r1 q1 => by
    rw [List.append_nil]
    have hl := hn _ _ q1
    refine ⟨by rw [r1.1]; simpa using hl, ⟨zn S σ ρ1, H1, fun _ => none⟩, ds.map .val, _, fun _ _ => rfl, rfl, Wg R1 r1, q1, fun v d H' σ' ρ' os ⟨R', r'⟩ _ q' => ?_⟩
    obtain ⟨a, b⟩ := zaL R1 R' r'
    exact hq v d H' ρ1 a b q'
def Zt (j : Nat) (p : Zj) (a : MA) : ME := fun ρ q => match ρ[j]? with
  | some (.own _) => a ρ fun ds ρ1 => match ρ1[j]? with
    | some (.own o) => p (.own o :: ds.map .val) (fun d os => match os with | [o'] => q d (ρ1.set j (.own o')) | _ => False) Z0
    | _ => False
  | _ => False
def Yr (x : Addr) : Nat -> Option Addr := fun i => if i = 0 then some x else none
theorem zbU {S : Fs} {H : Hp} {σ : St} {ρ : Env} {τ : List (V × D)} {vs : List V} {ds : List D} {E : Addr -> Prop} {x : Addr} {o : D} (hd : ∀ a, E a -> H a ≠ none) (r : Reps Γ (fun a => E a \/ a = x) H vs ds) (ow : OwnAt Γ (fun a => E a \/ a = x) H x o) (nx : ¬ E x) :
    Rel Γ ⟨E, H, Yr x⟩ H (some (.ref x) :: vs.map some) (.own o :: ds.map .val) [] := by
  have no : ∀ i, zV (.own o :: ds.map Slot.val) i -> i = 0 := fun i ⟨u, h⟩ => by
    cases i with
    | zero => rfl
    | succ i =>
      rw [List.getElem?_cons_succ, List.getElem?_map] at h
      cases e : ds[i]? with
      | none => rw [e] at h; cases h
      | some d => rw [e] at h; cases h
  have he : ∀ b, zn ⟨E, H, Yr x⟩ (some (.ref x) :: vs.map some) (.own o :: ds.map .val) b -> E b \/ b = x := fun b h => h.elim .inl fun ⟨i, hi, e⟩ => by
    have := no i hi
    subst this
    simp at e
    exact .inr e.symm
  exact {
    len := by simp [r.1]
    val := fun i d h => by
      cases i with
      | zero => simp at h
      | succ i =>
        rw [List.getElem?_cons_succ, List.getElem?_map] at h
        cases e : ds[i]? with
        | none => rw [e] at h; cases h
        | some d' =>
          rw [e] at h; cases h
          obtain ⟨v, h1, h2⟩ := r.get e
          exact ⟨v, by rw [List.getElem?_cons_succ, List.getElem?_map, h1]; rfl, h2.up (fun b _ => he b) fun _ _ _ z => z⟩
    own := fun i u h => by
      have := no i ⟨u, h⟩
      subst this
      simp at h
      subst h
      exact ⟨x, rfl, ow.up (fun _ z => z) (fun b _ => he b) fun _ _ _ z => z, nx, .inl rfl⟩
    pin := fun i p h => by
      unfold Yr at h
      dsimp only at h
      split at h
      · cases h; rename_i hi; subst hi; exact ⟨rfl, o, rfl⟩
      · cases h
    inj := fun i j p hi hj _ _ => by rw [no i hi, no j hj]
    dom := hd
    fr := fun b u h _ => h
    tmp := fun y h => nomatch h }
theorem zh7 {ρ' : Env} {os : List D} (h : zc_ [0] ρ' os) : ∃ o, os = [o] /\ ρ'[0]? = some (.own o) := by
  obtain ⟨hl, hp⟩ := h
  match os, hl with
  | [o], _ => exact ⟨o, rfl, hp 0 0 o rfl rfl⟩
theorem zbV {H H' : Hp} {E : Addr -> Prop} {x : Addr} {σ' : St} {ρ' : Env} {o : D} (R' : Rel Γ ⟨E, H, Yr x⟩ H' σ' ρ' []) (ho : ρ'[0]? = some (.own o)) :
    (∀ b u, b ≠ x -> H b = some u -> H' b = some u) /\ OwnAt Γ (zn ⟨E, H, Yr x⟩ σ' ρ') H' x o /\ ∀ b, (E b \/ b = x) -> zn ⟨E, H, Yr x⟩ σ' ρ' b := by
  obtain ⟨e0, w0⟩ := R'.pin 0 x (by show (if (0 : Nat) = 0 then some x else none) = _; rfl)
  obtain ⟨p, e1, ow, _⟩ := R'.own 0 o ho
  rw [e0] at e1; cases e1
  refine ⟨fun b u hb h => R'.fr b u h fun i => ?_, ow, fun b hb => ?_⟩
  · show (if i = 0 then some x else none) ≠ some b
    split
    · intro z; cases z; exact hb rfl
    · intro z; cases z
  · rcases hb with hb | hb
    · exact .inl hb
    · subst hb; exact .inr ⟨0, w0, e0⟩
theorem zda {n j : Nat} {p : Zj} {ta : TA} {a : MA} (ha : JA Γ pn ta a) (hn : ∀ ss q, p ss q Z0 -> ss.length = n) : JE Γ pn (YG (yR Γ [0] false n p) [] E0 (jV (Qq j) ta)) (Zt j p a) := fun S σ ρ H τ Q q hp R hm hq => by
  unfold Zt at hm
  split at hm
  · rename_i o0 h0
    obtain ⟨x, e, _⟩ := R.own j o0 h0
    refine ⟨_, e, ?_⟩
    refine ha S σ ρ H τ _ _ hp R hm fun vs ds H1 ρ1 R1 r1 q1 => ?_
    show yR Γ [0] false n p ((V.ref x :: vs) ++ []) H1 Q E0
    rw [List.append_nil]
    split at q1
    · rename_i o h1
      obtain ⟨x', e', ow, nC, _⟩ := R1.own j o h1
      rw [e] at e'; cases e'
      have ex1 : ∀ b, (zn S σ ρ1 b /\ b ≠ x) \/ b = x -> zn S σ ρ1 b := fun b h => h.elim And.left fun z => by rw [z]; exact .inr ⟨j, ⟨o, h1⟩, e⟩
      have ex2 : ∀ b, zn S σ ρ1 b -> (zn S σ ρ1 b /\ b ≠ x) \/ b = x := fun b h => by
        by_cases z : b = x
        · exact .inr z
        · exact .inl ⟨h, z⟩
      have hl := hn _ _ q1
      refine ⟨by have := r1.1; simp at hl; simp; omega, ⟨fun a => zn S σ ρ1 a /\ a ≠ x, H1, Yr x⟩, _, _, fun i hi => ?_, rfl,
        zbU (S := S) (σ := σ) (ρ := ρ1) (τ := τ) (fun a h => yq R1 h.1) (r1.up (fun b _ => ex1 b) fun _ _ _ z => z) (ow.up (fun _ z => z) (fun b _ => ex1 b) fun _ _ _ z => z) (fun z => z.2 rfl), q1, fun v d H' σ' ρ' os ⟨R', r'⟩ ps q' => ?_⟩
      · show (if i = 0 then some x else none) = none
        rw [if_neg (by simpa using hi)]
      · obtain ⟨o', rfl, ho'⟩ := zh7 ps
        obtain ⟨k1, k2, k3⟩ := zbV R' ho'
        have k2' : OwnAt Γ (zn S σ ρ1) H' x o' := k2.up (fun _ z => z) (fun b _ z => k3 b (ex2 b z)) fun _ _ _ z => z
        refine hq v d H' _ (R1.write h1 e k1 k2') (r'.up (fun b _ z => k3 b (ex2 b ?_)) fun _ _ _ z => z) q'
        rcases z with z | ⟨i, ⟨u, hu⟩, ei⟩
        · exact .inl z
        · by_cases ij : j = i
          · subst ij; exact .inr ⟨j, ⟨o, h1⟩, ei⟩
          · rw [getElem?_set_ne ij] at hu; exact .inr ⟨i, ⟨u, hu⟩, ei⟩
    · exact False.elim q1
  · exact False.elim hm
theorem Rel.addS {S : Fs} {H H' : Hp} {σ : St} {ρ : Env} {τ : List (V × D)} (R : Rel Γ S H σ ρ τ) {p : Addr} (hp : H p = none) (g : Same H H') (hn : H' p ≠ none) : Rel Γ (S.add p) H' σ ρ τ := by
  have he : ∀ b, H b ≠ none -> zn (S.add p) σ ρ b -> zn S σ ρ b := fun b hb h => by
    rcases h with (h | h) | h
    · exact .inl h
    · subst h; exact absurd hp hb
    · exact .inr h
  exact {
    len := R.len
    val := fun i d h => let ⟨v, e, r⟩ := R.val i d h; ⟨v, e, r.up he fun b o _ q => g b o q⟩
    own := fun i o h => by
      obtain ⟨q, e, r, n, pn⟩ := R.own i o h
      refine ⟨q, e, r.up (fun u => g q u) he fun b o _ q => g b o q, ?_, pn⟩
      rintro (z | z)
      · exact n z
      · subst z; exact r.ne0 hp
    pin := R.pin
    inj := R.inj
    dom := fun a h => by
      rcases h with h | h
      · cases e : H a with
        | none => exact absurd e (R.dom a h)
        | some u => rw [g a u e]; simp
      · subst h; exact hn
    fr := fun b o h n => g b o (R.fr b o h n)
    tmp := fun x hx => (R.tmp x hx).up he fun b o _ q => g b o q }
theorem zeY {n : Nat} {p : Zj} {ta : TA} {a : MA} (ha : JA Γ pn ta a) (hn : ∀ ss q, p ss q Z0 -> ss.length = n) : JF Γ pn (YG (yR Γ [] true n p) [] E0 ta) (ZT p a) := fun S σ ρ H τ Q q hp R hm hq =>
  ha S σ ρ H τ _ _ hp R hm fun vs ds H1 ρ1 R1 r1 q1 => by
    rw [List.append_nil]
    have hl := hn _ _ q1
    refine ⟨by rw [r1.1]; simpa using hl, ⟨zn S σ ρ1, H1, fun _ => none⟩, ds.map .val, _, fun _ _ => rfl, rfl, Wg R1 r1, q1, fun v d H' σ' ρ' os ⟨p, e, R', ow, h0, ne⟩ _ q' => ?_⟩
    subst e
    have h0 : H1 p = none := h0
    have same : Same H1 H' := fun b o h => R'.fr b o h fun i => by show (none : Option Addr) ≠ some b; simp
    refine hq p d H' ρ1 (R1.addS h0 same ow.ne0) (ow.up (fun _ z => z) (fun b _ z => ?_) fun _ _ _ z => z) (R1.new h0) (fun z => yq R1 z h0) q'
    rcases z with (z | z) | z
    · exact .inl (.inl (.inl z))
    · exact .inl (.inr z)
    · exact .inl (.inl (.inr z))
end
section
variable {X : Cx} {m : Str} {disp : Addr -> Sp -> Prop} {pos apos : Pos} {e o : Expr} {es : List Expr} {ta : TE} {t : TA}
end
end M
namespace M
open PySem L2
section
variable {Γ : Cn} {pn : List Nat}
theorem zl {E : Addr -> Prop} {H : Hp} {v : V} {d : D} (r : yQ Γ E H v d) (h : jW d = true) : v = vD d := by
  cases d with
  | non => exact Rep.flat (show Rep Γ E H v .non from r) rfl
  | bl b => exact Rep.flat (show Rep Γ E H v (.bl b) from r) rfl
  | int b => exact Rep.flat (show Rep Γ E H v (.int b) from r) rfl
  | str b => exact Rep.flat (show Rep Γ E H v (.str b) from r) rfl
  | ty b => exact Rep.flat (show Rep Γ E H v (.ty b) from r) rfl
  | _ => cases h
theorem z4 {E : Addr -> Prop} {H : Hp} {v : V} {i : Int} (r : yQ Γ E H v (.int i)) : v = .int i := zl r rfl
theorem y0 {E : Addr -> Prop} {H : Hp} {v : V} {i : Str} (r : yQ Γ E H v (.str i)) : v = .str i := zl r rfl
theorem zeZ {E : Addr -> Prop} {H : Hp} {v : V} {i : Bool} (r : yQ Γ E H v (.bl i)) : v = .bl i := zl r rfl
def jA (g : Int -> Int -> D) : F2 := fun x y q => match x, y with | .int i, .int j => q (g i j) | _, _ => False
def fI (C : Int -> Int -> Prop) (g : Int -> Int -> D) : F2 := fun x y q => match x, y with | .int i, .int j => C i j /\ q (g i j) | _, _ => False
theorem ZU {gv : Int -> Int -> V} {g : Int -> Int -> D} (hf : ∀ i j, jW (g i j) = true) (hv : ∀ i j, gv i j = vD (g i j)) : zT Γ (QG gv) (jA g) := fun E H x y dx dy Q q _ rx ry h k => by
  unfold jA at h
  split at h
  · rename_i i j
    refine ⟨i, j, z4 rx, z4 ry, k _ _ H (Same.refl H) ?_ h⟩
    rw [hv]; exact Yo (hf i j)
  · exact False.elim h
theorem zaM {C : Int -> Int -> Prop} {gv : Int -> Int -> V} {g : Int -> Int -> D} (hf : ∀ i j, jW (g i j) = true) (hv : ∀ i j, gv i j = vD (g i j)) : zT Γ (rI C gv) (fI C g) := fun E H x y dx dy Q q _ rx ry h k => by
  unfold fI at h
  split at h
  · rename_i i j
    refine ⟨i, j, z4 rx, z4 ry, h.1, k _ _ H (Same.refl H) ?_ h.2⟩
    rw [hv]; exact Yo (hf i j)
  · exact False.elim h
def Zu : D -> D -> Option Bool
  | .non, .non => some true
  | .non, .int _ => some false | .int _, .non => some false | .non, .bl _ => some false | .bl _, .non => some false | .non, .str _ => some false | .str _, .non => some false
  | .int i, .int j => some (decide (i = j))
  | .bl a, .bl b => some (decide (a = b))
  | .str a, .str b => some (decide (a = b))
  | .int _, .str _ => some false | .str _, .int _ => some false | .bl _, .str _ => some false | .str _, .bl _ => some false
  | _, _ => none
theorem zgV {α β : Type} [DecidableEq α] [DecidableEq β] {f : α -> β} (hf : ∀ a b, f a = f b -> a = b) (a b : α) : decide (f a = f b) = decide (a = b) := by
  by_cases h : a = b
  · subst h; simp
  · rw [decide_eq_false h, decide_eq_false fun z => h (hf a b z)]
theorem zbW {x y : D} {b : Bool} (h : Zu x y = some b) : jW x = true /\ jW y = true /\ zcJ (vD x) (vD y) = true /\ decide (vD x = vD y) = b := by
  unfold Zu at h
  split at h <;> first
    | (cases h; refine ⟨rfl, rfl, rfl, ?_⟩; first | rfl | (simp [vD]) | exact zgV (fun _ _ z => by injection z) _ _)
    | cases h
def fEq : F2 := fun x y q => match Zu x y with | some b => q (.bl b) | none => False
def fNe : F2 := fun x y q => match Zu x y with | some b => q (.bl (!b)) | none => False
theorem ji : zT Γ rEq fEq := fun E H x y dx dy Q q _ rx ry h k => by
  unfold fEq at h
  split at h
  · rename_i b hb
    obtain ⟨f1, f2, s, e⟩ := zbW hb
    rw [zl rx f1, zl ry f2]
    exact ⟨s, by rw [e]; exact k _ _ H (Same.refl H) (.bl _) h⟩
  · exact False.elim h
theorem YT : zT Γ rNe fNe := fun E H x y dx dy Q q _ rx ry h k => by
  unfold fNe at h
  split at h
  · rename_i b hb
    obtain ⟨f1, f2, s, e⟩ := zbW hb
    rw [zl rx f1, zl ry f2]
    exact ⟨s, by rw [e]; exact k _ _ H (Same.refl H) (.bl _) h⟩
  · exact False.elim h
def jH : D -> Bool | .non => true | _ => false
def zgW : F2 := fun x y q => match y with | .non => q (.bl (jH x)) | _ => False
def zd8 : F2 := fun x y q => match y with | .non => q (.bl (!jH x)) | _ => False
theorem Wh {E : Addr -> Prop} {H : Hp} {v : V} {d : D} (r : yQ Γ E H v d) : decide (v = .non) = jH d := by
  cases d with
  | non => rw [zl r rfl]; rfl
  | bl b => rw [zl r rfl]; rfl
  | int b => rw [zl r rfl]; rfl
  | str b => rw [zl r rfl]; rfl
  | ty b => rw [zl r rfl]; rfl
  | lst ds => obtain ⟨a, _, rfl, _⟩ := r; rfl
  | tup ds => obtain ⟨a, _, rfl, _⟩ := Rep.tuple r; rfl
  | fz ds => obtain ⟨a, rfl, _⟩ := Rep.script r; rfl
  | dK ds => obtain ⟨a, _, rfl, _⟩ := r; rfl
  | dT ds => obtain ⟨a, _, rfl, _⟩ := r; rfl
  | obj c fs => obtain ⟨a, _, _, _, rfl, _⟩ := r; rfl
  | exc k => cases r; rfl
  | kt xs => obtain ⟨a, rfl, _⟩ := Rep.kept r; rfl
  | kd xs => obtain ⟨a, rfl, _⟩ := Rep.table r; rfl
theorem Wi : zT Γ (fun x y H Q => y = .non /\ Q (.bl (decide (x = .non))) H) zgW := fun E H x y dx dy Q q _ rx ry h k => by
  cases dy with
  | non => refine ⟨zl ry rfl, ?_⟩; rw [Wh rx]; exact k _ _ H (Same.refl H) (.bl _) h
  | _ => exact False.elim h
theorem ze0 : zT Γ (fun x y H Q => y = .non /\ Q (.bl (!decide (x = .non))) H) zd8 := fun E H x y dx dy Q q _ rx ry h k => by
  cases dy with
  | non => refine ⟨zl ry rfl, ?_⟩; rw [Wh rx]; exact k _ _ H (Same.refl H) (.bl _) h
  | _ => exact False.elim h
def VH : F2 := fun x y q => match x, y with | .str a, .str b => a.length + b.length <= 100000 /\ q (.str (a ++ b)) | _, _ => False
theorem ze1 : zT Γ (fun x y H Q => ∃ i j, x = .str i /\ y = .str j /\ i.length + j.length <= sizeLine /\ Q (.str (i ++ j)) H) VH := fun E H x y dx dy Q q _ rx ry h k => by
  unfold VH at h
  split at h
  · exact ⟨_, _, y0 rx, y0 ry, Nat.le_trans h.1 (by decide), k _ _ H (Same.refl H) (.str _) h.2⟩
  · exact False.elim h
def zdb : F2 := fun x y q => match x, y with | .str a, .str b => q (.bl (!decide (b.cps.toList < a.cps.toList))) | _, _ => False
theorem zbX : zT Γ (fun x y H Q => ∃ i j, x = .str i /\ y = .str j /\ Q (.bl (!(decide (j.cps.toList < i.cps.toList)))) H) zdb := fun E H x y dx dy Q q _ rx ry h k => by
  unfold zdb at h
  split at h
  · exact ⟨_, _, y0 rx, y0 ry, k _ _ H (Same.refl H) (.bl _) h⟩
  · exact False.elim h
def eqF : D -> D -> Bool
  | .non, .non => true
  | .bl a, .bl b => a == b
  | .bl a, .int b => (if a then 1 else 0) == b
  | .int a, .bl b => a == (if b then 1 else 0)
  | .int a, .int b => a == b
  | .str a, .str b => a == b
  | _, _ => false
def yF : D -> Bool | .non => true | .bl _ => true | .int _ => true | .str _ => true | _ => false
theorem y3 {d : D} (h : yF d = true) : jW d = true := by cases d <;> first | rfl | cases h
theorem zgX {x y : D} (h1 : yF x = true) (h2 : yF y = true) : jO (vD x) (vD y) = eqF x y := by
  cases x <;> cases y <;> first | rfl | (exact absurd h1 Bool.false_ne_true) | (exact absurd h2 Bool.false_ne_true)
theorem J0 {d : D} (h : yF d = true) : jt (vD d) = true := by cases d <;> first | rfl | cases h
theorem Zv {E : Addr -> Prop} {H : Hp} : ∀ {xs : List V} {ds : List D}, Reps Γ E H xs ds -> ds.all yF = true -> xs = ds.map vD
  | [], [], _, _ => rfl
  | [], _ :: _, r, _ => by have h := r.1; simp at h
  | _ :: _, [], r, _ => by have h := r.1; simp at h
  | v :: xs, d :: ds, r, h => by
    rw [List.all_cons, Bool.and_eq_true] at h
    rw [List.map_cons, ← Zv r.tail h.2, ← Rep.flat r.head (y3 h.1)]
def Yb (x : D) (ds : List D) : Bool := ds.any fun y => eqF y x
theorem Wj {x : D} {ds : List D} (h1 : yF x = true) (h2 : ds.all yF = true) : inV (vD x) (ds.map vD) = Yb x ds := by
  unfold inV Yb
  rw [List.any_map]
  induction ds with
  | nil => rfl
  | cons d ds ih =>
    rw [List.all_cons, Bool.and_eq_true] at h2
    rw [List.any_cons, List.any_cons, ih h2.2]
    show (jO (vD d) (vD x) || _) = _
    rw [zgX h2.1 h1]
def UC : D -> Option (List D)
  | .lst ds => some ds
  | .tup ds => some ds
  | .kt xs => some (xs.map D.str)
  | _ => none
def fIn (neg : Bool) : F2 := fun x y q => match UC y with
  | some ds => yF x = true /\ ds.all yF = true /\ q (.bl (if neg then !Yb x ds else Yb x ds))
  | none => False
theorem zd_ {neg : Bool} : zT Γ (rIn Γ.K neg) (fIn neg) := fun E H x y dx dy Q q _ rx ry h k => by
  unfold fIn at h
  cases dy with
  | lst ds =>
    obtain ⟨f1, f2, h⟩ := h
    obtain ⟨a, xs, rfl, ha, rs⟩ := ry
    have e := Zv rs f2
    subst e
    refine ⟨a, _, rfl, .inl (.inl (.inl ha)), ?_, ?_, ?_⟩
    · rw [zl rx (y3 f1)]; exact J0 f1
    · rw [List.all_map, List.all_eq_true]; exact fun d hd => J0 (List.all_eq_true.mp f2 d hd)
    · rw [zl rx (y3 f1), Wj f1 f2]; exact k _ _ H (Same.refl H) (.bl _) h
  | tup ds =>
    obtain ⟨f1, f2, h⟩ := h
    obtain ⟨a, xs, rfl, ha, rs⟩ := Rep.tuple ry
    have e := Zv rs f2
    subst e
    refine ⟨a, _, rfl, .inr (SqT.of ha), ?_, ?_, ?_⟩
    · rw [zl rx (y3 f1)]; exact J0 f1
    · rw [List.all_map, List.all_eq_true]; exact fun d hd => J0 (List.all_eq_true.mp f2 d hd)
    · rw [zl rx (y3 f1), Wj f1 f2]; exact k _ _ H (Same.refl H) (.bl _) h
  | kt xs =>
    obtain ⟨f1, f2, h⟩ := h
    obtain ⟨a, rfl, ha⟩ := Rep.kept ry
    have e : xs.map V.str = (xs.map D.str).map vD := by rw [List.map_map]; rfl
    rw [e] at ha
    refine ⟨a, _, rfl, .inr ha, ?_, ?_, ?_⟩
    · rw [zl rx (y3 f1)]; exact J0 f1
    · rw [List.all_map, List.all_eq_true]; exact fun d hd => J0 (List.all_eq_true.mp f2 d hd)
    · rw [zl rx (y3 f1), Wj f1 f2]; exact k _ _ H (Same.refl H) (.bl _) h
  | _ => exact False.elim h
def Ys : F2 := fun x y q => match x, y with
  | .lst ds, .int i => match jx ds.length i with | some j => q (ds.getD j .non) | none => False
  | .fz ns, .int i => match jx ns.length i with | some j => q (.int (ns.getD j 0)) | none => False
  | _, _ => False
theorem YU {n : Nat} {i : Int} {j : Nat} (h : jx n i = some j) : j < n := by
  unfold jx at h
  split at h
  · split at h
    · cases h; omega
    · cases h
  · split at h
    · cases h; omega
    · cases h
theorem zgY : zT Γ (zcQ Γ.K) Ys := fun E H x y dx dy Q q _ rx ry h k => by
  unfold Ys at h
  split at h
  · rename_i ds i
    split at h
    · rename_i j hj
      obtain ⟨a, xs, rfl, ha, rs⟩ := rx
      have hl := YU hj
      have hl' : j < xs.length := by rw [rs.1]; exact hl
      refine ⟨a, xs, i, xs[j], rfl, z4 ry, .inl (.inl ha), ?_, k _ _ H (Same.refl H) (rs.2 j _ _ (List.getElem?_eq_getElem hl') ?_) h⟩
      · unfold YI; rw [rs.1, hj]; exact List.getElem?_eq_getElem hl'
      · rw [List.getD_eq_getElem?_getD, List.getElem?_eq_getElem hl]; rfl
    · exact False.elim h
  · rename_i ns i
    split at h
    · rename_i j hj
      obtain ⟨a, rfl, ha⟩ := Rep.script rx
      have hl := YU hj
      refine ⟨a, _, i, .int (ns.getD j 0), rfl, z4 ry, ha, ?_, k _ _ H (Same.refl H) (.int _) h⟩
      unfold YI
      rw [List.length_map, hj]
      show (ns.map V.int)[j]? = _
      rw [List.getElem?_map, List.getD_eq_getElem?_getD, List.getElem?_eq_getElem hl]; rfl
    · exact False.elim h
  · exact False.elim h
def Wk : F2 := fun x y q => match x, y with
  | .tup ds, .int i => match jx ds.length i with | some j => q (ds.getD j .non) | none => False
  | _, _ => False
theorem zgZ : zT Γ (zcR Γ.K) Wk := fun E H x y dx dy Q q _ rx ry h k => by
  unfold Wk at h
  split at h
  · rename_i ds i
    split at h
    · rename_i j hj
      obtain ⟨a, xs, rfl, ha, rs⟩ := Rep.tuple rx
      have hl := YU hj
      have hl' : j < xs.length := by rw [rs.1]; exact hl
      refine ⟨a, xs, i, xs[j], rfl, z4 ry, SqT.of ha, ?_, k _ _ H (Same.refl H) (rs.2 j _ _ (List.getElem?_eq_getElem hl') ?_) h⟩
      · unfold YI; rw [rs.1, hj]; exact List.getElem?_eq_getElem hl'
      · rw [List.getD_eq_getElem?_getD, List.getElem?_eq_getElem hl]; rfl
    · exact False.elim h
  · exact False.elim h
def Wl : F2 := fun x y q => match x, y with
  | .str z, .int i => z.length <= 100000 /\ match jx z.cps.toList.length i with | some j => q (.str ⟨#[z.cps.toList.getD j 0]⟩) | none => False
  | _, _ => False
theorem zg0 : zT Γ zcS Wl := fun E H x y dx dy Q q _ rx ry h k => by
  unfold Wl at h
  split at h
  · rename_i z i
    obtain ⟨hz, h⟩ := h
    split at h
    · rename_i j hj
      refine ⟨z, i, z.cps.toList.getD j 0, y0 rx, z4 ry, Nat.le_trans hz (by decide), ?_, k _ _ H (Same.refl H) (.str _) h⟩
      unfold YI
      rw [hj]
      show z.cps.toList[j]? = _
      rw [List.getD_eq_getElem?_getD, List.getElem?_eq_getElem (YU hj)]; rfl
    · exact False.elim h
  · exact False.elim h
def zdc : F1 := fun x q => match x with
  | .lst ds => q (.int ds.length)
  | .tup ds => q (.int ds.length)
  | .fz ns => q (.int ns.length)
  | .kt xs => q (.int xs.length)
  | .str z => z.length <= 100000 /\ q (.int z.length)
  | _ => False
theorem zg1 : Qj Γ (fun x H Q => ∃ y n, [x] = [y] /\ zgf Γ.K y H n /\ Q (.int n) H) zdc := fun E H x dx Q q _ rx h k => by
  cases dx with
  | lst ds =>
    obtain ⟨a, xs, rfl, ha, rs⟩ := rx
    refine ⟨_, xs.length, rfl, .inl ⟨xs, .inl (.inl ha), rfl⟩, ?_⟩
    rw [rs.1]; exact k _ _ H (Same.refl H) (.int _) h
  | tup ds =>
    obtain ⟨a, xs, rfl, ha, rs⟩ := Rep.tuple rx
    refine ⟨_, xs.length, rfl, .inr ⟨xs, SqT.of ha, rfl⟩, ?_⟩
    rw [rs.1]; exact k _ _ H (Same.refl H) (.int _) h
  | fz ns =>
    obtain ⟨a, rfl, ha⟩ := Rep.script rx
    refine ⟨_, _, rfl, .inl ⟨_, ha, rfl⟩, ?_⟩
    rw [List.length_map]; exact k _ _ H (Same.refl H) (.int _) h
  | kt xs =>
    obtain ⟨a, rfl, ha⟩ := Rep.kept rx
    refine ⟨_, _, rfl, .inr ⟨_, ha, rfl⟩, ?_⟩
    rw [List.length_map]; exact k _ _ H (Same.refl H) (.int _) h
  | str z =>
    rw [y0 rx]
    exact ⟨_, z.length, rfl, ⟨Nat.le_trans h.1 (by decide), rfl⟩, k _ _ H (Same.refl H) (.int _) h.2⟩
  | _ => exact False.elim h
def yS {α : Type} (xs : List α) (lo hi : Option Int) : List α := (xs.drop (HT.sIx xs.length 0 lo)).take (HT.sIx xs.length xs.length hi - HT.sIx xs.length 0 lo)
theorem Yt {E : Addr -> Prop} {H : Hp} {xs : List V} {ds : List D} {lo hi : Option Int} (r : Reps Γ E H xs ds) : Reps Γ E H (Zq xs lo hi) (yS ds lo hi) := by
  unfold Zq yS
  rw [r.1]
  exact (r.drop _).take _
abbrev Zk := Env -> (Option Int -> Env -> Prop) -> Prop
def Wm (Γ : Cn) (pn : List Nat) (t : TO) (m : Zk) : Prop :=
  ∀ (S : Fs) (σ : St) (ρ : Env) (H : Hp) (τ : List (V × D)) (Q : Option Int -> Hp -> Prop) (q : Option Int -> Env -> Prop), yZ pn S -> Rel Γ S H σ ρ τ -> m ρ q -> (∀ i H' ρ', Rel Γ S H' σ ρ' τ -> q i ρ' -> Q i H') -> t σ H Q
def UD : Zk := fun ρ q => q none ρ
def VI (m : ME) : Zk := fun ρ q => m ρ fun d ρ' => match d with | .int i => q (some i) ρ' | _ => False
theorem ze2 : Wm Γ pn Rh UD := fun S σ ρ H τ Q q hp R hm hq => hq none H ρ R hm
theorem ze3 {t : TE} {m : ME} (h : JE Γ pn t m) : Wm Γ pn (zdV t) (VI m) := fun S σ ρ H τ Q q hp R hm hq =>
  h S σ ρ H τ _ _ hp R hm fun v d H1 ρ1 R1 r1 q1 => by
    cases d with
    | int i => exact ⟨i, Ux r1, hq _ H1 ρ1 R1 q1⟩
    | _ => exact False.elim q1
def zaN (a : MO) (l u : Zk) : ME := fun ρ q => a ρ fun r ρ1 => l ρ1 fun lo ρ2 => u ρ2 fun hi ρ3 => r.on ρ3 fun x => match x with
  | .lst ds => q (.lst (yS ds lo hi)) ρ3
  | .fz ns => q (.lst ((yS ns lo hi).map D.int)) ρ3
  | _ => False
theorem ze4 {α β : Type} (f : α -> β) (xs : List α) (lo hi : Option Int) : yS (xs.map f) lo hi = (yS xs lo hi).map f := by
  unfold yS; rw [List.length_map, List.map_take, List.map_drop]
theorem zbY {E : Addr -> Prop} {H : Hp} (ns : List Int) : Reps Γ E H (ns.map V.int) (ns.map D.int) := ⟨by simp, fun i v d h1 h2 => by
  rw [List.getElem?_map] at h1 h2
  cases e : ns[i]? with
  | none => rw [e] at h1; cases h1
  | some n => rw [e] at h1 h2; cases h1; cases h2; exact .int n⟩
theorem zg2 {ta : TE} {tl tu : TO} {a : MO} {l u : Zk} (ha : JO Γ pn ta a) (hl : Wm Γ pn tl l) (hu : Wm Γ pn tu u) : JF Γ pn (tSl (zgt Γ.K) ta tl tu) (zaN a l u) := fun S σ ρ H τ Q q hp R hm hq =>
  ha S σ ρ H τ _ _ hp R hm fun v r1 H1 ρ1 τ1 R1 o1 q1 => hl S σ ρ1 H1 (τ1 ++ τ) _ _ hp R1 q1 fun lo H2 ρ2 R2 q2 => hu S σ ρ2 H2 (τ1 ++ τ) _ _ hp R2 q2 fun hi H3 ρ3 R3 q3 => by
    obtain ⟨dx, rx, q3⟩ := R3.read o1 q3
    cases dx with
    | lst ds =>
      obtain ⟨b, xs, rfl, hb, rs⟩ := rx
      refine ⟨b, xs, rfl, .inl (.inl hb), fun p hn => ?_⟩
      obtain ⟨k1, k2, k3, k4⟩ := jQ R3 (Yt (lo := lo) (hi := hi) rs) hn
      exact hq p _ _ ρ3 k1.cut k2 k3 k4 q3
    | fz ns =>
      obtain ⟨b, rfl, hb⟩ := Rep.script rx
      refine ⟨b, _, rfl, hb, fun p hn => ?_⟩
      have r := Yt (lo := lo) (hi := hi) (zbY (Γ := Γ) (E := zn S σ ρ3) (H := H3) ns)
      rw [ze4] at r
      obtain ⟨k1, k2, k3, k4⟩ := jQ R3 r hn
      exact hq p _ _ ρ3 k1.cut k2 k3 k4 q3
    | _ => exact False.elim q3
def zaO : Vb := fun x y q => match x, y with | .lst a, .lst b => a.length + b.length <= 100000 /\ q (a ++ b) | _, _ => False
theorem zg3 : VB Γ zgv zaO := fun E H x y dx dy Q q rx ry h k => by
  unfold zaO at h
  split at h
  · obtain ⟨a, xs, rfl, ha, ra⟩ := rx
    obtain ⟨b, ys, rfl, hb, rb⟩ := ry
    exact ⟨a, b, xs, ys, rfl, rfl, ha, hb, by rw [ra.1, rb.1]; exact Nat.le_trans h.1 (by decide), fun p hp => k p _ _ H (Same.refl H) hp (ra.append rb) h.2⟩
  · exact False.elim h
def VJ : Wa := fun x q => match x with | .lst a => q a | .tup a => q a | _ => False
theorem ze5 : Wb Γ (fun x H Q => ∃ p ys, [x] = [.ref p] /\ (yM Γ.K H p ys \/ SqT Γ.K H p ys) /\ ∀ l, H l = none -> Q (.ref l) (zG H l (.lst ys))) VJ := fun E H x dx Q q rx h k => by
  unfold VJ at h
  split at h
  · obtain ⟨a, xs, rfl, ha, ra⟩ := rx
    exact ⟨a, xs, rfl, .inl (.inl (.inl ha)), fun p hp => k p _ _ H (Same.refl H) hp ra h⟩
  · obtain ⟨a, xs, rfl, ha, ra⟩ := Rep.tuple rx
    exact ⟨a, xs, rfl, .inr (SqT.of ha), fun p hp => k p _ _ H (Same.refl H) hp ra h⟩
  · exact False.elim h
def YV : F1 := fun x q => match x with | .lst a => q (.tup a) | .tup a => q (.tup a) | _ => False
theorem zdd : Qj Γ (fun x H Q => ∃ p ys, [x] = [.ref p] /\ ((yM Γ.K H p ys /\ ∀ l, H l = none -> Q (.ref l) (zG H l (.tup ys))) \/ (SqT Γ.K H p ys /\ Q (.ref p) H))) YV := fun E H x dx Q q hE rx h k => by
  unfold YV at h
  split at h
  · obtain ⟨a, xs, rfl, ha, ra⟩ := rx
    refine ⟨a, xs, rfl, .inl ⟨.inl (.inl ha), fun p hp => ?_⟩⟩
    have g := Yp hp (.tup xs)
    have r' := ra.up (E' := E) (H' := zG H p (.tup xs)) (fun _ _ z => z) fun b o _ q => g b o q
    exact k _ _ _ g (.tup (fun z => hE p z hp) yI r'.1 r'.2) h
  · obtain ⟨a, xs, rfl, ha, ra⟩ := Rep.tuple rx
    exact ⟨a, xs, rfl, .inr ⟨SqT.of ha, k _ _ H (Same.refl H) rx h⟩⟩
  · exact False.elim h
def VL : F2 := jA fun i j => .int (if j > i then j else i)
def VM : F2 := jA fun i j => .int (if j < i then j else i)
theorem ze6 : zT Γ (fun x y H Q => ∃ i j, [x, y] = [.int i, .int j] /\ Q (.int (if j > i then j else i)) H) VL := fun E H x y dx dy Q q _ rx ry h k => by
  unfold VL jA at h
  split at h
  · exact ⟨_, _, by rw [z4 rx, z4 ry], k _ _ H (Same.refl H) (.int _) h⟩
  · exact False.elim h
theorem ze7 : zT Γ (fun x y H Q => ∃ i j, [x, y] = [.int i, .int j] /\ Q (.int (if j < i then j else i)) H) VM := fun E H x y dx dy Q q _ rx ry h k => by
  unfold VM jA at h
  split at h
  · exact ⟨_, _, by rw [z4 rx, z4 ry], k _ _ H (Same.refl H) (.int _) h⟩
  · exact False.elim h
def zde : F1 := fun x q => match x with | .int i => q (.int i) | .bl b => q (.int (if b then 1 else 0)) | _ => False
theorem zg4 : Qj Γ (fun x H Q => (∃ i, [x] = [.int i] /\ Q (.int i) H) \/ ∃ k, [x] = [.bl k] /\ Q (.int (if k then 1 else 0)) H) zde := fun E H x dx Q q _ rx h k => by
  cases dx with
  | int i => exact .inl ⟨i, by rw [z4 rx], k _ _ H (Same.refl H) (.int _) h⟩
  | bl i => exact .inr ⟨i, by rw [zeZ rx], k _ _ H (Same.refl H) (.int _) h⟩
  | _ => exact False.elim h
def jY : List D -> Option (List Bool)
  | [] => some []
  | .bl b :: r => (jY r).map (b :: ·)
  | _ => none
theorem Rv {E : Addr -> Prop} {H : Hp} : ∀ {xs : List V} {ds : List D} {bs : List Bool}, Reps Γ E H xs ds -> jY ds = some bs -> xs = bs.map V.bl
  | [], [], bs, _, h => by cases h; rfl
  | [], _ :: _, _, r, _ => by have h := r.1; simp at h
  | _ :: _, [], _, r, _ => by have h := r.1; simp at h
  | v :: xs, d :: ds, bs, r, h => by
    cases d with
    | bl b =>
      have h : (jY ds).map (b :: ·) = some bs := h
      cases e : jY ds with
      | none => rw [e] at h; cases h
      | some r' =>
        rw [e] at h; cases h
        rw [List.map_cons, ← Rv r.tail e, ← J6 r.head]
    | _ => cases h
def zaP : F1 := fun x q => match x with | .lst ds => (match jY ds with | some bs => q (.bl (bs.all id)) | none => False) | _ => False
theorem zg5 : Qj Γ (fun x H Q => ∃ (a : Addr) (bs : List Bool), [x] = [.ref a] /\ yM Γ.K H a (bs.map V.bl) /\ Q (.bl (bs.all id)) H) zaP := fun E H x dx Q q _ rx h k => by
  cases dx with
  | lst ds =>
    obtain ⟨a, xs, rfl, ha, rs⟩ := rx
    dsimp only [zaP] at h
    split at h
    · rename_i bs hb
      have e := Rv rs hb
      subst e
      exact ⟨a, bs, rfl, .inl (.inl ha), k _ _ H (Same.refl H) (.bl _) h⟩
    · exact False.elim h
  | _ => exact False.elim h
def Qk : D -> Option String
  | .non => some "NoneType" | .bl _ => some "bool" | .int _ => some "int" | .str _ => some "str" | .lst _ => some "list" | .tup _ => some "tuple" | .dK _ => some "dict" | .dT _ => some "dict" | _ => none
def J8 (a b : String) : Option Bool := if ["NoneType", "bool", "int", "str", "list", "tuple", "dict"].contains a && ["bool", "int", "str", "list", "tuple", "dict"].contains b then some (a == b || (a == "bool" && b == "int")) else none
theorem zbZ {K : PySem.W.Frag} {a b : String} {r : Bool} (h : J8 a b = some r) : PySem.W.kitOne K (.type a) (.type b) = some r := by
  unfold J8 at h
  split at h
  · rename_i hc
    simp only [Bool.and_eq_true, List.contains_iff_mem, List.mem_cons, List.not_mem_nil, or_false] at hc
    cases h
    obtain ⟨h1, h2⟩ := hc
    rcases h1 with rfl | rfl | rfl | rfl | rfl | rfl | rfl <;> rcases h2 with rfl | rfl | rfl | rfl | rfl | rfl <;> kernel_rfl
  · cases h
def YW : F2 := fun x y q => match Qk x, y with
  | some a, .ty b => (match J8 a b with | some r => q (.bl r) | none => False)
  | _, _ => False
theorem ze8 {E : Addr -> Prop} {H : Hp} {v : V} {d : D} {a : String} (r : yQ Γ E H v d) (h : Qk d = some a) : YL Γ.K H v (.type a) := by
  cases d with
  | non => cases h; rw [zl r rfl]; exact .of .non
  | bl b => cases h; rw [zl r rfl]; exact .of (.bl b)
  | int b => cases h; rw [zl r rfl]; exact .of (.int b)
  | str b => cases h; rw [zl r rfl]; exact .of (.str b)
  | lst ds => cases h; obtain ⟨a, xs, rfl, ha, _⟩ := r; exact .of (.lst ha)
  | tup ds => cases h; obtain ⟨a, xs, rfl, ha, _⟩ := Rep.tuple r; exact .of (.tup ha)
  | dK ds => cases h; obtain ⟨a, xs, rfl, ha, _⟩ := r; exact .of (.dK ha)
  | dT ds => cases h; obtain ⟨a, xs, rfl, ha, _⟩ := r; exact .of (.dT ha)
  | _ => cases h
theorem ze9 : zT Γ (fun x y H Q => ∃ z t c b, [x, y] = [z, .ty c] /\ YL Γ.K H z t /\ PySem.W.kitOne Γ.K t (.type c) = some b /\ Q (.bl b) H) YW := fun E H x y dx dy Q q _ rx ry h k => by
  unfold YW at h
  split at h
  · rename_i a b ha
    split at h
    · rename_i r hr
      exact ⟨x, _, b, r, by rw [zl ry rfl]; rfl, ze8 rx ha, zbZ hr, k _ _ H (Same.refl H) (.bl _) h⟩
    · exact False.elim h
  · exact False.elim h
def Zw (f f' : F2) (a b c : ME) : ME := fun ρ q => a ρ fun x ρ1 => b ρ1 fun y ρ2 => f x y fun d => match d with
  | .bl k => if k = true then c ρ2 fun z ρ3 => f' y z fun e => q e ρ3 else q (.bl false) ρ2
  | _ => False
theorem Wn {r r' : R2} {f f' : F2} {ta tb tc : TE} {a b c : ME} (h1 : zT Γ r f) (h2 : zT Γ r' f') (ha : JE Γ pn ta a) (hb : JE Γ pn tb b) (hc : JE Γ pn tc c) : JE Γ pn (VY r r' ta tb tc) (Zw f f' a b c) := fun S σ ρ H τ Q q hp R hm hq =>
  ha S σ ρ H τ _ _ hp R hm fun v x H1 ρ1 R1 r1 q1 => hb S σ ρ1 H1 ((v, x) :: τ) _ _ hp (R1.push r1) q1 fun w y H2 ρ2 R2 r2 q2 =>
    h1 _ H2 v w x y _ _ (fun a z => yq R2 z) R2.pop.2.b r2.b q2 fun u d H3 g r3 q3 => by
      cases d with
      | bl k =>
        refine ⟨k, J6 r3, ?_⟩
        have R3 := (R2.pop.1.push r2).grow g
        dsimp only at q3
        cases k with
        | false => rw [if_neg Bool.false_ne_true] at q3 ⊢; exact hq _ _ H3 ρ2 R3.pop.1 (.bl false) q3
        | true =>
          rw [if_pos rfl] at q3 ⊢
          refine hc S σ ρ2 H3 _ _ _ hp R3 q3 fun w' z H4 ρ4 R4 r4 q4 => ?_
          exact h2 _ H4 w w' y z Q _ (fun a z => yq R4 z) R4.pop.2.b r4.b q4 fun u' e H5 g' r5 q5 => hq u' e H5 ρ4 (R4.pop.1.grow g') r5 q5
      | _ => exact False.elim q3
def zaQ : D -> Option Bool
  | .non => some false | .bl b => some b | .int i => some (i != 0) | .lst ds => some (!ds.isEmpty) | .tup ds => some (!ds.isEmpty) | .dK ds => some (!ds.isEmpty)
  | .str y => some ((y.length : Int) != 0)
  | _ => none
def zaR (a : MO) : MT := fun ρ q => a ρ fun r ρ1 => r.on ρ1 fun x => (match x with | .str y => y.length <= 100000 | _ => True) /\ match zaQ x with | some b => q b ρ1 | none => False
theorem Qs {α β : Type} {xs : List α} {ys : List β} (h : xs.length = ys.length) : xs.isEmpty = ys.isEmpty := by
  cases xs <;> cases ys <;> first | rfl | simp at h
theorem zg6 {ta : TE} {a : MO} (ha : JO Γ pn ta a) : JT Γ pn (fun σ H Q => ta σ H fun x H' => ∃ k, zcM Γ.K x H' k /\ Q k H') (zaR a) := fun S σ ρ H τ Q q hp R hm hq =>
  ha S σ ρ H τ _ _ hp R hm fun v r1 H1 ρ1 τ1 R1 o1 q1 => by
    obtain ⟨dx, rx, hs, q1⟩ := R1.read o1 q1
    cases dx with
    | non => rw [zl rx rfl]; exact ⟨false, rfl, hq _ H1 ρ1 R1.cut q1⟩
    | bl b => rw [zl rx rfl]; exact ⟨b, rfl, hq _ H1 ρ1 R1.cut q1⟩
    | int i => rw [zl rx rfl]; exact ⟨_, rfl, hq _ H1 ρ1 R1.cut q1⟩
    | str y => rw [zl rx rfl]; exact ⟨_, ⟨Nat.le_trans hs (by decide), rfl⟩, hq _ H1 ρ1 R1.cut q1⟩
    | lst ds => obtain ⟨a, xs, rfl, h, rs⟩ := rx; exact ⟨_, .inl ⟨xs, .inl (.inl h), by rw [Qs rs.1]⟩, hq _ H1 ρ1 R1.cut q1⟩
    | tup ds => obtain ⟨a, xs, rfl, h, rs⟩ := Rep.tuple rx; exact ⟨_, .inr (.inl ⟨xs, SqT.of h, by rw [Qs rs.1]⟩), hq _ H1 ρ1 R1.cut q1⟩
    | dK ds => obtain ⟨a, xs, rfl, h, hk, rs⟩ := rx; exact ⟨_, .inr (.inr ⟨xs, h, by rw [Qs (show xs.length = ds.length by have := congrArg List.length hk; simpa using this)]⟩), hq _ H1 ρ1 R1.cut q1⟩
    | _ => exact False.elim q1
end
end M
namespace M
open PySem L2
structure DE (X : Cx) (cls : Nat -> Option Addr) (pn : List Nat) (e : Expr) (m : ME) : Prop where
  h : ∃ t, PE X e t /\ JE ⟨X.K, cls⟩ pn t m
structure DF (X : Cx) (cls : Nat -> Option Addr) (pn : List Nat) (e : Expr) (m : ME) : Prop where
  h : ∃ t, PE X e t /\ JF ⟨X.K, cls⟩ pn t m
structure DO (X : Cx) (cls : Nat -> Option Addr) (pn : List Nat) (e : Expr) (m : MO) : Prop where
  h : ∃ t, PE X e t /\ JO ⟨X.K, cls⟩ pn t m
structure DT (X : Cx) (cls : Nat -> Option Addr) (pn : List Nat) (e : Expr) (m : MT) : Prop where
  h : ∃ t, PT X e t /\ JT ⟨X.K, cls⟩ pn t m
structure DW (X : Cx) (cls : Nat -> Option Addr) (pn : List Nat) (e : Expr) (m : MT) : Prop where
  h : ∃ t, PW X e t /\ JT ⟨X.K, cls⟩ pn t m
structure DTs (X : Cx) (cls : Nat -> Option Addr) (pn : List Nat) (e : List Expr) (m : MT) : Prop where
  h : ∃ t, PTs X e t /\ JT ⟨X.K, cls⟩ pn t m
structure DA (X : Cx) (cls : Nat -> Option Addr) (pn : List Nat) (e : List Expr) (m : MA) : Prop where
  h : ∃ t, PA X e t /\ JA ⟨X.K, cls⟩ pn t m
structure DS (X : Cx) (cls : Nat -> Option Addr) (pn : List Nat) (fr : Bool) (e : Stmt) (m : MS) : Prop where
  h : ∃ t, PS X e t /\ JS ⟨X.K, cls⟩ pn fr t m
structure Vf (X : Cx) (cls : Nat -> Option Addr) (pn : List Nat) (fr : Bool) (e : List Stmt) (m : MS) : Prop where
  h : ∃ t, PSs X e t /\ JS ⟨X.K, cls⟩ pn fr t m
structure DG (X : Cx) (cls : Nat -> Option Addr) (pn : List Nat) (e : Expr) (m : MG) : Prop where
  h : ∃ t, PG X e t /\ JG ⟨X.K, cls⟩ pn t m
structure DGs (X : Cx) (cls : Nat -> Option Addr) (pn : List Nat) (e : List Expr) (m : QI) : Prop where
  h : ∃ t, PGs X e t /\ JGs ⟨X.K, cls⟩ pn t m
structure DI (X : Cx) (cls : Nat -> Option Addr) (pn : List Nat) (tg e : Expr) (m : MI) : Prop where
  h : ∃ t, PI X tg e t /\ JI ⟨X.K, cls⟩ pn t m
structure DP (X : Cx) (cls : Nat -> Option Addr) (pn : List Nat) (e : Option Expr) (m : Zk) : Prop where
  h : ∃ t, PO X e t /\ Wm ⟨X.K, cls⟩ pn t m
section
variable {X : Cx} {cls : Nat -> Option Addr} {pn : List Nat} {a b c e : Expr} {es : List Expr} {pos p : Pos} {x : Str}
theorem ze {i j pos} : DE X cls pn (.Constant (.int i) j pos) (mC (.int i)) := ⟨_, zfL, Uv rfl rfl⟩
theorem VN {i j pos} : DE X cls pn (.Constant (.bool i) j pos) (mC (.bl i)) := ⟨_, zhR, Uv rfl rfl⟩
theorem jB {j pos} : DE X cls pn (.Constant .none j pos) (mC .non) := ⟨_, zfM, Uv rfl rfl⟩
theorem zI {i j pos} : DE X cls pn (.Constant (.str i) j pos) (mC (.str i)) := ⟨_, zbp, Uv rfl rfl⟩
theorem Rw {i : Int} (hg : Gl X x) (hm : ∃ t, X.mg x = some (.int i t)) (hd : (x == ("__debug__" : Str)) = false := by decide) : DE X cls pn (.Name x pos) (mC (.int i)) := by
  obtain ⟨t, hm⟩ := hm
  exact ⟨_, Uq hg hm (v := .int i) ⟨t, rfl⟩ hd, Uv rfl rfl⟩
theorem Jr {n : String} (hg : Gl X x) (hm : X.mg x = none) (hv : bootBuiltins x = some (.type n)) (hn : x ≠ "__name__" := by decide) (hd : (x == ("__debug__" : Str)) = false := by decide) : DE X cls pn (.Name x pos) (mC (.ty n)) :=
  ⟨_, zet (v := .ty n) hg hm hv rfl hn hd, Uv rfl rfl⟩
theorem dv (i : Nat) (hi : i ∉ pn) (hN : X.N[i]? = some x := by kernel_rfl) (hv : Zn X.env.scope x := by first | exact Or.inl rfl | exact Or.inr (Or.inl rfl) | exact Or.inr (Or.inr rfl)) (hd : (x == ("__debug__" : Str)) = false := by decide)
    (hcd : (x == ("__classdict__" : Str)) = false := by decide) : DE X cls pn (.Name x pos) (V8 i) := ⟨_, QF hN hv hd hcd, zgF hi⟩
theorem yu (i : Nat) (hN : X.N[i]? = some x := by kernel_rfl) (hv : Zn X.env.scope x := by first | exact Or.inl rfl | exact Or.inr (Or.inl rfl) | exact Or.inr (Or.inr rfl)) (hd : (x == ("__debug__" : Str)) = false := by decide)
    (hcd : (x == ("__classdict__" : Str)) = false := by decide) : DE X cls pn (.Name x pos) (YM i) := ⟨_, QF hN hv hd hcd, zeP⟩
theorem zi (i : Nat) (hN : X.N[i]? = some x := by kernel_rfl) (hv : Zn X.env.scope x := by first | exact Or.inl rfl | exact Or.inr (Or.inl rfl) | exact Or.inr (Or.inr rfl)) (hd : (x == ("__debug__" : Str)) = false := by decide)
    (hcd : (x == ("__classdict__" : Str)) = false := by decide) : DO X cls pn (.Name x pos) (mOv i) := ⟨_, QF hN hv hd hcd, zgG⟩
theorem zc {m : ME} (h : DE X cls pn e m) : DO X cls pn e (mO m) := let ⟨t, a, b⟩ := h.h; ⟨t, a, zh1 b⟩
theorem yr {m : ME} (h : DF X cls pn e m) : DE X cls pn e m := let ⟨t, a, b⟩ := h.h; ⟨t, a, Z9 b⟩
theorem zf : DA X cls pn [] zcY := ⟨_, Ju, zgH⟩
theorem zd {m : ME} {n : MA} (h : DE X cls pn e m) (r : DA X cls pn es n) (hs : starEach (e :: es) X.env = (false, eval e X.env) :: starEach es X.env := by kernel_rfl) : DA X cls pn (e :: es) (VA m n) :=
  let ⟨_, a, b⟩ := h.h; let ⟨_, c, d⟩ := r.h; ⟨_, jd a c hs, zeQ b d⟩
theorem ze_ {ss : List Str} (h : Jv es = some ss) : DA X cls pn es (zaz ss) := ⟨_, Rm h, zeR⟩
theorem yv {m : MA} (h : DA X cls pn es m) : DF X cls pn (.List es pos) (zaA m) := let ⟨_, a, b⟩ := h.h; ⟨_, zgj a, zgI b⟩
theorem YX {m : MA} {x1} (h : DA X cls pn es m) : DE X cls pn (.Tuple es x1 pos) (zaB m) := let ⟨_, a, b⟩ := h.h; ⟨_, zgi a, zgJ b⟩
theorem QX {op : Operator} {r : R2} {f : F2} {ma mb : MO} (ho : ye X (binaryOp op) r) (hk : zT ⟨X.K, cls⟩ r f) (ha : DO X cls pn a ma) (hb : DO X cls pn b mb) : DE X cls pn (.BinOp a op b pos) (jz f ma mb) :=
  let ⟨_, pa, ja⟩ := ha.h; let ⟨_, pb, jb⟩ := hb.h; ⟨_, zdR ho pa pb, ZO hk ja jb⟩
theorem zeb {op : Operator} {r : R2} {f : Vb} {ma mb : MO} (ho : ye X (binaryOp op) r) (hk : VB ⟨X.K, cls⟩ r f) (ha : DO X cls pn a ma) (hb : DO X cls pn b mb) : DF X cls pn (.BinOp a op b pos) (Uw f ma mb) :=
  let ⟨_, pa, ja⟩ := ha.h; let ⟨_, pb, jb⟩ := hb.h; ⟨_, zdR ho pa pb, zh2 hk ja jb⟩
def zg7 : F2 := jA fun i j => .int (i + j)
def zg8 : F2 := jA fun i j => .int (i - j)
def zg9 : F2 := fI CMul fun i j => .int (i * j)
def zg_ : F2 := fI (fun _ j => 0 < j) fun i j => .int (i % j)
def zha : F2 := fI Us fun i j => .int (i ^ j.toNat)
variable {ma mb : MO}
theorem Jx (ha : DO X cls pn a ma) (hb : DO X cls pn b mb) : DE X cls pn (.BinOp a .Add b pos) (jz zg7 ma mb) := QX zf_ (ZU (fun _ _ => rfl) fun _ _ => rfl) ha hb
theorem zhb (ha : DO X cls pn a ma) (hb : DO X cls pn b mb) : DE X cls pn (.BinOp a .Sub b pos) (jz zg8 ma mb) := QX zga (ZU (fun _ _ => rfl) fun _ _ => rfl) ha hb
theorem Zx (ha : DO X cls pn a ma) (hb : DO X cls pn b mb) : DE X cls pn (.BinOp a .Mult b pos) (jz zg9 ma mb) := QX zgb (zaM (fun _ _ => rfl) fun _ _ => rfl) ha hb
theorem J9 (ha : DO X cls pn a ma) (hb : DO X cls pn b mb) : DE X cls pn (.BinOp a .Mod b pos) (jz zg_ ma mb) := QX zgc (zaM (fun _ _ => rfl) fun _ _ => rfl) ha hb
theorem Wo (ha : DO X cls pn a ma) (hb : DO X cls pn b mb) : DE X cls pn (.BinOp a .Pow b pos) (jz zha ma mb) := QX zgd (zaM (fun _ _ => rfl) fun _ _ => rfl) ha hb
theorem Rx (ha : DO X cls pn a ma) (hb : DO X cls pn b mb) : DE X cls pn (.BinOp a .Add b pos) (jz VH ma mb) := QX zar ze1 ha hb
theorem YY (ha : DO X cls pn a ma) (hb : DO X cls pn b mb) : DF X cls pn (.BinOp a .Add b pos) (Uw zaO ma mb) := zeb zgw zg3 ha hb
theorem QK {op : CmpOp} {r : R2} {f : F2} (ho : ye X (compareOp op) r) (hk : zT ⟨X.K, cls⟩ r f) (ha : DO X cls pn a ma) (hb : DO X cls pn b mb) (hm : behindInMarks op b = false) : DE X cls pn (.Compare a [op] [b] pos) (jz f ma mb) :=
  let ⟨_, pa, ja⟩ := ha.h; let ⟨_, pb, jb⟩ := hb.h; ⟨_, zeC ho pa pb hm, ZO hk ja jb⟩
theorem zO {op : CmpOp} {r : R2} {f : F2} (ho : ye X (compareOp op) r) (hk : zT ⟨X.K, cls⟩ r f) (ha : DO X cls pn a ma) (hb : DO X cls pn b mb) (hm : behindInMarks op b = false) : DT X cls pn (.Compare a [op] [b] pos) (mB (jz f ma mb)) :=
  let ⟨_, pa, ja⟩ := ha.h; let ⟨_, pb, jb⟩ := hb.h; ⟨_, zeD ho pa pb hm, Rr (ZO hk ja jb)⟩
def fLt : F2 := jA fun i j => .bl (decide (i < j))
def fLe : F2 := jA fun i j => .bl (decide (i <= j))
def fGt : F2 := jA fun i j => .bl (decide (j < i))
def fGe : F2 := jA fun i j => .bl (decide (j <= i))
theorem zh8 : zT ⟨X.K, cls⟩ (QG fun i j => .bl (decide (i < j))) fLt := ZU (fun _ _ => rfl) fun _ _ => rfl
theorem zaS : zT ⟨X.K, cls⟩ (QG fun i j => .bl (decide (i <= j))) fLe := ZU (fun _ _ => rfl) fun _ _ => rfl
theorem zh9 : zT ⟨X.K, cls⟩ (QG fun i j => .bl (decide (j < i))) fGt := ZU (fun _ _ => rfl) fun _ _ => rfl
theorem zec : zT ⟨X.K, cls⟩ (QG fun i j => .bl (decide (j <= i))) fGe := ZU (fun _ _ => rfl) fun _ _ => rfl
theorem zdf {op op' : CmpOp} {r r' : R2} {f f' : F2} {m1 m2 m3 : ME} (ho : ye X (compareOp op) r) (hk : zT ⟨X.K, cls⟩ r f) (ho' : ye X (compareOp op') r') (hk' : zT ⟨X.K, cls⟩ r' f') (ha : DE X cls pn a m1) (hb : DE X cls pn b m2) (hc : DE X cls pn c m3)
    (hm : lastMarks [op, op'] [b, c] = false := by with_unfolding_all rfl) : DE X cls pn (.Compare a [op, op'] [b, c] pos) (Zw f f' m1 m2 m3) :=
  let ⟨_, pa, ja⟩ := ha.h; let ⟨_, pb, jb⟩ := hb.h; let ⟨_, pc, jc⟩ := hc.h; ⟨_, zcK ho ho' pa pb pc hm, Wn hk hk' ja jb jc⟩
theorem zdg {op op' : CmpOp} {r r' : R2} {f f' : F2} {m1 m2 m3 : ME} (ho : ye X (compareOp op) r) (hk : zT ⟨X.K, cls⟩ r f) (ho' : ye X (compareOp op') r') (hk' : zT ⟨X.K, cls⟩ r' f') (ha : DE X cls pn a m1) (hb : DE X cls pn b m2) (hc : DE X cls pn c m3)
    (hm : lastMarks [op, op'] [b, c] = false := by with_unfolding_all rfl) : DT X cls pn (.Compare a [op, op'] [b, c] pos) (mB (Zw f f' m1 m2 m3)) :=
  let ⟨_, pa, ja⟩ := ha.h; let ⟨_, pb, jb⟩ := hb.h; let ⟨_, pc, jc⟩ := hc.h; ⟨_, zcL ho ho' pa pb pc hm, Rr (Wn hk hk' ja jb jc)⟩
theorem Qa {m : ME} (h : DE X cls pn e m) (he : ∀ whole, isTrue e X.env whole = (do let v ← whole; standAt e.pos; holding [v] (truthy v)) := by intro _; kernel_rfl) : DT X cls pn e (mB m) := let ⟨_, a, b⟩ := h.h; ⟨_, zfN a he, ziZ b⟩
theorem zb0 {m : MO} (h : DO X cls pn e m) (he : ∀ whole, isTrue e X.env whole = (do let v ← whole; standAt e.pos; holding [v] (truthy v)) := by intro _; kernel_rfl) : DT X cls pn e (zaR m) := let ⟨_, a, b⟩ := h.h; ⟨_, zcN a he, zg6 b⟩
theorem QL {m : MT} (h : DT X cls pn a m) : DT X cls pn (.UnaryOp .Not a pos) (zaD m) := let ⟨_, a, b⟩ := h.h; ⟨_, zfS a, zgL b⟩
theorem Wp {m : MT} (h : DW X cls pn e m) : DT X cls pn e m := let ⟨_, a, b⟩ := h.h; ⟨_, a.pt, b⟩
theorem Ry {m : MT} (h : DT X cls pn a m) : DW X cls pn (.BoolOp .And [a] pos) m := let ⟨_, a, b⟩ := h.h; ⟨_, zeu a, b⟩
theorem Wq {m : MT} (h : DT X cls pn a m) : DW X cls pn (.BoolOp .Or [a] pos) m := let ⟨_, a, b⟩ := h.h; ⟨_, zfQ a, b⟩
theorem zb1 {m n : MT} (h : DT X cls pn a m) (r : DW X cls pn (.BoolOp .And (b :: es) pos) n) : DW X cls pn (.BoolOp .And (a :: b :: es) pos) (zaC m n) := let ⟨_, a, b⟩ := h.h; let ⟨_, c, d⟩ := r.h; ⟨_, zfR a c, zgK b d⟩
theorem ZV {m n : MT} (h : DT X cls pn a m) (r : DW X cls pn (.BoolOp .Or (b :: es) pos) n) : DW X cls pn (.BoolOp .Or (a :: b :: es) pos) (mOr m n) := let ⟨_, a, b⟩ := h.h; let ⟨_, c, d⟩ := r.h; ⟨_, zhS a c, zh3 b d⟩
theorem Zy {op} {m : ME} (h : DE X cls pn a m) : DE X cls pn (.BoolOp op [a] pos) m := let ⟨_, a, b⟩ := h.h; ⟨_, zfT a, b⟩
theorem Zz {m n : ME} (h : DE X cls pn a m) (r : DE X cls pn (.BoolOp .And (b :: es) pos) n) : DE X cls pn (.BoolOp .And (a :: b :: es) pos) (VC m n) := let ⟨_, a, b⟩ := h.h; let ⟨_, c, d⟩ := r.h; ⟨_, zfU a c, zgM b d⟩
theorem zhc {m : ME} (h : DE X cls pn a m) : DE X cls pn (.UnaryOp .Not a pos) (VD m) := let ⟨_, a, b⟩ := h.h; ⟨_, zfV a, zgN b⟩
theorem zed {t : MT} {m n : ME} (h : DT X cls pn c t) (h1 : DE X cls pn a m) (h2 : DE X cls pn b n) : DE X cls pn (.IfExp c a b pos) (mIf t m n) := let ⟨_, a, b⟩ := h.h; let ⟨_, c, d⟩ := h1.h; let ⟨_, e, f⟩ := h2.h; ⟨_, zcB a c e, zh4 b d f⟩
def fIx : F2 := fun x y q => match x with | .tup _ => Wk x y q | .str _ => Wl x y q | _ => Ys x y q
theorem zh_ : zT ⟨X.K, cls⟩ (rIx X.K) fIx := fun E H x y dx dy Q q hE rx ry h k => by
  unfold fIx at h
  split at h
  · exact .inr (.inl (zgZ E H x y _ dy Q q hE rx ry h k))
  · exact .inr (.inr (zg0 E H x y _ dy Q q hE rx ry h k))
  · exact .inl (zgY E H x y _ dy Q q hE rx ry h k)
theorem zo (ha : DO X cls pn a ma) (hb : DO X cls pn b mb) (hs : ZN b) : DE X cls pn (.Subscript a b pos) (jz fIx ma mb) :=
  let ⟨_, pa, ja⟩ := ha.h; let ⟨_, pb, jb⟩ := hb.h; ⟨_, zdW zgs pa pb hs, ZO zh_ ja jb⟩
theorem zia {r : R2} {f : F2} (hr : IxR X r) (hk : zT ⟨X.K, cls⟩ r f) (ha : DO X cls pn a ma) (hb : DO X cls pn b mb) (hs : ZN b) : DE X cls pn (.Subscript a b pos) (jz f ma mb) :=
  let ⟨_, pa, ja⟩ := ha.h; let ⟨_, pb, jb⟩ := hb.h; ⟨_, zdW hr pa pb hs, ZO hk ja jb⟩
theorem Rz : DP X cls pn none UD := ⟨_, zeG, ze2⟩
theorem RA {m : ME} (h : DE X cls pn e m) : DP X cls pn (some e) (VI m) := let ⟨_, a, b⟩ := h.h; ⟨_, zeH a, ze3 b⟩
theorem zhd {lo hi : Option Expr} {l u : Zk} {p2 : Pos} (ha : DO X cls pn a ma) (hl : DP X cls pn lo l) (hu : DP X cls pn hi u) : DF X cls pn (.Subscript a (.Slice lo hi none p2) pos) (zaN ma l u) :=
  let ⟨_, a, b⟩ := ha.h; let ⟨_, c, d⟩ := hl.h; let ⟨_, e, f⟩ := hu.h; ⟨_, V3 zeI a c e, zg2 b d f⟩
theorem zef {id : String} {r : List V -> Hp -> VK -> Prop} {f : F1} (hc : yO X (.builtin id) r) (hk : Qj ⟨X.K, cls⟩ (fun y => r [y]) f) (hg : Gl X x) (hm : X.mg x = none) (hv : bootBuiltins x = some (.builtin id)) (ha : DO X cls pn a ma)
    (hs : starEach [a] X.env = [(false, eval a X.env)] := by kernel_rfl) (hn : x ≠ "__name__" := by decide) (hd : (x == ("__debug__" : Str)) = false := by decide) : DE X cls pn (.Call (.Name x p) [a] [] pos) (Qr f ma) :=
  let ⟨_, pa, ja⟩ := ha.h; ⟨_, V2 hc hg hm hv (jd pa Ju hs) hn hd hs rfl, V9 hk ja⟩
theorem zaT {id : String} {r : List V -> Hp -> VK -> Prop} {f : F1} (hc : yO X (.type id) r) (hk : Qj ⟨X.K, cls⟩ (fun y => r [y]) f) (hg : Gl X x) (hm : X.mg x = none) (hv : bootBuiltins x = some (.type id)) (ha : DO X cls pn a ma)
    (hs : starEach [a] X.env = [(false, eval a X.env)] := by kernel_rfl) (hn : x ≠ "__name__" := by decide) (hd : (x == ("__debug__" : Str)) = false := by decide) : DE X cls pn (.Call (.Name x p) [a] [] pos) (Qr f ma) :=
  let ⟨_, pa, ja⟩ := ha.h; ⟨_, U4 hc hg hm hv (jd pa Ju hs) hn hd hs rfl, V9 hk ja⟩
theorem zib {id : String} {r : List V -> Hp -> VK -> Prop} {f : Wa} (hc : yO X (.type id) r) (hk : Wb ⟨X.K, cls⟩ (fun y => r [y]) f) (hg : Gl X x) (hm : X.mg x = none) (hv : bootBuiltins x = some (.type id)) (ha : DO X cls pn a ma)
    (hs : starEach [a] X.env = [(false, eval a X.env)] := by kernel_rfl) (hn : x ≠ "__name__" := by decide) (hd : (x == ("__debug__" : Str)) = false := by decide) : DF X cls pn (.Call (.Name x p) [a] [] pos) (YN f ma) :=
  let ⟨_, pa, ja⟩ := ha.h; ⟨_, U4 hc hg hm hv (jd pa Ju hs) hn hd hs rfl, zc0 hk ja⟩
theorem zaU {id : String} {r : List V -> Hp -> VK -> Prop} {f : F2} (hc : yO X (.builtin id) r) (hk : zT ⟨X.K, cls⟩ (fun y z => r [y, z]) f) (hg : Gl X x) (hm : X.mg x = none) (hv : bootBuiltins x = some (.builtin id)) (ha : DO X cls pn a ma) (hb : DO X cls pn b mb)
    (hs : starEach [a, b] X.env = (false, eval a X.env) :: starEach [b] X.env := by kernel_rfl) (hs2 : starEach [b] X.env = [(false, eval b X.env)] := by kernel_rfl) (hp : (backTo pos (starEach [b] X.env)).any (·.1) = false := by kernel_rfl)
    (hn : x ≠ "__name__" := by decide) (hd : (x == ("__debug__" : Str)) = false := by decide) : DE X cls pn (.Call (.Name x p) [a, b] [] pos) (jz f ma mb) :=
  let ⟨_, pa, ja⟩ := ha.h; let ⟨_, pb, jb⟩ := hb.h; ⟨_, V2 hc hg hm hv (jd pa (jd pb Ju hs2) hs) hn hd hs hp, zcZ hk ja jb⟩
theorem ZA (hg : Gl X "len") (hm : X.mg "len" = none) (ha : DO X cls pn a ma) (hs : starEach [a] X.env = [(false, eval a X.env)] := by kernel_rfl) : DE X cls pn (.Call (.Name "len" p) [a] [] pos) (Qr zdc ma) :=
  zef zcO zg1 hg hm (by kernel_rfl) ha hs
theorem zb2 (hc : X.calm = true) (hg : Gl X "all") (hm : X.mg "all" = none) (ha : DO X cls pn a ma) (hs : starEach [a] X.env = [(false, eval a X.env)] := by kernel_rfl) : DE X cls pn (.Call (.Name "all" p) [a] [] pos) (Qr zaP ma) :=
  zef (zcX hc) zg5 hg hm (by kernel_rfl) ha hs
theorem RB (hg : Gl X "int") (hm : X.mg "int" = none) (ha : DO X cls pn a ma) (hs : starEach [a] X.env = [(false, eval a X.env)] := by kernel_rfl) : DE X cls pn (.Call (.Name "int" p) [a] [] pos) (Qr zde ma) :=
  zaT zbz zg4 hg hm (by kernel_rfl) ha hs
theorem UE (hg : Gl X "list") (hm : X.mg "list" = none) (ha : DO X cls pn a ma) (hs : starEach [a] X.env = [(false, eval a X.env)] := by kernel_rfl) : DF X cls pn (.Call (.Name "list" p) [a] [] pos) (YN VJ ma) :=
  zib V5 ze5 hg hm (by kernel_rfl) ha hs
theorem zdh (hg : Gl X "tuple") (hm : X.mg "tuple" = none) (ha : DO X cls pn a ma) (hs : starEach [a] X.env = [(false, eval a X.env)] := by kernel_rfl) : DE X cls pn (.Call (.Name "tuple" p) [a] [] pos) (Qr YV ma) :=
  zaT Vt zdd hg hm (by kernel_rfl) ha hs
theorem zfa (hc : X.calm = true) (hg : Gl X "max") (hm : X.mg "max" = none) (ha : DO X cls pn a ma) (hb : DO X cls pn b mb) (hs : starEach [a, b] X.env = (false, eval a X.env) :: starEach [b] X.env := by kernel_rfl) (hs2 : starEach [b] X.env = [(false, eval b X.env)] := by kernel_rfl)
    (hp : (backTo pos (starEach [b] X.env)).any (·.1) = false := by kernel_rfl) : DE X cls pn (.Call (.Name "max" p) [a, b] [] pos) (jz VL ma mb) := zaU (zbx hc) ze6 hg hm (by kernel_rfl) ha hb hs hs2 hp
theorem zfb (hc : X.calm = true) (hg : Gl X "min") (hm : X.mg "min" = none) (ha : DO X cls pn a ma) (hb : DO X cls pn b mb) (hs : starEach [a, b] X.env = (false, eval a X.env) :: starEach [b] X.env := by kernel_rfl) (hs2 : starEach [b] X.env = [(false, eval b X.env)] := by kernel_rfl)
    (hp : (backTo pos (starEach [b] X.env)).any (·.1) = false := by kernel_rfl) : DE X cls pn (.Call (.Name "min" p) [a, b] [] pos) (jz VM ma mb) := zaU (zby hc) ze7 hg hm (by kernel_rfl) ha hb hs hs2 hp
theorem je (hg : Gl X "isinstance") (hm : X.mg "isinstance" = none) (ha : DO X cls pn a ma) (hb : DO X cls pn b mb) (hs : starEach [a, b] X.env = (false, eval a X.env) :: starEach [b] X.env := by kernel_rfl) (hs2 : starEach [b] X.env = [(false, eval b X.env)] := by kernel_rfl)
    (hp : (backTo pos (starEach [b] X.env)).any (·.1) = false := by kernel_rfl) : DE X cls pn (.Call (.Name "isinstance" p) [a, b] [] pos) (jz YW ma mb) := zaU V7 ze9 hg hm (by kernel_rfl) ha hb hs hs2 hp
end
end M
namespace M
open PySem L2
structure HM (P : Program) (w : World) (K : PySem.W.Frag) (mg : Str -> Option Value) (base : Heap) (cls : Nat -> Option Addr) (x : Str) (k : Nat) (ps : List Str) (pn : List Nat) (fr : Bool) (p : Zj) : Prop where
  has : Has P w K mg base x k ps (yR ⟨K, cls⟩ pn fr ps.length p)
  len : ∀ ss q, p ss q Z0 -> ss.length = ps.length
section
variable {X : Cx} {cls : Nat -> Option Addr} {pn : List Nat} {a b c e o tg iter : Expr} {es : List Expr} {pos p pos' apos cpos : Pos} {x : Str} {ma mb : MO} {st : Stmt} {sts : List Stmt} {fr : Bool}
theorem zK : Vf X cls pn fr [] zaE := ⟨_, zev, zeS⟩
theorem zg {m n : MS} (h : DS X cls pn fr st m) (r : Vf X cls pn fr sts n) : Vf X cls pn fr (st :: sts) (zc1 m n) := let ⟨_, a, b⟩ := h.h; let ⟨_, c, d⟩ := r.h; ⟨_, zcC a c, zgO b d⟩
theorem zj {m : MS} (h : DS X cls pn fr st m) : Vf X cls pn fr [st] m := let ⟨_, a, b⟩ := h.h; ⟨_, zew a, b⟩
theorem Wr : DS X cls pn fr st Wc := ⟨_, zcE, zc2⟩
theorem QM {m : ME} (h : DE X cls pn e m) (hs : swapsWith e none pos.line X.env = pure false := by kernel_rfl) : DS X cls pn fr (.Expr e pos) (VE m) := let ⟨_, a, b⟩ := h.h; ⟨_, zex a hs, zeT b⟩
theorem zy {m : ME} (h : DE X cls pn e m) : DS X cls pn false (.Return (some e) pos) (Uy m) := let ⟨_, a, b⟩ := h.h; ⟨_, zbq a, zgP b⟩
theorem zfc {m : ME} (h : DF X cls pn e m) : DS X cls pn true (.Return (some e) pos) (Uy m) := let ⟨_, a, b⟩ := h.h; ⟨_, zbq a, zeU b⟩
theorem zY {t : MT} {m n : MS} {s1 s2 : List Stmt} (h : DT X cls pn c t) (h1 : Vf X cls pn fr s1 m) (h2 : Vf X cls pn fr s2 n) : DS X cls pn fr (.If c s1 s2 pos) (zaF t m n) :=
  let ⟨_, a, b⟩ := h.h; let ⟨_, c, d⟩ := h1.h; let ⟨_, e, f⟩ := h2.h; ⟨_, zhT a c e, zh5 b d f⟩
theorem yl {i : Nat} {m : ME} (hi' : i ∉ pn) (hN : X.N.Nodup) (hi : X.N[i]? = some x) (hx : VU X.env.scope x) (he : DE X cls pn e m) (hs : swapsWith e (some (.Name x pos')) pos.line X.env = pure false := by kernel_rfl)
    (hf : X.fn x = true \/ X.env.scope.names.lookup x = some .local := by first | exact .inl rfl | exact .inr rfl | assumption) : DS X cls pn fr (.Assign [.Name x pos'] e pos) (Wd i m) :=
  let ⟨_, a, b⟩ := he.h; ⟨_, zbs hN hi hx a hs hf, zbO hi' b⟩
theorem ZB {i : Nat} {m : ME} (hi' : i ∉ pn) (hN : X.N.Nodup) (hi : X.N[i]? = some x) (hx : VU X.env.scope x) (he : DF X cls pn e m) (hs : swapsWith e (some (.Name x pos')) pos.line X.env = pure false := by kernel_rfl)
    (hf : X.fn x = true \/ X.env.scope.names.lookup x = some .local := by first | exact .inl rfl | exact .inr rfl | assumption) : DS X cls pn fr (.Assign [.Name x pos'] e pos) (ZP i m) :=
  let ⟨_, a, b⟩ := he.h; ⟨_, zbs hN hi hx a hs hf, zbP hi' b⟩
theorem yT {i : Nat} (hi' : i ∉ pn) (hN : X.N.Nodup) (hi : X.N[i]? = some x) (hx : VU X.env.scope x) (hf : X.fn x = true \/ X.env.scope.names.lookup x = some .local := by first | exact .inl rfl | exact .inr rfl | assumption) : DG X cls pn (.Name x pos) (We i) :=
  ⟨_, zey hN hi hx hf, zeV hi'⟩
theorem zfd : DGs X cls pn [] zaG := ⟨_, zez, zeW⟩
theorem Ws {m : MG} {n : QI} (h : DG X cls pn e m) (r : DGs X cls pn es n) (hs : (assignEach (e :: es) X.env).map (·.2) = assign e X.env :: (assignEach es X.env).map (·.2) := by kernel_rfl) : DGs X cls pn (e :: es) (Wf m n) :=
  let ⟨_, a, b⟩ := h.h; let ⟨_, c, d⟩ := r.h; ⟨_, zcG a c hs, zc3 b d⟩
theorem zhe {k n : Nat} {m : QI} (hc : X.calm = true) (h : DGs X cls pn es m) (hn : (assignEach es X.env).length = n := by kernel_rfl) (hst : (assignEach es X.env).findIdx? (·.1) = none := by kernel_rfl) : DG X cls pn (.Tuple es k pos) (zaH m n) :=
  let ⟨_, a, b⟩ := h.h; ⟨_, zf0 hc a hn hst, zgQ b⟩
theorem RC {m : ME} (h : DE X cls pn iter m) : DI X cls pn tg iter (YO m) := let ⟨_, a, b⟩ := h.h; ⟨_, zeA a, zeX b⟩
theorem zhf {m : ME} (h : DE X cls pn iter m) : DI X cls pn tg iter (VG m) := let ⟨_, a, b⟩ := h.h; ⟨_, zgB a, zgS b⟩
theorem Jy {m : MA} (hg : Gl X "range") (hm : X.mg "range" = none) (h : DA X cls pn [a] m) (hs : starEach [a] X.env = [(false, eval a X.env)] := by kernel_rfl) : DI X cls pn tg (.Call (.Name "range" p) [a] [] pos) (QT m) :=
  let ⟨_, a, b⟩ := h.h; ⟨_, zbu hg hm a hs, zbR b⟩
theorem YZ {mi : MI} {mg : MG} {m : MS} (hp : PassesOwn (model X.prog X.w) X.A X.env X.xe) (hc : X.calm = true) (hi : DI X cls pn tg iter mi) (hg : DG X cls pn tg mg) (hb : Vf X cls pn fr sts m) (hs : ∀ x, foldedSetIterable iter X.env x = pure x := by intro _; kernel_rfl) :
    DS X cls pn fr (.For tg iter sts [] pos) (zaI mi mg m) := let ⟨_, a, b⟩ := hi.h; let ⟨_, c, d⟩ := hg.h; let ⟨_, e, f⟩ := hb.h; ⟨_, zf8 hp hc a c e hs, zgT b d f⟩
theorem J1 : DTs X cls pn [] mTT := ⟨_, zeK, zh6⟩
def ZW (js : List (Option Nat)) : Bool := decide ((js.filterMap id).Nodup)
theorem Once.of_b : ∀ {js : List (Option Nat)}, ZW js = true -> Once js
  | [], _ => fun k k' j h => by simp at h
  | none :: js, h => fun k k' j h1 h2 => by
    have ih := Once.of_b (js := js) (by simpa [ZW] using h)
    cases k with
    | zero => simp at h1
    | succ k => cases k' with
      | zero => simp at h2
      | succ k' => rw [ih k k' j (by simpa using h1) (by simpa using h2)]
  | some i :: js, h => fun k k' j h1 h2 => by
    have h' : ¬ i ∈ js.filterMap id /\ (js.filterMap id).Nodup := by simpa [ZW] using h
    have ih := Once.of_b (js := js) (by simpa [ZW] using h'.2)
    have no : ∀ k, js[k]? = some (some i) -> False := fun k hk => h'.1 (List.mem_filterMap.mpr ⟨some i, List.mem_of_getElem? hk, rfl⟩)
    cases k with
    | zero =>
      simp at h1; subst h1
      cases k' with
      | zero => rfl
      | succ k' => exact (no k' (by simpa using h2)).elim
    | succ k => cases k' with
      | zero => simp at h2; subst h2; exact (no k (by simpa using h1)).elim
      | succ k' => rw [ih k k' j (by simpa using h1) (by simpa using h2)]
variable {N' : List Str} {js : List (Option Nat)} {scope : Scope} {elt : Expr} {ifs : List Expr}
def zhg (Γ : Cn) (pn : List Nat) (m : ME) : TE := fun σ H Q => ∃ (S : Fs) (ρ : Env) (τ : List (V × D)) (q : EK), yZ pn S /\ Rel Γ S H σ ρ τ /\ m ρ q /\ ∀ v d H' ρ', Rel Γ S H' σ ρ' τ -> Rep Γ (zn S σ ρ') H' v d -> q d ρ' -> Q v H'
def zhh (Γ : Cn) (pn : List Nat) (m : MT) : TT := fun σ H Q => ∃ (S : Fs) (ρ : Env) (τ : List (V × D)) (q : Bool -> Env -> Prop), yZ pn S /\ Rel Γ S H σ ρ τ /\ m ρ q /\ ∀ b H' ρ', Rel Γ S H' σ ρ' τ -> q b ρ' -> Q b H'
def zhi (Γ : Cn) (pn : List Nat) (m : MG) : TG := fun v σ H Q => ∃ (S : Fs) (ρ : Env) (τ : List (V × D)) (d : D) (q : Env -> Prop), yZ pn S /\ Rel Γ S H σ ρ τ /\ Rep Γ (zn S σ ρ) H v d /\ m d ρ q /\ ∀ σ' H' ρ', Rel Γ S H' σ' ρ' τ -> q ρ' -> Q σ' H'
theorem zb3 {Γ : Cn} {m : ME} : JE Γ pn (zhg Γ pn m) m := fun S σ ρ H τ Q q hp R hm hq => ⟨S, ρ, τ, q, hp, R, hm, hq⟩
theorem zb4 {Γ : Cn} {m : MT} : JT Γ pn (zhh Γ pn m) m := fun S σ ρ H τ Q q hp R hm hq => ⟨S, ρ, τ, q, hp, R, hm, hq⟩
theorem zb5 {Γ : Cn} {m : MG} : JG Γ pn (zhi Γ pn m) m := fun S σ ρ H τ v d Q q hp R r hm hq => ⟨S, ρ, τ, d, q, hp, R, r, hm, hq⟩
theorem DE.pe {m : ME} (h : DE X cls pn e m) : PE X e (zhg ⟨X.K, cls⟩ pn m) := fun pins s σ H Q I ⟨S, ρ, τ, q, hp, R, hm, hq⟩ => let ⟨t, a, b⟩ := h.h; a pins s σ H Q I (b S σ ρ H τ Q q hp R hm hq)
theorem DTs.pt {m : MT} (h : DTs X cls pn es m) : PTs X es (zhh ⟨X.K, cls⟩ pn m) := fun pins s σ H Q I ⟨S, ρ, τ, q, hp, R, hm, hq⟩ => let ⟨t, a, b⟩ := h.h; a pins s σ H Q I (b S σ ρ H τ Q q hp R hm hq)
theorem DG.pg {m : MG} (h : DG X cls pn e m) : PG X e (zhi ⟨X.K, cls⟩ pn m) := fun pins s σ H v u Q I r ⟨S, ρ, τ, d, q, hp, R, rd, hm, hq⟩ => let ⟨t, a, b⟩ := h.h; a pins s σ H v u Q I r (b S σ ρ H τ v d Q q hp R rd hm hq)
theorem UF {mi : MI} {g : MG} {t : MT} {m : ME} (hc : X.calm = true) (K : CompOk X N' js scope) (h1 : ZW js = true) (hi : DI X cls pn tg iter mi) (hg : ∀ s2 H2 fp C cl, DG (zS X N' scope cl C s2 H2 fp) cls (Ya js) tg g)
    (ht : ∀ s2 H2 fp C cl, DTs (zS X N' scope cl C s2 H2 fp) cls (Ya js) ifs t) (he : ∀ s2 H2 fp C cl, DE (zS X N' scope cl C s2 H2 fp) cls (Ya js) elt m)
    (hs : ∀ x, foldedSetIterable iter X.env x = pure x := by intro _; kernel_rfl) : DF X cls pn (.ListComp elt [⟨tg, iter, ifs, 0⟩] scope pos) (YQ mi js g t m) :=
  let ⟨_, a, b⟩ := hi.h
  ⟨_, zeL hc K a (fun s2 H2 fp C cl => ⟨(hg s2 H2 fp C cl).pg, (ht s2 H2 fp C cl).pt, (he s2 H2 fp C cl).pe⟩) hs, Rs (Once.of_b h1) b zb5 zb4 zb3⟩
theorem UG {i : Nat} {y : Str} {py spos : Pos} {mi : MI} {g : MG} {t : MT} {m : ME} (hi' : i ∉ pn) (hc : X.calm = true) (hN : X.N.Nodup) (hi0 : X.N[i]? = some y) (hy : X.env.scope.names.lookup y = some .local) (K : CompOk X N' js scope) (h1 : ZW js = true) (hi : DI X cls pn tg iter mi)
    (hg : ∀ s2 H2 fp C cl, DG (zS X N' scope cl C s2 H2 fp) cls (Ya js) tg g) (ht : ∀ s2 H2 fp C cl, DTs (zS X N' scope cl C s2 H2 fp) cls (Ya js) ifs t) (he : ∀ s2 H2 fp C cl, DE (zS X N' scope cl C s2 H2 fp) cls (Ya js) elt m)
    (hsw : swapsWith (.ListComp elt [⟨tg, iter, ifs, 0⟩] scope pos) (some (.Name y py)) spos.line X.env = pure true := by kernel_rfl) (hs : ∀ x, foldedSetIterable iter X.env x = pure x := by intro _; kernel_rfl) :
    DS X cls pn fr (.Assign [.Name y py] (.ListComp elt [⟨tg, iter, ifs, 0⟩] scope pos) spos) (Wd i (YQ mi js g t m)) :=
  let ⟨_, a, b⟩ := hi.h
  ⟨_, zeM hc hN hi0 hy K a (fun s2 H2 fp C cl => ⟨(hg s2 H2 fp C cl).pg, (ht s2 H2 fp C cl).pt, (he s2 H2 fp C cl).pe⟩) hsw hs, zbO hi' (Z9 (Rs (Once.of_b h1) b zb5 zb4 zb3))⟩
theorem RD {id : String} {r : V -> List V -> Hp -> VK -> Prop} {m : ME} {i : Nat} {name : Str} {mm : ME} (slot : PySem.Slot "list" name id) (hty : typeOf (.builtin id) = pure (.type "method_descriptor")) (hm : MtR X id r) (i' : X.N[i]? = some x) (hj : ∀ ta, JE ⟨X.K, cls⟩ pn ta m -> JE ⟨X.K, cls⟩ pn (tBM X.K "list" r (Qq i) (jV ta QR)) mm) (ha : DE X cls pn e m)
    (hv : Zn X.env.scope x) (hd : (x == ("__debug__" : Str)) = false) (hcd : (x == ("__classdict__" : Str)) = false)
    (hbase : attributeBase (.Name x p) name X.env (eval (.Name x p) X.env) = eval (.Name x p) X.env) (hfew : ((backTo cpos (starEach [e] X.env)).all (fun x => !x.1) && (backToKw cpos (keywordEach [] X.env)).all (fun x => x.1.isSome)
      && decide (([e] : List Expr).length + ([] : List Keyword).length + (if ([] : List Keyword).isEmpty then 0 else 1) < 30)) = true) (hline : (apos.endLine == cpos.line) = true) (hs : starEach [e] X.env = [(false, eval e X.env)]) :
    DE X cls pn (.Call (.Attribute (.Name x p) name apos) [e] [] cpos) mm :=
  let ⟨_, a, b⟩ := ha.h; ⟨_, zdZ PySem.F.plainAttrs_list slot hty hm (QF i' hv hd hcd) (jd a Ju hs) hbase hfew hline hs rfl, hj _ b⟩
theorem ZC (i : Nat) {m : ME} (ha : DE X cls pn e m) (i' : X.N[i]? = some x := by kernel_rfl) (hv : Zn X.env.scope x := by first | exact Or.inl rfl | exact Or.inr (Or.inl rfl) | exact Or.inr (Or.inr rfl)) (hd : (x == ("__debug__" : Str)) = false := by decide) (hcd : (x == ("__classdict__" : Str)) = false := by decide)
    (hbase : attributeBase (.Name x p) "append" X.env (eval (.Name x p) X.env) = eval (.Name x p) X.env := by kernel_rfl) (hfew : ((backTo cpos (starEach [e] X.env)).all (fun x => !x.1) && (backToKw cpos (keywordEach [] X.env)).all (fun x => x.1.isSome)
      && decide (([e] : List Expr).length + ([] : List Keyword).length + (if ([] : List Keyword).isEmpty then 0 else 1) < 30)) = true := by kernel_rfl) (hline : (apos.endLine == cpos.line) = true := by kernel_rfl) (hs : starEach [e] X.env = [(false, eval e X.env)] := by kernel_rfl) :
    DE X cls pn (.Call (.Attribute (.Name x p) "append" apos) [e] [] cpos) (ZS UB i m) := RD PySem.F.slot_list_append PySem.F.type_list_append zbH i' (fun _ => zbT) ha hv hd hcd hbase hfew hline hs
theorem Wt (i : Nat) {m v : ME} {value : Expr} {pn' : Pos} (hv : DE X cls pn value v) (hi : DE X cls pn a m) (i' : X.N[i]? = some x := by kernel_rfl) (hvis : Zn X.env.scope x := by first | exact Or.inl rfl | exact Or.inr (Or.inl rfl) | exact Or.inr (Or.inr rfl))
    (hd : (x == ("__debug__" : Str)) = false := by decide) (hcd : (x == ("__classdict__" : Str)) = false := by decide)
    (ha : ∀ v, assign (.Subscript (.Name x p) a pos) X.env v = (do
      let ov ← holding [v] (eval (.Name x p) X.env)
      let iv ← holding [v, ov] (eval a X.env)
      standAt pos
      holding [v, ov, iv] (setItem ov iv v)
      release [v, ov, iv] []) := by intro _; kernel_rfl) (hs : swapsWithSole [.Subscript (.Name x p) a pos] value pn'.line X.env = pure false := by kernel_rfl) (hw : swappedStores [.Subscript (.Name x p) a pos] value X.env = pure none := by kernel_rfl)
    (h1 : (assignEach [.Subscript (.Name x p) a pos] X.env).map (·.2) = [assign (.Subscript (.Name x p) a pos) X.env] := by kernel_rfl) : DS X cls pn fr (.Assign [.Subscript (.Name x p) a pos] value pn') (YS i m v) :=
  let ⟨_, pa, ja⟩ := hv.h; let ⟨_, pb, jb⟩ := hi.h; ⟨_, zf3 pa (zf2 (QF i' hvis hd hcd) pb zcT ha) hs hw h1, zc9 ja jb⟩
theorem ym {k : Nat} {ps : List Str} {sp : Zj} {m : MA} (h : HM X.prog X.w X.K X.mg X.base cls x k ps [] false sp) (hr : Room k X.A) (hg : Gl X x) (ha : DA X cls pn (e :: es) m) (hd : (x == ("__debug__" : Str)) = false := by decide)
    (hs : starEach (e :: es) X.env = (false, eval e X.env) :: starEach es X.env := by kernel_rfl) (hp : (backTo pos (starEach es X.env)).any (·.1) = false := by kernel_rfl) : DE X cls pn (.Call (.Name x p) (e :: es) [] pos) (ZT sp m) :=
  let ⟨_, pa, ja⟩ := ha.h; ⟨_, Yn h.has hr hg pa hd hs hp, M.je_call ja h.len⟩
theorem zfe {k : Nat} {ps : List Str} {sp : Zj} {m : MA} (h : HM X.prog X.w X.K X.mg X.base cls x k ps [] true sp) (hr : Room k X.A) (hg : Gl X x) (ha : DA X cls pn (e :: es) m) (hd : (x == ("__debug__" : Str)) = false := by decide)
    (hs : starEach (e :: es) X.env = (false, eval e X.env) :: starEach es X.env := by kernel_rfl) (hp : (backTo pos (starEach es X.env)).any (·.1) = false := by kernel_rfl) : DF X cls pn (.Call (.Name x p) (e :: es) [] pos) (ZT sp m) :=
  let ⟨_, pa, ja⟩ := ha.h; ⟨_, Yn h.has hr hg pa hd hs hp, zeY ja h.len⟩
theorem zw {k j : Nat} {ps : List Str} {sp : Zj} {m : MA} {y : Str} {py : Pos} (h : HM X.prog X.w X.K X.mg X.base cls x k ps [0] false sp) (hr : Room k X.A) (hg : Gl X x) (ha : DA X cls pn es m) (j' : X.N[j]? = some y := by kernel_rfl)
    (hvis : Zn X.env.scope y := by first | exact Or.inl rfl | exact Or.inr (Or.inl rfl) | exact Or.inr (Or.inr rfl)) (hyd : (y == ("__debug__" : Str)) = false := by decide) (hcd : (y == ("__classdict__" : Str)) = false := by decide) (hd : (x == ("__debug__" : Str)) = false := by decide)
    (hs : starEach (.Name y py :: es) X.env = (false, eval (.Name y py) X.env) :: starEach es X.env := by kernel_rfl) (hp : (backTo pos (starEach es X.env)).any (·.1) = false := by kernel_rfl) : DE X cls pn (.Call (.Name x p) (.Name y py :: es) [] pos) (Zt j sp m) :=
  let ⟨_, pa, ja⟩ := ha.h; ⟨_, Yn h.has hr hg (jd (QF j' hvis hyd hcd) pa hs) hd hs hp, zda ja h.len⟩
end
end M
namespace M
open PySem L2
section
variable {Γ : Cn} {pn : List Nat} {fr : Bool} {E : St -> XK} {z : Nat -> Env -> Prop}
end
end M
namespace M
open PySem L2
section
variable {X : Cx} {cls : Nat -> Option Addr} {pn : List Nat} {a b c e o tg iter : Expr} {es : List Expr} {pos p pos' apos cpos : Pos} {x : Str} {ma mb : MO} {st : Stmt} {sts : List Stmt} {fr : Bool} {E : St -> XK} {z : Nat -> Env -> Prop}
end
end M
namespace M
open PySem L2
section
variable {X : Cx} {cls : Nat -> Option Addr} {pn : List Nat} {pos p np pc tp : Pos} {x n : Str}
end
end M
namespace M
open PySem L2
def jZ : D -> Bool | .non => true | .bl _ => true | .int _ => true | .str _ => true | _ => false
def QY : List (Option Bool) -> Option Bool
  | [] => some true
  | some b :: r => (match QY r with | some c => some (b && c) | none => none)
  | none :: _ => none
def yn : Nat -> D -> D -> Option Bool
  | 0, x, y => if jZ x && jZ y then some (jO (vD x) (vD y)) else none
  | n + 1, x, y => if jZ x && jZ y then some (jO (vD x) (vD y)) else match x, y with
    | .lst xs, .lst ys => if xs.length = ys.length then QY (List.zipWith (yn n) xs ys) else some false
    | .tup xs, .tup ys => (match QY (List.zipWith (yn n) xs ys) with | some b => some (b && xs.length == ys.length) | none => none)
    | .lst _, .tup _ => some false
    | .tup _, .lst _ => some false
    | _, _ => none
def RE (l : List (Option Bool)) (j : Nat) : Bool := match l[j]? with | some (some c) => c | _ => true
theorem ZD : ∀ {l : List (Option Bool)} {b : Bool}, QY l = some b -> (∀ j o, l[j]? = some o -> o = some (RE l j)) /\ b = (List.range l.length).all (RE l)
  | [], b, h => by cases h; exact ⟨fun j o h => by simp at h, rfl⟩
  | some c :: r, b, h => by
    unfold QY at h
    split at h
    · rename_i d hd
      cases h
      obtain ⟨h1, h2⟩ := ZD hd
      refine ⟨fun j o h => ?_, ?_⟩
      · cases j with
        | zero => simp at h; subst h; rfl
        | succ j => simp at h; rw [h1 j o h]; show _ = some (RE (some c :: r) (j + 1)); unfold RE; simp
      · rw [h2, List.length_cons, List.range_succ_eq_map, List.all_cons, List.all_map]
        congr 1
    · cases h
  | none :: r, b, h => by cases h
section
variable {Γ : Cn} {E : Addr -> Prop} {H : Hp}
theorem yA {d : D} (h : jZ d = true) : jW d = true /\ jt (vD d) = true := by
  cases d <;> first | exact ⟨rfl, rfl⟩ | cases h
theorem RG {n : Nat} {x y : D} {v w : V} {b : Bool} (hp : (jZ x && jZ y) = true) (hv : v = vD x) (hw : w = vD y) (h : some (jO (vD x) (vD y)) = some b) : DQ H n v w b := by
  rw [Bool.and_eq_true] at hp
  cases h
  subst hv hw
  exact .fl (yA hp.1).2 (yA hp.2).2
theorem Y0 {n : Nat} {xs ys : List D} {vs ws : List V} {l : List (Option Bool)} (ih : ∀ (x y : D) (v w : V) (b : Bool), yn n x y = some b -> Rep Γ E H v x -> Rep Γ E H w y -> DQ H n v w b) (rx : Reps Γ E H vs xs) (ry : Reps Γ E H ws ys) (hl : l = List.zipWith (yn n) xs ys)
    (ha : ∀ j o, l[j]? = some o -> o = some (RE l j)) (j : Nat) (v w : V) (hv : vs[j]? = some v) (hw : ws[j]? = some w) : DQ H n v w (RE l j) := by
  have lx := rx.1
  have ly := ry.1
  have j1 : j < xs.length := by rw [← lx]; exact (List.getElem?_eq_some_iff.mp hv).1
  have j2 : j < ys.length := by rw [← ly]; exact (List.getElem?_eq_some_iff.mp hw).1
  have e : l[j]? = some (yn n xs[j] ys[j]) := by
    rw [hl, List.getElem?_zipWith, List.getElem?_eq_getElem j1, List.getElem?_eq_getElem j2]
  exact ih _ _ v w _ (ha j _ e) (rx.2 j v _ hv (List.getElem?_eq_getElem j1)) (ry.2 j w _ hw (List.getElem?_eq_getElem j2))
theorem RH : ∀ (n : Nat) (x y : D) (v w : V) (b : Bool), yn n x y = some b -> yQ Γ E H v x -> yQ Γ E H w y -> DQ H n v w b
  | 0, x, y, v, w, b, h, rx, ry => by
    unfold yn at h
    split at h
    · rename_i hp
      have hp' := hp
      rw [Bool.and_eq_true] at hp'
      exact RG hp (zl rx (yA hp'.1).1) (zl ry (yA hp'.2).1) h
    · cases h
  | n + 1, x, y, v, w, b, h, rx, ry => by
    have ih : ∀ (x y : D) (v w : V) (b : Bool), yn n x y = some b -> Rep Γ E H v x -> Rep Γ E H w y -> DQ H n v w b := fun x y v w b h r1 r2 => RH n x y v w b h r1.b r2.b
    unfold yn at h
    split at h
    · rename_i hp
      have hp' := hp
      rw [Bool.and_eq_true] at hp'
      exact RG hp (zl rx (yA hp'.1).1) (zl ry (yA hp'.2).1) h
    · split at h
      · rename_i xs ys _
        obtain ⟨a, vs, rfl, ha, r1⟩ := rx
        obtain ⟨c, ws, rfl, hc, r2⟩ := ry
        have l1 := r1.1
        have l2 := r2.1
        split at h
        · rename_i hl
          obtain ⟨h1, h2⟩ := ZD h
          have hlen : (List.zipWith (yn n) xs ys).length = vs.length := by rw [List.length_zipWith]; omega
          rw [h2, hlen]
          exact .ll _ ha hc (by omega) fun j v w hv hw => Y0 ih r1 r2 rfl h1 j v w hv hw
        · cases h
          exact .ln ha hc (by omega)
      · rename_i xs ys _
        obtain ⟨a, vs, rfl, ha, r1⟩ := Rep.tuple rx
        obtain ⟨c, ws, rfl, hc, r2⟩ := Rep.tuple ry
        have l1 := r1.1
        have l2 := r2.1
        split at h
        · rename_i d hd
          cases h
          obtain ⟨h1, h2⟩ := ZD hd
          have hlen : (List.zipWith (yn n) xs ys).length = min vs.length ws.length := by rw [List.length_zipWith, l1, l2]
          rw [h2, hlen, ← l1, ← l2]
          exact .tt _ ha hc fun j v w hv hw => Y0 ih r1 r2 rfl h1 j v w hv hw
        · cases h
      · obtain ⟨a, vs, rfl, ha, r1⟩ := rx
        obtain ⟨c, ws, rfl, hc, r2⟩ := Rep.tuple ry
        cases h
        exact .lt ha hc
      · obtain ⟨a, vs, rfl, ha, r1⟩ := Rep.tuple rx
        obtain ⟨c, ws, rfl, hc, r2⟩ := ry
        cases h
        exact .tl ha hc
      · cases h
def Wu : D -> Bool | .lst _ => true | .tup _ => true | _ => false
def zaV (neg : Bool) : F2 := fun x y q => match Wu x && Wu y, yn 40 x y with | true, some b => q (.bl (if neg then !b else b)) | _, _ => False
theorem Y1 {v : V} {d : D} (h : Wu d = true) (r : yQ Γ E H v d) : zax v = true := by
  cases d with
  | lst ds => obtain ⟨a, _, rfl, _⟩ := r; rfl
  | tup ds => obtain ⟨a, _, rfl, _⟩ := Rep.tuple r; rfl
  | _ => cases h
theorem zhj {neg : Bool} : zT Γ (zgC neg) (zaV neg) := fun E H x y dx dy Q q _ rx ry h k => by
  unfold zaV at h
  split at h
  · rename_i b hs hb
    rw [Bool.and_eq_true] at hs
    exact ⟨b, RH 40 dx dy x y b hb rx ry, Y1 hs.1 rx, Y1 hs.2 ry, k _ _ H (Same.refl H) (.bl _) h⟩
  · exact False.elim h
end
end M
namespace L2
open PySem PySem.Spec PyProof.Rows
section
variable {prog : Program} {w : World} {A : Around} {E : Value -> Shared -> Prop} {s : Shared}
end
section
variable {X : Cx} {pos : Pos}
end
end L2
namespace M
open PySem L2
section
variable {Γ : Cn} {pn : List Nat} {X : Cx} {cls : Nat -> Option Addr} {es : List Expr} {pos : Pos}
end
end M
namespace M
open PySem L2
def zff : Zj := fun ss q _ => ∃ ns : List Int, ss = [.val (.fz ns)] /\ ns.length <= 63 /\ q (.bl true) []
def Y2 (K : PySem.W.Frag) : Sp := fun vs H Q _ => ∃ (a : Addr) (ns : List Int), vs = [.ref a] /\ yM K H a (ns.map V.int) /\ ns.length <= 63 /\ ∀ H', Q (.bl true) H'
theorem zb6 {K : PySem.W.Frag} {cls : Nat -> Option Addr} {vs : List V} {H : Hp} {Q : VK} {E : XK} (h : Y2 K vs H Q E) : yR ⟨K, cls⟩ [] false 1 zff vs H Q E := by
  obtain ⟨a, ns, rfl, hS, hl, hQ⟩ := h
  have rep : Rep ⟨K, cls⟩ (fun _ => False) H (.ref a) (.fz ns) := .fz (hS.imp (fun z => ⟨id, z⟩) id)
  have no : ∀ i, ¬ zV [Slot.val (D.fz ns)] i := fun i ⟨o, h⟩ => by
    cases i with
    | zero => simp at h
    | succ i => simp at h
  have he : ∀ b, zn ⟨fun _ => False, H, fun _ => none⟩ [some (.ref a)] [Slot.val (D.fz ns)] b -> False := fun b h => h.elim id fun ⟨i, hi, _⟩ => no i hi
  refine ⟨rfl, ⟨fun _ => False, H, fun _ => none⟩, [.val (.fz ns)], fun d _ => d = .bl true, fun _ _ => rfl, rfl, ?_, ⟨ns, rfl, hl, rfl⟩, fun v d H' σ' ρ' os ⟨R', r'⟩ _ q' => ?_⟩
  · exact {
      len := rfl
      val := fun i d h => by
        cases i with
        | zero => simp at h; subst h; exact ⟨_, rfl, rep.up (fun b _ z => he b z) fun _ _ _ z => z⟩
        | succ i => simp at h
      own := fun i o h => absurd ⟨o, h⟩ (no i)
      pin := fun i p h => by cases h
      inj := fun i j p hi => absurd hi (no i)
      dom := fun a h => False.elim h
      fr := fun b o h _ => h
      tmp := fun x h => nomatch h }
  · subst q'
    rw [J6 r']
    exact hQ H'
end M
namespace M
open PySem L2
inductive O (α : Type) where
  | no | ex (k : Nat) (ρ : Env) | ok (a : α) (ρ : Env)
section
variable {α β : Type}
def O.bind : O α -> (α -> Env -> O β) -> O β
  | .no, _ => .no
  | .ex k ρ, _ => .ex k ρ
  | .ok a ρ, f => f a ρ
def O.on (z : Nat -> Env -> Prop) (q : α -> Env -> Prop) : O α -> Prop
  | .no => False
  | .ex k ρ => z k ρ
  | .ok a ρ => q a ρ
def jj (q : α -> Prop) : Option α -> Prop
  | none => False
  | some a => q a
def yj (r : Option α) (ρ : Env) : O α := match r with | none => .no | some a => .ok a ρ
def gd (c : Prop) [Decidable c] (r : O α) : O α := if c then r else .no
theorem yx {z : Nat -> Env -> Prop} {q : α -> Env -> Prop} {r : Option α} {ρ : Env} : (yj r ρ).on z q -> jj (fun a => q a ρ) r := by
  cases r <;> exact id
theorem zaW {z : Nat -> Env -> Prop} {q : α -> Env -> Prop} {c : Prop} [Decidable c] {r : O α} (h : (gd c r).on z q) : c /\ r.on z q := by
  unfold gd at h
  split at h
  · exact ⟨‹_›, h⟩
  · exact False.elim h
abbrev G (α : Type) := Env -> O α
abbrev Mi (α : Type) := Env -> (α -> Env -> Prop) -> Prop
class Ag (z : Nat -> Env -> Prop) (m : Mi α) (g : G α) : Prop where
  h : ∀ ρ q, (g ρ).on z q -> m ρ q
theorem Ag.step {z : Nat -> Env -> Prop} {m : Mi α} {g : G α} [i : Ag z m g] {ρ : Env} {f : α -> Env -> O β} {q : β -> Env -> Prop} {k : α -> Env -> Prop} (h : ((g ρ).bind f).on z q) (hk : ∀ a ρ', (f a ρ').on z q -> k a ρ') : m ρ k := by
  refine i.h ρ k ?_
  cases e : g ρ with
  | no => rw [e] at h; exact h
  | ex j ρ' => rw [e] at h; exact h
  | ok a ρ' => rw [e] at h; exact hk a ρ' h
end
def Zf : Nat -> Env -> Prop := fun _ _ => False
variable {z : Nat -> Env -> Prop}
class UH (f : F1) (h : D -> Option D) : Prop where
  h : ∀ x q, jj q (h x) -> f x q
class zM (f : F2) (h : D -> D -> Option D) : Prop where
  h : ∀ x y q, jj q (h x y) -> f x y q
class zhk (f : Wa) (h : D -> Option (List D)) : Prop where
  h : ∀ x q, jj q (h x) -> f x q
class zdi (f : Vb) (h : D -> D -> Option (List D)) : Prop where
  h : ∀ x y q, jj q (h x y) -> f x y q
def jR (g : Int -> Int -> D) : D -> D -> Option D
  | .int i, .int j => some (g i j)
  | _, _ => none
instance {g : Int -> Int -> D} : zM (jA g) (jR g) := ⟨fun x y q h => by
  unfold jR at h
  split at h
  · exact h
  · exact False.elim h⟩
def hI (C : Int -> Int -> Prop) [∀ i j, Decidable (C i j)] (g : Int -> Int -> D) : D -> D -> Option D
  | .int i, .int j => if C i j then some (g i j) else none
  | _, _ => none
instance {C : Int -> Int -> Prop} [∀ i j, Decidable (C i j)] {g : Int -> Int -> D} : zM (fI C g) (hI C g) := ⟨fun x y q h => by
  unfold hI at h
  split at h
  · split at h
    · exact ⟨‹_›, h⟩
    · exact False.elim h
  · exact False.elim h⟩
instance {i j : Int} : Decidable (CMul i j) := inferInstanceAs (Decidable (_ \/ _))
instance {i j : Int} : Decidable (Us i j) := inferInstanceAs (Decidable (_ /\ _))
def jK := jR fun i j => .int (i + j)
def zaX := jR fun i j => .int (i - j)
def QZ := hI CMul fun i j => .int (i * j)
def Qt := hI (fun _ j => 0 < j) fun i j => .int (i % j)
def UI := hI Us fun i j => .int (i ^ j.toNat)
def hLt := jR fun i j => .bl (decide (i < j))
def RI := jR fun i j => .bl (decide (i <= j))
def hGt := jR fun i j => .bl (decide (j < i))
def hGe := jR fun i j => .bl (decide (j <= i))
def Y3 := jR fun i j => .int (if j > i then j else i)
def Y4 := jR fun i j => .int (if j < i then j else i)
instance : zM zg7 jK := inferInstanceAs (zM (jA _) (jR _))
instance : zM zg8 zaX := inferInstanceAs (zM (jA _) (jR _))
instance : zM zg9 QZ := inferInstanceAs (zM (fI _ _) (hI _ _))
instance : zM zg_ Qt := inferInstanceAs (zM (fI _ _) (hI _ _))
instance : zM zha UI := inferInstanceAs (zM (fI _ _) (hI _ _))
instance : zM fLt hLt := inferInstanceAs (zM (jA _) (jR _))
instance : zM fLe RI := inferInstanceAs (zM (jA _) (jR _))
instance : zM fGt hGt := inferInstanceAs (zM (jA _) (jR _))
instance : zM fGe hGe := inferInstanceAs (zM (jA _) (jR _))
instance : zM VL Y3 := inferInstanceAs (zM (jA _) (jR _))
instance : zM VM Y4 := inferInstanceAs (zM (jA _) (jR _))
def Jc (x y : D) : Option D := (Zu x y).map D.bl
def Y5 (x y : D) : Option D := (Zu x y).map fun b => D.bl (!b)
instance : zM fEq Jc := ⟨fun x y q h => by
  unfold Jc at h; unfold fEq
  cases e : Zu x y with
  | none => rw [e] at h; exact h
  | some b => rw [e] at h; exact h⟩
instance : zM fNe Y5 := ⟨fun x y q h => by
  unfold Y5 at h; unfold fNe
  cases e : Zu x y with
  | none => rw [e] at h; exact h
  | some b => rw [e] at h; exact h⟩
def UJ (x y : D) : Option D := match y with | .non => some (.bl (jH x)) | _ => none
def VO (x y : D) : Option D := match y with | .non => some (.bl (!jH x)) | _ => none
instance : zM zgW UJ := ⟨fun x y q h => by cases y <;> first | exact h | exact False.elim h⟩
instance : zM zd8 VO := ⟨fun x y q h => by cases y <;> first | exact h | exact False.elim h⟩
def Q0 (x y : D) : Option D := match x, y with | .str a, .str b => if a.length + b.length <= 100000 then some (.str (a ++ b)) else none | _, _ => none
instance : zM VH Q0 := ⟨fun x y q h => by
  unfold Q0 at h
  split at h
  · split at h
    · exact ⟨‹_›, h⟩
    · exact False.elim h
  · exact False.elim h⟩
def JH (x y : D) : Option D := match x, y with | .str a, .str b => some (.bl (!decide (b.cps.toList < a.cps.toList))) | _, _ => none
instance : zM zdb JH := ⟨fun x y q h => by
  unfold JH at h
  split at h
  · exact h
  · exact False.elim h⟩
def Vg (neg : Bool) (x y : D) : Option D := match UC y with
  | some ds => if yF x = true /\ ds.all yF = true then some (.bl (if neg then !Yb x ds else Yb x ds)) else none
  | none => none
instance {neg : Bool} : zM (fIn neg) (Vg neg) := ⟨fun x y q h => by
  unfold Vg at h; unfold fIn
  cases e : UC y with
  | none => rw [e] at h; exact h
  | some ds =>
    rw [e] at h
    dsimp only at h ⊢
    split at h
    · rename_i c; exact ⟨c.1, c.2, h⟩
    · exact False.elim h⟩
def zz (x y : D) : Option D := match x, y with
  | .lst ds, .int i => (jx ds.length i).map fun j => ds.getD j .non
  | .tup ds, .int i => (jx ds.length i).map fun j => ds.getD j .non
  | .fz ns, .int i => (jx ns.length i).map fun j => .int (ns.getD j 0)
  | .str w, .int i => if w.length <= 100000 then (jx w.cps.toList.length i).map fun j => .str ⟨#[w.cps.toList.getD j 0]⟩ else none
  | _, _ => none
instance : zM fIx zz := ⟨fun x y q h => by
  unfold zz at h
  split at h
  · rename_i ds i
    show Ys (.lst ds) (.int i) q
    unfold Ys
    dsimp only
    cases e : jx ds.length i with
    | none => rw [e] at h; exact h
    | some j => rw [e] at h; exact h
  · rename_i ds i
    show Wk (.tup ds) (.int i) q
    unfold Wk
    dsimp only
    cases e : jx ds.length i with
    | none => rw [e] at h; exact h
    | some j => rw [e] at h; exact h
  · rename_i ds i
    show Ys (.fz ds) (.int i) q
    unfold Ys
    dsimp only
    cases e : jx ds.length i with
    | none => rw [e] at h; exact h
    | some j => rw [e] at h; exact h
  · rename_i w i
    show Wl (.str w) (.int i) q
    unfold Wl
    dsimp only
    split at h
    · refine ⟨‹_›, ?_⟩
      cases e : jx w.cps.toList.length i with
      | none => rw [e] at h; exact h
      | some j => rw [e] at h; exact h
    · exact False.elim h
  · exact False.elim h⟩
def Qu : D -> Option D
  | .lst ds => some (.int ds.length)
  | .tup ds => some (.int ds.length)
  | .fz ns => some (.int ns.length)
  | .kt xs => some (.int xs.length)
  | .str w => if w.length <= 100000 then some (.int w.length) else none
  | _ => none
instance : UH zdc Qu := ⟨fun x q h => by
  cases x with
  | str w =>
    unfold Qu at h
    dsimp only at h
    split at h
    · exact ⟨‹_›, h⟩
    · exact False.elim h
  | _ => first | exact h | exact False.elim h⟩
def Q1 (x y : D) : Option (List D) := match x, y with | .lst a, .lst b => if a.length + b.length <= 100000 then some (a ++ b) else none | _, _ => none
instance : zdi zaO Q1 := ⟨fun x y q h => by
  unfold Q1 at h
  split at h
  · split at h
    · exact ⟨‹_›, h⟩
    · exact False.elim h
  · exact False.elim h⟩
def Ql : D -> Option (List D) | .lst a => some a | .tup a => some a | _ => none
instance : zhk VJ Ql := ⟨fun x q h => by cases x <;> first | exact h | exact False.elim h⟩
def Y6 : D -> Option D | .lst a => some (.tup a) | .tup a => some (.tup a) | _ => none
instance : UH YV Y6 := ⟨fun x q h => by cases x <;> first | exact h | exact False.elim h⟩
def Wv : D -> Option D | .int i => some (.int i) | .bl b => some (.int (if b then 1 else 0)) | _ => none
instance : UH zde Wv := ⟨fun x q h => by cases x <;> first | exact h | exact False.elim h⟩
def UK : D -> Option D | .lst ds => (jY ds).map fun bs => .bl (bs.all id) | _ => none
instance : UH zaP UK := ⟨fun x q h => by
  cases x with
  | lst ds =>
    unfold UK at h
    show match jY ds with | some bs => q (.bl (bs.all id)) | none => False
    dsimp only at h
    cases e : jY ds with
    | none => rw [e] at h; exact h
    | some bs => rw [e] at h; exact h
  | _ => exact False.elim h⟩
def jk (x y : D) : Option D := match Qk x, y with
  | some a, .ty b => (J8 a b).map D.bl
  | _, _ => none
instance : zM YW jk := ⟨fun x y q h => by
  unfold jk at h
  unfold YW
  split at h
  · rename_i a b e
    try rw [e]
    try dsimp only
    cases e2 : J8 a b with
    | none => rw [e2] at h; exact h
    | some r => rw [e2] at h; exact h
  · exact False.elim h⟩
def Ww (neg : Bool) (x y : D) : Option D := if (Wu x && Wu y) = true then (yn 40 x y).map fun b => .bl (if neg then !b else b) else none
instance {neg : Bool} : zM (zaV neg) (Ww neg) := ⟨fun x y q h => by
  unfold Ww at h
  unfold zaV
  split at h
  · rename_i e
    rw [e]
    cases e2 : yn 40 x y with
    | none => rw [e2] at h; exact h
    | some b => rw [e2] at h; exact h
  · exact False.elim h⟩
def gC (d : D) : G D := fun ρ => .ok d ρ
instance {d : D} : Ag z (mC d) (gC d) := ⟨fun ρ q h => h⟩
def Wx (i : Nat) : G D := fun ρ => match ρ[i]? with
  | some (.val d) => .ok d ρ
  | some (.own o) => .ok o (ρ.set i (.val o))
  | _ => .no
instance {i : Nat} : Ag z (V8 i) (Wx i) := ⟨fun ρ q h => by
  unfold Wx at h; unfold V8
  split at h
  · rename_i e; (try rw [e]); exact h
  · rename_i e; (try rw [e]); exact h
  · exact False.elim h⟩
def zm (i : Nat) : G D := fun ρ => match ρ[i]? with
  | some (.val d) => .ok d ρ
  | _ => .no
instance {i : Nat} : Ag z (YM i) (zm i) := ⟨fun ρ q h => by
  unfold zm at h; unfold YM
  split at h
  · rename_i e; (try rw [e]); exact h
  · exact False.elim h⟩
def zk (i : Nat) : G Opd := fun ρ => match ρ[i]? with
  | some (.val _) => .ok (.v i) ρ
  | some (.own _) => .ok (.v i) ρ
  | _ => .no
instance {i : Nat} : Ag z (mOv i) (zk i) := ⟨fun ρ q h => by
  unfold zk at h; unfold mOv
  split at h
  · rename_i e; (try rw [e]); exact h
  · rename_i e; (try rw [e]); exact h
  · exact False.elim h⟩
def gO (g : G D) : G Opd := fun ρ => (g ρ).bind fun d ρ' => .ok (.d d) ρ'
instance {m : ME} {g : G D} [Ag z m g] : Ag z (mO m) (gO g) := ⟨fun ρ q h => by
 unfold gO at h
 unfold mO
 exact Ag.step h fun _ _ h => h⟩
def ZX : Option Slot -> Option D
  | some (.val d) => some d
  | some (.own d) => some d
  | _ => none
def Opd.get (r : Opd) (ρ : Env) : Option D := match r with
  | .d x => some x
  | .v i => ZX ρ[i]?
theorem jC {r : Opd} {ρ : Env} {k : D -> Prop} (h : jj k (r.get ρ)) : r.on ρ k := by
  cases r with
  | d x => exact h
  | v i =>
    show zay ρ[i]? k
    have h : jj k (ZX ρ[i]?) := h
    unfold ZX at h
    split at h
    · rename_i e; (try rw [e]); exact h
    · rename_i e; (try rw [e]); exact h
    · exact False.elim h
theorem yy {α β : Type} {r : Option α} {f : α -> Option β} {q : β -> Prop} (h : jj q (r.bind f)) : jj (fun a => jj q (f a)) r := by
  cases r <;> exact h
theorem zR {α : Type} {r : Option α} {p q : α -> Prop} (h : jj p r) (k : ∀ a, p a -> q a) : jj q r := by
  cases r with
  | none => exact h
  | some a => exact k a h
def gNil : G (List D) := fun ρ => .ok [] ρ
def gCons (a : G D) (r : G (List D)) : G (List D) := fun ρ => (a ρ).bind fun d ρ1 => (r ρ1).bind fun ds ρ2 => .ok (d :: ds) ρ2
def Y7 (ss : List Str) : G (List D) := fun ρ => .ok (ss.map D.str) ρ
instance : Ag z zcY gNil := ⟨fun ρ q h => h⟩
instance {m : ME} {n : MA} {g : G D} {k : G (List D)} [Ag z m g] [Ag z n k] : Ag z (VA m n) (gCons g k) := ⟨fun ρ q h => by
 unfold gCons at h
 unfold VA
 exact Ag.step h fun _ _ h => Ag.step h fun _ _ h => h⟩
instance {ss : List Str} : Ag z (zaz ss) (Y7 ss) := ⟨fun ρ q h => h⟩
def yJ (g : G (List D)) : G D := fun ρ => (g ρ).bind fun ds ρ' => gd (ds.length <= 1000) (.ok (.lst ds) ρ')
def gTup (g : G (List D)) : G D := fun ρ => (g ρ).bind fun ds ρ' => gd (ds.length <= 1000) (.ok (.tup ds) ρ')
instance {m : MA} {g : G (List D)} [Ag z m g] : Ag z (zaA m) (yJ g) := ⟨fun ρ q h => by
 unfold yJ at h
 unfold zaA
 exact Ag.step h fun _ _ h => zaW h⟩
instance {m : MA} {g : G (List D)} [Ag z m g] : Ag z (zaB m) (gTup g) := ⟨fun ρ q h => by
 unfold gTup at h
 unfold zaB
 exact Ag.step h fun _ _ h => zaW h⟩
def zh (f : D -> D -> Option D) (a b : G Opd) : G D := fun ρ => (a ρ).bind fun r ρ1 => (b ρ1).bind fun s ρ2 => yj ((r.get ρ2).bind fun x => (s.get ρ2).bind fun y => f x y) ρ2
instance {f : F2} {k : D -> D -> Option D} {a b : MO} {ga gb : G Opd} [i : zM f k] [Ag z a ga] [Ag z b gb] : Ag z (jz f a b) (zh k ga gb) :=
  ⟨fun ρ q h => by
 unfold zh at h
 unfold jz
 exact Ag.step h fun _ _ h => Ag.step h fun _ _ h => jC (zR (yy (yx h)) fun _ h => jC (zR (yy h) fun _ h => i.h _ _ _ h))⟩
def yg (f : D -> Option D) (a : G Opd) : G D := fun ρ => (a ρ).bind fun r ρ1 => yj ((r.get ρ1).bind fun x => f x) ρ1
instance {f : F1} {k : D -> Option D} {a : MO} {ga : G Opd} [i : UH f k] [Ag z a ga] : Ag z (Qr f a) (yg k ga) :=
  ⟨fun ρ q h => by
 unfold yg at h
 unfold Qr
 exact Ag.step h fun _ _ h => jC (zR (yy (yx h)) fun _ h => i.h _ _ h)⟩
def Jg (f : D -> D -> Option (List D)) (a b : G Opd) : G D := fun ρ => (a ρ).bind fun r ρ1 => (b ρ1).bind fun s ρ2 => yj ((r.get ρ2).bind fun x => (s.get ρ2).bind fun y => (f x y).map D.lst) ρ2
theorem UL {α β : Type} {r : Option α} {f : α -> β} {q : β -> Prop} (h : jj q (r.map f)) : jj (fun a => q (f a)) r := by
  cases r <;> exact h
instance {f : Vb} {k : D -> D -> Option (List D)} {a b : MO} {ga gb : G Opd} [i : zdi f k] [Ag z a ga] [Ag z b gb] : Ag z (Uw f a b) (Jg k ga gb) :=
  ⟨fun ρ q h => by
 unfold Jg at h
 unfold Uw
 exact Ag.step h fun _ _ h => Ag.step h fun _ _ h => jC (zR (yy (yx h)) fun _ h => jC (zR (yy h) fun _ h => i.h _ _ _ (UL h)))⟩
def JR (f : D -> Option (List D)) (a : G Opd) : G D := fun ρ => (a ρ).bind fun r ρ1 => yj ((r.get ρ1).bind fun x => (f x).map D.lst) ρ1
instance {f : Wa} {k : D -> Option (List D)} {a : MO} {ga : G Opd} [i : zhk f k] [Ag z a ga] : Ag z (YN f a) (JR k ga) :=
  ⟨fun ρ q h => by
 unfold JR at h
 unfold YN
 exact Ag.step h fun _ _ h => jC (zR (yy (yx h)) fun _ h => i.h _ _ (UL h))⟩
def asB (d : D) (ρ : Env) : O Bool := match d with | .bl b => .ok b ρ | _ => .no
def gB (g : G D) : G Bool := fun ρ => (g ρ).bind asB
instance {m : ME} {g : G D} [Ag z m g] : Ag z (mB m) (gB g) := ⟨fun ρ q h => by
 unfold gB at h
 unfold mB
 exact Ag.step h fun d _ h => by cases d <;> first | exact h | exact False.elim h⟩
def UM (a b : G Bool) : G Bool := fun ρ => (a ρ).bind fun c ρ1 => if c = true then b ρ1 else .ok false ρ1
def Yc (a b : G Bool) : G Bool := fun ρ => (a ρ).bind fun c ρ1 => if c = true then .ok true ρ1 else b ρ1
def Qv (a : G Bool) : G Bool := fun ρ => (a ρ).bind fun c ρ1 => .ok (!c) ρ1
instance {a b : MT} {ga gb : G Bool} [Ag z a ga] [i : Ag z b gb] : Ag z (zaC a b) (UM ga gb) := ⟨fun ρ q h => by
 unfold UM at h
 unfold zaC
 exact Ag.step h fun c _ h => by
  cases c with
  | true => exact i.h _ _ h
  | false => exact h⟩
instance {a b : MT} {ga gb : G Bool} [Ag z a ga] [i : Ag z b gb] : Ag z (mOr a b) (Yc ga gb) := ⟨fun ρ q h => by
 unfold Yc at h
 unfold mOr
 exact Ag.step h fun c _ h => by
  cases c with
  | true => exact h
  | false => exact i.h _ _ h⟩
instance {a : MT} {ga : G Bool} [Ag z a ga] : Ag z (zaD a) (Qv ga) := ⟨fun ρ q h => by
 unfold Qv at h
 unfold zaD
 exact Ag.step h fun c _ h => h⟩
def j3 (a b : G D) : G D := fun ρ => (a ρ).bind fun d ρ1 => (asB d ρ1).bind fun c ρ1 => if c = true then b ρ1 else .ok (.bl false) ρ1
def Y8 (a : G D) : G D := fun ρ => (a ρ).bind fun d ρ1 => (asB d ρ1).bind fun c ρ1 => .ok (.bl (!c)) ρ1
instance {a b : ME} {ga gb : G D} [Ag z a ga] [i : Ag z b gb] : Ag z (VC a b) (j3 ga gb) := ⟨fun ρ q h => by
 unfold j3 at h
 unfold VC
 exact Ag.step h fun d _ h => by
  cases d with
  | bl c =>
    cases c with
    | true => exact i.h _ _ h
    | false => exact h
  | _ => exact False.elim h⟩
instance {a : ME} {ga : G D} [Ag z a ga] : Ag z (VD a) (Y8 ga) := ⟨fun ρ q h => by
 unfold Y8 at h
 unfold VD
 exact Ag.step h fun d _ h => by
  cases d <;> first | exact h | exact False.elim h⟩
def RJ (c : G Bool) (a b : G D) : G D := fun ρ => (c ρ).bind fun k ρ1 => if k = true then a ρ1 else b ρ1
instance {c : MT} {a b : ME} {gc : G Bool} {ga gb : G D} [Ag z c gc] [i : Ag z a ga] [j : Ag z b gb] : Ag z (mIf c a b) (RJ gc ga gb) := ⟨fun ρ q h => by
 unfold RJ at h
 unfold mIf
 exact Ag.step h fun k _ h => by
  cases k with
  | true => exact i.h _ _ h
  | false => exact j.h _ _ h⟩
def Jz (f f' : D -> D -> Option D) (a b c : G D) : G D := fun ρ => (a ρ).bind fun x ρ1 => (b ρ1).bind fun y ρ2 => (yj (f x y) ρ2).bind fun d ρ2 => (asB d ρ2).bind fun k ρ2 => if k = true then (c ρ2).bind fun z ρ3 => yj (f' y z) ρ3 else .ok (.bl false) ρ2
theorem O.on_bind {α β : Type} {r : O α} {f : α -> Env -> O β} {q : β -> Env -> Prop} (h : (r.bind f).on z q) : r.on z fun a ρ => (f a ρ).on z q := by cases r <;> exact h
instance {f f' : F2} {k k' : D -> D -> Option D} {a b c : ME} {ga gb gc : G D} [i : zM f k] [j : zM f' k'] [Ag z a ga] [Ag z b gb] [Ag z c gc] : Ag z (Zw f f' a b c) (Jz k k' ga gb gc) :=
  ⟨fun ρ q h => by
 unfold Jz at h
 unfold Zw
 exact Ag.step h fun x _ h => Ag.step h fun y ρ2 h => by
    refine i.h _ _ _ (zR (yx (O.on_bind h)) fun d h => ?_)
    cases d with
    | bl b =>
      cases b with
      | true =>
        show c ρ2 fun z ρ3 => f' y z fun e => q e ρ3
        have h : ((gc ρ2).bind fun z ρ3 => yj (k' y z) ρ3).on z q := h
        exact Ag.step h fun w ρ3 h => j.h _ _ _ (yx h)
      | false => exact h
    | _ => exact False.elim h⟩
def zaY (x : D) : Option Bool := match x with | .str y => if y.length <= 100000 then some ((y.length : Int) != 0) else none | x => zaQ x
def UN (a : G Opd) : G Bool := fun ρ => (a ρ).bind fun r ρ1 => yj ((r.get ρ1).bind zaY) ρ1
instance {a : MO} {ga : G Opd} [Ag z a ga] : Ag z (zaR a) (UN ga) := ⟨fun ρ q h => by
 unfold UN at h
 unfold zaR
 exact Ag.step h fun r ρ1 h => jC (zR (yy (yx h)) fun x h => by
  cases x with
  | str y =>
    unfold zaY at h
    dsimp only at h
    split at h
    · exact ⟨‹_›, h⟩
    · exact False.elim h
  | _ => first | exact ⟨trivial, h⟩ | exact False.elim h)⟩
def Jh : G (Option Int) := fun ρ => .ok none ρ
def asI (d : D) (ρ : Env) : O (Option Int) := match d with | .int i => .ok (some i) ρ | _ => .no
def Qm (g : G D) : G (Option Int) := fun ρ => (g ρ).bind asI
instance : Ag z UD Jh := ⟨fun ρ q h => h⟩
instance {m : ME} {g : G D} [Ag z m g] : Ag z (VI m) (Qm g) := ⟨fun ρ q h => by
 unfold Qm at h
 unfold VI
 exact Ag.step h fun d _ h => by cases d <;> first | exact h | exact False.elim h⟩
def zdj (x : D) (lo hi : Option Int) : Option D := match x with | .lst ds => some (.lst (yS ds lo hi)) | .fz ns => some (.lst ((yS ns lo hi).map D.int)) | _ => none
def ZE (a : G Opd) (l u : G (Option Int)) : G D := fun ρ => (a ρ).bind fun r ρ1 => (l ρ1).bind fun lo ρ2 => (u ρ2).bind fun hi ρ3 => yj ((r.get ρ3).bind fun x => zdj x lo hi) ρ3
instance {a : MO} {l u : Zk} {ga : G Opd} {gl gu : G (Option Int)} [Ag z a ga] [Ag z l gl] [Ag z u gu] : Ag z (zaN a l u) (ZE ga gl gu) :=
  ⟨fun ρ q h => by
 unfold ZE at h
 unfold zaN
 exact Ag.step h fun _ _ h => Ag.step h fun _ _ h => Ag.step h fun _ _ h => jC (zR (yy (yx h)) fun x h => by cases x <;> first | exact h | exact False.elim h)⟩
class Wy (m : MG) (g : D -> Env -> Option Env) : Prop where
  h : ∀ d ρ q, jj q (g d ρ) -> m d ρ q
class zaZ (m : QI) (g : List D -> Env -> Option Env) : Prop where
  h : ∀ d ρ q, jj q (g d ρ) -> m d ρ q
def zA (i : Nat) : D -> Env -> Option Env := fun d ρ => some (ρ.set i (.val d))
instance {i : Nat} : Wy (We i) (zA i) := ⟨fun d ρ q h => h⟩
def ZY : List D -> Env -> Option Env := fun ds ρ => match ds with | [] => some ρ | _ => none
def j4 (g : D -> Env -> Option Env) (r : List D -> Env -> Option Env) : List D -> Env -> Option Env := fun ds ρ => match ds with | d :: ds => (g d ρ).bind fun ρ1 => r ds ρ1 | [] => none
instance : zaZ zaG ZY := ⟨fun d ρ q h => by cases d <;> exact h⟩
instance {g : MG} {r : QI} {k : D -> Env -> Option Env} {l : List D -> Env -> Option Env} [i : Wy g k] [j : zaZ r l] : zaZ (Wf g r) (j4 k l) := ⟨fun d ρ q h => by
  cases d with
  | nil => exact h
  | cons d ds => exact i.h _ _ _ (zR (yy h) fun ρ1 h => j.h _ _ _ h)⟩
def Q2 (g : List D -> Env -> Option Env) (n : Nat) : D -> Env -> Option Env := fun d ρ => match d with | .tup ds => if ds.length = n then g ds ρ else none | _ => none
instance {m : QI} {n : Nat} {g : List D -> Env -> Option Env} [i : zaZ m g] : Wy (zaH m n) (Q2 g n) := ⟨fun d ρ q h => by
  cases d with
  | tup ds =>
    unfold Q2 at h
    dsimp only at h
    split at h
    · exact ⟨‹_›, i.h _ _ _ h⟩
    · exact False.elim h
  | _ => exact False.elim h⟩
def itL : D -> Option (List D) | .lst ds => some ds | .fz ns => some (ns.map D.int) | _ => none
def j5 (g : G D) : G (List D) := fun ρ => (g ρ).bind fun d ρ' => yj (itL d) ρ'
instance {m : ME} {g : G D} [Ag z m g] : Ag z (YO m) (j5 g) := ⟨fun ρ q h => by
 unfold j5 at h
 unfold YO
 exact Ag.step h fun d _ h => by cases d <;> first | exact h | exact False.elim h⟩
def itS : D -> Option (List D) | .str x => some (x.cps.toList.map fun c => D.str ⟨#[c]⟩) | _ => none
def ZZ (g : G D) : G (List D) := fun ρ => (g ρ).bind fun d ρ' => yj (itS d) ρ'
instance {m : ME} {g : G D} [Ag z m g] : Ag z (VG m) (ZZ g) := ⟨fun ρ q h => by
 unfold ZZ at h
 unfold VG
 exact Ag.step h fun d _ h => by cases d <;> first | exact h | exact False.elim h⟩
def UO : List D -> Option (List D) | [.int j] => if -1000000 <= j /\ j <= 1000000 then some (yk 0 j.toNat) else none | _ => none
def z9 (g : G (List D)) : G (List D) := fun ρ => (g ρ).bind fun ds ρ' => yj (UO ds) ρ'
instance {m : MA} {g : G (List D)} [Ag z m g] : Ag z (QT m) (z9 g) := ⟨fun ρ q h => by
 unfold z9 at h
 unfold QT
 exact Ag.step h fun ds _ h => by
  unfold UO at h
  split at h
  · try dsimp only
    split at h
    · exact ⟨‹_›, h⟩
    · exact False.elim h
  · exact False.elim h⟩
def yp (g : D -> Env -> Option Env) (c : G Bool) (e : G D) : List D -> Env -> O (List D)
  | [], ρ => .ok [] ρ
  | d :: ds, ρ => (yj (g d ρ) ρ).bind fun ρ1 _ => (c ρ1).bind fun b ρ2 => if b = true then (e ρ2).bind fun y ρ3 => (yp g c e ds ρ3).bind fun ys ρ4 => .ok (y :: ys) ρ4 else yp g c e ds ρ2
theorem Yu {g : MG} {c : MT} {e : ME} {k : D -> Env -> Option Env} {gc : G Bool} {ge : G D} [i : Wy g k] [Ag z c gc] [Ag z e ge] : ∀ (ds acc : List D) (ρ : Env) (q : List D -> Env -> Prop), (yp k gc ge ds ρ).on z (fun ys ρ' => q (acc ++ ys) ρ') -> ZQ g c e ds acc ρ q
  | [], acc, ρ, q, h => by
    have h : q (acc ++ []) ρ := h
    rw [List.append_nil] at h
    exact h
  | d :: ds, acc, ρ, q, h => by
    have h := yx (O.on_bind h)
    refine i.h _ _ _ (zR h fun ρ1 h => Ag.step h fun b ρ2 h => ?_)
    cases b with
    | true =>
      rw [if_pos rfl] at h ⊢
      refine Ag.step (g := ge) h fun y ρ3 h => ?_
      refine Yu (k := k) (gc := gc) (ge := ge) ds (acc ++ [y]) ρ3 q ?_
      have h := O.on_bind h
      have e : ∀ ys, acc ++ [y] ++ ys = acc ++ y :: ys := fun ys => by simp
      simp only [e]
      exact h
    | false =>
      rw [if_neg Bool.false_ne_true] at h ⊢
      exact Yu (k := k) (gc := gc) (ge := ge) ds acc ρ2 q h
def jy : G Bool := fun ρ => .ok true ρ
instance : Ag z mTT jy := ⟨fun ρ q h => h⟩
def zhm (js : List (Option Nat)) (ρ1 : Env) : O (List D) -> O D
  | .ok ys ρb => .ok (.lst ys) (zD js ρb ρ1)
  | _ => .no
def yz (gi : G (List D)) (js : List (Option Nat)) (g : D -> Env -> Option Env) (c : G Bool) (e : G D) : G D := fun ρ => (gi ρ).bind fun ds ρ1 => gd (ds.length <= 100000) (zhm js ρ1 (yp g c e ds (jX js ρ1)))
instance {mi : MI} {js : List (Option Nat)} {g : MG} {c : MT} {e : ME} {gi : G (List D)} {k : D -> Env -> Option Env} {gc : G Bool} {ge : G D} [Ag z mi gi] [Wy g k] [Ag Zf c gc] [Ag Zf e ge] : Ag z (YQ mi js g c e) (yz gi js k gc ge) :=
  ⟨fun ρ q h => by
 unfold yz at h
 unfold YQ
 exact Ag.step h fun ds ρ1 h => by
    obtain ⟨a, h⟩ := zaW h
    refine ⟨a, Yu (z := Zf) (k := k) (gc := gc) (ge := ge) ds [] _ _ ?_⟩
    cases hc : yp k gc ge ds (jX js ρ1) with
    | no => rw [hc] at h; exact False.elim h
    | ex j ρ' => rw [hc] at h; exact False.elim h
    | ok ys ρb => rw [hc] at h; exact h⟩
inductive RF where
  | no | ex (k : Nat) | ok (d : D) (os : List D)
abbrev Fn := List Slot -> RF
def zB (F : Fn) : Zj := fun ss q z => match F ss with
  | .no => False
  | .ex k => z (.exc k) []
  | .ok d os => q d os
def zej (r : RF) (ρ : Env) : O D := match r with | .ok d _ => .ok d ρ | _ => .no
def zN (F : Fn) (a : G (List D)) : G D := fun ρ => (a ρ).bind fun ds ρ1 => zej (F (ds.map .val)) ρ1
instance {F : Fn} {a : MA} {ga : G (List D)} [Ag z a ga] : Ag z (ZT (zB F) a) (zN F ga) := ⟨fun ρ q h => by
 unfold zN at h
 unfold ZT
 exact Ag.step h fun ds ρ1 h => by
  unfold zB
  cases e : F (ds.map .val) with
  | no => rw [e] at h; exact h
  | ex k => rw [e] at h; exact False.elim h
  | ok d os => rw [e] at h; exact h⟩
def Qw : Option Slot -> Option D | some (.own o) => some o | _ => none
def Y9 (j : Nat) (r : RF) (ρ : Env) : O D := match r with | .ok d [o] => .ok d (ρ.set j (.own o)) | _ => .no
def zp (j : Nat) (F : Fn) (a : G (List D)) : G D := fun ρ => (yj (Qw ρ[j]?) ρ).bind fun _ ρ => (a ρ).bind fun ds ρ1 => (yj (Qw ρ1[j]?) ρ1).bind fun o ρ1 => Y9 j (F (.own o :: ds.map .val)) ρ1
theorem ZF {s : Option Slot} {o : D} (h : Qw s = some o) : s = some (.own o) := by
  unfold Qw at h
  split at h
  · cases h; rfl
  · cases h
instance {j : Nat} {F : Fn} {a : MA} {ga : G (List D)} [Ag z a ga] : Ag z (Zt j (zB F) a) (zp j F ga) := ⟨fun ρ q h => by
  unfold zp at h; unfold Zt
  cases e : Qw ρ[j]? with
  | none => rw [e] at h; exact False.elim h
  | some o =>
    rw [ZF e]
    rw [e] at h
    have h : ((ga ρ).bind fun ds ρ1 => (yj (Qw ρ1[j]?) ρ1).bind fun o ρ1 => Y9 j (F (.own o :: ds.map .val)) ρ1).on z q := h
    refine Ag.step h fun ds ρ1 h => ?_
    cases e1 : Qw ρ1[j]? with
    | none => rw [e1] at h; exact False.elim h
    | some o1 =>
      rw [ZF e1]
      rw [e1] at h
      have h : (Y9 j (F (.own o1 :: ds.map .val)) ρ1).on z q := h
      show zB F (.own o1 :: ds.map .val) _ Z0
      unfold zB
      cases e2 : F (.own o1 :: ds.map .val) with
      | no => rw [e2] at h; exact h
      | ex k => rw [e2] at h; exact False.elim h
      | ok d os =>
        rw [e2] at h
        match os, h with
        | [], h => exact False.elim h
        | [o'], h => exact h
        | _ :: _ :: _, h => exact False.elim h⟩
class AgM (f : List D -> D -> (D -> List D -> Prop) -> Prop) (h : List D -> D -> Option (D × List D)) : Prop where
  h : ∀ ds d q, jj (fun r => q r.1 r.2) (h ds d) -> f ds d q
def yB (ds : List D) (d : D) : Option (D × List D) := if ds.length < 100000 then some (.non, ds ++ [d]) else none
instance : AgM UB yB := ⟨fun ds d q h => by
  unfold yB at h
  split at h
  · exact ⟨‹_›, h⟩
  · exact False.elim h⟩
def Q3 : Option Slot -> Option (List D) | some (.own (.lst ds)) => some ds | _ => none
theorem Q4 {s : Option Slot} {k : List D -> Prop} (h : jj k (Q3 s)) : Yq s k := by
  unfold Q3 at h
  split at h
  · exact h
  · exact False.elim h
def Qn (f : List D -> D -> Option (D × List D)) (i : Nat) (a : G D) : G D := fun ρ => (yj (Q3 ρ[i]?) ρ).bind fun _ ρ => (a ρ).bind fun d ρ1 => (yj (Q3 ρ1[i]?) ρ1).bind fun ds ρ1 => (yj (f ds d) ρ1).bind fun r ρ1 => .ok r.1 (ρ1.set i (.own (.lst r.2)))
instance {f : List D -> D -> (D -> List D -> Prop) -> Prop} {k : List D -> D -> Option (D × List D)} {i : Nat} {a : ME} {ga : G D} [j : AgM f k] [Ag z a ga] : Ag z (ZS f i a) (Qn k i ga) := ⟨fun ρ q h =>
  Q4 (zR (yx (O.on_bind h)) fun _ h => Ag.step h fun d ρ1 h => Q4 (zR (yx (O.on_bind h)) fun ds h => j.h _ _ _ (yx (O.on_bind h))))⟩
inductive End where
  | nx | rt (d : D) | bk | ct
def Yd (z : Nat -> Env -> Prop) (N : JQ) : O End -> Prop
  | .no => False
  | .ex k ρ => z k ρ
  | .ok .nx ρ => N.nx ρ
  | .ok (.rt d) ρ => N.rt d ρ
  | .ok .bk ρ => N.bk ρ
  | .ok .ct ρ => N.ct ρ
class jS (z : Nat -> Env -> Prop) (m : MS) (g : G End) : Prop where
  h : ∀ N ρ, Yd z N (g ρ) -> m N ρ
theorem Ag.stepS {α : Type} {m : Mi α} {g : G α} [i : Ag z m g] {ρ : Env} {f : α -> Env -> O End} {N : JQ} {k : α -> Env -> Prop} (h : Yd z N ((g ρ).bind f)) (hk : ∀ a ρ', Yd z N (f a ρ') -> k a ρ') : m ρ k := by
  refine i.h ρ k ?_
  cases e : g ρ with
  | no => rw [e] at h; exact h
  | ex j ρ' => rw [e] at h; exact h
  | ok a ρ' => rw [e] at h; exact hk a ρ' h
theorem UP {α : Type} {N : JQ} {r : Option α} {ρ : Env} {f : α -> Env -> O End} (h : Yd z N ((yj r ρ).bind f)) : jj (fun a => Yd z N (f a ρ)) r := by
  cases r <;> exact h
theorem zho {N : JQ} {c : Prop} [Decidable c] {r : O End} (h : Yd z N (gd c r)) : c /\ Yd z N r := by
  unfold gd at h
  split at h
  · exact ⟨‹_›, h⟩
  · exact False.elim h
def zW : G End := fun ρ => .ok .nx ρ
def Wz : G End := fun _ => .no
instance : jS z zaE zW := ⟨fun N ρ h => h⟩
instance : jS z Wc Wz := ⟨fun N ρ h => h⟩
def UQ (r : O End) (b : G End) : O End := match r with | .ok .nx ρ => b ρ | r => r
def zu (a b : G End) : G End := fun ρ => UQ (a ρ) b
instance {a b : MS} {ga gb : G End} [i : jS z a ga] [j : jS z b gb] : jS z (zc1 a b) (zu ga gb) := ⟨fun N ρ h => by
  refine i.h _ _ ?_
  unfold zu at h
  cases e : ga ρ with
  | no => rw [e] at h; exact h
  | ex k ρ' => rw [e] at h; exact h
  | ok n ρ' =>
    rw [e] at h
    cases n with
    | nx => exact j.h _ _ h
    | rt d => exact h
    | bk => exact h
    | ct => exact h⟩
def jI (g : G D) : G End := fun ρ => (g ρ).bind fun _ ρ' => .ok .nx ρ'
def zJ (g : G D) : G End := fun ρ => (g ρ).bind fun d ρ' => .ok (.rt d) ρ'
instance {m : ME} {g : G D} [Ag z m g] : jS z (VE m) (jI g) := ⟨fun N ρ h => by
 unfold jI at h
 unfold VE
 exact Ag.stepS h fun _ _ h => h⟩
instance {m : ME} {g : G D} [Ag z m g] : jS z (Uy m) (zJ g) := ⟨fun N ρ h => by
 unfold zJ at h
 unfold Uy
 exact Ag.stepS h fun _ _ h => h⟩
def zU (c : G Bool) (a b : G End) : G End := fun ρ => (c ρ).bind fun k ρ1 => if k = true then a ρ1 else b ρ1
instance {c : MT} {a b : MS} {gc : G Bool} {ga gb : G End} [Ag z c gc] [i : jS z a ga] [j : jS z b gb] : jS z (zaF c a b) (zU gc ga gb) := ⟨fun N ρ h => by
 unfold zU at h
 unfold zaF
 exact Ag.stepS h fun k _ h => by
  cases k with
  | true => exact i.h _ _ h
  | false => exact j.h _ _ h⟩
def z0 (i : Nat) (g : G D) : G End := fun ρ => (g ρ).bind fun d ρ' => .ok .nx (ρ'.set i (.val d))
def jT (i : Nat) (g : G D) : G End := fun ρ => (g ρ).bind fun d ρ' => .ok .nx (ρ'.set i (.own d))
instance {i : Nat} {m : ME} {g : G D} [Ag z m g] : jS z (Wd i m) (z0 i g) := ⟨fun N ρ h => by
 unfold z0 at h
 unfold Wd
 exact Ag.stepS h fun _ _ h => h⟩
instance {i : Nat} {m : ME} {g : G D} [Ag z m g] : jS z (ZP i m) (jT i g) := ⟨fun N ρ h => by
 unfold jT at h
 unfold ZP
 exact Ag.stepS h fun _ _ h => h⟩
def QN (i : Nat) (a v : G D) : G End := fun ρ => (v ρ).bind fun d ρ0 => (yj (Q3 ρ0[i]?) ρ0).bind fun _ ρ0 => (a ρ0).bind fun x ρ1 => (yj (Q3 ρ1[i]?) ρ1).bind fun ds ρ1 => match x with
  | .int j => gd (0 <= j /\ j.toNat < ds.length) (.ok .nx (ρ1.set i (.own (.lst (ds.set j.toNat d)))))
  | _ => .no
instance {i : Nat} {a v : ME} {ga gv : G D} [Ag z a ga] [Ag z v gv] : jS z (YS i a v) (QN i ga gv) := ⟨fun N ρ h => by
 unfold QN at h
 unfold YS
 exact Ag.stepS h fun d ρ0 h =>
  Q4 (zR (UP h) fun _ h => Ag.stepS h fun x ρ1 h => Q4 (zR (UP h) fun ds h => by
    cases x with
    | int j => exact zho h
    | _ => exact False.elim h))⟩
def Z1 (r : O End) (k : G End) : O End := match r with
  | .ok .nx ρ => k ρ
  | .ok .ct ρ => k ρ
  | .ok .bk ρ => .ok .nx ρ
  | r => r
theorem zdk {N : JQ} {b : MS} {gb : G End} [i : jS z b gb] {ρ : Env} {k : G End} {p : Env -> Prop} (h : Yd z N (Z1 (gb ρ) k)) (hk : ∀ ρ', Yd z N (k ρ') -> p ρ') : b { nx := p, rt := N.rt, bk := N.nx, ct := p } ρ := by
  refine i.h _ _ ?_
  cases e : gb ρ with
  | no => rw [e] at h; exact h
  | ex k ρ' => rw [e] at h; exact h
  | ok n ρ' =>
    rw [e] at h
    cases n with
    | nx => exact hk _ h
    | rt d => exact h
    | bk => exact h
    | ct => exact hk _ h
def Qb (g : D -> Env -> Option Env) (b : G End) : List D -> G End
  | [], ρ => .ok .nx ρ
  | d :: ds, ρ => (yj (g d ρ) ρ).bind fun ρ1 _ => Z1 (b ρ1) (Qb g b ds)
theorem RK {N : JQ} {g : MG} {b : MS} {k : D -> Env -> Option Env} {gb : G End} [i : Wy g k] [jS z b gb] : ∀ (ds : List D) (ρ : Env), Yd z N (Qb k gb ds ρ) -> Uz g b ds N ρ
  | [], ρ, h => h
  | d :: ds, ρ, h => i.h _ _ _ (zR (UP h) fun ρ1 h => zdk h fun ρ' h => RK ds ρ' h)
def Qx (gi : G (List D)) (g : D -> Env -> Option Env) (b : G End) : G End := fun ρ => (gi ρ).bind fun ds ρ1 => Qb g b ds ρ1
instance {mi : MI} {g : MG} {b : MS} {gi : G (List D)} {k : D -> Env -> Option Env} {gb : G End} [Ag z mi gi] [Wy g k] [jS z b gb] : jS z (zaI mi g b) (Qx gi k gb) := ⟨fun N ρ h => by
 unfold Qx at h
 unfold zaI
 exact Ag.stepS h fun ds ρ1 h => RK ds ρ1 h⟩
def WA : List Nat -> Env -> Option (List D)
  | [], _ => some []
  | i :: r, ρ => (Qw ρ[i]?).bind fun o => (WA r ρ).map (o :: ·)
theorem RL : ∀ {pn : List Nat} {ρ : Env} {k : List D -> Prop}, jj k (WA pn ρ) -> QV pn ρ k
  | [], ρ, k, h => h
  | i :: r, ρ, k, h => by
    unfold WA at h
    unfold QV
    cases e : Qw ρ[i]? with
    | none => rw [e] at h; exact False.elim h
    | some o =>
      rw [e] at h
      rw [ZF e]
      exact RL (UL h)
def ZG (pn : List Nat) (d : D) (ρ : Env) : RF := match WA pn ρ with | some os => .ok d os | none => .no
def za0 (pn : List Nat) (fr : Bool) : O End -> RF
  | .ok .nx ρ => if fr = true then .no else ZG pn .non ρ
  | .ok (.rt d) ρ => ZG pn d ρ
  | .ex k _ => .ex k
  | _ => .no
def yd (pn : List Nat) (n nl : Nat) (fr : Bool) (g : G End) : Fn := fun ss => if ss.length = n then za0 pn fr (g (ss ++ List.replicate nl .no)) else .no
theorem zQ {pn : List Nat} {n nl : Nat} {fr : Bool} {g : G End} {ss : List Slot} {q : D -> List D -> Prop} {z : D -> List D -> Prop} (h : zB (yd pn n nl fr g) ss q z) : ss.length = n := by
  unfold zB yd at h
  by_cases e : ss.length = n
  · exact e
  · rw [if_neg e] at h; exact False.elim h
theorem RM {pn : List Nat} {d : D} {ρ : Env} {q : D -> List D -> Prop} {z : D -> List D -> Prop} (h : match ZG pn d ρ with | .no => False | .ex k => z (.exc k) [] | .ok d os => q d os) : QV pn ρ (q d) := by
  refine RL ?_
  unfold ZG at h
  cases e : WA pn ρ with
  | none => rw [e] at h; exact h
  | some os => rw [e] at h; exact h
theorem za1 {pn : List Nat} {n nl : Nat} {fr : Bool} {g : G End} {b : MS} {ss : List Slot} {q z : D -> List D -> Prop} [i : jS (fun k _ => z (.exc k) []) b g] (h : zB (yd pn n nl fr g) ss q z) :
    b { nx := fun ρ => fr = false /\ QV pn ρ (q .non), rt := fun d ρ => QV pn ρ (q d), bk := fun _ => False, ct := fun _ => False } (ss ++ List.replicate nl .no) := by
  have hl := zQ h
  unfold zB yd at h
  rw [if_pos hl] at h
  refine i.h _ _ ?_
  cases e : g (ss ++ List.replicate nl .no) with
  | no => rw [e] at h; exact h
  | ex k ρ => rw [e] at h; exact h
  | ok n ρ =>
    rw [e] at h
    cases n with
    | nx =>
      cases fr with
      | true => exact False.elim h
      | false => exact ⟨rfl, RM h⟩
    | rt d => exact RM h
    | bk => exact h
    | ct => exact h
theorem y4 {P : Program} {w : World} {K : PySem.W.Frag} {mg : Str -> Option Value} {base : Heap} {cls : Nat -> Option Addr} {x qual : Str} {st : Stmt} {f : Addr} {fd : FuncData} {N ps : List Str} {pn : List Nat} {fr : Bool} {k n : Nat} {g : G End} (F : Fun K x qual st f fd) (S : zL N ps (zt st)) (hn : ps.length = n)
    (hb : ∀ (cdv : Value) (A : Around) (outer : List PySem.Env) (s : Shared) (H : Hp) (E : XK), Room k (A.deeper (PyProof.Rows.envOfC qual (zt st) s.heap.objs.size f cdv)) ->
      ∃ b, Vf (Yj yN P w K mg base N qual (zt st) f cdv A outer s H E).nox cls pn fr (jP st) b /\ jS Zf b g) : FnOk P w K mg base yN (k + 1) f fd ps (yR ⟨K, cls⟩ pn fr n (zB (yd pn n (N.length - n) fr g))) := by
  subst hn
  refine F.ok S (fun vs H Q E h => h.1) fun cdv A outer s H vs Q E hr h => ?_
  obtain ⟨b, hd, ag⟩ := hb cdv A outer s H E hr
  obtain ⟨t, a, c⟩ := hd.h
  refine ⟨t, a, ?_⟩
  obtain ⟨hl, S, ss, q, hpin, h0, R, hq, hQ⟩ := h
  have hsl : ss.length = ps.length := by have := R.len; simp at this; omega
  have hm := za1 (i := (ag : jS (fun k _ => Z0 (.exc k) []) b g)) hq
  unfold L2.start
  rw [hl]
  have rt : ∀ v d σ' H' ρ', RR ⟨K, cls⟩ fr S σ' ρ' H' [] v d -> QV pn ρ' (q d) -> Q v H' := fun v d σ' H' ρ' r' q' => by
    obtain ⟨os, a, b⟩ := Ru q'
    exact hQ _ _ _ _ _ os r' a b
  refine c S _ _ H [] _ _ hpin (R.ext _) hm (fun σ' H' ρ' R' q' => ?_) rt (fun _ _ _ _ z => False.elim z) fun _ _ _ _ z => False.elim z
  obtain ⟨e, q'⟩ := q'
  subst e
  exact rt _ _ _ _ _ ⟨R', .non⟩ q'
end M
namespace M
open PySem L2
theorem zi0 {k : Nat} {A : Around} (r : Room k A) : A.units + 41 < cLine := by have := r.un; omega
theorem za2 {F : Fn} (hF : ∀ ns : List Int, ns.length <= 63 -> F [.val (.fz ns)] = .ok (.bl true) []) {K : PySem.W.Frag} {cls : Nat -> Option Addr} {vs : List V} {H : Hp} {Q : VK} {E : XK} (h : Y2 K vs H Q E) : yR ⟨K, cls⟩ [] false 1 (zB F) vs H Q E := by
  obtain ⟨hl, S, ss, q, a, b, c, ⟨ns, e, hn, hq⟩, d⟩ := zb6 (cls := cls) h
  refine ⟨hl, S, ss, q, a, b, c, ?_, d⟩
  subst e
  unfold zB
  rw [hF ns hn]
  exact hq
end M
namespace M
open PySem L2
section
variable {α β : Type}
theorem zE {a : α} {ρ : Env} {f : α -> Env -> O β} : (O.ok a ρ).bind f = f a ρ := rfl
theorem RN {f : α -> Env -> O β} : (O.no : O α).bind f = .no := rfl
theorem RO {k : Nat} {ρ : Env} {f : α -> Env -> O β} : (O.ex k ρ : O α).bind f = .ex k ρ := rfl
theorem yK {a : α} {ρ : Env} : yj (some a) ρ = .ok a ρ := rfl
theorem WB {ρ : Env} : yj (none : Option α) ρ = .no := rfl
theorem RP {r : O α} : gd True r = r := rfl
theorem zb9 {c : Prop} [Decidable c] {r : O α} (h : c) : gd c r = r := if_pos h
theorem RQ {ρ : Env} {b : G End} : UQ (.ok .nx ρ) b = b ρ := rfl
theorem RS {d : D} {ρ : Env} {b : G End} : UQ (.ok (.rt d) ρ) b = .ok (.rt d) ρ := rfl
theorem RU {ρ : Env} {b : G End} : UQ (.ok .bk ρ) b = .ok .bk ρ := rfl
theorem RV {ρ : Env} {b : G End} : UQ (.ok .ct ρ) b = .ok .ct ρ := rfl
theorem RW {k : Nat} {ρ : Env} {b : G End} : UQ (.ex k ρ) b = .ex k ρ := rfl
theorem WC {ρ : Env} {b : G End} : Z1 (.ok .nx ρ) b = b ρ := rfl
theorem WD {d : D} {ρ : Env} {b : G End} : Z1 (.ok (.rt d) ρ) b = .ok (.rt d) ρ := rfl
theorem WE {ρ : Env} {b : G End} : Z1 (.ok .bk ρ) b = .ok .nx ρ := rfl
theorem WF {ρ : Env} {b : G End} : Z1 (.ok .ct ρ) b = b ρ := rfl
theorem za3 {x : D} {ρ : Env} : (Opd.d x).get ρ = some x := rfl
theorem zek {i : Nat} {ρ : Env} : (Opd.v i).get ρ = ZX ρ[i]? := rfl
theorem Vh {d : D} : ZX (some (.val d)) = some d := rfl
theorem Vi {d : D} : ZX (some (.own d)) = some d := rfl
theorem WG {d : D} : Qw (some (.own d)) = some d := rfl
theorem Vj {ds : List D} : Q3 (some (.own (.lst ds))) = some ds := rfl
theorem WH {b : Bool} {ρ : Env} : asB (.bl b) ρ = .ok b ρ := rfl
theorem RX {b : Int} {ρ : Env} : asI (.int b) ρ = .ok (some b) ρ := rfl
theorem WI {d : D} {os : List D} {ρ : Env} : zej (.ok d os) ρ = .ok d ρ := rfl
theorem Vk {j : Nat} {d o : D} {ρ : Env} : Y9 j (.ok d [o]) ρ = .ok d (ρ.set j (.own o)) := rfl
theorem RY {pn : List Nat} {ρ : Env} : za0 pn false (.ok .nx ρ) = ZG pn .non ρ := rfl
theorem UR {pn : List Nat} {fr : Bool} {d : D} {ρ : Env} : za0 pn fr (.ok (.rt d) ρ) = ZG pn d ρ := rfl
theorem RZ {pn : List Nat} {fr : Bool} {k : Nat} {ρ : Env} : za0 pn fr (.ex k ρ) = .ex k := rfl
theorem Yv {d : D} {ρ : Env} : ZG [] d ρ = .ok d [] := rfl
theorem zb_ {d o : D} {ρ : Env} : ZG [0] d (.own o :: ρ) = .ok d [o] := rfl
theorem Ua {n : Nat} {r : Int} (h0 : 0 <= r) (h1 : r < n) : jx n r = some r.toNat := by
  unfold jx
  rw [if_pos h0, if_pos h1]
theorem JU {ds : List D} {r : Int} (h0 : 0 <= r) (h1 : r < ds.length) : zz (.lst ds) (.int r) = some (ds.getD r.toNat .non) := by
  unfold zz; dsimp only; rw [Ua h0 h1]; rfl
theorem Qo {ds : List D} {r : Int} (h0 : 0 <= r) (h1 : r < ds.length) : zz (.tup ds) (.int r) = some (ds.getD r.toNat .non) := by
  unfold zz; dsimp only; rw [Ua h0 h1]; rfl
theorem zic {ns : List Int} {r : Int} (h0 : 0 <= r) (h1 : r < ns.length) : zz (.fz ns) (.int r) = some (.int (ns.getD r.toNat 0)) := by
  unfold zz; dsimp only; rw [Ua h0 h1]; rfl
theorem zid {w : Str} {r : Int} (hl : w.length <= 100000) (h0 : 0 <= r) (h1 : r < w.cps.toList.length) : zz (.str w) (.int r) = some (.str ⟨#[w.cps.toList.getD r.toNat 0]⟩) := by
  unfold zz; dsimp only; rw [if_pos hl, Ua h0 h1]; rfl
section
variable {a b c d e f g h : D} {ds : List D}
theorem ix0 : zz (.lst (a :: ds)) (.int 0) = some a := JU (by omega) (by simp only [List.length_cons]; omega)
theorem ix1 : zz (.lst (a :: b :: ds)) (.int 1) = some b := JU (by omega) (by simp only [List.length_cons]; omega)
theorem ix2 : zz (.lst (a :: b :: c :: ds)) (.int 2) = some c := JU (by omega) (by simp only [List.length_cons]; omega)
theorem ix3 : zz (.lst (a :: b :: c :: d :: ds)) (.int 3) = some d := JU (by omega) (by simp only [List.length_cons]; omega)
theorem ix4 : zz (.lst (a :: b :: c :: d :: e :: ds)) (.int 4) = some e := JU (by omega) (by simp only [List.length_cons]; omega)
theorem ix5 : zz (.lst (a :: b :: c :: d :: e :: f :: ds)) (.int 5) = some f := JU (by omega) (by simp only [List.length_cons]; omega)
theorem ix6 : zz (.lst (a :: b :: c :: d :: e :: f :: g :: ds)) (.int 6) = some g := JU (by omega) (by simp only [List.length_cons]; omega)
theorem ix7 : zz (.lst (a :: b :: c :: d :: e :: f :: g :: h :: ds)) (.int 7) = some h := JU (by omega) (by simp only [List.length_cons]; omega)
theorem it0 : zz (.tup (a :: ds)) (.int 0) = some a := Qo (by omega) (by simp only [List.length_cons]; omega)
theorem it1 : zz (.tup (a :: b :: ds)) (.int 1) = some b := Qo (by omega) (by simp only [List.length_cons]; omega)
theorem it2 : zz (.tup (a :: b :: c :: ds)) (.int 2) = some c := Qo (by omega) (by simp only [List.length_cons]; omega)
theorem it3 : zz (.tup (a :: b :: c :: d :: ds)) (.int 3) = some d := Qo (by omega) (by simp only [List.length_cons]; omega)
theorem it4 : zz (.tup (a :: b :: c :: d :: e :: ds)) (.int 4) = some e := Qo (by omega) (by simp only [List.length_cons]; omega)
theorem it5 : zz (.tup (a :: b :: c :: d :: e :: f :: ds)) (.int 5) = some f := Qo (by omega) (by simp only [List.length_cons]; omega)
theorem it6 : zz (.tup (a :: b :: c :: d :: e :: f :: g :: ds)) (.int 6) = some g := Qo (by omega) (by simp only [List.length_cons]; omega)
theorem it7 : zz (.tup (a :: b :: c :: d :: e :: f :: g :: h :: ds)) (.int 7) = some h := Qo (by omega) (by simp only [List.length_cons]; omega)
end
theorem R6 : jH .non = true := rfl
theorem R7 {b : Bool} : jH (.bl b) = false := rfl
theorem R8 {i : Int} : jH (.int i) = false := rfl
theorem R9 {x : Str} : jH (.str x) = false := rfl
theorem zaa {l : List D} : jH (.lst l) = false := rfl
theorem zab {l : List D} : jH (.tup l) = false := rfl
theorem zac {c : Nat} {fs : List (Nat × D)} : jH (.obj c fs) = false := rfl
theorem Zl : ∀ {a b : List Char}, a.map Char.toNat = b.map Char.toNat -> a = b
  | [], [], _ => rfl
  | [], _ :: _, h => by simp at h
  | _ :: _, [], h => by simp at h
  | x :: a, y :: b, h => by
    simp only [List.map_cons, List.cons.injEq] at h
    rw [Zl h.2, Char.toNat_inj.mp h.1]
theorem ZH {a b : String} : (Str.ofString a = Str.ofString b) = (a = b) := by
  apply propext
  constructor
  · intro h
    rw [Str.ofString_eq_toList, Str.ofString_eq_toList] at h
    have h : (a.toList.map Char.toNat) = (b.toList.map Char.toNat) := by
      have := congrArg (fun s => s.cps.toList) h
      simpa using this
    exact String.toList_inj.mp (Zl h)
  · intro h; rw [h]
end
end M
namespace L2
open PySem PySem.Spec PyProof.Rows
section
variable {prog : Program} {w : World} {A : Around} {E : Value -> Shared -> Prop} {s : Shared}
end
end L2
namespace L2
open PySem PySem.Spec PyProof.Rows
section
variable {prog : Program} {w : World} {A : Around} {R : Result -> Shared -> Prop}
end
section
variable {prog : Program} {w : World} {A : Around} {E : Value -> Shared -> Prop} {s : Shared}
end
end L2
namespace L2
open PySem PySem.Spec PyProof.Rows
section
variable {prog : Program} {w : World} {A : Around} {E : Value -> Shared -> Prop} {s : Shared}
end
end L2
namespace L2
open PySem PySem.Spec PyProof.Rows
section
variable {prog : Program} {w : World} {A : Around} {E : Value -> Shared -> Prop} {s : Shared}
end
end L2
namespace L2
open PySem PySem.Spec PyProof.Rows
section
variable {prog : Program} {w : World} {A : Around} {E : Value -> Shared -> Prop} {s : Shared}
end
end L2
namespace L2
open PySem PySem.Spec PyProof.Rows
section
variable {prog : Program} {w : World} {A : Around} {E : Value -> Shared -> Prop} {s : Shared}
end
end L2
namespace L2
open PySem PySem.Spec PyProof.Rows
section
variable {prog : Program} {w : World} {A : Around} {E : Value -> Shared -> Prop} {s : Shared}
end
end L2
namespace L2
open PySem PySem.Spec PyProof.Rows
section
variable {X : Cx}
theorem vals_strs : ∀ {vs : List Value} {ss : List Str}, StrsAre vs ss -> Vals (ss.map V.str) vs
  | _, _, .nil => .nil
  | _, _, .cons y t r => .cons ⟨t, rfl⟩ (vals_strs r)
end
end L2
namespace L2
open PySem PySem.Spec PyProof.Rows
section
variable {X : Cx}
end
section
variable {prog : Program} {w : World} {A : Around} {R : Result -> Shared -> Prop} {I : Addr} {fp wr : List Addr} {G : Array GenState -> Array GenState -> Prop} {n : Nat} {P : Nat -> Value -> Prop} {St : Nat -> Shared -> Prop}
end
section
variable {prog : Program} {w : World} {A : Around} {E : Value -> Shared -> Prop} {s : Shared}
end
section
variable {prog : Program} {w : World} {A : Around} {R : Result -> Shared -> Prop} {I : Addr} {fp wr : List Addr} {G : Array GenState -> Array GenState -> Prop} {n : Nat} {P : Nat -> Value -> Prop} {St : Nat -> Shared -> Prop}
end
section
variable {prog : Program} {w : World} {A : Around} {E : Value -> Shared -> Prop} {s : Shared}
end
end L2
namespace L2
open PySem PySem.Spec PyProof.Rows
section
variable {X : Cx} {pins : List (Addr × Obj)} {σ : St} {H : Hp} {s : Shared} {h' : Heap}
theorem Inv.turnedL {t' : Nat} {fp : List Addr} (I : Inv X pins σ H s) (k : ∀ b o, b ∉ fp -> s.heap.get? b = some o -> h'.get? b = some o) (hf : ∀ b ∈ fp, FpOk X pins H b) : Inv X pins σ H { s with heap := h', toks := t' } := by
  have nit : ∀ b u, H b = some u -> b ∉ fp := fun b u e z => by rw [(hf b z).1] at e; cases e
  have nL : X.env.locals ∉ fp := fun z => (hf _ z).2.1 rfl
  refine I.step (g' := s.gens) (d' := s.drawn) (ch := fp) (fun b hb => let ⟨_, b1, _, b3, b4, b5⟩ := hf b hb; ⟨b3, b1, b4, b5⟩) (fun b o _ _ hc e _ => k b o hc e) (fun b o _ _ hc e _ => ⟨o.slots, k b o hc e⟩) (fun _ _ _ _ n => n)
    (fun b o hc e => ⟨o, k b o hc e⟩) (fun _ _ e => e) (fun _ _ _ e => e) (fun b ps e => ⟨#[], by rw [e]; simp⟩) (fun m hm => ?_) (fun b u e => ?_) I.bare
  · obtain ⟨o, es, ep, ho, r⟩ := hm
    exact ⟨o, es, ep, k _ o nL ho, r⟩
  · refine (I.hok b u e).stay (fun c v hc q => k c v ?_ q) (fun _ q => q) fun _ _ q => q
    rcases hc with z | z
    · rw [z]; exact nit b u e
    · exact nit c _ z
theorem Inv.turnLay {t' : Nat} {fp : List Addr} {T : Addr} {o : HO} (I : Inv X pins σ H s) (k : ∀ b o, b ∉ fp -> s.heap.get? b = some o -> h'.get? b = some o) (hf : ∀ b ∈ fp, FpOk X pins H b) (hT : s.heap.objs.size <= T) (new : ObjOk X.prog X.w (zG H T o) h' T o) :
    Inv X pins σ (zG H T o) { s with heap := h', toks := t' } := by
  have hn : H T = none := I.hok.fresh hT
  have nit : ∀ b u, H b = some u -> b ∉ fp := fun b u e z => by rw [(hf b z).1] at e; cases e
  have nL : X.env.locals ∉ fp := fun z => (hf _ z).2.1 rfl
  have neT : ∀ b o, s.heap.get? b = some o -> b ≠ T := fun b o e => Nat.ne_of_lt (Nat.lt_of_lt_of_le (Heap.lt_size e) hT)
  refine I.step (g' := s.gens) (d' := s.drawn) (ch := fp) (fun b hb => let ⟨_, b1, _, b3, b4, b5⟩ := hf b hb; ⟨b3, b1, b4, b5⟩) (fun b o _ _ hc e _ => k b o hc e) (fun b o _ _ hc e _ => ⟨o.slots, k b o hc e⟩) (fun b o _ e n => by rw [zx (neT b o e)]; exact n)
    (fun b o hc e => ⟨o, k b o hc e⟩) (fun b xs q => by rw [zx (zF q hn)]; exact q) (fun b u xs q => by rw [zx (zF q hn)]; exact q) (fun b ps q => ⟨#[], by rw [zx (zF q hn), q]; simp⟩) (fun m hm => ?_) (fun b u e => ?_) I.bare
  · obtain ⟨o, es, ep, ho, r⟩ := hm
    exact ⟨o, es, ep, k _ o nL ho, r⟩
  · by_cases hb : b = T
    · subst hb; rw [yI] at e; cases e; exact new
    · rw [zx hb] at e
      refine (I.hok b u e).stay (fun c v hc q => k c v ?_ q) (fun c q => by rw [zx (zF q hn)]; exact q) fun c xs q => by rw [zx (zF q hn)]; exact q
      rcases hc with z | z
      · rw [z]; exact nit b u e
      · exact nit c _ z
end
end L2
namespace L2
open PySem PySem.Spec PyProof.Rows
section
variable {X : Cx}
end
section
variable {X : Cx}
end
end L2
namespace L2
open PySem PySem.Spec PyProof.Rows
section
variable {X : Cx} {pins : List (Addr × Obj)} {σ : St} {H : Hp} {s : Shared}
end
end L2
namespace M
open PySem L2
section
variable {X : Cx} {cls : Nat -> Option Addr} {pn : List Nat} {a e : Expr} {es : List Expr} {pos p pc tp : Pos} {x : Str} {ma : MO}
end
def Qp : List D -> Option (List Str)
  | [] => some []
  | .str i :: r => (Qp r).map (i :: ·)
  | _ :: _ => none
section
variable {Γ : Cn} {E : Addr -> Prop} {H : Hp}
theorem WJ : ∀ {ds : List D} {ns : List Str}, Qp ds = some ns -> ds = ns.map D.str
  | [], _, h => by cases h; rfl
  | d :: r, ns, h => by
    cases d with
    | str i =>
      unfold Qp at h
      cases e : Qp r with
      | none => rw [e] at h; cases h
      | some ms => rw [e] at h; cases h; rw [WJ e]; rfl
    | _ => cases h
theorem zca (ns : List Str) : Qp (ns.map D.str) = some ns := by
  induction ns with
  | nil => rfl
  | cons i r ih => show (Qp (r.map D.str)).map _ = _; rw [ih]; rfl
theorem zdl {α : Type} {f : α -> D} {g : α -> V} (hf : ∀ a, jW (f a) = true) (hg : ∀ a, vD (f a) = g a) {ns : List α} {xs : List V} (r : Reps Γ E H xs (ns.map f)) : xs = ns.map g := by
  refine List.ext_getElem? fun i => ?_
  have hl := r.1
  rw [List.length_map] at hl
  cases e : ns[i]? with
  | none => rw [List.getElem?_map, e, List.getElem?_eq_none (by rw [hl]; exact List.getElem?_eq_none_iff.mp e)]; rfl
  | some n =>
    obtain ⟨v, h1, h2⟩ := r.get (i := i) (d := f n) (by rw [List.getElem?_map, e]; rfl)
    rw [h1, List.getElem?_map, e, h2.flat (hf n), hg]; rfl
theorem WK {ns : List Str} {xs : List V} (r : Reps Γ E H xs (ns.map D.str)) : xs = ns.map V.str := zdl (fun _ => rfl) (fun _ => rfl) r
theorem zdm {v : V} {ds : List D} (r : yQ Γ E H v (.lst ds)) : ∃ a xs, v = .ref a /\ H a = some (.lst xs) /\ Reps Γ E H xs ds := r
def zhp : D -> Option (List D) | .lst ds => some ds | _ => none
theorem zcb {v : V} {d : D} {ns : List Str} (r : yQ Γ E H v d) (h : (zhp d).bind Qp = some ns) : ∃ a, v = .ref a /\ yM Γ.K H a (ns.map V.str) := by
  cases d with
  | lst ds =>
    obtain ⟨a, xs, rfl, hH, rs⟩ := zdm r
    rw [WJ (ds := ds) h] at rs
    exact ⟨a, rfl, .inl (.inl (by rw [hH, WK rs]))⟩
  | _ => cases h
end
section
variable {Γ : Cn}
end
section
variable {X : Cx} {cls : Nat -> Option Addr} {pn : List Nat} {a e de : Expr} {es : List Expr} {pos p p2 pos2 kp : Pos} {x : Str} {ma : MO} {md : ME}
end
section
variable {Γ : Cn}
end
section
variable {X : Cx} {cls : Nat -> Option Addr} {pn : List Nat} {a b e de : Expr} {es : List Expr} {pos p p2 pos2 kp : Pos} {x : Str} {ma mb : MO}
end
def za4 (x : D) : Option (List Str) := (zhp x).bind Qp
section
variable {X : Cx} {cls : Nat -> Option Addr} {pn : List Nat} {a b e de : Expr} {es : List Expr} {pos p p2 pos2 kp : Pos} {x : Str} {ma mb : MO}
end
end M
namespace M
open PySem L2
section
variable {Γ : Cn} {pn : List Nat}
end
variable {z : Nat -> Env -> Prop}
section
variable {X : Cx} {cls : Nat -> Option Addr} {pn : List Nat} {a e o : Expr} {es tes : List Expr} {pos p apos tp : Pos} {kt : Nat} {m : MA} {x : Str}
end
section
variable {X : Cx} {cls : Nat -> Option Addr} {pn : List Nat} {e o : Expr} {es : List Expr} {pos apos : Pos} {m : Str} {k : Nat} {ps : List Str} {tbl : Nat -> Option Fn} {ma : ME} {mr : MA}
end
section
variable {Γ : Cn} {pn : List Nat}
end
section
variable {X : Cx} {cls : Nat -> Option Addr} {pn : List Nat} {pos p py : Pos} {x y : Str}
end
end M
namespace M
open PySem L2
end M
namespace M
open PySem L2
def j6 (z : Str) (y : D) : Option D := (za4 y).bind fun ys => if (ys.map (·.length)).sum + ys.length * z.length <= 100000 then some (.str (Txt.join z ys)) else none
def za5 (a : ME) (b : MO) : ME := fun ρ q => a ρ fun x ρ1 => match x with | .str z => b ρ1 fun r ρ2 => r.on ρ2 fun y => jj (fun d => q d ρ2) (j6 z y) | _ => False
def jl (a : G D) (b : G Opd) : G D := fun ρ => (a ρ).bind fun x ρ1 => match x with | .str z => (b ρ1).bind fun r ρ2 => yj ((r.get ρ2).bind fun y => j6 z y) ρ2 | _ => .no
variable {z : Nat -> Env -> Prop}
instance {a : ME} {b : MO} {ga : G D} {gb : G Opd} [Ag z a ga] [Ag z b gb] : Ag z (za5 a b) (jl ga gb) := ⟨fun ρ q h => by
 unfold jl at h
 unfold za5
 exact Ag.step h fun x ρ1 h => by
  cases x with
  | str w => exact Ag.step h fun r ρ2 h => jC (zR (yy (yx h)) fun _ h => h)
  | _ => exact False.elim h⟩
section
variable {X : Cx} {cls : Nat -> Option Addr} {pn : List Nat} {a e : Expr} {cpos apos : Pos} {ma : ME} {mb : MO}
theorem Z2 (ha : DE X cls pn a ma) (hb : DO X cls pn e mb) (hbase : attributeBase a "join" X.env (eval a X.env) = eval a X.env := by kernel_rfl) (hfew : ((backTo cpos (starEach [e] X.env)).all (fun x => !x.1) && (backToKw cpos (keywordEach [] X.env)).all (fun x => x.1.isSome)
      && decide (([e] : List Expr).length + ([] : List Keyword).length + (if ([] : List Keyword).isEmpty then 0 else 1) < 30)) = true := by kernel_rfl) (hline : (apos.endLine == cpos.line) = true := by kernel_rfl) (hs : starEach [e] X.env = [(false, eval e X.env)] := by kernel_rfl) :
    DE X cls pn (.Call (.Attribute a "join" apos) [e] [] cpos) (za5 ma mb) := by
  obtain ⟨ta, pa, ja⟩ := ha.h
  obtain ⟨tb, pb, jb⟩ := hb.h
  refine ⟨_, zdZ PySem.F.plainAttrs_str PySem.F.slot_str_join PySem.F.type_str_join zeN pa (jd pb Ju hs) hbase hfew hline hs rfl, fun S σ ρ H τ Q q hp R hm hq => ja S σ ρ H τ _ _ hp R hm fun v d H1 ρ1 R1 r1 q1 => ?_⟩
  cases d with
  | str w =>
    cases Rq r1
    refine ⟨rfl, jb S σ ρ1 H1 τ _ _ hp R1 q1 fun v2 r2 H2 ρ2 τ2 R2 o2 q2 => ?_⟩
    obtain ⟨dy, ry, q2⟩ := R2.read o2 q2
    unfold j6 at q2
    cases e : za4 dy with
    | none => rw [e] at q2; exact False.elim q2
    | some ys =>
      rw [e] at q2
      dsimp only [Option.bind_some] at q2
      split at q2
      · rename_i hl
        obtain ⟨b, rfl, sq⟩ := zcb ry e
        exact ⟨w, b, ys, rfl, rfl, sq, Nat.le_trans hl (by decide), hq _ _ H2 ρ2 R2.cut (.str _) q2⟩
      · exact False.elim q2
  | _ => exact False.elim q1
end
end M
namespace M
open PySem L2
end M
namespace L2
open PySem PySem.Spec PyProof.Rows
def Ub (i j : Int) : Prop := 0 < j /\ j < 18446744073709551616
theorem zdn {X : Cx} : ye X (binaryOp .FloorDiv) (rI Ub fun i j => .int (i / j)) := opI fun i j _ _ _ _ _ hc q => by
  have h1 : (0 : Int) < j := hc.1
  have h2 : j < 18446744073709551616 := hc.2
  refine floordiv_int (by omega) (by rw [Int.fdiv_eq_ediv_of_nonneg i (by omega)]; exact q) (.inl (PyProof.noPylong_of_log2 ?_))
  have hn : j.natAbs ≠ 0 := by omega
  have hl : j.natAbs < 2 ^ 64 := by have : (2 : Nat) ^ 64 = 18446744073709551616 := by decide
                                    omega
  exact Nat.lt_trans ((Nat.log2_lt hn).mpr hl) (by decide)
end L2
namespace M
open PySem L2
def zcc : F2 := fI Ub fun i j => .int (i / j)
instance {i j : Int} : Decidable (Ub i j) := inferInstanceAs (Decidable (_ /\ _))
def QO := hI Ub fun i j => .int (i / j)
instance : zM zcc QO := inferInstanceAs (zM (fI _ _) (hI _ _))
theorem Yw {X : Cx} {cls : Nat -> Option Addr} {pn : List Nat} {a b : Expr} {pos : Pos} {ma mb : MO} (ha : DO X cls pn a ma) (hb : DO X cls pn b mb) : DE X cls pn (.BinOp a .FloorDiv b pos) (jz zcc ma mb) := QX zdn (zaM (fun _ _ => rfl) fun _ _ => rfl) ha hb
end M
namespace M
open PySem L2
abbrev FI (K : PySem.W.Frag) (C : Addr) (m : Str) (f : Addr) : Prop := PySem.W.findIn K (.ref C) m = some (some (.ref f))
abbrev FN0 (K : PySem.W.Frag) (C : Addr) (m : Str) : Prop := PySem.W.findIn K (.ref C) m = some none
abbrev NI (K : PySem.W.Frag) (x : Str) (f : Addr) : Prop := PySem.W.nsIn K mainGlobals x = some (some (.ref f))
abbrev NZ (K : PySem.W.Frag) (x : Str) : Prop := PySem.W.nsIn K mainGlobals x = some none
abbrev CI (K : PySem.W.Frag) (cd : Value) (x : Str) : Prop := PySem.W.codeIn K cd x = true
abbrev KI (K : PySem.W.Frag) (f : Addr) : Prop := PySem.W.keepIn K (.ref f) = true
abbrev LK (K : PySem.W.Frag) (f : Addr) (oc : Value) (od : Option Addr) (x q : Str) (st : Stmt) (kV dc pm : Value) (an : Option Addr) (cd ct : Value) (sl : Array (Option Value)) : Prop := K.lookup f = some ⟨oc, od, .func (PySem.W.fnOf x q (JY st) (jP st) (zt st) .none kV dc pm an cd ct), sl⟩
end M
namespace PySem
open Sem (wp)
section
variable {prog : Program} {w : World} {A : Around} {E : Value -> Shared -> Prop} {s : Shared}
theorem Uc {it l : Addr} {i : Nat} {items} {x : Value} {Q : Value -> Shared -> Prop} (hit : s.heap.IsTupleIter it l i) (hl : s.heap.IsTuple l items) (hx : items[i]? = some x)
    (hQ : ∀ h', h'.IsTupleIter it l (i + 1) -> Heap.SameBut it s.heap h' -> Q x { s with heap := h' }) : wpAny (model prog w) A (Builtin.SmallTypes.nextOf (.ref it)) Q E s := by
  have ⟨o, ho, hc, hd⟩ := hit
  have ⟨ol, hol, _, nl, hdl⟩ := hl
  unfold Builtin.SmallTypes.nextOf
  refine wpAny_bind (wpAny_callSpecial?_slot (name := Str.ofString "__next__") hit.typeIs F.slot_tuple_iterator_next (wpAny_call_entry F.slot_tuple_iterator_next hit.typeIs F.entry_tuple_iterator_next ?_ (F.args_tuple_iterator_next_1 _)))
  show wpAny _ _ (field (.ref it) 0 >>= _) _ _ s; refine wpAny_bind (wpAny_field ho hd (x := .ref l) rfl ?_)
  show wpAny _ _ (if (Value.ref l == Value.none) = true then _ else _) _ _ s; rw [if_neg (show ¬ ((Value.ref l == Value.none) = true) from Bool.false_ne_true)]
  show wpAny _ _ (field (.ref it) 1 >>= _) _ _ s; refine wpAny_bind (wpAny_field ho hd (x := .int i 0) rfl ?_)
  show wpAny _ _ (seqItems? (.ref l) >>= _) _ _ s; refine wpAny_bind (wpAny_seqItems hol hdl ?_)
  simp only [Int.toNat_natCast, hx]; refine wpAny_bind (wpAny_setField ho hd (by simp) (wpAny_pure ⟨x, rfl, wpAny_pure (hQ _ ?_ (Heap.SameBut.update ..))⟩))
  exact ⟨_, Heap.get?_update_self _ ho (Obj.isFreed_of_fields (Obj.data_mapFields hd _)), (Obj.cls_mapFields ..).trans hc, by rw [Obj.data_mapFields hd]; simp [rawInt]⟩
theorem zcd {it l : Addr} {i : Nat} {items} {Q : Value -> Shared -> Prop} (hh : A.handled = none) (hit : s.heap.IsTupleIter it l i) (hl : s.heap.IsTuple l items) (hx : items[i]? = none)
    (hE : ∀ h' e, Heap.ExtBut it s.heap h' -> (∃ o, h'.get? e = some o /\ o.cls = .type "StopIteration") -> E (.ref e) { s with heap := h' }) : wpAny (model prog w) A (Builtin.SmallTypes.nextOf (.ref it)) Q E s := by
  have ⟨o, ho, hc, hd⟩ := hit
  have ⟨ol, hol, _, nl, hdl⟩ := hl
  unfold Builtin.SmallTypes.nextOf
  refine wpAny_bind (wpAny_callSpecial?_slot (name := Str.ofString "__next__") hit.typeIs F.slot_tuple_iterator_next (wpAny_call_entry F.slot_tuple_iterator_next hit.typeIs F.entry_tuple_iterator_next ?_ (F.args_tuple_iterator_next_1 _)))
  show wpAny _ _ (field (.ref it) 0 >>= _) _ _ s; refine wpAny_bind (wpAny_field ho hd (x := .ref l) rfl ?_)
  show wpAny _ _ (if (Value.ref l == Value.none) = true then _ else _) _ _ s; rw [if_neg (show ¬ ((Value.ref l == Value.none) = true) from Bool.false_ne_true)]
  show wpAny _ _ (field (.ref it) 1 >>= _) _ _ s; refine wpAny_bind (wpAny_field ho hd (x := .int i 0) rfl ?_)
  show wpAny _ _ (seqItems? (.ref l) >>= _) _ _ s; refine wpAny_bind (wpAny_seqItems hol hdl ?_)
  simp only [Int.toNat_natCast, hx]; refine wpAny_bind (wpAny_rule (wpAny_bind (wpAny_setField ho hd (by simp) ?_)))
  show wpAny _ _ (newExc (.type "StopIteration") [] >>= _) _ _ _; refine wpAny_bind ?_
  simp only [newExc, newTuple]; refine wpAny_bind (wpAny_newObj_type ?_ (by size_fits))
  refine wpAny_bind (m := firstArgMember _ _) (wpAny_of_eq (a := Value.none) (by first | rfl | (simp only [firstArgMember]; rfl)) (wpAny_newObj_type ?_ (by size_fits)))
  simp only [raiseNew]; refine wpAny_bind (wpAny_handled ?_)
  first | rw [show A.in1.handled = none from hh] | rw [hh]
  exact wpAny_bind (wpAny_pure (wpAny_throw (hE _ _ (((Heap.SameBut.update ..).extBut.push _).push _) ⟨_, Heap.get?_push_size _ rfl, rfl⟩)))
theorem zce {z TI TO i1 i2 l1 l2 : Addr} {k1 k2 : Nat} {xs ys : Array Value} {x y a b : Value} {Q : Option Value -> Shared -> Prop} (D : ZipApart z TI TO i1 i2 l1 l2) (hz : IsZip s.heap z TI TO .none) (hI : IsPair s.heap TI (.ref i1) (.ref i2)) (hO : IsPair s.heap TO a b)
    (h1 : s.heap.IsTupleIter i1 l1 k1) (h2 : s.heap.IsTupleIter i2 l2 k2) (hl1 : s.heap.IsTuple l1 xs) (hl2 : s.heap.IsTuple l2 ys) (hx : xs[k1]? = some x) (hy : ys[k2]? = some y)
    (hQ : ∀ h', IsZip h' z TI TO (rawInt s.heap.objs.size) -> IsPair h' TO x y -> h'.IsTupleIter i1 l1 (k1 + 1) -> h'.IsTupleIter i2 l2 (k2 + 1) -> IsPair h' s.heap.objs.size x y ->
      (∀ c o, c ∉ [z, TO, i1, i2] -> s.heap.get? c = some o -> h'.get? c = some o) -> Q (some (.ref s.heap.objs.size)) { s with heap := h' }) : wpAny (model prog w) A (pyNext (.ref z)) Q E s := by
  have hT : s.TypeIs (.ref z) "zip" := ⟨_, hz, rfl⟩
  unfold pyNext
  refine wpAny_bind (wpAny_attempt (wpAny_callSpecial?_slot (name := Str.ofString "__next__") hT F.slot_zip_next (wpAny_call_entry F.slot_zip_next hT F.entry_zip_next ?_ (F.args_zip_next_1 _))))
  show wpAny _ _ (field (.ref z) 2 >>= _) _ _ _; refine wpAny_bind (wpAny_field hz rfl (x := .bool false) rfl ?_)
  show wpAny _ _ (field (.ref z) 3 >>= _) _ _ _; refine wpAny_bind (wpAny_field hz rfl (x := .ref TI) rfl (wpAny_bind (wpAny_seqItems hI rfl ?_)))
  show wpAny _ _ (Builtin.SmallTypes.ownedTupleIsFree (.ref z) >>= _) _ _ _; refine wpAny_bind ?_
  unfold Builtin.SmallTypes.ownedTupleIsFree; refine wpAny_bind (wpAny_field hz rfl (x := .none) rfl (wpAny_pure ?_))
  simp only [if_true]; refine wpAny_bind (wpAny_rule (wpAny_bind (wpAny_field hz rfl (x := .ref TO) rfl (wpAny_bind (wpAny_setField_rec hz (by simp) fun g1 z1 s1 => ?_)))))
  replace z1 : IsZip g1 z TI TO .ellipsis := z1
  refine wpAny_bind ?_; simp only [List.zipIdx_cons, List.zipIdx_nil, List.forIn_cons, List.forIn_nil]
  refine wpAny_bind (wpAny_bind (wpAny_onRaise ?_)); show wpAny _ _ (Builtin.SmallTypes.nextOf (.ref i1) >>= _) _ _ _
  have e1 : ∀ c o, c ≠ z -> s.heap.get? c = some o -> g1.get? c = some o := fun c o n q => s1.extBut _ _ n q
  have tup : ∀ {h h' : Heap} {c : Addr} {vs : Array Value}, h.IsTuple c vs -> (∀ o, h.get? c = some o -> h'.get? c = some o) -> h'.IsTuple c vs := fun ⟨o, q, r⟩ k => ⟨o, k o q, r⟩
  have hl1' : Heap.IsTuple g1 l1 xs := tup hl1 fun o => e1 _ o D.l1z
  refine wpAny_bind (Uc (h1.at fun o => e1 _ o D.i1z) hl1' hx fun g2 it1 s2 => wpAny_pure ?_)
  have e2 : ∀ c o, c ≠ i1 -> g1.get? c = some o -> g2.get? c = some o := fun c o n q => s2.extBut _ _ n q
  have o2 : IsPair g2 TO a b := e2 _ _ D.TOi1 (e1 _ _ D.TOz hO)
  refine wpAny_bind (wpAny_seqItems o2 rfl (wpAny_bind (wpAny_updateSeq_pair o2 fun g3 o3 s3 => ?_)))
  replace o3 : IsPair g3 TO x b := o3
  have e3 : ∀ c o, c ≠ TO -> g2.get? c = some o -> g3.get? c = some o := fun c o n q => s3.extBut _ _ n q
  refine wpAny_bind (wpAny_letGo (wpAny_pure ?_))
  refine wpAny_bind (wpAny_bind (wpAny_onRaise ?_)); show wpAny _ _ (Builtin.SmallTypes.nextOf (.ref i2) >>= _) _ _ _
  have hl2' : Heap.IsTuple g3 l2 ys := tup hl2 fun o q => e3 _ o D.l2TO (e2 _ o D.l2i1 (e1 _ o D.l2z q))
  refine wpAny_bind (Uc (h2.at fun o q => e3 _ o D.TOi2.symm (e2 _ o D.i12.symm (e1 _ o D.i2z q))) hl2' hy fun g4 it2 s4 => wpAny_pure ?_)
  have e4 : ∀ c o, c ≠ i2 -> g3.get? c = some o -> g4.get? c = some o := fun c o n q => s4.extBut _ _ n q
  have o4 : IsPair g4 TO x b := e4 _ _ D.TOi2 o3
  refine wpAny_bind (wpAny_seqItems o4 rfl (wpAny_bind (wpAny_updateSeq_pair o4 fun g5 o5 s5 => ?_)))
  replace o5 : IsPair g5 TO x y := o5
  have e5 : ∀ c o, c ≠ TO -> g4.get? c = some o -> g5.get? c = some o := fun c o n q => s5.extBut _ _ n q
  refine wpAny_bind (wpAny_letGo (wpAny_pure (wpAny_pure (wpAny_bind (wpAny_seqItems o5 rfl (wpAny_bind (wpAny_newTuple ?_)))))))
  have sz : g5.objs.size = s.heap.objs.size := by rw [s5.1, s4.1, s3.1, s2.1, s1.1]
  have z5 : IsZip g5 z TI TO .ellipsis := e5 _ _ D.TOz.symm (e4 _ _ D.i2z.symm (e3 _ _ D.TOz.symm (e2 _ _ D.i1z.symm z1)))
  have a1 : g5.IsTupleIter i1 l1 (k1 + 1) := it1.at fun o q => e5 _ o D.TOi1.symm (e4 _ o D.i12 (e3 _ o D.TOi1.symm q))
  have a2 : g5.IsTupleIter i2 l2 (k2 + 1) := it2.at fun o q => e5 _ o D.TOi2.symm q
  have zlt : z < g5.objs.size := Heap.lt_size z5
  show wpAny _ _ (Builtin.SmallTypes.ownedTupleHandOut (.ref z) (.ref g5.objs.size) >>= _) _ _ _; refine wpAny_bind ?_
  unfold Builtin.SmallTypes.ownedTupleHandOut
  have z6 : IsZip (g5.push { cls := .type "tuple", data := .seq #[x, y] }) z TI TO .ellipsis := Heap.get?_push_of_some _ z5
  refine wpAny_bind (wpAny_setField_rec z6 (by simp) fun g7 z7 s7 => ?_)
  replace z7 : IsZip g7 z TI TO (rawInt g5.objs.size) := z7
  refine wpAny_setField_rec z7 (by simp) fun g8 z8 s8 => ?_
  replace z8 : IsZip g8 z TI TO (rawInt g5.objs.size) := z8
  have up : ∀ c o, c ≠ z -> g5.get? c = some o -> g8.get? c = some o := fun c o n q => s8.extBut _ _ n (s7.extBut _ _ n (Heap.get?_push_of_some _ q))
  have t8 : IsPair g8 g5.objs.size x y := s8.extBut _ _ (Nat.ne_of_gt zlt) (s7.extBut _ _ (Nat.ne_of_gt zlt) (Heap.get?_push_size _ rfl))
  rw [sz] at z8 t8
  refine wpAny_pure ⟨_, rfl, wpAny_pure ?_⟩
  show Q (some (.ref g5.objs.size)) _
  rw [sz]
  refine hQ g8 z8 (up _ _ D.TOz o5) (a1.at fun o q => up _ o D.i1z q) (a2.at fun o q => up _ o D.i2z q) t8 fun c o n q => ?_
  simp only [List.mem_cons, List.not_mem_nil, or_false, not_or] at n
  exact up c o n.1 (e5 c o n.2.1 (e4 c o n.2.2.2 (e3 c o n.2.1 (e2 c o n.2.2.1 (e1 c o n.1 q)))))
theorem zdo {z TI TO i1 i2 l1 l2 : Addr} {k1 : Nat} {xs : Array Value} {a b : Value} {Q : Option Value -> Shared -> Prop} (hh : A.handled = none) (D : ZipApart z TI TO i1 i2 l1 l2) (hz : IsZip s.heap z TI TO .none) (hI : IsPair s.heap TI (.ref i1) (.ref i2)) (hO : IsPair s.heap TO a b)
    (h1 : s.heap.IsTupleIter i1 l1 k1) (hl1 : s.heap.IsTuple l1 xs) (hx : xs[k1]? = none)
    (hQ : ∀ h', (∀ c o, c ∉ [z, TO, i1, i2] -> s.heap.get? c = some o -> h'.get? c = some o) -> Q none { s with heap := h' }) : wpAny (model prog w) A (pyNext (.ref z)) Q E s := by
  have hT : s.TypeIs (.ref z) "zip" := ⟨_, hz, rfl⟩
  unfold pyNext
  refine wpAny_bind (wpAny_attempt (wpAny_callSpecial?_slot (name := Str.ofString "__next__") hT F.slot_zip_next (wpAny_call_entry F.slot_zip_next hT F.entry_zip_next ?_ (F.args_zip_next_1 _))))
  show wpAny _ _ (field (.ref z) 2 >>= _) _ _ _; refine wpAny_bind (wpAny_field hz rfl (x := .bool false) rfl ?_)
  show wpAny _ _ (field (.ref z) 3 >>= _) _ _ _; refine wpAny_bind (wpAny_field hz rfl (x := .ref TI) rfl (wpAny_bind (wpAny_seqItems hI rfl ?_)))
  show wpAny _ _ (Builtin.SmallTypes.ownedTupleIsFree (.ref z) >>= _) _ _ _; refine wpAny_bind ?_
  unfold Builtin.SmallTypes.ownedTupleIsFree; refine wpAny_bind (wpAny_field hz rfl (x := .none) rfl (wpAny_pure ?_))
  simp only [if_true]; refine wpAny_bind (wpAny_rule (wpAny_bind (wpAny_field hz rfl (x := .ref TO) rfl (wpAny_bind (wpAny_setField_rec hz (by simp) fun g1 z1 s1 => ?_)))))
  replace z1 : IsZip g1 z TI TO .ellipsis := z1
  refine wpAny_bind ?_; simp only [List.zipIdx_cons, List.zipIdx_nil, List.forIn_cons, List.forIn_nil]
  refine wpAny_bind (wpAny_bind (wpAny_onRaise ?_)); show wpAny _ _ (Builtin.SmallTypes.nextOf (.ref i1) >>= _) _ _ _
  have e1 : ∀ c o, c ≠ z -> s.heap.get? c = some o -> g1.get? c = some o := fun c o n q => s1.extBut _ _ n q
  have hl1' : Heap.IsTuple g1 l1 xs := let ⟨o, q, r⟩ := hl1; ⟨o, e1 _ o D.l1z q, r⟩
  refine wpAny_bind (zcd hh (h1.at fun o => e1 _ o D.i1z) hl1' hx fun g2 e s2 ⟨oe, q, hc⟩ => ?_)
  have z2 : IsZip g2 z TI TO .ellipsis := s2 _ _ D.i1z.symm z1
  have ne : e ≠ z := fun x => by subst x; rw [z2] at q; cases q; simp at hc
  refine wpAny_setField_rec z2 (by simp) fun g3 _ s3 => wpAny_bind (wpAny_isInstance (T := "StopIteration") (b := true) ⟨oe, s3.extBut _ _ ne q, hc⟩ isSubtype_stop (wpAny_pure (hQ _ fun c o n q => ?_)))
  simp only [List.mem_cons, List.not_mem_nil, or_false, not_or] at n
  exact s3.extBut _ _ n.1 (s2 _ _ n.2.2.1 (e1 _ _ n.1 q))
end
end PySem
namespace PySem
open Sem (wp)
abbrev za6 (h : Heap) (a : Addr) : Heap := h.push { cls := .type "tuple_iterator", data := .fields #[.ref a, .int 0 0] }
abbrev za7 (h : Heap) (a b : Addr) : Heap := (za6 h a).push { cls := .type "tuple_iterator", data := .fields #[.ref b, .int 0 0] }
abbrev za8 (h : Heap) (a b : Addr) : Heap := (za7 h a b).push { cls := .type "tuple", data := .seq #[.ref h.objs.size, .ref (za6 h a).objs.size] }
abbrev za9 (h : Heap) (a b : Addr) : Heap := (za8 h a b).push { cls := .type "tuple", data := .seq #[.none, .none] }
abbrev US (h : Heap) (a b : Addr) : Heap := (za9 h a b).push { cls := .type "zip", data := .fields #[.none, .bool false, .bool false, .ref (za7 h a b).objs.size, .ref (za8 h a b).objs.size] }
theorem Heap.IsTuple.push' {h : Heap} {a : Addr} {xs : Array Value} (t : h.IsTuple a xs) (o : Obj) : (h.push o).IsTuple a xs := let ⟨u, q, r⟩ := t; ⟨u, Heap.get?_push_of_some _ q, r⟩
theorem za_ (a b : Addr) (xs ys : Array Value) :
    Meets (Builtin.«zip.__new__» ⟨[.type "zip", .ref a, .ref b], []⟩) (fun _ R s => s.heap.IsTuple a xs /\ s.heap.IsTuple b ys /\ R (.ok (.ret (.ref (za9 s.heap a b).objs.size))) { s with heap := US s.heap a b }) :=
  .of_wp fun prog w A R s h => by
    obtain ⟨hp, g, d, tk, os⟩ := s
    obtain ⟨h1, h2, h⟩ := h
    have hsub := sub_zip
    have k1 : Heap.IsTuple (Shared.heap ⟨hp, g, d, tk, os⟩) a xs := h1
    have k2 : Heap.IsTuple (Shared.heap ⟨hp.push { cls := .type "tuple_iterator", data := .fields #[.ref a, .int 0 0] }, g, d, tk, os⟩) b ys := Heap.IsTuple.push' h2 _
    wp_walk using wpAny_pyIter_tuple k1, wpAny_pyIter_tuple k2
    exact ⟨_, rfl, h⟩
section
variable {prog : Program} {w : World} {A : Around} {E : Value -> Shared -> Prop} {s : Shared}
theorem zcf {a b : Addr} {xs ys : Array Value} {Q : Value -> Shared -> Prop} (h1 : s.heap.IsTuple a xs) (h2 : s.heap.IsTuple b ys)
    (h : ∀ h', IsZip h' (s.heap.objs.size + 4) (s.heap.objs.size + 2) (s.heap.objs.size + 3) .none -> IsPair h' (s.heap.objs.size + 2) (.ref s.heap.objs.size) (.ref (s.heap.objs.size + 1)) ->
      IsPair h' (s.heap.objs.size + 3) .none .none -> h'.IsTupleIter s.heap.objs.size a 0 -> h'.IsTupleIter (s.heap.objs.size + 1) b 0 -> (∀ c o, s.heap.get? c = some o -> h'.get? c = some o) -> Q (.ref (s.heap.objs.size + 4)) { s with heap := h' }) :
    wpAny (model prog w) A (call (.type "zip") [.ref a, .ref b]) Q E s := by
  refine callType_new F.called_zip (by decide) (F.typeCall_zip_2 _ _) (F.newCall_zip_2 _ _) (fun obj => F.args_object_init_3 obj _ _) F.entry_zip_new (za_ a b xs ys) ⟨h1, h2, ?_⟩
  have n1 : (za6 s.heap a).objs.size = s.heap.objs.size + 1 := Heap.size_push ..
  have n2 : (za7 s.heap a b).objs.size = s.heap.objs.size + 2 := by rw [Heap.size_push, n1]
  have n3 : (za8 s.heap a b).objs.size = s.heap.objs.size + 3 := by rw [Heap.size_push, n2]
  have n4 : (za9 s.heap a b).objs.size = s.heap.objs.size + 4 := by rw [Heap.size_push, n3]
  have up : ∀ {h : Heap} {o : Obj} {c u}, h.get? c = some u -> (h.push o).get? c = some u := fun q => Heap.get?_push_of_some _ q
  have g5 : (US s.heap a b).get? (za9 s.heap a b).objs.size = some _ := Heap.get?_push_size _ rfl
  have g4 : (US s.heap a b).get? (za8 s.heap a b).objs.size = some _ := up (Heap.get?_push_size _ rfl)
  have g3 : (US s.heap a b).get? (za7 s.heap a b).objs.size = some _ := up (up (Heap.get?_push_size _ rfl))
  have g2 : (US s.heap a b).get? (za6 s.heap a).objs.size = some _ := up (up (up (Heap.get?_push_size _ rfl)))
  have g1 : (US s.heap a b).get? s.heap.objs.size = some _ := up (up (up (up (Heap.get?_push_size _ rfl))))
  show _ /\ _
  rw [n2, n3, n4] at g5
  rw [n1, n2] at g3
  rw [n3] at g4
  rw [n1] at g2
  rw [n4]
  exact ⟨⟨_, g5, rfl⟩, h _ g5 g3 g4 ⟨_, g1, rfl, rfl⟩ ⟨_, g2, rfl, rfl⟩ fun c o x => up (up (up (up (up x))))⟩
end
end PySem
namespace L2
open PySem PySem.Spec PyProof.Rows
def Itz (K : PySem.W.Frag) (a b : Addr) : It := ⟨fun i H => ∃ xs ys x y, SqT K H a xs /\ SqT K H b ys /\ xs[i]? = some x /\ ys[i]? = some y,
  fun i H v H' => ∃ T x y, v = .ref T /\ H T = none /\ H' = zG H T (.tup [x, y]) /\ (∀ xs, SqT K H a xs -> xs[i]? = some x) /\ ∀ ys, SqT K H b ys -> ys[i]? = some y,
  fun i H => ∃ xs ys, SqT K H a xs /\ SqT K H b ys /\ xs.length <= i⟩
theorem zdp {P : Program} {w : World} {K : PySem.W.Frag} {es : List Expr} {kt : Nat} {pt : Pos} (a b z TI TO i1 i2 : Addr) (D : ZipApart z TI TO i1 i2 a b) :
    Yi P w K (.Tuple es kt pt) (Itz K a b) [z, TO, i1, i2, TI] z (fun i h => (∃ u v, IsZip h z TI TO .none /\ IsPair h TI (.ref i1) (.ref i2) /\ IsPair h TO u v) /\ h.IsTupleIter i1 a i /\ h.IsTupleIter i2 b i) where
  mem := by simp
  obj := fun i h st c hc => by
    obtain ⟨⟨u, v, hz, hI, hO⟩, ⟨o1, e1, c1, d1⟩, ⟨o2, e2, c2, d2⟩⟩ := st
    simp only [List.mem_cons, List.not_mem_nil, or_false] at hc
    rcases hc with rfl | rfl | rfl | rfl | rfl
    · exact ⟨_, hz, fun v z => by cases z⟩
    · exact ⟨_, hO, fun v z => by cases z⟩
    · exact ⟨_, e1, fun v z => by rw [d1] at z; cases z⟩
    · exact ⟨_, e2, fun v z => by rw [d2] at z; cases z⟩
    · exact ⟨_, hI, fun v z => by cases z⟩
  keep := fun i h h' ⟨⟨u, v, hz, hI, hO⟩, h1, h2⟩ k => ⟨⟨u, v, k z (by simp) _ hz, k TI (by simp) _ hI, k TO (by simp) _ hO⟩, h1.at fun o q => k i1 (by simp) o q, h2.at fun o q => k i2 (by simp) o q⟩
  item := by
    intro X hP hw hK hc i pins s σ H E I hf st hg
    subst hP hw hK
    obtain ⟨xs, ys, x, y, ha, hb, hx, hy⟩ := hg
    obtain ⟨is, rv, p, _⟩ := I.tuple ha
    obtain ⟨js, rw', q, _⟩ := I.tuple hb
    obtain ⟨u, hu, ru⟩ := rv.get hx
    obtain ⟨v, hv, rv'⟩ := rw'.get hy
    obtain ⟨⟨o1, o2, hz, hI, hO⟩, h1, h2⟩ := st
    refine zce D hz hI hO h1 h2 (show s.heap.IsTuple a is.toArray from p) (show s.heap.IsTuple b js.toArray from q) (x := u) (y := v) (by simpa using hu) (by simpa using hv) fun h' z1 t1 k1 k2 T1 up => ?_
    refine ⟨_, rfl, wpAny_letOwnedTupleGo_zip z1 fun h2' z2 s2 => ?_⟩
    have lt : ∀ c ∈ [z, TO, i1, i2, TI], c < s.heap.objs.size := fun c hc => by
      obtain ⟨_, e1, _⟩ := h1
      obtain ⟨_, e2, _⟩ := h2
      simp only [List.mem_cons, List.not_mem_nil, or_false] at hc
      rcases hc with rfl | rfl | rfl | rfl | rfl
      · exact Heap.lt_size hz
      · exact Heap.lt_size hO
      · exact Heap.lt_size e1
      · exact Heap.lt_size e2
      · exact Heap.lt_size hI
    have nz : s.heap.objs.size ≠ z := Nat.ne_of_gt (lt z (by simp))
    have T2 : h2'.get? s.heap.objs.size = some _ := (s2.2 _ nz).trans T1
    have k0 : ∀ c o, c ∉ [z, TO, i1, i2, TI] -> s.heap.get? c = some o -> h2'.get? c = some o := fun c o n e => by
      simp only [List.mem_cons, List.not_mem_nil, or_false, not_or] at n
      exact (s2.2 c n.1).trans (up c o (by simp [n.1, n.2.1, n.2.2.1, n.2.2.2.1]) e)
    have I1 := I.turnLay (t' := s.toks) (T := s.heap.objs.size) (o := .tup [x, y]) k0 hf (Nat.le_refl _) ⟨by show 2 <= sizeLine; decide, [u, v], .cons ru (.cons rv' .nil), ⟨_, T2, rfl, _, rfl⟩⟩
    refine ⟨.ref s.heap.objs.size, _, I1, rfl, ⟨_, x, y, rfl, I.hok.fresh (Nat.le_refl _), rfl, fun zs h => by rw [I.tuple_inj h ha]; exact hx, fun zs h => by rw [I.tuple_inj h hb]; exact hy⟩,
      ⟨⟨u, v, z2, (s2.2 _ D.TIz).trans (up TI _ (by simp [D.TIz, D.TITO, D.TIi1, D.TIi2]) hI), (s2.2 _ D.TOz).trans t1⟩, k1.at fun o e => (s2.2 _ D.i1z).trans e, k2.at fun o e => (s2.2 _ D.i2z).trans e⟩, fun c hc => ?_⟩
    rw [zx (Nat.ne_of_lt (lt c hc))]
    exact (hf c hc).1
  done := by
    intro X hP hw hK hc i pins s σ H E I hf st hg
    subst hP hw hK
    obtain ⟨xs, ys, ha, hb, hx⟩ := hg
    obtain ⟨is, rv, p, _⟩ := I.tuple ha
    obtain ⟨⟨o1, o2, hz, hI, hO⟩, h1, h2⟩ := st
    have hl := rv.length
    refine zdo (I.ok.hd hc) D hz hI hO h1 (show s.heap.IsTuple a is.toArray from p) (by simp; omega) fun h' up => ⟨rfl, I.turnedL (t' := s.toks) (fun c o n e => up c o (fun m => n ?_) e) hf⟩
    simp only [List.mem_cons, List.not_mem_nil, or_false] at m ⊢
    rcases m with m | m | m | m <;> simp [m]
  self := fun _ i s Q E st h => let ⟨⟨_, _, hz, _⟩, _⟩ := st; wpAny_pyIter_zip hz h
def zhq (K : PySem.W.Frag) (ta : TA) : TI := fun σ H R => ta σ H fun vs H1 => ∃ a b, vs = [.ref a, .ref b] /\ (∃ xs ys, SqT K H1 a xs /\ SqT K H1 b ys) /\ R (Itz K a b) H1
theorem Vals.two' {v1 v2 : V} {us : List Value} (r : Vals [v1, v2] us) : ∃ u1 u2, us = [u1, u2] /\ RelV v1 u1 /\ RelV v2 u2 := by
  cases r with
  | cons h1 r => cases r with
    | cons h2 r => cases r; exact ⟨_, _, rfl, h1, h2⟩
theorem zhr {X : Cx} {es : List Expr} {kt : Nat} {pt p pos : Pos} {e f : Expr} {ta : TA} (hg : Gl X "zip") (hm : X.mg "zip" = none) (ha : PA X [e, f] ta) (hs : starEach [e, f] X.env = (false, eval e X.env) :: starEach [f] X.env := by kernel_rfl)
    (hp : (backTo pos (starEach [f] X.env)).any (·.1) = false := by kernel_rfl) : PI X (.Tuple es kt pt) (.Call (.Name "zip" p) [e, f] [] pos) (zhq X.K ta) := by
  intro pins s σ H R I h
  refine Call_ (Zo I hg hm (by rfl) (PyProof.Rows.callWith_type1 (zC (ha pos pins s σ H _ I h) fun us s1 ⟨vs, H1, I1, r1, q1⟩ => ?_) hs hp))
  obtain ⟨a, b, rfl, ⟨xs, ys, hx, hy⟩, q⟩ := q1
  obtain ⟨u, u', rfl, ru, ru'⟩ := r1.two'
  cases ru
  cases ru'
  obtain ⟨is, rv, pl, _⟩ := I1.tuple hx
  obtain ⟨js, rw', ql, _⟩ := I1.tuple hy
  refine zcf (show s1.heap.IsTuple a is.toArray from pl) (show s1.heap.IsTuple b js.toArray from ql) fun h' hz hI hO h1 h2 k => ?_
  have I2 : Inv X pins σ H1 { s1 with heap := h' } := I1.kept (t' := s1.toks) k
  refine wpAny_pyIter_zip hz ?_
  have la : a < s1.heap.objs.size := let ⟨_, e, _⟩ := pl; Heap.lt_size e
  have lb : b < s1.heap.objs.size := let ⟨_, e, _⟩ := ql; Heap.lt_size e
  refine ⟨s1.heap.objs.size + 4, _, _, _, H1, rfl, I2, zdp a b _ _ _ _ _ (zipApart_new la lb), ⟨⟨_, _, hz, hI, hO⟩, h1, h2⟩, fun c hc => ?_, q⟩
  have le : s1.heap.objs.size <= c := by
    simp only [List.mem_cons, List.not_mem_nil, or_false] at hc
    rcases hc with rfl | rfl | rfl | rfl | rfl <;> omega
  exact I1.fpOk le (I1.hok.fresh le)
end L2
namespace PySem.AutoSeq1
open PySem PySem.Spec PyProof.Rows
theorem ext_tup (l : Addr) (items : Array Value) (n : Nat) (b : Addr) (items2 : Array Value) (hs0 : ¬(!items.isEmpty && Builtin.List.listTooLong (items.size + items2.size)) = true) (hs1 : items.size <= sizeLine) (hs2 : items.size + items2.size <= sizeLine + 1) :
    Meets (Builtin.«list.extend» ⟨[.ref l, .ref b], []⟩) (fun _ R s => s.heap.get? l = some { cls := .type "list", dict := none, data := .seq items n, slots := #[] } /\ IsTup s.heap b items2 /\ R (.ok (.ret Value.none)) { s with heap := s.heap.update l (Obj.mapSeq fun x => x ++ items2), toks := s.toks }) :=
  .of_wp fun prog w A R s h => by
    obtain ⟨hp, g, d, tk, os⟩ := s
    obtain ⟨hl, ⟨o, ho, hc, n2, hd⟩, h⟩ := h
    obtain ⟨c, d', dat, sl⟩ := o
    cases hc
    cases hd
    have f1 := idx_int
    have f2 := sub_tuple_tuple
    have f3 := sub_list_list
    have f4 := sub_tuple_list
    have f5 := sub_list_tuple
    have hz' : (items ++ items2).size <= sizeLine + 1 := by rw [Array.size_append]; exact hs2
    wp_walk using (wpAny_updateSeq hl rfl (hz := hs1) (_hz' := hz')), wpAny_loadPart' hl, wpAny_loadPart' ho
    exact ⟨_, rfl, h⟩
end PySem.AutoSeq1
namespace PyProof.Rows.KTD
open PySem PySem.Spec PySem.Calls PyProof.V
section
variable {prog : Program} {w : World} {A : Around} {E : Value -> Shared -> Prop} {s : Shared} {δ : Type} {R : δ -> Value -> Prop} {D : List (Str × δ)} {a : Addr} {k : Str} {tk : Tok}
theorem TabOf.ty (T : TabOf R s.heap a D) : s.TypeIs (.ref a) "dict" := let ⟨_, o, _, _, ho, hc, _⟩ := T; ⟨o, ho, hc.1⟩
theorem Ud {Q : Option Value -> Shared -> Prop} {o : Obj} {es : Array DictEntry} {ep : Nat} (ho : s.heap.get? a = some o) (hd : o.data = .dict es ep) (hr : Rows R es.toList D) (h : Q ((es.toList.find? fun e => e.key.isStr k).map (·.val)) { s with toks := s.toks + 1 }) : wpAny (model prog w) A (dictGet a (.str k tk)) Q E s := by
  unfold dictGet; try with_reducible refine wpAny_holding ?_
  refine wpAny_bind (wpAny_pyHash_str (wpAny_bind (kt_dictFind_strs (s := { s with toks := s.toks + 1 }) ho hd (by obtain ⟨l⟩ := es; simpa using hr.exact) ?_)))
  have e : findBy (fun k v => v.isStr k) es k = (es.toList.find? fun e => e.key.isStr k).map (·.val) := by obtain ⟨l⟩ := es; simp [findBy]
  rw [← e, findBy_of_findIdx?] at h
  cases c : es.findIdx? fun e => e.key.isStr k with
  | none => rw [c] at h; exact wpAny_pure h
  | some i => rw [c] at h; exact wpAny_bind (wpAny_dictEntries (s := { s with toks := s.toks + 1 }) ho hd (wpAny_pure h))
theorem getItem_es {Q : Value -> Shared -> Prop} {o : Obj} {es : Array DictEntry} {ep : Nat} {v : Value} (T : s.TypeIs (.ref a) "dict") (ho : s.heap.get? a = some o) (hd : o.data = .dict es ep) (hr : Rows R es.toList D) (hv : (es.toList.find? fun e => e.key.isStr k).map (·.val) = some v) (h : Q v { s with toks := s.toks + 1 }) : wpAny (model prog w) A (getItem (.ref a) (.str k tk)) Q E s := by
  unfold getItem; try with_reducible refine wpAny_holding ?_
  refine wpAny_bind (wpAny_sequenceKey T (by decide) (wpAny_bind (wpAny_callSpecial?_slot (name := Str.ofString "__getitem__") T slot_dict_getitem (wpAny_call_entry slot_dict_getitem T entry_dict_getitem ?_ (args_dict_getitem _ _)))))
  show wpAny _ _ (dictGet a (.str k tk) >>= _) _ _ s
  exact wpAny_bind (Ud ho hd hr (by rw [hv]; exact wpAny_pure ⟨v, rfl, wpAny_pure h⟩))
theorem has_tab {Q : Bool -> Shared -> Prop} (T : TabOf R s.heap a D) (h : Q (datumAt k D).isSome { s with toks := s.toks + 1 }) : wpAny (model prog w) A (contains (.ref a) (.str k tk)) Q E s := by
  unfold contains; try with_reducible refine wpAny_holding ?_
  refine wpAny_bind (wpAny_specialOf T.ty slot_dict_contains.lookup ?_)
  show wpAny _ _ (if (some (Value.builtin "dict.__contains__") == some Value.none) = true then _ else _) _ E s; rw [if_neg (by rw [beq_builtin_none]; exact Bool.false_ne_true)]
  refine wpAny_bind (wpAny_callSpecialUnlessNone?_slot (name := Str.ofString "__contains__") T.ty slot_dict_contains (wpAny_call_entry slot_dict_contains T.ty entry_dict_contains ?_ (args_dict_contains _ _)))
  show wpAny _ _ (dictGet a (.str k tk) >>= _) _ _ s
  obtain ⟨h0, o, es, ep, ho, _, hd, hr⟩ := T
  refine wpAny_bind (Ud ho hd hr ?_)
  cases c : datumAt k D with
  | some d => obtain ⟨v, hv, _⟩ := hr.find_some c; rw [hv]; rw [c] at h; exact wpAny_pure ⟨_, rfl, wpAny_truthy_bool h⟩
  | none =>
    rw [hr.find_none c]; rw [c] at h
    show wpAny _ _ (Builtin.Dict.pendingKey? a (.str k tk) >>= _) _ _ _; exact wpAny_bind (wpAny_pendingKey_other h0 (wpAny_pure ⟨_, rfl, wpAny_truthy_bool h⟩))
end
end PyProof.Rows.KTD
namespace L2
open PySem PySem.Spec PyProof.Rows
variable {X : Cx}
def zel (K : PySem.W.Frag) : V -> List V -> Hp -> VK -> Prop := fun x vs H Q => ∃ l b xs zs, x = .ref l /\ vs = [.ref b] /\ H l = some (.lst xs) /\ SqT K H b zs /\ xs.length + zs.length <= sizeLine /\ Q .non (zG H l (.lst (xs ++ zs)))
theorem zfg : MtM X "list.extend" (zel X.K) := by
  intro pins s σ H x vs v us Q I rx rv h
  obtain ⟨l, b, xs, zs, rfl, rfl, hH, hB, hz, q⟩ := h
  cases rx
  obtain ⟨u, rfl, ru⟩ := rv.one
  cases ru
  obtain ⟨z, its, n, r, hl, e⟩ := I.lstM hH
  obtain ⟨js, r2, e2, _⟩ := I.tuple hB
  have l2 := r2.length
  have hsz : its.toArray.size + js.toArray.size <= sizeLine := by rw [List.size_toArray, List.size_toArray]; omega
  have hlong : ¬ (!its.toArray.isEmpty && Builtin.List.listTooLong (its.toArray.size + js.toArray.size)) = true := by rw [V6 hsz, Bool.and_false]; exact Bool.false_ne_true
  refine call_meets F.slot_list_extend ⟨_, e, rfl⟩ F.entry_list_extend (F.args_list_extend_2 _ _) (AutoSeq1.ext_tup l its.toArray n b js.toArray hlong (by rw [List.size_toArray]; omega) (by omega)) ⟨e, e2, ?_⟩
  refine ⟨.non, _, I.lset (its' := its ++ js) hH e (by simp) (r.append r2) ?_, rfl, q⟩
  rw [List.length_append]; omega
end L2
namespace M
open PySem L2
def RT (K : PySem.W.Frag) (ss : List Str) (v : Value) : Prop := ∃ t, v = .ref t /\ Va K t (ss.map V.str)
theorem KnD.tab {X : Cx} {pins : List (Addr × Obj)} {σ : St} {H : Hp} {s : Shared} {a : Addr} {kvs : List (Str × List Str)} (I : Inv X pins σ H s) (h : KnD X.K a kvs) : PyProof.Rows.KTD.TabOf (RT X.K) s.heap a kvs :=
  let ⟨h0, o, es, n, ho, hc, hd, hr⟩ := h; ⟨h0, o, es, n, I.kIn a o ho, hc, hd, hr⟩
def zem (K : PySem.W.Frag) (neg : Bool) : R2 := fun x y H Q => ∃ k a kvs, x = .str k /\ y = .ref a /\ KnD K a kvs /\ Q (.bl (if neg then !(PyProof.Rows.KTD.datumAt k kvs).isSome else (PyProof.Rows.KTD.datumAt k kvs).isSome)) H
theorem zba {X : Cx} : ye X (compareOp .NotIn) (zem X.K true) := by
  intro pins s σ H x y v u Q I rx ry h
  obtain ⟨k, a, kvs, rfl, rfl, hd, q⟩ := h
  obtain ⟨t, rfl⟩ := rx
  cases ry
  show wpAny _ _ ((do return .bool (!(← contains (.ref a) (.str k t)))) : Sem Value) _ _ s
  exact wpAny_bind (PyProof.Rows.KTD.has_tab (hd.tab I) (wpAny_pure ⟨.bl (!(PyProof.Rows.KTD.datumAt k kvs).isSome), H, I.tok _, rfl, q⟩))
def zen (K : PySem.W.Frag) : R2 := fun x y H Q => ∃ k a kvs ss, x = .ref a /\ y = .str k /\ KnD K a kvs /\ PyProof.Rows.KTD.datumAt k kvs = some ss /\ ∀ t, Va K t (ss.map V.str) -> Q (.ref t) H
theorem zie {X : Cx} : IxR X (zen X.K) := by
  intro value slice pins s σ H x y v u Q I rx ry h hs
  obtain ⟨k, a, kvs, ss, rfl, rfl, hd, hk, q⟩ := h
  cases rx
  obtain ⟨t, rfl⟩ := ry
  obtain ⟨h0, o, es, n, ho, hc, hd', hr⟩ := hd.tab I
  obtain ⟨v, hv, t', rfl, kt⟩ := hr.find_some hk
  exact PyProof.Rows.subscriptTail_builtinR (x := .ref t') ⟨o, ho, hc.1⟩ slot_dict_getitem.lookup (PyProof.Rows.KTD.getItem_es ⟨o, ho, hc.1⟩ ho hd' hr hv ⟨rfl, .ref t', H, I.tok _, rfl, q t' kt⟩) hs
end M
namespace M
open PySem L2
section
variable {Γ : Cn} {pn : List Nat} {X : Cx} {cls : Nat -> Option Addr} {a b e : Expr} {pos p apos cpos : Pos} {x : Str} {ma mb : MO} {z : Nat -> Env -> Prop}
theorem WZ : yO X (.type "str") (fun xs H Q => (∃ i, xs = [.int i] /\ i.natAbs.log2 < 1920 /\ Q (.str (toString i)) H) \/ ∃ x, xs = [.str x] /\ Q (.str x) H) := by
  intro pins s σ H xs us Q I r h
  rcases h with h | ⟨x, rfl, q⟩
  · exact VZ pins s σ H xs us Q I r h
  · obtain ⟨u, rfl, t, rfl⟩ := QQ r
    exact PySem.P.str_of_str ⟨.str x, H, I, ⟨_, rfl⟩, q⟩
def zbb : F1 := fun x q => match x with | .int i => i.natAbs < 10 ^ 30 /\ q (.str (toString i)) | .str y => q (.str y) | _ => False
theorem zfh : Qj Γ (fun x H Q => (∃ i, [x] = [.int i] /\ i.natAbs.log2 < 1920 /\ Q (.str (toString i)) H) \/ ∃ y, [x] = [.str y] /\ Q (.str y) H) zbb := fun E H x dx Q q _ rx h k => by
  cases dx with
  | int i =>
    refine .inl ⟨i, by rw [z4 rx], ?_, k _ _ H (Same.refl H) (.str _) h.2⟩
    by_cases h0 : i.natAbs = 0
    · rw [h0]; decide
    · exact (Nat.log2_lt h0).mpr (Nat.lt_of_lt_of_le h.1 (by decide +kernel))
  | str y => exact .inr ⟨y, by rw [y0 rx], k _ _ H (Same.refl H) (.str _) h⟩
  | _ => exact False.elim h
def jm : D -> Option D | .int i => if i.natAbs < 10 ^ 30 then some (.str (toString i)) else none | .str y => some (.str y) | _ => none
instance : UH zbb jm := ⟨fun x q h => by
  cases x with
  | int i =>
    unfold jm at h
    dsimp only at h
    split at h
    · exact ⟨‹_›, h⟩
    · exact False.elim h
  | str y => exact h
  | _ => exact False.elim h⟩
theorem jf (hg : Gl X "str") (hm : X.mg "str" = none) (ha : DO X cls pn a ma) (hs : starEach [a] X.env = [(false, eval a X.env)] := by kernel_rfl) : DE X cls pn (.Call (.Name "str" p) [a] [] pos) (Qr zbb ma) :=
  zaT WZ zfh hg hm (by kernel_rfl) ha hs
def WL : Vb := fun x y q => match x, y with | .lst a, .int k => (0 <= k /\ k < 100000 /\ a.length * k.toNat <= 100000) /\ q (List.replicate k.toNat a).flatten | _, _ => False
theorem Reps.rep {E : Addr -> Prop} {H : Hp} {xs : List V} {ds : List D} (r : Reps Γ E H xs ds) : ∀ n : Nat, Reps Γ E H (List.replicate n xs).flatten (List.replicate n ds).flatten
  | 0 => .nil
  | n + 1 => by rw [List.replicate_succ, List.replicate_succ, List.flatten_cons, List.flatten_cons]; exact r.append (Reps.rep r n)
theorem zhs : VB Γ zgx WL := fun E H x y dx dy Q q rx ry h k => by
  unfold WL at h
  split at h
  · obtain ⟨a, xs, rfl, ha, ra⟩ := rx
    obtain ⟨⟨h0, h1, h2⟩, h3⟩ := h
    exact ⟨a, _, xs, rfl, z4 ry, ha, by omega, by omega, by rw [ra.1]; exact Nat.le_trans h2 (by decide), fun p hp => k p _ _ H (Same.refl H) hp (ra.rep _) h3⟩
  · exact False.elim h
def Yx (x y : D) : Option (List D) := match x, y with | .lst a, .int k => if 0 <= k /\ k < 100000 /\ a.length * k.toNat <= 100000 then some (List.replicate k.toNat a).flatten else none | _, _ => none
instance : zdi WL Yx := ⟨fun x y q h => by
  unfold Yx at h
  unfold WL
  split at h
  · split at h
    · exact ⟨‹_›, h⟩
    · exact False.elim h
  · exact False.elim h⟩
theorem zht (ha : DO X cls pn a ma) (hb : DO X cls pn b mb) : DF X cls pn (.BinOp a .Mult b pos) (Uw WL ma mb) := zeb zgy zhs ha hb
def zbc (a : MO) (l u : Zk) : ME := fun ρ q => a ρ fun r ρ1 => l ρ1 fun lo ρ2 => u ρ2 fun hi ρ3 => r.on ρ3 fun x => match x with
  | .tup ds => ¬ (HT.sIx ds.length 0 lo = 0 /\ HT.sIx ds.length ds.length hi = ds.length) /\ q (.tup (yS ds lo hi)) ρ3
  | _ => False
theorem zhu {ta : TE} {tl tu : TO} {a : MO} {l u : Zk} (ha : JO Γ pn ta a) (hl : Wm Γ pn tl l) (hu : Wm Γ pn tu u) : JE Γ pn (tSl (zgo Γ.K) ta tl tu) (zbc a l u) := fun S σ ρ H τ Q q hp R hm hq =>
  ha S σ ρ H τ _ _ hp R hm fun v r1 H1 ρ1 τ1 R1 o1 q1 => hl S σ ρ1 H1 (τ1 ++ τ) _ _ hp R1 q1 fun lo H2 ρ2 R2 q2 => hu S σ ρ2 H2 (τ1 ++ τ) _ _ hp R2 q2 fun hi H3 ρ3 R3 q3 => by
    obtain ⟨dx, rx, q3⟩ := R3.read o1 q3
    cases dx with
    | tup ds =>
      obtain ⟨b, xs, rfl, hb, rs⟩ := Rep.tuple rx
      refine ⟨b, xs, rfl, SqT.of hb, by rw [rs.1]; exact q3.1, fun p hn => ?_⟩
      have t := Rp R3 (Yt (lo := lo) (hi := hi) rs) hn
      exact hq _ _ _ ρ3 t.1.cut t.2 q3.2
    | _ => exact False.elim q3
def WM (x : D) (lo hi : Option Int) : Option D := match x with | .tup ds => if HT.sIx ds.length 0 lo = 0 /\ HT.sIx ds.length ds.length hi = ds.length then none else some (.tup (yS ds lo hi)) | _ => none
def zbd (a : G Opd) (l u : G (Option Int)) : G D := fun ρ => (a ρ).bind fun r ρ1 => (l ρ1).bind fun lo ρ2 => (u ρ2).bind fun hi ρ3 => yj ((r.get ρ3).bind fun x => WM x lo hi) ρ3
instance {a : MO} {l u : Zk} {ga : G Opd} {gl gu : G (Option Int)} [Ag z a ga] [Ag z l gl] [Ag z u gu] : Ag z (zbc a l u) (zbd ga gl gu) :=
  ⟨fun ρ q h => by
 unfold zbd at h
 unfold zbc
 exact Ag.step h fun _ _ h => Ag.step h fun _ _ h => Ag.step h fun _ _ h => jC (zR (yy (yx h)) fun x h => by
    cases x with
    | tup w =>
      unfold WM at h
      dsimp only at h
      split at h
      · exact False.elim h
      · exact ⟨‹_›, h⟩
    | _ => exact False.elim h)⟩
theorem zhv {lo hi : Option Expr} {l u : Zk} {p2 : Pos} (ha : DO X cls pn a ma) (hl : DP X cls pn lo l) (hu : DP X cls pn hi u) : DE X cls pn (.Subscript a (.Slice lo hi none p2) pos) (zbc ma l u) :=
  let ⟨_, a, b⟩ := ha.h; let ⟨_, c, d⟩ := hl.h; let ⟨_, e, f⟩ := hu.h; ⟨_, V3 zgp a c e, zhu b d f⟩
def zbe : List D -> D -> (D -> List D -> Prop) -> Prop := fun ds d q => match d with | .tup es => ds.length + es.length <= 100000 /\ q .non (ds ++ es) | _ => False
theorem zfi {i : Nat} {ta : TE} {a : ME} (ha : JE Γ pn ta a) : JE Γ pn (tBM Γ.K "list" (zel Γ.K) (Qq i) (jV ta QR)) (ZS zbe i a) :=
  Rt ha fun E H p xs ds y d Q q hx rs ry hm k => by
    cases d with
    | tup es =>
      obtain ⟨b, zs, rfl, hb, rz⟩ := ry.tuple
      exact ⟨p, b, xs, zs, rfl, rfl, hx, SqT.of hb, by rw [rs.1, rz.1]; exact Nat.le_trans hm.1 (by decide), k _ _ _ _ .non (rs.append rz) hm.2⟩
    | _ => exact False.elim hm
def Ue (ds : List D) (d : D) : Option (D × List D) := match d with | .tup es => if ds.length + es.length <= 100000 then some (.non, ds ++ es) else none | _ => none
instance : AgM zbe Ue := ⟨fun ds d q h => by
  cases d with
  | tup es =>
    unfold Ue at h
    dsimp only at h
    split at h
    · exact ⟨‹_›, h⟩
    · exact False.elim h
  | _ => exact False.elim h⟩
theorem zfj (i : Nat) {m : ME} (ha : DE X cls pn e m) (i' : X.N[i]? = some x := by kernel_rfl) (hv : Zn X.env.scope x := by first | exact Or.inl rfl | exact Or.inr (Or.inl rfl) | exact Or.inr (Or.inr rfl)) (hd : (x == ("__debug__" : Str)) = false := by decide) (hcd : (x == ("__classdict__" : Str)) = false := by decide)
    (hbase : attributeBase (.Name x p) "extend" X.env (eval (.Name x p) X.env) = eval (.Name x p) X.env := by kernel_rfl) (hfew : ((backTo cpos (starEach [e] X.env)).all (fun x => !x.1) && (backToKw cpos (keywordEach [] X.env)).all (fun x => x.1.isSome)
      && decide (([e] : List Expr).length + ([] : List Keyword).length + (if ([] : List Keyword).isEmpty then 0 else 1) < 30)) = true := by kernel_rfl) (hline : (apos.endLine == cpos.line) = true := by kernel_rfl) (hs : starEach [e] X.env = [(false, eval e X.env)] := by kernel_rfl) :
    DE X cls pn (.Call (.Attribute (.Name x p) "extend" apos) [e] [] cpos) (ZS zbe i m) := RD PySem.F.slot_list_extend PySem.F.type_list_extend zfg i' (fun _ => zfi) ha hv hd hcd hbase hfew hline hs
theorem zhw {v : V} {d : D} (h : ∀ E H, Rep Γ E H v d) : JE Γ pn (tC v) (mC d) := fun S σ ρ H τ Q q _ R hm hq => hq v d H ρ R (h _ _) hm
theorem zif {T : Addr} {ss : List Str} (hg : Gl X x) (hm : X.mg x = some (.ref T)) (hk : Va X.K T (ss.map V.str)) (hd : (x == ("__debug__" : Str)) = false := by decide) : DE X cls pn (.Name x pos) (mC (.kt ss)) :=
  ⟨_, Uq hg hm (v := .ref T) rfl hd, zhw fun _ _ => .kt hk⟩
theorem zig {T : Addr} {kvs : List (Str × List Str)} (hg : Gl X x) (hm : X.mg x = some (.ref T)) (hk : KnD X.K T kvs) (hd : (x == ("__debug__" : Str)) = false := by decide) : DE X cls pn (.Name x pos) (mC (.kd kvs)) :=
  ⟨_, Uq hg hm (v := .ref T) rfl hd, zhw fun _ _ => .kd hk⟩
theorem zhx {ss : List Str} (hg : Gl X x) (hm : ∃ T, X.mg x = some (.ref T) /\ Va X.K T (ss.map V.str)) (hd : (x == ("__debug__" : Str)) = false := by decide) : DE X cls pn (.Name x pos) (mC (.kt ss)) := let ⟨_, a, b⟩ := hm; zif hg a b hd
theorem zcg {kvs : List (Str × List Str)} (hg : Gl X x) (hm : ∃ T, X.mg x = some (.ref T) /\ KnD X.K T kvs) (hd : (x == ("__debug__" : Str)) = false := by decide) : DE X cls pn (.Name x pos) (mC (.kd kvs)) := let ⟨_, a, b⟩ := hm; zig hg a b hd
def j7 (k : Str) (kvs : List (Str × List Str)) : Option (List Str) := PyProof.Rows.KTD.datumAt k kvs
def Uf (neg : Bool) (x y : D) : Option D := match x, y with | .str k, .kd kvs => some (.bl (if neg then !(j7 k kvs).isSome else (j7 k kvs).isSome)) | _, _ => none
def zbf (neg : Bool) : F2 := fun x y q => jj q (Uf neg x y)
instance {neg : Bool} : zM (zbf neg) (Uf neg) := ⟨fun _ _ _ h => h⟩
theorem zfk {neg : Bool} : zT Γ (zem Γ.K neg) (zbf neg) := fun E H x y dx dy Q q _ rx ry h k => by
  unfold zbf Uf at h
  split at h
  · obtain ⟨a, rfl, hd⟩ := Rep.table ry
    exact ⟨_, a, _, y0 rx, rfl, hd, k _ _ H (Same.refl H) (.bl _) h⟩
  · exact False.elim h
def Ug (x y : D) : Option D := match x, y with | .kd kvs, .str k => (j7 k kvs).map D.kt | _, _ => none
def VP : F2 := fun x y q => jj q (Ug x y)
instance : zM VP Ug := ⟨fun _ _ _ h => h⟩
theorem zfl : zT Γ (zen Γ.K) VP := fun E H x y dx dy Q q _ rx ry h k => by
  unfold VP Ug at h
  split at h
  · rename_i kvs w
    obtain ⟨a, rfl, hd⟩ := Rep.table rx
    cases c : j7 w kvs with
    | none => rw [c] at h; exact False.elim h
    | some ss => rw [c] at h; exact ⟨w, a, kvs, ss, rfl, y0 ry, hd, c, fun t kt => k _ _ H (Same.refl H) (.kt kt) h⟩
  · exact False.elim h
theorem zfm (ha : DO X cls pn a ma) (hb : DO X cls pn b mb) (hs : ZN b) : DE X cls pn (.Subscript a b pos) (jz VP ma mb) := zia zie zfl ha hb hs
def UT (K : PySem.W.Frag) (ss : List Str) (v : Value) : Bool := match v with
  | .ref t => (match K.lookup t with
    | some o => o.cls == .type "tuple" && (match o.data with | .seq its _ => decide (its.size <= 1000) && PyProof.Rows.KTD.strsLook its.toList ss | _ => false)
    | none => false)
  | _ => false
theorem vals_strs : ∀ {vs : List Value} {ss : List Str}, PyProof.Rows.KTD.strsLook vs ss = true -> Vals (ss.map V.str) vs
  | [], [], _ => .nil
  | [], _ :: _, h => by simp [PyProof.Rows.KTD.strsLook] at h
  | _ :: _, [], h => by simp [PyProof.Rows.KTD.strsLook] at h
  | v :: vs, s :: ss, h => by
    unfold PyProof.Rows.KTD.strsLook at h
    cases v with
    | str y t =>
      simp only [Bool.and_eq_true] at h
      have e : y = s := by simpa using h.1
      exact .cons ⟨t, by rw [e]⟩ (vals_strs h.2)
    | _ => simp at h
theorem zad {K : PySem.W.Frag} {ss : List Str} {v : Value} (h : UT K ss v = true) : RT K ss v := by
  unfold UT at h
  split at h
  · rename_i t
    split at h
    · rename_i o ho
      rw [Bool.and_eq_true] at h
      obtain ⟨h1, h2⟩ := h
      split at h2
      · rename_i its n hd
        rw [Bool.and_eq_true] at h2
        exact ⟨t, rfl, o, its, n, ho, by simpa using h1, hd, Nat.le_trans (by simpa using h2.1) (by decide), vals_strs h2.2⟩
      · cases h2
    · cases h
  · cases h
theorem zih {K : PySem.W.Frag} {T : Addr} {ss : List Str} (h : UT K ss (.ref T) = true) : Va K T (ss.map V.str) := by
  obtain ⟨t, e, r⟩ := zad h
  cases e; exact r
theorem zii {K : PySem.W.Frag} {T : Addr} {kvs : List (Str × List Str)} (h : PyProof.Rows.KTD.tabLook (UT K) (fun a => K.lookup a) T kvs = true) : KnD K T kvs := by
  simp only [PyProof.Rows.KTD.tabLook, Bool.and_eq_true] at h
  obtain ⟨h0, h⟩ := h
  split at h
  · rename_i o ho
    simp only [Bool.and_eq_true] at h
    obtain ⟨⟨⟨e1, e2⟩, e3⟩, e4⟩ := h
    split at e4
    · rename_i es ep hd
      exact ⟨by simpa using h0, o, es, ep, ho, ⟨beq_iff_eq.mp e1, by simpa using e2, by simpa using e3⟩, hd, PyProof.Rows.KTD.rows_of_look (fun _ _ => zad) e4⟩
    · cases e4
  · cases h
def itT : D -> Option (List D) | .tup ds => some ds | _ => none
def Uh (g : G D) : G (List D) := fun ρ => (g ρ).bind fun d ρ' => yj (itT d) ρ'
instance {m : ME} {g : G D} [Ag z m g] : Ag z (VF m) (Uh g) := ⟨fun ρ q h => by
 unfold Uh at h
 unfold VF
 exact Ag.step h fun d _ h => by cases d <;> first | exact h | exact False.elim h⟩
theorem zhy {t : TE} {m : ME} (h : JE Γ pn t m) : JI Γ pn (zf5 Γ.K t) (VF m) := fun S σ ρ H τ Z q hp R hm hz =>
  h S σ ρ H τ _ _ hp R hm fun v d H1 ρ1 R1 r1 q1 => by
    cases d with
    | tup ds =>
      obtain ⟨a, xs, rfl, hs, rs⟩ := r1.tuple
      refine ⟨a, rfl, ⟨xs, SqT.of hs⟩, hz _ ds H1 ρ1 [(.ref a, .tup ds)] (R1.push r1) ?_ q1⟩
      intro E H i hE hx
      have r' : Rep Γ E H (.ref a) (.tup ds) := hx (.ref a, .tup ds) (by simp)
      obtain ⟨a', xs', e, hs', rs'⟩ := r'.tuple
      cases e
      refine ⟨fun hi => ?_, fun hi => ⟨xs', SqT.of hs', by rw [rs'.1]; omega⟩⟩
      have hi' : i < xs'.length := by rw [rs'.1]; exact hi
      refine ⟨⟨xs', xs'[i], SqT.of hs', List.getElem?_eq_getElem hi'⟩, fun x H' y => ?_⟩
      obtain ⟨e, y⟩ := y
      subst e
      exact ⟨Same.refl _, ds[i], List.getElem?_eq_getElem hi, rs'.2 i x _ (y xs' (SqT.of hs')) (List.getElem?_eq_getElem hi)⟩
    | _ => exact False.elim q1
theorem zhz {tg iter : Expr} {m : ME} (h : DE X cls pn iter m) : DI X cls pn tg iter (VF m) := let ⟨_, a, b⟩ := h.h; ⟨_, zf6 a, zhy b⟩
def Q5 (ss : List Str) (ds : List D) : List D := (ss.zip ds).map fun x => .tup [.str x.1, x.2]
def itZ : List D -> Option (List D) | [.kt ss, .tup ds] => if ss.length = ds.length then some (Q5 ss ds) else none | _ => none
def VQ (m : MA) : MI := fun ρ q => m ρ fun ds ρ' => jj (fun l => q l ρ') (itZ ds)
def VR (g : G (List D)) : G (List D) := fun ρ => (g ρ).bind fun ds ρ' => yj (itZ ds) ρ'
instance {m : MA} {g : G (List D)} [Ag z m g] : Ag z (VQ m) (VR g) := ⟨fun ρ q h => by
 unfold VR at h
 unfold VQ
 exact Ag.step h fun ds _ h => yx h⟩
theorem zhA {t : TA} {m : MA} (h : JA Γ pn t m) : JI Γ pn (zhq Γ.K t) (VQ m) := fun S σ ρ H τ Z q hp R hm hz =>
  h S σ ρ H τ _ _ hp R hm fun vs ds H1 ρ1 R1 r1 q1 => by
    unfold itZ at q1
    split at q1
    · rename_i ss ds
      split at q1
      · rename_i hl
        match vs, r1 with
        | [], r1 => have h := r1.1; simp at h
        | [_], r1 => have h := r1.1; simp at h
        | _ :: _ :: _ :: _, r1 => have h := r1.1; simp at h
        | [v, u], r1 =>
          have r0 := r1.head
          have rt := r1.tail.head
          obtain ⟨a, rfl, ha⟩ := Rep.kept r0
          obtain ⟨b, ys, rfl, hb, rs⟩ := rt.tuple
          refine ⟨a, b, rfl, ⟨_, _, ha, SqT.of hb⟩, hz _ (Q5 ss ds) H1 ρ1 [(.ref b, .tup ds), (.ref a, .kt ss)] ((R1.push r0).push rt) ?_ q1⟩
          intro E H i hE hx
          have e1 : Rep Γ E H (.ref a) (.kt ss) := hx (.ref a, .kt ss) (by simp)
          have e2 : Rep Γ E H (.ref b) (.tup ds) := hx (.ref b, .tup ds) (by simp)
          obtain ⟨a', q, ha'⟩ := Rep.kept e1
          cases q
          obtain ⟨b', zs, q, hb', rs'⟩ := e2.tuple
          cases q
          have ln : (Q5 ss ds).length = ds.length := by unfold Q5; rw [List.length_map, List.length_zip, hl, Nat.min_self]
          rw [ln]
          refine ⟨fun hi => ?_, fun hi => ⟨_, zs, ha', SqT.of hb', by rw [List.length_map, hl]; omega⟩⟩
          have hi1 : i < ss.length := by omega
          have hi2 : i < zs.length := by rw [rs'.1]; exact hi
          have g1 : (ss.map V.str)[i]? = some (V.str ss[i]) := by rw [List.getElem?_map, List.getElem?_eq_getElem hi1]; rfl
          refine ⟨⟨_, zs, _, zs[i], ha', SqT.of hb', g1, List.getElem?_eq_getElem hi2⟩, fun x H' y => ?_⟩
          obtain ⟨T, u, w, rfl, hT, rfl, y1, y2⟩ := y
          have u1 := (y1 _ ha').symm.trans g1
          cases u1
          have g := Yp hT (.tup [V.str ss[i], w])
          refine ⟨g, .tup [.str ss[i], ds[i]], ?_, ?_⟩
          · unfold Q5
            rw [List.getElem?_map, (List.getElem?_zip_eq_some (z := (ss[i], ds[i]))).mpr ⟨List.getElem?_eq_getElem hi1, List.getElem?_eq_getElem hi⟩]; rfl
          have rv : Rep Γ E (zG H T (.tup [V.str ss[i], w])) w ds[i] := (rs'.2 i w _ (y2 zs (SqT.of hb')) (List.getElem?_eq_getElem hi)).up (fun _ _ z => z) fun b o _ q => g b o q
          have rr : Reps Γ E (zG H T (.tup [V.str ss[i], w])) [V.str ss[i], w] [.str ss[i], ds[i]] := .cons (.str _) (.cons rv .nil)
          exact .tup (fun z => hE T z hT) yI rr.1 rr.2
      · exact False.elim q1
    · exact False.elim q1
theorem zhB {tes : List Expr} {kt : Nat} {tp : Pos} {m : MA} (hg : Gl X "zip") (hm : X.mg "zip" = none) (h : DA X cls pn [a, b] m) (hs : starEach [a, b] X.env = (false, eval a X.env) :: starEach [b] X.env := by kernel_rfl)
    (hp : (backTo pos (starEach [b] X.env)).any (·.1) = false := by kernel_rfl) : DI X cls pn (.Tuple tes kt tp) (.Call (.Name "zip" p) [a, b] [] pos) (VQ m) :=
  let ⟨_, c, d⟩ := h.h; ⟨_, zhr hg hm c hs hp, zhA d⟩
end
end M
namespace M
open PySem L2
def Qz : G End := (zJ (yg UK (gO (yz (ZZ (zm 0)) [none] (zA 0) jy (Jz JH JH (gC (.str "a")) (zm 0) (gC (.str "z")))))))
def ZI : G End := (zu (zU (Yc (Qv (gB (zh jk (zk 0) (gO (gC (.ty "str")))))) (Qv (gB (Jz RI RI (gC (.int 1)) (yg Qu (zk 0)) (gC (.int 8))))))
    (zJ (gC (.bl false)))
    zW)
  Qz)
def yb : Fn := yd [] 1 0 false ZI
def QA : G End := (zJ (j3 (zh jk (zk 0) (gO (gC (.ty "tuple")))) (yg UK (gO (yz (Uh (zm 0)) [none] (zA 0) jy (zN yb (gCons (zm 0) gNil)))))))
def jD : Fn := yd [] 1 0 false QA
def Q6 : G End := (zJ (j3 (zh jk (zk 0) (gO (gC (.ty "int")))) (Y8 (zh jk (zk 0) (gO (gC (.ty "bool")))))))
def ju : Fn := yd [] 1 0 false Q6
def jL : G End := (zJ (j3 (zN ju (gCons (zm 0) gNil)) (zh hGe (zk 0) (gO (gC (.int 0))))))
def ya : Fn := yd [] 1 0 false jL
def Qc : G End := (zJ (j3 (zN ya (gCons (zm 1) gNil)) (zh RI (zk 1) (gO (gC (.int 9999999999))))))
def j8 : G End := (zu (zU (gB (zh UJ (zk 1) (gO (gC .non))))
    (zJ (zh Jc (zk 0) (gO (gC (.str "value")))))
    zW)
  Qc)
def jq : G End := (zu (zU (gB (zh Jc (zk 0) (gO (gC (.str "truth")))))
    (zJ (zh jk (zk 1) (gO (gC (.ty "bool")))))
    zW)
  j8)
def yU : G End := (zu (zU (gB (zh Jc (zk 0) (gO (gC (.str "heard")))))
    (zJ (j3 (zh jk (zk 1) (gO (gC (.ty "str")))) (zh (Vg false) (zk 1) (gO (gC (.kt ["idle", "strange", "elder", "false", "over", "twice", "done", "never", "no", "ok"]))))))
    zW)
  jq)
def y6 : G End := (zu (zU (gB (zh Jc (zk 0) (gO (gC (.str "name")))))
    (zJ (zN yb (gCons (zm 1) gNil)))
    zW)
  yU)
def yh : Fn := yd [] 2 0 false y6
def JB : G End := (zu (zU (gB (zh jk (zk 0) (gO (gC (.ty "bool")))))
    (zJ (RJ (UN (zk 0)) (gC (.str "yes")) (gC (.str "no"))))
    zW)
  (zJ (yg jm (zk 0))))
def J2 : G End := (zu (zU (gB (zh UJ (zk 0) (gO (gC .non))))
    (zJ (gC (.str "-")))
    zW)
  JB)
def yV : Fn := yd [] 1 0 false J2
def yW : G End := (zU (UM (gB (zh Jc (zk 3) (gO (gC (.str "names"))))) (gB (zN jD (gCons (zm 4) gNil))))
    (jI (Qn Ue 2 (zm 4)))
    (zU (UM (gB (zh Y5 (zk 3) (gO (gC (.str "names"))))) (gB (zN yh (gCons (zm 3) (gCons (zm 4) gNil)))))
    (jI (Qn yB 2 (zN yV (gCons (zm 4) gNil))))
    (zJ (gC .non))))
def Ji : G End := (zu (Qx (VR (gCons (zm 0) (gCons (zm 1) gNil))) (Q2 (j4 (zA 3) (j4 (zA 4) ZY)) 2)
    yW)
  (zJ (Wx 2)))
def Qd : G End := (zu (zU (gB (zh Y5 (gO (yg Qu (zk 1))) (gO (yg Qu (zk 0)))))
    (zJ (gC .non))
    zW)
  (zu (jT 2 (yJ gNil))
  Ji))
def jr : Fn := yd [] 2 3 false Qd
def Qe : G End := (zJ (RJ (gB (zh UJ (zk 1) (gO (gC .non)))) (gC .non) (jl (gC (.str " ")) (gO (Jg Q1 (gO (yJ (gCons (zh zz (zk 0) (gO (gC (.int 0)))) gNil))) (zk 1))))))
def Qf : G End := (zu (z0 1 (zN jr (gCons (zh Ug (gO (gC (.kd [("begin", ["number", "number", "names"]), ("hear", ["number", "name", "number", "value", "number", "number", "heard"]), ("wake", ["number", "names"]), ("off", ["number", "truth"])]))) (gO (zh zz (zk 0) (gO (gC (.int 0)))))) (gCons (zbd (zk 0) (Qm (gC (.int 1))) Jh) gNil))))
  Qe)
def Q7 : G End := (zu (zU (Yc (Qv (gB (zh jk (zk 0) (gO (gC (.ty "tuple")))))) (Yc (Qv (UN (zk 0))) (Yc (Qv (gB (zh jk (gO (zh zz (zk 0) (gO (gC (.int 0))))) (gO (gC (.ty "str")))))) (gB (zh (Uf true) (gO (zh zz (zk 0) (gO (gC (.int 0))))) (gO (gC (.kd [("begin", ["number", "number", "names"]), ("hear", ["number", "name", "number", "value", "number", "number", "heard"]), ("wake", ["number", "names"]), ("off", ["number", "truth"])]))))))))
    (zJ (gC .non))
    zW)
  Qf)
def y7 : Fn := yd [] 1 1 false Q7
def JJ : G End := (zU (gB (zh (Vg false) (gO (gC .non)) (zk 0)))
    Wz
    zW)
def yC : Fn := yd [] 1 0 false JJ
def JK : G End := (zu (jI (zN yC (gCons (zm 1) gNil)))
  (zJ (jl (gC (.str "\n")) (zk 1))))
def JL : G End := (zu (z0 1 (yz (j5 (zm 0)) [none] (zA 0) jy (zN y7 (gCons (zm 0) gNil))))
  JK)
def QB : G End := (zu (zU (Qv (gB (zh jk (zk 0) (gO (gC (.ty "list"))))))
    Wz
    zW)
  JL)
def yw : Fn := yd [] 1 1 false QB
def Yy : G End := (zJ (yJ (gCons (zh zz (gO (yJ (gCons (gC (.int 0)) (gCons (zm 0) gNil)))) (gO (yg Wv (gO (zh hGe (zk 0) (gO (zh UI (gO (gC (.int 10))) (gO (gC (.int 18)))))))))) (gCons (zh Qt (zk 0) (gO (gC (.int 2147483629)))) (gCons (gC (.int 0)) gNil)))))
def jM : Fn := yd [] 1 0 true Yy
def QC : G End := (zu (zU (gB (zh hLt (zk 1) (gO (yg Qu (zk 0)))))
    (zJ (zh zz (zk 0) (zk 1)))
    zW)
  (zJ (gC (.int 0))))
def yL : Fn := yd [] 2 0 false QC
def Q8 : G End := (zu (QN 0 (gC (.int 0)) (zh QO (gO (zh zz (zk 0) (gO (gC (.int 0))))) (zk 1)))
  (zJ (zm 2)))
def Q9 : G End := (zJ (zh Qt (gO (zh Qt (gO (zh QZ (zk 3) (gO (zh jK (gO (zh QO (zk 3) (gO (gC (.int 2003))))) (gO (gC (.int 40692))))))) (gO (gC (.int 2147483399))))) (zk 1)))
def Za : G End := (zu (z0 3 (zh Qt (gO (zh QZ (zk 3) (gO (zh jK (gO (zh QO (zk 3) (gO (gC (.int 1009))))) (gO (gC (.int 69621))))))) (gO (gC (.int 2147483647)))))
  Q9)
def Zb : G End := (zu (z0 3 (zh Qt (gO (zh QZ (gO (zh jK (gO (zh jK (gO (zh zz (zk 0) (gO (gC (.int 1))))) (gO (zh QZ (gO (gC (.int 7919))) (gO (zh zz (zk 0) (gO (gC (.int 2))))))))) (gO (gC (.int 1))))) (gO (gC (.int 48271))))) (gO (gC (.int 2147483647)))))
  Za)
def Zc : G End := (zu (QN 0 (gC (.int 2)) (zh jK (gO (zh zz (zk 0) (gO (gC (.int 2))))) (gO (gC (.int 1)))))
  Zb)
def Yz : G End := (zu (zU (gB (zh hGt (gO (zh zz (zk 0) (gO (gC (.int 0))))) (gO (gC (.int 0)))))
    (zu (z0 2 (zh Qt (gO (zh zz (zk 0) (gO (gC (.int 0))))) (zk 1)))
  Q8)
    zW)
  Zc)
def zq : Fn := yd [0] 2 2 false Yz
def Zd : G End := (zJ (zh zz (gO (yJ (gCons (gC (.int 0)) (gCons (zp 0 zq (gCons (gC (.int 10)) gNil)) (gCons (zp 0 zq (gCons (zh UI (gO (gC (.int 10))) (gO (gC (.int 9)))) gNil)) (gCons (zh zaX (gO (zh UI (gO (gC (.int 10))) (gO (gC (.int 9))))) (gO (gC (.int 1)))) gNil)))))) (gO (zp 0 zq (gCons (gC (.int 4)) gNil)))))
def zX : Fn := yd [0] 1 0 false Zd
def JV : G End := (z0 3 (zh Q0 (zk 3) (gO (zh zz (zk 2) (gO (zp 0 zq (gCons (gC (.int 26)) gNil)))))))
def Ze : G End := (zJ (zh Q0 (zk 3) (gO (zh zz (zk 2) (gO (zh Qt (zk 1) (gO (gC (.int 26)))))))))
def Zg : G End := (zu (Qx (z9 (gCons (zp 0 zq (gCons (gC (.int 8)) gNil)) gNil)) (zA 4)
    JV)
  Ze)
def YA : G End := (zu (z0 2 (gC (.str "abcdefghijklmnopqrstuvwxyz")))
  (zu (z0 3 (gC (.str "")))
  Zg))
def y8 : Fn := yd [0] 2 3 false YA
def jn : G End := (zU (gB (zh Jc (gO (zp 0 zq (gCons (gC (.int 4)) gNil))) (gO (gC (.int 0)))))
    (jI (Qn yB 1 (zh zz (zk 1) (gO (gC (.int 0))))))
    zW)
def yG : G End := (zu (jI (Qn yB 1 (zp 0 y8 (gCons (zp 0 zq (gCons (gC (.int 26)) gNil)) gNil))))
  jn)
def j9 : G End := (zu (Qx (z9 (gCons (zp 0 zq (gCons (gC (.int 4)) gNil)) gNil)) (zA 2)
    yG)
  (zJ (yg Y6 (zk 1))))
def JM : G End := (zu (jT 1 (yJ gNil))
  j9)
def yt : Fn := yd [0] 1 2 false JM
def Jj : G End := (zJ (gTup (gCons (gC (.str "hear")) (gCons (zm 2) (gCons (zm 5) (gCons (zh zz (zk 6) (gO (gC (.int 0)))) (gCons (zm 3) (gCons (zh zz (zk 6) (gO (gC (.int 1)))) (gCons (zh zz (zk 6) (gO (gC (.int 2)))) (gCons (zm 7) gNil))))))))))
def Jk : G End := (zu (z0 7 (zh zz (zk 4) (gO (zp 0 zq (gCons (gC (.int 10)) gNil)))))
  Jj)
def Jl : G End := (zu (z0 6 (yz (z9 (gCons (gC (.int 3)) gNil)) [none, some 0] (zA 0) jy (zp 1 zX gNil)))
  Jk)
def Jm : G End := (zu (z0 5 (zh zz (gO (yJ (gCons (zp 0 y8 (gCons (zp 0 zq (gCons (gC (.int 26)) gNil)) gNil)) (gCons (zh zz (zk 4) (gO (zp 0 zq (gCons (gC (.int 10)) gNil)))) gNil)))) (gO (zp 0 zq (gCons (gC (.int 2)) gNil)))))
  Jl)
def Jn : G End := (zu (z0 4 (yJ (Y7 ["idle", "strange", "elder", "false", "over", "twice", "done", "never", "no", "ok"])))
  Jm)
def Jo : G End := (zu (z0 3 (zh zz (gO (yJ (gCons (gC .non) (gCons (zp 0 zX gNil) gNil)))) (gO (zp 0 zq (gCons (gC (.int 2)) gNil)))))
  Jn)
def jv : G End := (zu (zU (gB (zh Jc (zk 1) (gO (gC (.int 2)))))
    (zJ (gTup (gCons (gC (.str "off")) (gCons (zm 2) (gCons (zh Jc (gO (zp 0 zq (gCons (gC (.int 2)) gNil))) (gO (gC (.int 1)))) gNil)))))
    zW)
  Jo)
def yX : G End := (zu (zU (gB (zh Jc (zk 1) (gO (gC (.int 1)))))
    (zJ (gTup (gCons (gC (.str "wake")) (gCons (zm 2) (gCons (zp 0 yt gNil) gNil)))))
    zW)
  jv)
def yc : G End := (zu (zU (gB (zh Jc (zk 1) (gO (gC (.int 0)))))
    (zJ (gTup (gCons (gC (.str "begin")) (gCons (zm 2) (gCons (zp 0 zX gNil) (gCons (zp 0 yt gNil) gNil))))))
    zW)
  yX)
def Qg : G End := (zu (z0 1 (zp 0 zq (gCons (gC (.int 5)) gNil)))
  (zu (z0 2 (zp 0 zX gNil))
  yc))
def yi : Fn := yd [0] 1 7 false Qg
def Ja : G End := (zJ (yJ (gCons (gC (.str "hear")) (gCons (yg jm (gO (zh zz (zk 0) (gO (gC (.int 1)))))) (gCons (zh zz (zk 0) (gO (gC (.int 2)))) (gCons (yg jm (gO (zh zz (zk 0) (gO (gC (.int 3)))))) (gCons (zm 1) (gCons (yg jm (gO (zh zz (zk 0) (gO (gC (.int 5)))))) (gCons (yg jm (gO (zh zz (zk 0) (gO (gC (.int 6)))))) (gCons (zh zz (zk 0) (gO (gC (.int 7)))) gNil))))))))))
def Jb : G End := (zu (zU (gB (zh VO (gO (zh zz (zk 0) (gO (gC (.int 4))))) (gO (gC .non))))
    (z0 1 (yg jm (gO (zh zz (zk 0) (gO (gC (.int 4)))))))
    zW)
  Ja)
def jo : G End := (zu (zU (gB (zh Jc (gO (zh zz (zk 0) (gO (gC (.int 0))))) (gO (gC (.str "off")))))
    (zJ (yJ (gCons (zh zz (zk 0) (gO (gC (.int 0)))) (gCons (yg jm (gO (zh zz (zk 0) (gO (gC (.int 1)))))) (gCons (zh zz (gO (yJ (gCons (gC (.str "no")) (gCons (gC (.str "yes")) gNil)))) (gO (yg Wv (gO (zh zz (zk 0) (gO (gC (.int 2)))))))) gNil)))))
    zW)
  (zu (z0 1 (gC (.str "-")))
  Jb))
def yH : G End := (zu (zU (gB (zh Jc (gO (zh zz (zk 0) (gO (gC (.int 0))))) (gO (gC (.str "wake")))))
    (zJ (Jg Q1 (gO (yJ (gCons (zh zz (zk 0) (gO (gC (.int 0)))) (gCons (yg jm (gO (zh zz (zk 0) (gO (gC (.int 1)))))) gNil)))) (gO (JR Ql (gO (zh zz (zk 0) (gO (gC (.int 2)))))))))
    zW)
  jo)
def yD : G End := (zu (zU (gB (zh Jc (gO (zh zz (zk 0) (gO (gC (.int 0))))) (gO (gC (.str "begin")))))
    (zJ (Jg Q1 (gO (yJ (gCons (zh zz (zk 0) (gO (gC (.int 0)))) (gCons (yg jm (gO (zh zz (zk 0) (gO (gC (.int 1)))))) (gCons (yg jm (gO (zh zz (zk 0) (gO (gC (.int 2)))))) gNil))))) (gO (JR Ql (gO (zh zz (zk 0) (gO (gC (.int 3)))))))))
    zW)
  yH)
def z3 : Fn := yd [] 1 1 false yD
def Js : G End := (zU (Yc (gB (zh Y5 (gO (zN yw (gCons (zm 4) gNil))) (zk 5))) (Yc (gB (zh (Ww true) (zk 4) (zk 3))) (gB (zh Y5 (gO (zN yw (gCons (zm 4) gNil))) (zk 5)))))
    (zJ (gC (.bl false)))
    zW)
def jE : G End := (zu (z0 5 (jl (gC (.str "\n")) (gO (yz (j5 (zm 3)) [none] (zA 0) jy (jl (gC (.str " ")) (gO (zN z3 (gCons (zm 0) gNil))))))))
  Js)
def Jt : G End := (zu (zU (gB (zh Jc (gO (zp 2 zq (gCons (gC (.int 4)) gNil))) (gO (gC (.int 0)))))
    (z0 3 (Jg Q1 (gO (ZE (gO (Jg Yx (zk 3) (gO (gC (.int 60))))) Jh (Qm (zh jK (gO (gC (.int 39))) (gO (zp 2 zq (gCons (gC (.int 21)) gNil))))))) (gO (yJ (gCons (zp 2 yi gNil) gNil)))))
    zW)
  (zu (z0 4 (JR Ql (zk 3)))
  jE))
def QD : G End := (zu (z0 3 (yz (z9 (gCons (zh jK (gO (gC (.int 1))) (gO (zp 2 zq (gCons (gC (.int 9)) gNil)))) gNil)) [none, some 2] (zA 0) jy (zp 1 yi gNil)))
  Jt)
def jF : G End := (zu (jT 2 (zN jM (gCons (zh jK (gO (zN yL (gCons (zm 0) (gCons (zm 1) gNil)))) (gO (zh QZ (gO (gC (.int 7))) (zk 1)))) gNil)))
  QD)
def QE : G End := (zu (Qx (z9 (gCons (zh Y3 (gO (gC (.int 1))) (gO (zh Y4 (gO (gC (.int 6))) (gO (yg Qu (zk 0)))))) gNil)) (zA 1)
    jF)
  (zJ (gC (.bl true))))
def ZJ : G End := (zu (zU (gB (zh Y5 (gO (zN yw (gCons (yJ gNil) gNil))) (gO (gC (.str "")))))
    (zJ (gC (.bl false)))
    zW)
  QE)
def Vl : Fn := yd [] 1 5 false ZJ
end M
namespace M
open PySem L2
theorem WN {ρ : Env} {s : Slot} : yE ρ none s = ρ := by cases s <;> rfl
theorem Ui {ρ : Env} {j : Nat} {o : D} : yE ρ (some j) (.own o) = jp ρ j o := rfl
theorem Uj {ρ : Env} {x : Option Nat} {d : D} : yE ρ x (.val d) = ρ := by cases x <;> rfl
theorem Vm {ρ : Env} {x : Option Nat} : yE ρ x .no = ρ := by cases x <;> rfl
theorem Uk {ρ ρb : Env} : zD [] ρb ρ = ρ := rfl
theorem Ye {x : Option Nat} {js : List (Option Nat)} {s : Slot} {ρ ρb : Env} : zD (x :: js) (s :: ρb) ρ = zD js ρb (yE ρ x s) := rfl
local macro_rules | `(tactic| walk_at "gs") => `(tactic| simp only [yd, eq_self, zu, zU, z0, jT, zJ, jI, zW, gC, zm, Wx, zk, gO, zh, yg, Jg, JR, gCons, gNil, Y7, yJ, gTup, gB, Qv, UM, Yc, j3, Y8, RJ, Jz, UN, zaY, zaQ, QN, zA, ZY, j4, Q2, Qx, z9, j5, ZZ, itL, itS, zN, zp, Qn, Jh, Ye, Uk, WN, Ui, Uj, Vm, jp, jl, QO, Qm, ZE, jy, zE, RN, RO, yK, WB, RP, RQ, RS, RU, RV, RW, WC, WD, WE, WF, za3, zek, Vh, Vi, WG, Vj, WH, RX, WI, Vk, RY, UR, RZ, Yv, zb_, Option.bind_some, Option.map_some, Option.bind_none, Option.map_none, jK, zaX, QZ, Qt, UI, hLt, RI, hGt, hGe, Y3, Y4, jR, hI, Jc, Y5, Zu, UJ, VO, R6, R7, R8, R9, zaa, zab, zac, Q0, Qu, Q1, Ql, Y6, Wv, ix0, ix1, ix2, ix3, ix4, ix5, ix6, ix7, it0, it1, it2, it3, it4, it5, it6, it7, jk, Qk, J8, zdj, List.cons_append, List.nil_append, List.append_nil, List.replicate, List.map_cons, List.map_nil, List.getElem?_cons_zero, List.getElem?_cons_succ, List.set_cons_zero, List.set_cons_succ, List.length_cons, List.length_nil, Nat.reduceAdd, Nat.reduceSub, Nat.reduceLeDiff, Nat.reduceEqDiff, Nat.reduceLT, Nat.zero_add, if_true, if_false, reduceIte, Bool.false_eq_true, Bool.not_true, Bool.not_false, true_and, and_true, and_self, reduceCtorEq, Int.reduceToNat, List.getD_cons_zero, List.getD_cons_succ, Int.reduceLE, Int.reduceLT, Int.reduceNeg, Int.reduceEq, decide_true, decide_false, Bool.true_and, Bool.false_and, Bool.and_true, Bool.and_false, Bool.or_true, Bool.true_or, Bool.or_false, Bool.false_or, List.contains_cons, List.contains_nil, Nat.reduceBEq, String.reduceBEq, ZH, String.reduceEq, List.isEmpty_cons, List.isEmpty_nil, beq_self_eq_true, Int.cast_ofNat_Int])
local macro_rules | `(tactic| walk_at "gsa") => `(tactic| simp only [yd, eq_self, zu, zU, z0, jT, zJ, jI, zW, gC, zm, Wx, zk, gO, zh, yg, Jg, JR, gCons, gNil, Y7, yJ, gTup, gB, Qv, UM, Yc, j3, Y8, RJ, Jz, UN, zaY, zaQ, QN, zA, ZY, j4, Q2, Qx, z9, j5, ZZ, itL, itS, zN, zp, Qn, Jh, Ye, Uk, WN, Ui, Uj, Vm, jp, jl, QO, Qm, ZE, jy, zE, RN, RO, yK, WB, RP, RQ, RS, RU, RV, RW, WC, WD, WE, WF, za3, zek, Vh, Vi, WG, Vj, WH, RX, WI, Vk, RY, UR, RZ, Yv, zb_, Option.bind_some, Option.map_some, Option.bind_none, Option.map_none, jK, zaX, QZ, Qt, UI, hLt, RI, hGt, hGe, Y3, Y4, jR, hI, Jc, Y5, Zu, UJ, VO, R6, R7, R8, R9, zaa, zab, zac, Q0, Qu, Q1, Ql, Y6, Wv, ix0, ix1, ix2, ix3, ix4, ix5, ix6, ix7, it0, it1, it2, it3, it4, it5, it6, it7, jk, Qk, J8, zdj, List.cons_append, List.nil_append, List.append_nil, List.replicate, List.map_cons, List.map_nil, List.getElem?_cons_zero, List.getElem?_cons_succ, List.set_cons_zero, List.set_cons_succ, List.length_cons, List.length_nil, Nat.reduceAdd, Nat.reduceSub, Nat.reduceLeDiff, Nat.reduceEqDiff, Nat.reduceLT, Nat.zero_add, if_true, if_false, reduceIte, Bool.false_eq_true, Bool.not_true, Bool.not_false, true_and, and_true, and_self, reduceCtorEq, Int.reduceToNat, List.getD_cons_zero, List.getD_cons_succ, Int.reduceLE, Int.reduceLT, Int.reduceNeg, Int.reduceEq, decide_true, decide_false, Bool.true_and, Bool.false_and, Bool.and_true, Bool.and_false, Bool.or_true, Bool.true_or, Bool.or_false, Bool.false_or, List.contains_cons, List.contains_nil, Nat.reduceBEq, String.reduceBEq, ZH, String.reduceEq, List.isEmpty_cons, List.isEmpty_nil, beq_self_eq_true, Int.cast_ofNat_Int, *])
theorem Zh {g : D -> Env -> Option Env} {b : G End} (I : List D -> Env -> Prop) (hs : ∀ d r ρ, I (d :: r) ρ -> ∃ ρ1, g d ρ = some ρ1 /\ ∃ ρ2, (b ρ1 = .ok .nx ρ2 \/ b ρ1 = .ok .ct ρ2) /\ I r ρ2) :
    ∀ (ds : List D) (ρ : Env), I ds ρ -> ∃ ρ', Qb g b ds ρ = .ok .nx ρ' /\ I [] ρ'
  | [], ρ, h => ⟨ρ, rfl, h⟩
  | d :: r, ρ, h => by
    obtain ⟨ρ1, e1, ρ2, e2, h2⟩ := hs d r ρ h
    obtain ⟨ρ', e3, h3⟩ := Zh I hs r ρ2 h2
    refine ⟨ρ', ?_, h3⟩
    unfold Qb
    rw [e1, yK, zE]
    rcases e2 with e2 | e2 <;> rw [e2] <;> exact e3
theorem YB {g : D -> Env -> Option Env} {e : G D} (I : Env -> Prop) (f : D -> D) (P : D -> Prop) (hs : ∀ d ρ, P d -> I ρ -> ∃ ρ1 ρ2, g d ρ = some ρ1 /\ e ρ1 = .ok (f d) ρ2 /\ I ρ2) :
    ∀ (ds : List D) (ρ : Env), (∀ d ∈ ds, P d) -> I ρ -> ∃ ρ', yp g jy e ds ρ = .ok (ds.map f) ρ' /\ I ρ'
  | [], ρ, _, h => ⟨ρ, rfl, h⟩
  | d :: r, ρ, hd, h => by
    obtain ⟨ρ1, ρ2, e1, e2, h2⟩ := hs d ρ (hd d List.mem_cons_self) h
    obtain ⟨ρ', e3, h3⟩ := YB I f P hs r ρ2 (fun x hx => hd x (List.mem_cons_of_mem _ hx)) h2
    refine ⟨ρ', ?_, h3⟩
    unfold yp
    rw [e1, yK, zE]
    show (O.bind (.ok true ρ1) _) = _
    rw [zE, if_pos rfl, e2, zE, e3, zE]; rfl
theorem JW {lo : Int} {n : Nat} : (yk lo n).length = n := by simp [yk]
theorem zbg {lo : Int} {n : Nat} {d : D} (h : d ∈ yk lo n) : ∃ i : Nat, i < n /\ d = .int (lo + i) := by
  unfold yk at h
  obtain ⟨i, hi, e⟩ := List.mem_map.mp h
  exact ⟨i, List.mem_range.mp hi, e.symm⟩
theorem Z3 (a : Str) : a.length = a.cps.toList.length := by simp [Str.length]
theorem zfn (a b : Str) : (a ++ b).cps.toList = a.cps.toList ++ b.cps.toList := by
  show (a.cps ++ b.cps).toList = _
  simp
theorem zdq {gi : G (List D)} {js : List (Option Nat)} {g : D -> Env -> Option Env} {c : G Bool} {e : G D} {ρ ρ1 ρb : Env} {ds ys : List D} (hi : gi ρ = .ok ds ρ1) (hl : ds.length <= 100000) (h : yp g c e ds (jX js ρ1) = .ok ys ρb) : yz gi js g c e ρ = .ok (.lst ys) (zD js ρb ρ1) := by
  unfold yz; rw [hi, zE, zb9 hl, h]; rfl
theorem zdr {a b : G D} {ρ ρ1 : Env} {k : Bool} (h : a ρ = .ok (.bl k) ρ1) : j3 a b ρ = if k = true then b ρ1 else .ok (.bl false) ρ1 := by
  unfold j3; rw [h]; rfl
theorem zfo {f : D -> Option D} {a : G D} {ρ ρ1 : Env} {x : D} (h : a ρ = .ok x ρ1) : yg f (gO a) ρ = yj (f x) ρ1 := by
  unfold yg gO; rw [h]; rfl
theorem zae {a : G D} {ρ ρ1 : Env} {x : D} (h : a ρ = .ok x ρ1) : zJ a ρ = .ok (.rt x) ρ1 := by
  unfold zJ; rw [h]; rfl
theorem WO {a : G D} {r : G (List D)} {ρ ρ1 : Env} {x : D} (h : a ρ = .ok x ρ1) : gCons a r ρ = (r ρ1).bind fun ds ρ2 => .ok (x :: ds) ρ2 := by
  unfold gCons; rw [h]; rfl
theorem JC {gi : G (List D)} {js : List (Option Nat)} {g : D -> Env -> Option Env} {c : G Bool} {e : G D} {ρ ρ1 ρb ρ2 : Env} {ds ys : List D} (hi : gi ρ = .ok ds ρ1) (hl : ds.length <= 100000) (h : yp g c e ds (jX js ρ1) = .ok ys ρb) (hm : zD js ρb ρ1 = ρ2) : yz gi js g c e ρ = .ok (.lst ys) ρ2 := by
  rw [zdq hi hl h, hm]
theorem zhC {f : D -> D -> Option D} {a b : G D} {ρ ρ1 ρ2 : Env} {x y : D} (h1 : a ρ = .ok x ρ1) (h2 : b ρ1 = .ok y ρ2) : zh f (gO a) (gO b) ρ = yj (f x y) ρ2 := by
  unfold zh gO; rw [h1]; show O.bind ((b ρ1).bind _) _ = _; rw [h2]; rfl
theorem jw {n nl : Nat} {g : G End} {ss : List Slot} {d : D} {ρ : Env} (hl : ss.length = n) (h : g (ss ++ List.replicate nl .no) = .ok (.rt d) ρ) : yd [] n nl false g ss = .ok d [] := by
  unfold yd; rw [if_pos hl, h]; rfl
theorem Zi {F : Fn} {a : G (List D)} {ρ ρ1 : Env} {ds os : List D} {d : D} (h1 : a ρ = .ok ds ρ1) (h2 : F (ds.map .val) = .ok d os) : zN F a ρ = .ok d ρ1 := by
  unfold zN; rw [h1, zE, h2]; rfl
theorem zij {a : G D} {ρ ρ1 : Env} {b : Bool} (h : a ρ = .ok (.bl b) ρ1) : gB a ρ = .ok b ρ1 := by unfold gB; rw [h]; rfl
theorem zhD {f : D -> D -> Option D} {a b : G D} {ρ ρ1 ρ2 : Env} {x y d : D} (h1 : a ρ = .ok x ρ1) (h2 : b ρ1 = .ok y ρ2) (h : f x y = some d) : zh f (gO a) (gO b) ρ = .ok d ρ2 := by
  rw [zhC h1 h2, h]; rfl
theorem zfp {f : D -> Option D} {a : G D} {ρ ρ1 : Env} {x d : D} (h1 : a ρ = .ok x ρ1) (h : f x = some d) : yg f (gO a) ρ = .ok d ρ1 := by
  rw [zfo h1, h]; rfl
theorem zaf {j : Int} (h : -1000000 <= j /\ j <= 1000000) : UO [.int j] = some (yk 0 j.toNat) := if_pos h
theorem Yf {g : G (List D)} {ρ ρ1 : Env} {ds xs : List D} (h : g ρ = .ok ds ρ1) (h2 : UO ds = some xs) : z9 g ρ = .ok xs ρ1 := by
  unfold z9; rw [h, zE, h2, yK]
theorem zag {gi : G (List D)} {g : D -> Env -> Option Env} {b : G End} {ρ ρ1 : Env} {ds : List D} (h : gi ρ = .ok ds ρ1) : Qx gi g b ρ = Qb g b ds ρ1 := by
  unfold Qx; rw [h, zE]
theorem zr {a b : G End} {ρ ρ1 : Env} (h : a ρ = .ok .nx ρ1) : zu a b ρ = b ρ1 := by unfold zu; rw [h]; rfl
theorem UU {a b : G End} {ρ ρ1 : Env} {d : D} (h : a ρ = .ok (.rt d) ρ1) : zu a b ρ = .ok (.rt d) ρ1 := by unfold zu; rw [h]; rfl
theorem zhE {c : G Bool} {a b : G End} {ρ ρ1 : Env} (h : c ρ = .ok true ρ1) : zU c a b ρ = a ρ1 := by unfold zU; rw [h]; rfl
theorem zci {c : G Bool} {a b : G End} {ρ ρ1 : Env} (h : c ρ = .ok false ρ1) : zU c a b ρ = b ρ1 := by unfold zU; rw [h]; rfl
theorem J3 {i : Nat} {a : G D} {ρ ρ1 : Env} {d : D} (h : a ρ = .ok d ρ1) : z0 i a ρ = .ok .nx (ρ1.set i (.val d)) := by unfold z0; rw [h]; rfl
theorem zds {a : G D} {ρ ρ1 : Env} {d : D} (h : a ρ = .ok d ρ1) : jI a ρ = .ok .nx ρ1 := by unfold jI; rw [h]; rfl
theorem Z4 {n nl : Nat} {g : G End} {ss : List Slot} {d o : D} {ρ : Env} (hl : ss.length = n) (h : g (ss ++ List.replicate nl .no) = .ok (.rt d) (.own o :: ρ)) : yd [0] n nl false g ss = .ok d [o] := by
  unfold yd; rw [if_pos hl, h]; rfl
def zcj : D -> Bool | .int _ => true | _ => false
theorem W0 {d : D} {k : String} (h : Qk d = some k) : ju [.val d] = .ok (.bl (zcj d)) [] := by
  unfold ju Q6
  cases d <;> first | (cases h; done) | (walk_at "gs"; rfl)
def zik : D -> Bool | .int i => decide (0 <= i) | _ => false
theorem Z5 {d : D} {k : String} (h : Qk d = some k) : ya [.val d] = .ok (.bl (zik d)) [] := by
  unfold ya jL
  cases d <;> first | (cases h; done) | (walk_at "gs"; simp only [W0 h, zcj]; walk_at "gs"; rfl)
def jJ (c : Nat) : Bool := decide (97 <= c) && decide (c <= 122)
def y9 (x : Str) : Bool := decide (1 <= x.length) && decide (x.length <= 8) && x.cps.toList.all jJ
def zeo : D -> Bool | .str x => y9 x | _ => false
theorem zck (a b : Nat) : (!decide (([b] : List Nat) < [a])) = decide (a <= b) := by
  by_cases h : a <= b
  · rw [decide_eq_true h, decide_eq_false]; rfl
    intro z
    rw [List.cons_lt_cons_iff] at z
    rcases z with z | ⟨_, z⟩
    · omega
    · exact absurd z (List.not_lt_nil _)
  · rw [decide_eq_false h, decide_eq_true]; rfl
    rw [List.cons_lt_cons_iff]
    exact .inl (by omega)
theorem zhF : (Str.ofString "a").cps.toList = [97] := by decide +kernel
theorem zhG : (Str.ofString "z").cps.toList = [122] := by decide +kernel
theorem WP {f : Nat -> Bool} : ∀ (l : List Nat), jY (l.map fun c => D.bl (f c)) = some (l.map f)
  | [] => rfl
  | c :: r => by rw [List.map_cons, jY, WP r]; rfl
theorem zhH {f : Nat -> Bool} (l : List Nat) : (l.map f).all id = l.all f := by
  induction l with
  | nil => rfl
  | cons a r ih => rw [List.map_cons, List.all_cons, List.all_cons, ih]; rfl
theorem zbh {s : Slot} (x : Str) : ∃ ρ', yp (zA 0) jy (Jz JH JH (gC (.str "a")) (zm 0) (gC (.str "z"))) (x.cps.toList.map fun c => D.str ⟨#[c]⟩) [s] = .ok (x.cps.toList.map fun c => D.bl (jJ c)) ρ' /\ ρ'.length = 1 := by
  have h := YB (g := zA 0) (e := Jz JH JH (gC (.str "a")) (zm 0) (gC (.str "z"))) (fun ρ => ρ.length = 1) (fun d => match d with | .str y => .bl (jJ (y.cps.toList.getD 0 0)) | d => d) (fun d => ∃ c, d = .str ⟨#[c]⟩) (fun d ρ ⟨c, hc⟩ hl => by
    subst hc
    match ρ, hl with
    | [t], _ =>
      refine ⟨_, [.val (.str ⟨#[c]⟩)], rfl, ?_, rfl⟩
      walk_at "gs"
      have e1 : JH (.str "a") (.str ⟨#[c]⟩) = some (.bl (decide (97 <= c))) := by
        unfold JH
        dsimp only
        simp only [zhF, zck]
      have e2 : JH (.str ⟨#[c]⟩) (.str "z") = some (.bl (decide (c <= 122))) := by
        unfold JH
        dsimp only
        simp only [zhG, zck]
      rw [e1, yK, zE, WH, zE]
      show _ = O.ok (D.bl (jJ c)) _
      unfold jJ
      by_cases h : 97 <= c
      · rw [decide_eq_true h, if_pos rfl, e2, Bool.true_and]; rfl
      · rw [decide_eq_false h, if_neg Bool.false_ne_true, Bool.false_and]) (x.cps.toList.map fun c => D.str ⟨#[c]⟩) [s] (fun d hd => by
    obtain ⟨c, _, e⟩ := List.mem_map.mp hd
    exact ⟨c, e.symm⟩) rfl
  obtain ⟨ρ', e, hl⟩ := h
  refine ⟨ρ', ?_, hl⟩
  rw [e, List.map_map]
  rfl
theorem Ul {d : D} {k : String} (h : Qk d = some k) (hx : ∀ x, d = .str x -> x.length <= 100000) : yb [.val d] = .ok (.bl (zeo d)) [] := by
  unfold yb ZI
  cases d with
  | str x =>
    have hx := hx x rfl
    walk_at "gsa"
    unfold zeo y9
    dsimp only
    by_cases p0 : 1 <= x.length
    · by_cases p1 : x.length <= 8
      · rw [decide_eq_true (show (1 : Int) <= x.length by omega), decide_eq_true (show (x.length : Int) <= 8 by omega), decide_eq_true p0, decide_eq_true p1]
        unfold Qz
        obtain ⟨ρ', e, _⟩ := zbh (s := .no) x
        have hl : (x.cps.toList.map fun c => D.str ⟨#[c]⟩).length <= 100000 := by rw [List.length_map, ← Z3]; exact hx
        walk_at "gs"
        simp only [yz, ZZ, zm, List.getElem?_cons_zero, zE, itS, yK, zb9 hl, jX, List.map_cons, List.map_nil, e, zhm]
        simp only [za3, Option.bind_some, UK, WP, Option.map_some, yK, zE, UR, Yv, zhH, Bool.true_and]
      · rw [decide_eq_true (show (1 : Int) <= x.length by omega), decide_eq_false (show ¬ (x.length : Int) <= 8 by omega), decide_eq_false p1]
        walk_at "gs"
    · rw [decide_eq_false (show ¬ (1 : Int) <= x.length by omega), decide_eq_false p0]
      walk_at "gs"
  | _ => first | (cases h; done) | (walk_at "gs"; rfl)
theorem zbi {ns : List Int} {k : Int} (h : 0 <= k) : ∃ i, yL [.val (.fz ns), .val (.int k)] = .ok (.int i) [] := by
  unfold yL QC
  by_cases h1 : k < ns.length
  · refine ⟨ns.getD k.toNat 0, ?_⟩
    walk_at "gs"
    rw [decide_eq_true h1]
    walk_at "gs"
    rw [zic h h1]
    walk_at "gs"
  · refine ⟨0, ?_⟩
    walk_at "gs"
    rw [decide_eq_false h1]
    walk_at "gs"
def jN (o : D) : Prop := ∃ a b c, o = .lst [.int a, .int b, .int c] /\ 0 <= a /\ 0 <= b /\ b < 2147483629 /\ 0 <= c
theorem zfq {c : Int} : ∃ o, jM [.val (.int c)] = .ok o [] /\ jN o := by
  unfold jM Yy
  have hp : Us 10 18 := ⟨by decide, by decide, by decide⟩
  by_cases h : (10 ^ (18 : Nat) : Int) <= c
  · refine ⟨.lst [.int c, .int (c % 2147483629), .int 0], ?_, c, _, _, rfl, by omega, Int.emod_nonneg _ (by decide), Int.emod_lt_of_pos _ (by decide), by decide⟩
    walk_at "gs"
    simp only [if_pos hp]
    walk_at "gs"
    simp only [decide_eq_true h]
    walk_at "gs"
  · refine ⟨.lst [.int 0, .int (c % 2147483629), .int 0], ?_, 0, _, _, rfl, by omega, Int.emod_nonneg _ (by decide), Int.emod_lt_of_pos _ (by decide), by decide⟩
    walk_at "gs"
    simp only [if_pos hp]
    walk_at "gs"
    simp only [decide_eq_false h]
    walk_at "gs"
theorem VS {i j : Int} (h : -18446744073709551616 < i /\ i < 18446744073709551616) : CMul i j := .inl ⟨by omega, by omega⟩
theorem zep {i j : Int} (h : -18446744073709551616 < j /\ j < 18446744073709551616) : CMul i j := .inr ⟨by omega, by omega⟩
theorem zdt {i j : Int} (h : 0 < j /\ j < 1073741824) : Ub i j := ⟨h.1, by omega⟩
def zeq (b c : Int) : Int := (b + 7919 * (c + 1) + 1) * 48271 % 2147483647 * ((b + 7919 * (c + 1) + 1) * 48271 % 2147483647 / 1009 + 69621) % 2147483647 * ((b + 7919 * (c + 1) + 1) * 48271 % 2147483647 * ((b + 7919 * (c + 1) + 1) * 48271 % 2147483647 / 1009 + 69621) % 2147483647 / 2003 + 40692) % 2147483399
theorem zZ {o : D} {n : Int} (hw : jN o) (h0 : 0 < n) (h1 : n < 1073741824) : ∃ r o', zq [.own o, .val (.int n)] = .ok (.int r) [o'] /\ 0 <= r /\ r < n /\ jN o' := by
  obtain ⟨a, b, c, rfl, ha, hb, hb', hc⟩ := hw
  unfold zq Yz
  by_cases h : 0 < a
  · refine ⟨a % n, .lst [.int (a / n), .int b, .int c], ?_, Int.emod_nonneg _ (by omega), Int.emod_lt_of_pos _ h0, _, _, _, rfl, Int.ediv_nonneg ha (by omega), hb, hb', hc⟩
    walk_at "gs"
    simp only [decide_eq_true h, h0]
    unfold Q8
    walk_at "gs"
    simp only [if_pos (zdt (i := a) ⟨h0, h1⟩)]
    walk_at "gs"
  · refine ⟨zeq b c % n, .lst [.int a, .int b, .int (c + 1)], ?_, Int.emod_nonneg _ (by omega), Int.emod_lt_of_pos _ h0, _, _, _, rfl, ha, hb, hb', by omega⟩
    unfold zeq
    walk_at "gs"
    simp only [decide_eq_false h]
    unfold Zc Zb
    walk_at "gs"
    simp only [if_pos (VS (i := 7919) (j := c + 1) (by decide)), if_pos (zep (i := b + 7919 * (c + 1) + 1) (j := 48271) (by decide))]
    walk_at "gs"
    simp only [if_pos (zep (i := b + 7919 * (c + 1) + 1) (j := 48271) (by decide))]
    walk_at "gs"
    generalize hn : (b + 7919 * (c + 1) + 1) * 48271 % 2147483647 = n1
    have n1a : 0 <= n1 := by rw [← hn]; exact Int.emod_nonneg _ (by decide)
    have n1b : n1 < 2147483647 := by rw [← hn]; exact Int.emod_lt_of_pos _ (by decide)
    unfold Za
    walk_at "gs"
    simp only [if_pos (zdt (i := n1) (j := 1009) (by decide))]
    walk_at "gs"
    simp only [if_pos (VS (i := n1) (j := n1 / 1009 + 69621) ⟨by omega, by omega⟩)]
    walk_at "gs"
    generalize hn2 : n1 * (n1 / 1009 + 69621) % 2147483647 = n2
    have n2a : 0 <= n2 := by rw [← hn2]; exact Int.emod_nonneg _ (by decide)
    have n2b : n2 < 2147483647 := by rw [← hn2]; exact Int.emod_lt_of_pos _ (by decide)
    unfold Q9
    walk_at "gs"
    simp only [if_pos (zdt (i := n2) (j := 2003) (by decide))]
    walk_at "gs"
    simp only [if_pos (VS (i := n2) (j := n2 / 2003 + 40692) ⟨by omega, by omega⟩)]
    walk_at "gs"
    simp only [if_pos h0]
    walk_at "gs"
def letters : Str := "abcdefghijklmnopqrstuvwxyz"
theorem Vn : letters.cps.toList = List.range' 97 26 := by decide +kernel
theorem Yg : letters.cps.toList.length = 26 := by rw [Vn]; simp
theorem W1 {j : Nat} (h : j < 26) : jJ (letters.cps.toList.getD j 0) = true := by
  rw [Vn, List.getD_eq_getElem?_getD, List.getElem?_range' (by omega)]
  simp [jJ]; omega
theorem Vo {r : Int} (h0 : 0 <= r) (h1 : r < 26) : ∃ c, zz (.str letters) (.int r) = some (.str ⟨#[c]⟩) /\ jJ c = true :=
  ⟨_, zid (by rw [Z3, Yg]; omega) h0 (by rw [Yg]; exact h1), W1 (by omega)⟩
theorem zdu {w : Str} {c : Nat} (hl : w.length <= 1000) : Q0 (.str w) (.str ⟨#[c]⟩) = some (.str (w ++ ⟨#[c]⟩)) := if_pos (by show w.length + 1 <= 100000; omega)
theorem zah {w : Str} {c : Nat} (hw : w.cps.toList.all jJ = true) (hc : jJ c = true) : (w ++ ⟨#[c]⟩ : Str).cps.toList.all jJ = true /\ (w ++ ⟨#[c]⟩ : Str).length = w.length + 1 := by
  rw [Z3, zfn, Z3]
  simp [hw, hc]
theorem zai {o : D} {last : Int} (hw : jN o) : ∃ x o', y8 [.own o, .val (.int last)] = .ok (.str x) [o'] /\ y9 x = true /\ jN o' := by
  unfold y8 YA Zg
  obtain ⟨r, o1, e, r0, r1, hw1⟩ := zZ hw (n := 8) (by decide) (by decide)
  have hr : -1000000 <= r /\ r <= 1000000 := by omega
  walk_at "gs"
  simp only [e]
  walk_at "gs"
  simp only [UO, if_pos hr]
  walk_at "gs"
  obtain ⟨ρ', e2, o2, w, s4, hw2, ha, hl, rfl⟩ := Zh (g := zA 4) (b := JV) (fun ds ρ => ∃ o w s4, jN o /\ w.cps.toList.all jJ = true /\ w.length + ds.length <= 7 /\ ρ = [.own o, .val (.int last), .val (.str letters), .val (.str w), s4])
    (fun d rr ρ ⟨o, w, s4, hw, ha, hl, e⟩ => by
      subst e
      refine ⟨_, rfl, ?_⟩
      obtain ⟨r, o1, e, r0, r1, hw1⟩ := zZ hw (n := 26) (by decide) (by decide)
      obtain ⟨c, e2, hc⟩ := Vo r0 r1
      have hl' : w.length <= 1000 := by simp at hl; omega
      obtain ⟨a, b⟩ := zah ha hc
      refine ⟨[.own o1, .val (.int last), .val (.str letters), .val (.str (w ++ ⟨#[c]⟩)), .val d], .inl ?_, o1, _, _, hw1, a, by simp at hl; omega, rfl⟩
      unfold JV
      simp only [List.set_cons_succ, List.set_cons_zero]
      walk_at "gs"
      simp only [e]
      walk_at "gs"
      simp only [e2]
      walk_at "gs"
      simp only [zdu hl', if_pos (show w.length + (⟨#[c]⟩ : Str).length <= 100000 by show w.length + 1 <= 100000; omega)]
      walk_at "gs") (yk 0 r.toNat) [.own o1, .val (.int last), .val (.str letters), .val (.str ""), .no] ⟨o1, "", .no, hw1, rfl, by rw [JW, show (Str.ofString "").length = 0 from rfl]; omega, rfl⟩
  simp only [show (Str.ofString "abcdefghijklmnopqrstuvwxyz") = letters from rfl, e2]
  have hl' : w.length <= 7 := by simpa using hl
  obtain ⟨c, e3, hc⟩ := Vo (r := last % 26) (Int.emod_nonneg _ (by decide)) (Int.emod_lt_of_pos _ (by decide))
  obtain ⟨a, b⟩ := zah ha hc
  refine ⟨w ++ ⟨#[c]⟩, o2, ?_, ?_, hw2⟩
  · unfold Ze
    walk_at "gs"
    simp only [e3]
    walk_at "gs"
    simp only [if_pos (show w.length + (⟨#[c]⟩ : Str).length <= 100000 by show w.length + 1 <= 100000; omega)]
    walk_at "gs"
  · unfold y9
    rw [a, Bool.and_true, Bool.and_eq_true, decide_eq_true_eq, decide_eq_true_eq]
    omega
namespace K66
def sL (xs : List Str) : List D := xs.map D.str
theorem jG (xs : List Str) : (sL xs).length = xs.length := List.length_map ..
theorem Um (xs ys : List Str) : sL xs ++ sL ys = sL (xs ++ ys) := (List.map_append ..).symm
def wt (ys : List Str) : Nat := (ys.map (·.length)).sum
theorem zdv (z : Str) (ys : List Str) : (Txt.join z ys).length <= wt ys + ys.length * z.length := by
  cases ys with
  | nil => exact Nat.zero_le _
  | cons a r =>
    show (PySem.Builtin.Str.glued z (a :: r)).length <= _
    rw [PySem.StrLaws.glued_eq_join, PyProof.Rows.len_join_cons]
    unfold wt
    rw [List.length_cons, Nat.succ_mul]
    omega
theorem YC {z : Str} {ys : List Str} (h : wt ys + ys.length * z.length <= 100000) : j6 z (.lst (sL ys)) = some (.str (Txt.join z ys)) := by
  have e : za4 (.lst (sL ys)) = some ys := zca ys
  unfold j6
  rw [e]
  exact if_pos h
abbrev it (i : Int) : Str := Str.ofString (toString i)
def JN (i : Int) : Prop := 0 <= i /\ i < 1000000000
theorem zcl {i : Int} (h : JN i) : (it i).length <= 9 := PyProof.Rows.toString_length_le h.1 (by decide) (by have := h.2; omega)
theorem jg {i : Int} (h : JN i) : jm (.int i) = some (.str (it i)) := by
  refine if_pos ?_
  have h1 := h.1
  have h2 := h.2
  have h3 : (10 : Nat) ^ 30 = 1000000000000000000000000000000 := by decide
  omega
def JX (ns : List Str) : Prop := ∀ n ∈ ns, y9 n = true
theorem Qh {n : Str} (h : y9 n = true) : n.length <= 8 := by
  unfold y9 at h
  rw [Bool.and_eq_true, Bool.and_eq_true, decide_eq_true_eq, decide_eq_true_eq] at h
  exact h.1.2
theorem UV {P : D -> Prop} {ds : List D} {r : Int} (h0 : 0 <= r) (h1 : r < ds.length) (h : ∀ d ∈ ds, P d) : ∃ d, zz (.lst ds) (.int r) = some d /\ P d := by
  refine ⟨_, JU h0 h1, h _ ?_⟩
  have hl : r.toNat < ds.length := by omega
  rw [List.getD_eq_getElem?_getD, List.getElem?_eq_getElem hl]
  exact List.getElem_mem hl
theorem zi1 : Us 10 9 := ⟨by decide, by decide, by decide⟩
theorem jU {o : D} (hw : jN o) : ∃ i o', zX [.own o] = .ok (.int i) [o'] /\ JN i /\ jN o' := by
  unfold zX Zd
  obtain ⟨a, o1, e1, a0, a1, hw1⟩ := zZ hw (n := 10) (by decide) (by decide)
  obtain ⟨b, o2, e2, b0, b1, hw2⟩ := zZ hw1 (n := 1000000000) (by decide) (by decide)
  obtain ⟨r, o3, e3, r0, r1, hw3⟩ := zZ hw2 (n := 4) (by decide) (by decide)
  obtain ⟨d, ed, i, rfl, hi⟩ := UV (P := fun d => ∃ i, d = .int i /\ JN i) (ds := [.int 0, .int a, .int b, .int 999999999]) r0 (by simpa using r1) (by
    intro d hd
    simp only [List.mem_cons, List.not_mem_nil, or_false] at hd
    rcases hd with rfl | rfl | rfl | rfl
    · exact ⟨0, rfl, by decide, by decide⟩
    · exact ⟨a, rfl, a0, by omega⟩
    · exact ⟨b, rfl, b0, b1⟩
    · exact ⟨_, rfl, by decide, by decide⟩)
  refine ⟨i, o3, ?_, hi, hw3⟩
  walk_at "gs"
  simp only [e1]
  walk_at "gs"
  simp only [if_pos zi1, Int.reducePow]
  walk_at "gs"
  simp only [e2]
  walk_at "gs"
  simp only [Int.reduceSub, e3]
  walk_at "gs"
  simp only [ed]
  walk_at "gs"
theorem zcm {o : D} (hw : jN o) : ∃ ns o', yt [.own o] = .ok (.tup (sL ns)) [o'] /\ JX ns /\ ns.length <= 6 /\ jN o' := by
  obtain ⟨r, o1, e, r0, r1, hw1⟩ := zZ hw (n := 4) (by decide) (by decide)
  obtain ⟨ρ', e2, o2, ns, s2, hw2, hn, hl, rfl⟩ := Zh (g := zA 2) (b := yG) (fun ds ρ => ∃ o ns s2, jN o /\ JX ns /\ ns.length + 2 * ds.length <= 6 /\ ρ = [.own o, .own (.lst (sL ns)), s2])
    (fun d rr ρ ⟨o, ns, s2, hw, hn, hl, e⟩ => by
      subst e
      refine ⟨[.own o, .own (.lst (sL ns)), .val d], rfl, ?_⟩
      have hl : ns.length + 2 * (rr.length + 1) <= 6 := by simpa using hl
      obtain ⟨a, o1, e1, a0, a1, hw1⟩ := zZ hw (n := 26) (by decide) (by decide)
      obtain ⟨x, o2, e2, hx, hw2⟩ := zai (last := a) hw1
      obtain ⟨b, o3, e3, b0, b1, hw3⟩ := zZ hw2 (n := 4) (by decide) (by decide)
      have hA : yB (sL ns) (.str x) = some (.non, sL (ns ++ [x])) := by
        unfold yB
        rw [if_pos (by rw [jG]; omega)]
        show some (D.non, sL ns ++ sL [x]) = _
        rw [Um]
      have hn2 : JX (ns ++ [x]) := fun n h => by
        rcases List.mem_append.mp h with h | h
        · exact hn n h
        · rw [List.mem_singleton.mp h]; exact hx
      have s1 : jI (Qn yB 1 (zp 0 y8 (gCons (zp 0 zq (gCons (gC (.int 26)) gNil)) gNil))) [.own o, .own (.lst (sL ns)), .val d] = .ok .nx [.own o2, .own (.lst (sL (ns ++ [x]))), .val d] := by
        walk_at "gs"
        simp only [e1]
        walk_at "gs"
        simp only [e2]
        walk_at "gs"
        simp only [hA]
        walk_at "gs"
      unfold yG
      by_cases hb : b = 0
      · subst hb
        obtain ⟨y, ey, z, rfl, hz⟩ := UV (P := fun d => ∃ z, d = .str z /\ y9 z = true) (ds := sL (ns ++ [x])) (r := 0) (by decide) (by rw [jG, List.length_append, List.length_singleton]; omega) (by
          intro d hd
          obtain ⟨z, hz, rfl⟩ := List.mem_map.mp hd
          exact ⟨z, rfl, hn2 z hz⟩)
        have hA2 : yB (sL (ns ++ [x])) (.str z) = some (.non, sL (ns ++ [x] ++ [z])) := by
          unfold yB
          rw [if_pos (by rw [jG, List.length_append, List.length_singleton]; omega)]
          show some (D.non, sL (ns ++ [x]) ++ sL [z]) = _
          rw [Um]
        refine ⟨[.own o3, .own (.lst (sL (ns ++ [x] ++ [z]))), .val d], .inl ?_, o3, _, _, hw3, ?_, ?_, rfl⟩
        · refine (zr s1).trans ?_
          unfold jn
          walk_at "gs"
          simp only [e3]
          walk_at "gs"
          simp only [ey]
          walk_at "gs"
          simp only [hA2]
          walk_at "gs"
        · exact fun n h => by
            rcases List.mem_append.mp h with h | h
            · exact hn2 n h
            · rw [List.mem_singleton.mp h]; exact hz
        · rw [List.length_append, List.length_append, List.length_singleton, List.length_singleton]; omega
      · refine ⟨[.own o3, .own (.lst (sL (ns ++ [x]))), .val d], .inl ?_, o3, _, _, hw3, hn2, by rw [List.length_append, List.length_singleton]; omega, rfl⟩
        refine (zr s1).trans ?_
        unfold jn
        walk_at "gs"
        simp only [e3]
        walk_at "gs"
        simp only [decide_eq_false hb]
        walk_at "gs") (yk 0 r.toNat) [.own o1, .own (.lst (sL [])), .no] ⟨o1, [], .no, hw1, (fun n h => by cases h), by rw [JW]; simp; omega, rfl⟩
  refine ⟨ns, o2, ?_, hn, by simpa using hl, hw2⟩
  have hr : -1000000 <= r /\ r <= 1000000 := by omega
  unfold yt JM j9
  walk_at "gs"
  simp only [e]
  walk_at "gs"
  simp only [UO, if_pos hr]
  walk_at "gs"
  have e2' : Qb (zA 2) yG (yk 0 r.toNat) [.own o1, .own (.lst []), .no] = .ok .nx [.own o2, .own (.lst (sL ns)), s2] := e2
  simp only [e2']
  walk_at "gs"
def heard : List Str := ["idle", "strange", "elder", "false", "over", "twice", "done", "never", "no", "ok"]
theorem Yh : JX heard := by
  have h : heard.all y9 = true := by decide +kernel
  exact fun n hn => List.all_eq_true.mp h n hn
inductive Val : D -> Str -> Prop where
  | non : Val .non "-"
  | int {i : Int} (h : JN i) : Val (.int i) (it i)
inductive Row : D -> List Str -> Prop where
  | bg {a b : Int} {ns : List Str} (ha : JN a) (hb : JN b) (hn : JX ns) (hl : ns.length <= 6) : Row (.tup [.str "begin", .int a, .int b, .tup (sL ns)]) ("begin" :: it a :: it b :: ns)
  | wk {a : Int} {ns : List Str} (ha : JN a) (hn : JX ns) (hl : ns.length <= 6) : Row (.tup [.str "wake", .int a, .tup (sL ns)]) ("wake" :: it a :: ns)
  | off {a : Int} {b : Bool} (ha : JN a) : Row (.tup [.str "off", .int a, .bl b]) ["off", it a, if b then "yes" else "no"]
  | hr {a b c e : Int} {n w y : Str} {v : D} (ha : JN a) (hn : y9 n = true) (hb : JN b) (hv : Val v y) (hc : JN c) (he : JN e) (hw : w ∈ heard) :
      Row (.tup [.str "hear", .int a, .str n, .int b, v, .int c, .int e, .str w]) ["hear", it a, n, it b, y, it c, it e, w]
theorem zco {o : D} (hw : jN o) : ∃ d ws o', yi [.own o] = .ok d [o'] /\ Row d ws /\ jN o' := by
  obtain ⟨k, o1, e1, k0, k1, hw1⟩ := zZ hw (n := 5) (by decide) (by decide)
  obtain ⟨a, o2, e2, ha, hw2⟩ := jU hw1
  unfold yi Qg
  have st : zu (z0 1 (zp 0 zq (gCons (gC (.int 5)) gNil))) (zu (z0 2 (zp 0 zX gNil)) yc) [.own o, .no, .no, .no, .no, .no, .no, .no] = yc [.own o2, .val (.int k), .val (.int a), .no, .no, .no, .no, .no] := by
    refine (zr (ρ1 := [.own o1, .val (.int k), .no, .no, .no, .no, .no, .no]) ?_).trans (zr ?_)
    · walk_at "gs"
      simp only [e1]
      walk_at "gs"
    · walk_at "gs"
      simp only [e2]
      walk_at "gs"
  by_cases c0 : k = 0
  · subst c0
    obtain ⟨b, o3, e3, hb, hw3⟩ := jU hw2
    obtain ⟨ns, o4, e4, hn, hl, hw4⟩ := zcm hw3
    refine ⟨_, _, o4, Z4 rfl (st.trans (?_ : _ = O.ok (End.rt (.tup [.str "begin", .int a, .int b, .tup (sL ns)])) [.own o4, .val (.int 0), .val (.int a), .no, .no, .no, .no, .no])), .bg ha hb hn hl, hw4⟩
    unfold yc
    walk_at "gs"
    simp only [e3]
    walk_at "gs"
    simp only [e4]
    walk_at "gs"
  by_cases c1 : k = 1
  · subst c1
    obtain ⟨ns, o4, e4, hn, hl, hw4⟩ := zcm hw2
    refine ⟨_, _, o4, Z4 rfl (st.trans (?_ : _ = O.ok (End.rt (.tup [.str "wake", .int a, .tup (sL ns)])) [.own o4, .val (.int 1), .val (.int a), .no, .no, .no, .no, .no])), .wk ha hn hl, hw4⟩
    unfold yc yX
    walk_at "gs"
    simp only [e4]
    walk_at "gs"
  by_cases c2 : k = 2
  · subst c2
    obtain ⟨b, o4, e4, b0, b1, hw4⟩ := zZ hw2 (n := 2) (by decide) (by decide)
    refine ⟨_, _, o4, Z4 rfl (st.trans (?_ : _ = O.ok (End.rt (.tup [.str "off", .int a, .bl (decide (b = 1))])) [.own o4, .val (.int 2), .val (.int a), .no, .no, .no, .no, .no])), .off ha, hw4⟩
    unfold yc yX jv
    walk_at "gs"
    simp only [e4]
    walk_at "gs"
  obtain ⟨b, o3, e3, hb, hw3⟩ := jU hw2
  obtain ⟨r, o4, e4, r0, r1, hw4⟩ := zZ hw3 (n := 2) (by decide) (by decide)
  obtain ⟨v, ev, y, hv⟩ := UV (P := fun d => ∃ y, Val d y) (ds := [.non, .int b]) r0 (by simpa using r1) (by
    intro d hd
    simp only [List.mem_cons, List.not_mem_nil, or_false] at hd
    rcases hd with rfl | rfl
    · exact ⟨_, .non⟩
    · exact ⟨_, .int hb⟩)
  obtain ⟨l, o5, e5, l0, l1, hw5⟩ := zZ hw4 (n := 26) (by decide) (by decide)
  obtain ⟨x, o6, e6, hx, hw6⟩ := zai (last := l) hw5
  obtain ⟨j, o7, e7, j0, j1, hw7⟩ := zZ hw6 (n := 10) (by decide) (by decide)
  obtain ⟨n1, en1, q1, rfl, hq1⟩ := UV (P := fun d => ∃ q, d = .str q /\ q ∈ heard) (ds := sL heard) j0 (by simpa [sL, heard] using j1) (by
    intro d hd
    obtain ⟨z, hz, rfl⟩ := List.mem_map.mp hd
    exact ⟨z, rfl, hz⟩)
  obtain ⟨r2, o8, e8, r20, r21, hw8⟩ := zZ hw7 (n := 2) (by decide) (by decide)
  obtain ⟨n, en, m, rfl, hm⟩ := UV (P := fun d => ∃ q, d = .str q /\ y9 q = true) (ds := [.str x, .str q1]) r20 (by simpa using r21) (by
    intro d hd
    simp only [List.mem_cons, List.not_mem_nil, or_false] at hd
    rcases hd with rfl | rfl
    · exact ⟨_, rfl, hx⟩
    · exact ⟨_, rfl, Yh _ hq1⟩)
  obtain ⟨i1, p1, f1, h1, hv1⟩ := jU hw8
  obtain ⟨i2, p2, f2, h2, hv2⟩ := jU hv1
  obtain ⟨i3, p3, f3, h3, hv3⟩ := jU hv2
  obtain ⟨j2, p4, e9, j20, j21, hv4⟩ := zZ hv3 (n := 10) (by decide) (by decide)
  obtain ⟨n2, en2, q2, rfl, hq2⟩ := UV (P := fun d => ∃ q, d = .str q /\ q ∈ heard) (ds := sL heard) j20 (by simpa [sL, heard] using j21) (by
    intro d hd
    obtain ⟨z, hz, rfl⟩ := List.mem_map.mp hd
    exact ⟨z, rfl, hz⟩)
  have hs : yJ (Y7 ["idle", "strange", "elder", "false", "over", "twice", "done", "never", "no", "ok"]) = fun ρ => .ok (.lst (sL heard)) ρ := by
    funext ρ; rfl
  refine ⟨_, _, p4, Z4 rfl (st.trans (?_ : _ = O.ok (End.rt (.tup [.str "hear", .int a, .str m, .int i1, v, .int i2, .int i3, .str q2])) [.own p4, .val (.int k), .val (.int a), .val v, .val (.lst (sL heard)), .val (.str m), .val (.lst [.int i1, .int i2, .int i3]), .val (.str q2)])), .hr ha hm h1 hv h2 h3 hq2, hv4⟩
  unfold yc
  refine (zr (ρ1 := [.own o2, .val (.int k), .val (.int a), .no, .no, .no, .no, .no]) (by walk_at "gs"; simp only [decide_eq_false c0]; walk_at "gs")).trans ?_
  unfold yX
  refine (zr (ρ1 := [.own o2, .val (.int k), .val (.int a), .no, .no, .no, .no, .no]) (by walk_at "gs"; simp only [decide_eq_false c1]; walk_at "gs")).trans ?_
  unfold jv
  refine (zr (ρ1 := [.own o2, .val (.int k), .val (.int a), .no, .no, .no, .no, .no]) (by walk_at "gs"; simp only [decide_eq_false c2]; walk_at "gs")).trans ?_
  unfold Jo
  refine (zr (ρ1 := [.own o4, .val (.int k), .val (.int a), .val v, .no, .no, .no, .no]) (by walk_at "gs"; simp only [e3]; walk_at "gs"; simp only [e4]; walk_at "gs"; simp only [ev]; walk_at "gs")).trans ?_
  unfold Jn
  refine (zr (ρ1 := [.own o4, .val (.int k), .val (.int a), .val v, .val (.lst (sL heard)), .no, .no, .no]) (by rw [hs]; rfl)).trans ?_
  unfold Jm
  refine (zr (ρ1 := [.own o8, .val (.int k), .val (.int a), .val v, .val (.lst (sL heard)), .val (.str m), .no, .no]) (by walk_at "gs"; simp only [e5]; walk_at "gs"; simp only [e6]; walk_at "gs"; simp only [e7]; walk_at "gs"; simp only [en1]; walk_at "gs"; simp only [e8]; walk_at "gs"; simp only [en]; walk_at "gs")).trans ?_
  unfold Jl
  have ec : yp (zA 0) jy (zp 1 zX gNil) (yk 0 3) [.no, .own o8] = .ok [.int i1, .int i2, .int i3] [.val (.int 2), .own p3] := by
    show yp (zA 0) jy (zp 1 zX gNil) [.int (0 + (0 : Nat)), .int (0 + (1 : Nat)), .int (0 + (2 : Nat))] [.no, .own o8] = _
    unfold yp
    walk_at "gs"
    simp only [f1]
    walk_at "gs"
    unfold yp
    walk_at "gs"
    simp only [f2]
    walk_at "gs"
    unfold yp
    walk_at "gs"
    simp only [f3]
    walk_at "gs"
    unfold yp
    walk_at "gs"
    rfl
  have eR : z9 (gCons (gC (.int 3)) gNil) [.own o8, .val (.int k), .val (.int a), .val v, .val (.lst (sL heard)), .val (.str m), .no, .no] = .ok (yk 0 3) [.own o8, .val (.int k), .val (.int a), .val v, .val (.lst (sL heard)), .val (.str m), .no, .no] := rfl
  have eC := JC (js := [none, some 0]) (g := zA 0) (c := jy) (e := zp 1 zX gNil) (ρ2 := [.own p3, .val (.int k), .val (.int a), .val v, .val (.lst (sL heard)), .val (.str m), .no, .no]) eR (by decide) ec rfl
  refine (zr (ρ1 := [.own p3, .val (.int k), .val (.int a), .val v, .val (.lst (sL heard)), .val (.str m), .val (.lst [.int i1, .int i2, .int i3]), .no]) (J3 eC)).trans ?_
  unfold Jk
  refine (zr (ρ1 := [.own p4, .val (.int k), .val (.int a), .val v, .val (.lst (sL heard)), .val (.str m), .val (.lst [.int i1, .int i2, .int i3]), .val (.str q2)]) (by walk_at "gs"; simp only [e9]; walk_at "gs"; simp only [en2]; walk_at "gs")).trans ?_
  unfold Jj
  walk_at "gs"
end K66
namespace K66
theorem zdw {d : D} {ws : List Str} (h : Row d ws) : z3 [.val d] = .ok (.lst (sL ws)) [] := by
  unfold z3
  cases h with
  | @bg a b ns ha hb hn hl =>
    have hl' : 3 + (sL ns).length <= 100000 := by rw [jG]; omega
    refine jw rfl (?_ : _ = O.ok (End.rt (.lst (sL ("begin" :: it a :: it b :: ns)))) [.val (.tup [.str "begin", .int a, .int b, .tup (sL ns)]), .no])
    unfold yD
    refine UU ?_
    walk_at "gs"
    simp only [jg ha]
    walk_at "gs"
    simp only [jg hb]
    walk_at "gs"
    simp only [if_pos hl']
    walk_at "gs"
    rfl
  | @wk a ns ha hn hl =>
    have hl' : 2 + (sL ns).length <= 100000 := by rw [jG]; omega
    refine jw rfl (?_ : _ = O.ok (End.rt (.lst (sL ("wake" :: it a :: ns)))) [.val (.tup [.str "wake", .int a, .tup (sL ns)]), .no])
    unfold yD
    refine (zr (ρ1 := [.val (.tup [.str "wake", .int a, .tup (sL ns)]), .no]) (by walk_at "gs")).trans ?_
    unfold yH
    refine UU ?_
    walk_at "gs"
    simp only [jg ha]
    walk_at "gs"
    simp only [if_pos hl']
    walk_at "gs"
    rfl
  | @off a b ha =>
    refine jw rfl (?_ : _ = O.ok (End.rt (.lst (sL ["off", it a, if b then "yes" else "no"]))) [.val (.tup [.str "off", .int a, .bl b]), .no])
    unfold yD
    refine (zr (ρ1 := [.val (.tup [.str "off", .int a, .bl b]), .no]) (by walk_at "gs")).trans ?_
    unfold yH
    refine (zr (ρ1 := [.val (.tup [.str "off", .int a, .bl b]), .no]) (by walk_at "gs")).trans ?_
    unfold jo
    refine UU ?_
    walk_at "gs"
    simp only [jg ha]
    walk_at "gs"
    cases b
    · walk_at "gs"; rfl
    · walk_at "gs"; rfl
  | @hr a b c e n w y v ha hn hb hv hc he hw =>
    refine jw rfl (?_ : _ = O.ok (End.rt (.lst (sL ["hear", it a, n, it b, y, it c, it e, w]))) [.val (.tup [.str "hear", .int a, .str n, .int b, v, .int c, .int e, .str w]), .val (.str y)])
    unfold yD
    refine (zr (ρ1 := [.val (.tup [.str "hear", .int a, .str n, .int b, v, .int c, .int e, .str w]), .no]) (by walk_at "gs")).trans ?_
    unfold yH
    refine (zr (ρ1 := [.val (.tup [.str "hear", .int a, .str n, .int b, v, .int c, .int e, .str w]), .no]) (by walk_at "gs")).trans ?_
    unfold jo
    refine (zr (ρ1 := [.val (.tup [.str "hear", .int a, .str n, .int b, v, .int c, .int e, .str w]), .no]) (by walk_at "gs")).trans ?_
    refine (zr (ρ1 := [.val (.tup [.str "hear", .int a, .str n, .int b, v, .int c, .int e, .str w]), .val (.str "-")]) (by walk_at "gs")).trans ?_
    unfold Jb
    refine (zr (ρ1 := [.val (.tup [.str "hear", .int a, .str n, .int b, v, .int c, .int e, .str w]), .val (.str y)]) ?_).trans ?_
    · cases hv with
      | non => walk_at "gs"
      | int h => walk_at "gs"; simp only [jg h]; walk_at "gs"
    unfold Ja
    walk_at "gs"
    simp only [jg ha]
    walk_at "gs"
    simp only [jg hb]
    walk_at "gs"
    simp only [jg hc]
    walk_at "gs"
    simp only [jg he]
    walk_at "gs"
    rfl
end K66
namespace K66
theorem zcp (xs : List Str) : jY ((sL xs).map fun _ => D.bl true) = some (xs.map fun _ => true) := by
  induction xs with
  | nil => rfl
  | cons x r ih => show jY (D.bl true :: (sL r).map fun _ => D.bl true) = _; rw [jY, ih]; rfl
theorem zhI {xs : List Str} (h : JX xs) (hl : xs.length <= 1000) : jD [.val (.tup (sL xs))] = .ok (.bl true) [] := by
  obtain ⟨ρ', e, _⟩ := YB (g := zA 0) (e := zN yb (gCons (zm 0) gNil)) (fun ρ => ρ.length = 1) (fun _ => .bl true) (fun d => ∃ x, d = .str x /\ y9 x = true) (fun d ρ ⟨x, hd, hx⟩ hl => by
    subst hd
    match ρ, hl with
    | [t], _ =>
      refine ⟨[.val (.str x)], [.val (.str x)], rfl, ?_, rfl⟩
      have e : yb [.val (.str x)] = .ok (.bl true) [] := by
        rw [Ul (k := "str") rfl (fun y hy => by cases hy; exact Nat.le_trans (Qh hx) (by decide))]
        show RF.ok (.bl (y9 x)) [] = _
        rw [hx]
      exact Zi (ds := [.str x]) rfl e) (sL xs) [.no] (fun d hd => by
    obtain ⟨x, hx, rfl⟩ := List.mem_map.mp hd
    exact ⟨x, rfl, h x hx⟩) rfl
  refine jw rfl (?_ : _ = O.ok (End.rt (.bl true)) [.val (.tup (sL xs))])
  unfold QA
  have hc : yz (Uh (zm 0)) [none] (zA 0) jy (zN yb (gCons (zm 0) gNil)) [.val (.tup (sL xs))] = .ok (.lst ((sL xs).map fun _ => .bl true)) [.val (.tup (sL xs))] := by
    have l1 : ρ'.length = 1 := by assumption
    match ρ', l1 with
    | [t], _ => exact JC (ds := sL xs) rfl (by rw [jG]; omega) e (by walk_at "gs")
  have ha : yg UK (gO (yz (Uh (zm 0)) [none] (zA 0) jy (zN yb (gCons (zm 0) gNil)))) [.val (.tup (sL xs))] = .ok (.bl true) [.val (.tup (sL xs))] := by
    refine zfp hc ?_
    show (jY _).map _ = _
    rw [zcp]
    simp
  refine zae ?_
  rw [zdr (k := true) (ρ1 := [.val (.tup (sL xs))]) (by walk_at "gs"), if_pos rfl, ha]
theorem zcq {a : Int} (h : 0 <= a) : ya [.val (.int a)] = .ok (.bl true) [] := by
  rw [Z5 (k := "int") rfl]
  show RF.ok (.bl (decide (0 <= a))) [] = _
  rw [decide_eq_true h]
inductive Jp : Str -> D -> List Str -> Prop where
  | nu {a : Int} (h : JN a) : Jp "number" (.int a) [it a]
  | va {v : D} {y : Str} (h : Val v y) : Jp "value" v [y]
  | nm {x : Str} (h : y9 x = true) : Jp "name" (.str x) [x]
  | he {x : Str} (h : x ∈ heard) : Jp "heard" (.str x) [x]
  | tr {b : Bool} : Jp "truth" (.bl b) [if b then "yes" else "no"]
  | ns {xs : List Str} (h : JX xs) (hl : xs.length <= 6) : Jp "names" (.tup (sL xs)) xs
theorem Vp {f : Str} {a : Int} (hf : f = "number" \/ f = "value") (h : JN a) : yh [.val (.str f), .val (.int a)] = .ok (.bl true) [] := by
  have e := zcq h.1
  have h2 : a <= 9999999999 := by have := h.2; omega
  rcases hf with rfl | rfl
  all_goals
    unfold yh y6 yU jq j8 Qc
    walk_at "gs"
    simp only [e]
    walk_at "gs"
    rw [decide_eq_true h2]
theorem zdx {x : Str} (h : x ∈ heard) : Vg false (.str x) (.kt heard) = some (.bl true) := by
  have e : Yb (.str x) (heard.map D.str) = true := by
    unfold Yb
    rw [List.any_map, List.any_eq_true]
    exact ⟨x, h, by show (x == x) = true; simp⟩
  have f : (heard.map D.str).all yF = true := by decide
  unfold Vg
  show (if yF (.str x) = true /\ (heard.map D.str).all yF = true then _ else _) = _
  rw [if_pos ⟨rfl, f⟩, e]; rfl
theorem zhJ {f : Str} {d : D} {ws : List Str} (h : Jp f d ws) (hf : f ≠ "names") : yh [.val (.str f), .val d] = .ok (.bl true) [] := by
  cases h with
  | nu h => exact Vp (.inl rfl) h
  | va h =>
    cases h with
    | non =>
      unfold yh y6 yU jq j8
      walk_at "gs"
    | int h => exact Vp (.inr rfl) h
  | @nm x h =>
    have e : yb [.val (.str x)] = .ok (.bl true) [] := by
      rw [Ul (k := "str") rfl (fun y hy => by cases hy; exact Nat.le_trans (Qh h) (by decide))]
      show RF.ok (.bl (y9 x)) [] = _
      rw [h]
    unfold yh y6
    walk_at "gs"
    simp only [e]
    walk_at "gs"
  | @he x h =>
    have e := zdx h
    unfold heard at e
    unfold yh y6 yU
    walk_at "gs"
    simp only [e]
    walk_at "gs"
  | tr =>
    unfold yh y6 yU jq
    walk_at "gs"
  | ns h hl => exact absurd rfl hf
theorem zdy {f : Str} {d : D} {ws : List Str} (h : Jp f d ws) (hf : f ≠ "names") : ∃ w, ws = [w] /\ yV [.val d] = .ok (.str w) [] := by
  have num : ∀ {a : Int}, JN a -> yV [.val (.int a)] = .ok (.str (it a)) [] := fun h => by
    unfold yV J2 JB
    walk_at "gs"
    simp only [jg h]
    walk_at "gs"
  have txt : ∀ x : Str, yV [.val (.str x)] = .ok (.str x) [] := fun x => by
    unfold yV J2 JB
    walk_at "gs"
    simp only [show jm (.str x) = some (.str x) from rfl]
    walk_at "gs"
  cases h with
  | nu h => exact ⟨_, rfl, num h⟩
  | va h =>
    cases h with
    | non =>
      refine ⟨_, rfl, ?_⟩
      unfold yV J2
      walk_at "gs"
    | int h => exact ⟨_, rfl, num h⟩
  | nm h => exact ⟨_, rfl, txt _⟩
  | he h => exact ⟨_, rfl, txt _⟩
  | @tr b =>
    refine ⟨_, rfl, ?_⟩
    unfold yV J2 JB
    walk_at "gs"
    cases b <;> walk_at "gs"
  | ns h hl => exact absurd rfl hf
end K66
namespace K66
theorem zhK {acc : List Str} {w : Str} (h : acc.length <= 1000) : yB (sL acc) (.str w) = some (.non, sL (acc ++ [w])) := by
  unfold yB
  rw [if_pos (by rw [jG]; omega)]
  show some (D.non, sL acc ++ sL [w]) = _
  rw [Um]
theorem zhL {acc ws : List Str} (h : acc.length <= 1000) (h2 : ws.length <= 1000) : Ue (sL acc) (.tup (sL ws)) = some (.non, sL (acc ++ ws)) := by
  unfold Ue
  dsimp only
  rw [if_pos (by rw [jG, jG]; omega), Um]
theorem zfr {f : Str} {d : D} {ws : List Str} (h : Jp f d ws) (hf : f ≠ "names") : decide (f = "names") = false := decide_eq_false hf
theorem zfs {f : Str} {d A B : D} {ws acc : List Str} (h : Jp f d ws) (hl : acc.length <= 1000) :
    yW [.val A, .val B, .own (.lst (sL acc)), .val (.str f), .val d] = .ok .nx [.val A, .val B, .own (.lst (sL (acc ++ ws))), .val (.str f), .val d] := by
  unfold yW
  by_cases hf : f = "names"
  · cases h with
    | @ns xs h hl2 =>
      have e := zhI h (by omega)
      have e2 := zhL (ws := ws) hl (by omega)
      walk_at "gs"
      simp only [e]
      walk_at "gs"
      simp only [e2]
      walk_at "gs"
    | _ => exact absurd hf (by decide)
  · have e := zhJ h hf
    obtain ⟨w, rfl, e1⟩ := zdy h hf
    have e2 := zhK (w := w) hl
    have hd := zfr h hf
    walk_at "gs"
    simp only [hd]
    walk_at "gs"
    simp only [hd, e]
    walk_at "gs"
    simp only [e1]
    walk_at "gs"
    simp only [e2]
    walk_at "gs"
inductive Parts : List Str -> List D -> List Str -> Prop where
  | nil : Parts [] [] []
  | cons {f : Str} {d : D} {ws : List Str} {fs : List Str} {ds : List D} {vs : List Str} (h : Jp f d ws) (r : Parts fs ds vs) : Parts (f :: fs) (d :: ds) (ws ++ vs)
theorem Parts.len {fs : List Str} {ds : List D} {ws : List Str} (h : Parts fs ds ws) : fs.length = ds.length := by
  induction h with
  | nil => rfl
  | cons _ _ ih => simp [ih]
theorem WQ {f : Str} {d : D} {ws : List Str} (h : Jp f d ws) : ws.length <= 6 := by
  cases h with
  | ns h hl => exact hl
  | _ => exact Nat.le_of_ble_eq_true rfl
theorem zft {A B : D} : ∀ {fs : List Str} {ds : List D} {ws : List Str} (acc : List Str) (s3 s4 : Slot), Parts fs ds ws -> acc.length + 6 * fs.length <= 1000 ->
    ∃ t3 t4, Qb (Q2 (j4 (zA 3) (j4 (zA 4) ZY)) 2) yW (Q5 fs ds) [.val A, .val B, .own (.lst (sL acc)), s3, s4] = .ok .nx [.val A, .val B, .own (.lst (sL (acc ++ ws))), t3, t4] := by
  intro fs ds ws acc s3 s4 h
  induction h generalizing acc s3 s4 with
  | nil => intro _; exact ⟨s3, s4, by rw [List.append_nil]; rfl⟩
  | @cons f d ws fs ds vs h r ih =>
    intro hl
    have l1 := WQ h
    have hl2 : acc.length + 6 * (fs.length + 1) <= 1000 := by simpa using hl
    obtain ⟨t3, t4, e⟩ := ih (acc ++ ws) (.val (.str f)) (.val d) (by rw [List.length_append]; omega)
    refine ⟨t3, t4, ?_⟩
    show Qb _ _ (.tup [.str f, d] :: Q5 fs ds) _ = _
    unfold Qb
    have g : Q2 (j4 (zA 3) (j4 (zA 4) ZY)) 2 (.tup [.str f, d]) [.val A, .val B, .own (.lst (sL acc)), s3, s4] = some [.val A, .val B, .own (.lst (sL acc)), .val (.str f), .val d] := rfl
    rw [g, yK, zE, zfs h (by omega)]
    show Qb _ _ (Q5 fs ds) _ = _
    rw [e, List.append_assoc]
theorem zdz {fs : List Str} {ds : List D} {ws : List Str} (h : Parts fs ds ws) (hl : fs.length <= 10) : jr [.val (.kt fs), .val (.tup ds)] = .ok (.lst (sL ws)) [] := by
  obtain ⟨t3, t4, e⟩ := zft (A := .kt fs) (B := .tup ds) [] .no .no h (by simp; omega)
  have ln := h.len
  refine jw rfl (?_ : _ = O.ok (End.rt (.lst (sL ws))) [.val (.kt fs), .val (.tup ds), .val (.lst (sL ws)), t3, t4])
  unfold Qd
  refine (zr (ρ1 := [.val (.kt fs), .val (.tup ds), .no, .no, .no]) ?_).trans ?_
  · show zU _ _ _ [.val (.kt fs), .val (.tup ds), .no, .no, .no] = _
    refine (zci ?_).trans rfl
    refine zij ?_
    refine zhD (x := .int ds.length) (y := .int fs.length) rfl rfl ?_
    show (Zu (.int ds.length) (.int fs.length)).map _ = _
    rw [ln]
    show some (D.bl (!decide ((ds.length : Int) = ds.length))) = _
    rw [decide_eq_true rfl]; rfl
  refine (zr (ρ1 := [.val (.kt fs), .val (.tup ds), .own (.lst (sL [])), .no, .no]) (by walk_at "gs"; rfl)).trans ?_
  unfold Ji
  have z : VR (gCons (zm 0) (gCons (zm 1) gNil)) [.val (.kt fs), .val (.tup ds), .own (.lst (sL [])), .no, .no] = .ok (Q5 fs ds) [.val (.kt fs), .val (.tup ds), .own (.lst (sL [])), .no, .no] := by
    show yj (itZ [.kt fs, .tup ds]) _ = _
    unfold itZ
    dsimp only
    rw [if_pos ln]; rfl
  refine (zr (zag z |>.trans e)).trans ?_
  walk_at "gs"
def BK : List (Str × List Str) := [("begin", ["number", "number", "names"]), ("hear", ["number", "name", "number", "value", "number", "number", "heard"]), ("wake", ["number", "names"]), ("off", ["number", "truth"])]
theorem zfu : j7 "begin" BK = some (["number", "number", "names"] : List Str) := by decide +kernel
theorem zfv : j7 "hear" BK = some (["number", "name", "number", "value", "number", "number", "heard"] : List Str) := by decide +kernel
theorem zfw : j7 "wake" BK = some (["number", "names"] : List Str) := by decide +kernel
theorem zdA : j7 "off" BK = some (["number", "truth"] : List Str) := by decide +kernel
theorem Vq {d : D} {ws : List Str} (h : Row d ws) : ∃ k ds fs vs, d = .tup (.str k :: ds) /\ ws = k :: vs /\ j7 k BK = some fs /\ fs.length <= 10 /\ Parts fs ds vs /\ ds ≠ [] := by
  cases h with
  | bg ha hb hn hl => exact ⟨_, _, _, _, rfl, rfl, zfu, by decide, by simpa using Parts.cons (.nu ha) (.cons (.nu hb) (.cons (.ns hn hl) .nil)), by simp⟩
  | wk ha hn hl => exact ⟨_, _, _, _, rfl, rfl, zfw, by decide, by simpa using Parts.cons (.nu ha) (.cons (.ns hn hl) .nil), by simp⟩
  | off ha => exact ⟨_, _, _, _, rfl, rfl, zdA, by decide, .cons (.nu ha) (.cons .tr .nil), by simp⟩
  | hr ha hn hb hv hc he hw => exact ⟨_, _, _, _, rfl, rfl, zfv, by decide, .cons (.nu ha) (.cons (.nm hn) (.cons (.nu hb) (.cons (.va hv) (.cons (.nu hc) (.cons (.nu he) (.cons (.he hw) .nil)))))), by simp⟩
theorem zhM (xs ys : List Str) : wt (xs ++ ys) = wt xs + wt ys := by unfold wt; rw [List.map_append, List.sum_append]
theorem zdB {ns : List Str} (h : JX ns) : wt ns <= 8 * ns.length := by
  induction ns with
  | nil => exact Nat.zero_le _
  | cons n r ih =>
    have h1 := Qh (h n List.mem_cons_self)
    have h2 := ih fun m hm => h m (List.mem_cons_of_mem _ hm)
    show n.length + wt r <= _
    rw [List.length_cons]
    omega
theorem zfx {f : Str} {d : D} {ws : List Str} (h : Jp f d ws) : wt ws <= 48 := by
  cases h with
  | nu h => have := zcl h; show (it _).length + 0 <= 48; omega
  | va h =>
    cases h with
    | non => decide
    | int h => have := zcl h; show (it _).length + 0 <= 48; omega
  | @nm x h => have := Qh h; show x.length + 0 <= 48; omega
  | @he x h => have := Qh (Yh _ h); show x.length + 0 <= 48; omega
  | @tr b => cases b <;> decide
  | ns h hl => have := zdB h; omega
theorem WR {fs : List Str} {ds : List D} {ws : List Str} (h : Parts fs ds ws) : wt ws <= 48 * fs.length /\ ws.length <= 6 * fs.length := by
  induction h with
  | nil => exact ⟨Nat.zero_le _, Nat.zero_le _⟩
  | cons h _ ih =>
    have a := zfx h
    have b := WQ h
    rw [zhM, List.length_append, List.length_cons]
    omega
theorem zcr {d : D} {ws : List Str} (h : Row d ws) : wt ws <= 500 /\ ws.length <= 61 := by
  obtain ⟨k, ds, fs, vs, rfl, rfl, hk, hl, hp, _⟩ := Vq h
  have a := WR hp
  have b : k.length <= 8 := by cases h <;> decide
  show k.length + wt vs <= 500 /\ vs.length + 1 <= 61
  omega
theorem zcs : (Str.ofString " ").length = 1 := by decide +kernel
theorem zct : (Str.ofString "\n").length = 1 := by decide +kernel
theorem zaj {d : D} {ws : List Str} (h : Row d ws) : j6 " " (.lst (sL ws)) = some (.str (Txt.join " " ws)) := YC (by have := zcr h; rw [zcs]; omega)
theorem W2 {d : D} {ws : List Str} (h : Row d ws) : y7 [.val d] = .ok (.str (Txt.join " " ws)) [] := by
  have hj := zaj h
  obtain ⟨k, ds, fs, vs, rfl, rfl, hk, hl, hp, hne⟩ := Vq h
  have e := zdz hp hl
  have hv := (WR hp).2
  refine jw rfl (?_ : _ = O.ok (End.rt (.str (Txt.join " " (k :: vs)))) [.val (.tup (.str k :: ds)), .val (.lst (sL vs))])
  unfold Q7
  refine (zr (ρ1 := [.val (.tup (.str k :: ds)), .no]) ?_).trans ?_
  · have e1 : Uf true (.str k) (.kd BK) = some (.bl false) := by
      show some (D.bl (!(j7 k BK).isSome)) = _
      rw [hk]; rfl
    unfold BK at e1
    walk_at "gs"
    simp only [e1]
    walk_at "gs"
  unfold Qf
  refine (zr (ρ1 := [.val (.tup (.str k :: ds)), .val (.lst (sL vs))]) (J3 (ρ1 := [.val (.tup (.str k :: ds)), .no]) (Zi (ds := [.kt fs, .tup ds]) (ρ1 := [.val (.tup (.str k :: ds)), .no]) ?_ e))).trans ?_
  · have e2 : Ug (.kd BK) (.str k) = some (.kt fs) := by
      show (j7 k BK).map D.kt = _
      rw [hk]; rfl
    unfold BK at e2
    have e3 : zbd (zk 0) (Qm (gC (.int 1))) Jh [.val (.tup (.str k :: ds)), .no] = .ok (.tup ds) [.val (.tup (.str k :: ds)), .no] := by
      show yj (WM (.tup (.str k :: ds)) (some 1) none) _ = _
      have c : WM (.tup (.str k :: ds)) (some 1) none = some (.tup ds) := by
        unfold WM
        dsimp only
        have s1 : HT.sIx (D.str k :: ds).length 0 (some 1) = 1 := by
          unfold HT.sIx
          simp
        rw [if_neg (by rw [s1]; simp)]
        unfold yS
        rw [s1]
        have s2 : HT.sIx (D.str k :: ds).length (D.str k :: ds).length none = (D.str k :: ds).length := rfl
        rw [s2, List.drop_one, List.tail_cons, List.length_cons, Nat.add_sub_cancel, List.take_length]
      rw [c]; rfl
    refine (WO (x := .kt fs) (ρ1 := [.val (.tup (.str k :: ds)), .no]) ?_).trans ?_
    · walk_at "gs"
      simp only [e2]
      walk_at "gs"
    · rw [WO e3]; rfl
  unfold Qe
  have l1 : 1 + (sL vs).length <= 100000 := by rw [jG]; omega
  have hj' : j6 " " (.lst (.str k :: sL vs)) = some (.str (Txt.join " " (k :: vs))) := hj
  refine zae ?_
  walk_at "gs"
  simp only [if_pos l1]
  walk_at "gs"
  simp only [hj']
  walk_at "gs"
inductive Book : List D -> List Str -> Prop where
  | nil : Book [] []
  | cons {d : D} {ws : List Str} {ds : List D} {ts : List Str} (h : Row d ws) (r : Book ds ts) : Book (d :: ds) (Txt.join " " ws :: ts)
theorem Book.len {ds : List D} {ts : List Str} (h : Book ds ts) : ts.length = ds.length := by
  induction h with
  | nil => rfl
  | cons _ _ ih => simp [ih]
theorem Book.wt {ds : List D} {ts : List Str} (h : Book ds ts) : wt ts <= 600 * ts.length := by
  induction h with
  | nil => exact Nat.zero_le _
  | @cons d ws ds ts h _ ih =>
    have a := zdv " " ws
    have b := zcr h
    rw [zcs] at a
    show (Txt.join " " ws).length + K66.wt ts <= _
    rw [List.length_cons]
    omega
theorem Book.rows {ds : List D} {ts : List Str} (h : Book ds ts) : ∀ d ∈ ds, ∃ ws, Row d ws := by
  induction h with
  | nil => intro d h; cases h
  | cons h _ ih =>
    intro d hd
    rcases List.mem_cons.mp hd with e | e
    · subst e; exact ⟨_, h⟩
    · exact ih d e
theorem Book.of : ∀ {ds : List D}, (∀ d ∈ ds, ∃ ws, Row d ws) -> ∃ ts, Book ds ts
  | [], _ => ⟨[], .nil⟩
  | d :: r, h => by
    obtain ⟨ws, hd⟩ := h d List.mem_cons_self
    obtain ⟨ts, hr⟩ := Book.of fun x hx => h x (List.mem_cons_of_mem _ hx)
    exact ⟨_, .cons hd hr⟩
theorem Vr {e : G D} (he : ∀ d ws, Row d ws -> e [.val d] = .ok (.str (Txt.join " " ws)) [.val d]) : ∀ {ds : List D} {ts : List Str}, Book ds ts -> ∀ s, ∃ s', yp (zA 0) jy e ds [s] = .ok (sL ts) [s'] := by
  intro ds ts h
  induction h with
  | nil => exact fun s => ⟨s, rfl⟩
  | @cons d ws ds ts h _ ih =>
    intro s
    obtain ⟨s', e'⟩ := ih (.val d)
    refine ⟨s', ?_⟩
    unfold yp
    show (yj (some [Slot.val d]) [s]).bind _ = _
    rw [yK, zE]
    show (O.bind (.ok true _) _) = _
    rw [zE, if_pos rfl, he d ws h, zE, e', zE]; rfl
theorem zhN (ts : List Str) : Vg false .non (.lst (sL ts)) = some (.bl false) := by
  have f : (sL ts).all yF = true := by
    rw [List.all_eq_true]
    intro d hd
    obtain ⟨x, _, rfl⟩ := List.mem_map.mp hd
    rfl
  have e : Yb .non (sL ts) = false := by
    unfold Yb
    rw [List.any_eq_false]
    intro d hd
    obtain ⟨x, _, rfl⟩ := List.mem_map.mp hd
    exact Bool.false_ne_true
  unfold Vg
  show (if yF .non = true /\ (sL ts).all yF = true then _ else _) = _
  rw [if_pos ⟨rfl, f⟩, e]; rfl
theorem zcu (ts : List Str) : yC [.val (.lst (sL ts))] = .ok .non [] := by
  have e := zhN ts
  unfold yC JJ
  walk_at "gs"
  simp only [e]
  walk_at "gs"
theorem zak {ds : List D} {ts : List Str} (h : Book ds ts) (hl : ds.length <= 100) : yw [.val (.lst ds)] = .ok (.str (Txt.join "\n" ts)) [] := by
  have ln := h.len
  have hj : j6 "\n" (.lst (sL ts)) = some (.str (Txt.join "\n" ts)) := YC (by have := h.wt; rw [zct]; omega)
  obtain ⟨s', e⟩ := Vr (e := zN y7 (gCons (zm 0) gNil)) (fun d ws h => Zi (ds := [d]) rfl (W2 h)) h .no
  have ed := zcu ts
  refine jw rfl (?_ : _ = O.ok (End.rt (.str (Txt.join "\n" ts))) [.val (.lst ds), .val (.lst (sL ts))])
  unfold QB
  refine (zr (ρ1 := [.val (.lst ds), .no]) (by walk_at "gs")).trans ?_
  unfold JL
  have ec : yz (j5 (zm 0)) [none] (zA 0) jy (zN y7 (gCons (zm 0) gNil)) [.val (.lst ds), .no] = .ok (.lst (sL ts)) [.val (.lst ds), .no] := JC (ds := ds) rfl (by omega) e (by walk_at "gs")
  refine (zr (J3 ec)).trans ?_
  unfold JK
  refine (zr (ρ1 := [.val (.lst ds), .val (.lst (sL ts))]) (zds (Zi (ds := [.lst (sL ts)]) rfl ed))).trans ?_
  walk_at "gs"
  simp only [hj]
  walk_at "gs"
end K66
namespace K66
theorem eqV_self {d : D} (h : jZ d = true) : jO (vD d) (vD d) = true := by
  cases d <;> first | (cases h; done) | simp [vD, jO]
theorem Jq {n : Nat} {d : D} (h : jZ d = true) : yn n d d = some true := by
  cases n <;> (unfold yn; rw [h]; exact congrArg some (eqV_self h))
theorem ZK {n : Nat} : ∀ {ds : List D}, (∀ d ∈ ds, yn n d d = some true) -> QY (List.zipWith (yn n) ds ds) = some true
  | [], _ => rfl
  | d :: r, h => by
    rw [List.zipWith_cons_cons, h d List.mem_cons_self]
    unfold QY
    rw [ZK fun x hx => h x (List.mem_cons_of_mem _ hx)]; rfl
theorem ZL {n : Nat} {ds : List D} (h : ∀ d ∈ ds, yn n d d = some true) : yn (n + 1) (.tup ds) (.tup ds) = some true := by
  unfold yn
  show (match QY (List.zipWith (yn n) ds ds) with | some b => some (b && ds.length == ds.length) | none => none) = _
  rw [ZK h]; simp
theorem WS {n : Nat} {ns : List Str} : yn (n + 1) (.tup (sL ns)) (.tup (sL ns)) = some true := ZL fun d hd => by
  obtain ⟨x, _, rfl⟩ := List.mem_map.mp hd
  exact Jq rfl
theorem zhO {n : Nat} {d : D} {ws : List Str} (h : Row d ws) : yn (n + 2) d d = some true := by
  cases h with
  | bg ha hb hn hl =>
    refine ZL fun d hd => ?_
    simp only [List.mem_cons, List.not_mem_nil, or_false] at hd
    rcases hd with rfl | rfl | rfl | rfl <;> first | exact Jq rfl | exact WS
  | wk ha hn hl =>
    refine ZL fun d hd => ?_
    simp only [List.mem_cons, List.not_mem_nil, or_false] at hd
    rcases hd with rfl | rfl | rfl <;> first | exact Jq rfl | exact WS
  | off ha =>
    refine ZL fun d hd => ?_
    simp only [List.mem_cons, List.not_mem_nil, or_false] at hd
    rcases hd with rfl | rfl | rfl <;> exact Jq rfl
  | hr ha hn hb hv hc he hw =>
    refine ZL fun d hd => ?_
    simp only [List.mem_cons, List.not_mem_nil, or_false] at hd
    rcases hd with rfl | rfl | rfl | rfl | rfl | rfl | rfl | rfl <;> first | exact Jq rfl | (cases hv <;> exact Jq rfl)
theorem zfy {ds : List D} {ts : List Str} (h : Book ds ts) : Ww true (.lst ds) (.lst ds) = some (.bl false) := by
  have e : yn 40 (.lst ds) (.lst ds) = some true := by
    unfold yn
    show (if ds.length = ds.length then QY (List.zipWith (yn 39) ds ds) else some false) = _
    rw [if_pos rfl]
    exact ZK fun d hd => by obtain ⟨ws, hr⟩ := h.rows d hd; exact zhO (n := 37) hr
  unfold Ww
  show (if (true && true) = true then _ else _) = _
  rw [if_pos (by rfl), e]; rfl
theorem VT {a : G D} {ρ ρ1 : Env} {x : D} (h : a ρ = .ok x ρ1) : gO a ρ = .ok (.d x) ρ1 := by unfold gO; rw [h]; rfl
theorem zdC {a b : G D} {ρ ρ1 ρ2 : Env} {z : Str} {y d : D} (h1 : a ρ = .ok (.str z) ρ1) (h2 : b ρ1 = .ok y ρ2) (h : j6 z y = some d) : jl a (gO b) ρ = .ok d ρ2 := by
  unfold jl
  rw [h1, zE]
  dsimp only
  rw [VT h2, zE]
  show yj (j6 z y) ρ2 = _
  rw [h]; rfl
theorem zfz {f : D -> D -> Option (List D)} {a b : G D} {ρ ρ1 ρ2 : Env} {x y : D} {ds : List D} (h1 : a ρ = .ok x ρ1) (h2 : b ρ1 = .ok y ρ2) (h : f x y = some ds) : Jg f (gO a) (gO b) ρ = .ok (.lst ds) ρ2 := by
  unfold Jg
  rw [VT h1, zE, VT h2, zE]
  show yj ((f x y).map D.lst) ρ2 = _
  rw [h]; rfl
theorem zfA {a : G D} {l u : G (Option Int)} {ρ ρ1 ρ2 ρ3 : Env} {ds : List D} {lo hi : Option Int} (h1 : a ρ = .ok (.lst ds) ρ1) (h2 : l ρ1 = .ok lo ρ2) (h3 : u ρ2 = .ok hi ρ3) : ZE (gO a) l u ρ = .ok (.lst (yS ds lo hi)) ρ3 := by
  unfold ZE
  rw [VT h1, zE, h2, zE, h3, zE]; rfl
theorem WT : ∀ (ds : List D) (o : D) (s : Slot), jN o -> ∃ rows o' s', yp (zA 0) jy (zp 1 yi gNil) ds [s, .own o] = .ok rows [s', .own o'] /\ jN o' /\ rows.length = ds.length /\ ∀ d ∈ rows, ∃ ws, Row d ws
  | [], o, s, hw => ⟨[], o, s, rfl, hw, rfl, fun d h => by cases h⟩
  | k :: r, o, s, hw => by
    obtain ⟨d, ws, o1, e1, hr, hw1⟩ := zco hw
    obtain ⟨rows, o', s', e2, hw2, hl, hm⟩ := WT r o1 (.val k) hw1
    refine ⟨d :: rows, o', s', ?_, hw2, by simp [hl], fun x hx => ?_⟩
    · unfold yp
      walk_at "gs"
      simp only [e1]
      walk_at "gs"
      simp only [e2]
      walk_at "gs"
    · rcases List.mem_cons.mp hx with e | e
      · subst e; exact ⟨_, hr⟩
      · exact hm x e
theorem zhP {ds : List D} {ts : List Str} (h : Book ds ts) (hl : ds.length <= 100) {a b c d f : Slot} :
    jl (gC (.str "\n")) (gO (yz (j5 (zm 3)) [none] (zA 0) jy (jl (gC (.str " ")) (gO (zN z3 (gCons (zm 0) gNil)))))) [a, b, c, .val (.lst ds), d, f] = .ok (.str (Txt.join "\n" ts)) [a, b, c, .val (.lst ds), d, f] := by
  have hj : j6 "\n" (.lst (sL ts)) = some (.str (Txt.join "\n" ts)) := YC (by have := h.wt; have := h.len; rw [zct]; omega)
  obtain ⟨s', e⟩ := Vr (e := jl (gC (.str " ")) (gO (zN z3 (gCons (zm 0) gNil)))) (fun d ws h => by
    have e1 := zdw h
    have e2 := zaj h
    walk_at "gs"
    simp only [e1]
    walk_at "gs"
    simp only [e2]
    walk_at "gs") h .no
  have ec : yz (j5 (zm 3)) [none] (zA 0) jy (jl (gC (.str " ")) (gO (zN z3 (gCons (zm 0) gNil)))) [a, b, c, .val (.lst ds), d, f] = .ok (.lst (sL ts)) [a, b, c, .val (.lst ds), d, f] := JC (ds := ds) rfl (by omega) e (by walk_at "gs")
  exact zdC (z := "\n") rfl ec hj
theorem zfB {ds : List D} {ts : List Str} (h : Book ds ts) (hl : ds.length <= 100) {a b c d f : Slot} : ∃ ρ', zu (z0 4 (JR Ql (zk 3))) jE [a, b, c, .val (.lst ds), d, f] = .ok .nx ρ' /\ ∃ d' f', ρ' = [a, b, c, .val (.lst ds), d', f'] := by
  refine ⟨_, ?_, .val (.lst ds), .val (.str (Txt.join "\n" ts)), rfl⟩
  refine (zr (ρ1 := [a, b, c, .val (.lst ds), .val (.lst ds), f]) (by walk_at "gs")).trans ?_
  unfold jE
  refine (zr (J3 (zhP h hl))).trans ?_
  show Js [a, b, c, .val (.lst ds), .val (.lst ds), .val (.str (Txt.join "\n" ts))] = _
  unfold Js
  have e1 := zak h hl
  have e2 := zfy h
  walk_at "gs"
  simp only [e1]
  walk_at "gs"
  simp only [e2]
  walk_at "gs"
  simp only [e1]
  walk_at "gs"
theorem zfC {ds : List D} {m : Int} : ∀ d ∈ yS ds none (some m), d ∈ ds := fun d h => List.mem_of_mem_drop (List.mem_of_mem_take h)
theorem zfD {ds : List D} {n : Nat} {d : D} (h : d ∈ (List.replicate n ds).flatten) : d ∈ ds := by
  obtain ⟨l, hl, hd⟩ := List.mem_flatten.mp h
  rw [(List.mem_replicate.mp hl).2] at hd
  exact hd
theorem zfE {ds : List D} {m : Int} (h0 : 0 <= m) : (yS ds none (some m)).length <= m.toNat := by
  unfold yS
  rw [List.length_take]
  refine Nat.le_trans (Nat.min_le_left _ _) ?_
  refine Nat.le_trans (Nat.sub_le _ _) ?_
  show (if m < 0 then (m + (ds.length : Int)).toNat else min m.toNat ds.length) <= m.toNat
  rw [if_neg (by omega)]
  exact Nat.min_le_left _ _
theorem zfF {ns : List Int} {k : Nat} {s2 s3 s4 s5 : Slot} : ∃ ρ', jF [.val (.fz ns), .val (.int (0 + k)), s2, s3, s4, s5] = .ok .nx ρ' /\ ∃ s1 s2 s3 s4 s5, ρ' = [.val (.fz ns), s1, s2, s3, s4, s5] := by
  obtain ⟨i, ei⟩ := zbi (ns := ns) (k := 0 + k) (by omega)
  obtain ⟨o, eo, hw⟩ := zfq (c := i + 7 * (0 + k))
  obtain ⟨r, o1, e1, r0, r1, hw1⟩ := zZ hw (n := 9) (by decide) (by decide)
  obtain ⟨rows, o2, s', e2, hw2, hl, hm⟩ := WT (yk 0 (1 + r).toNat) o1 .no hw1
  obtain ⟨q, o3, e3, q0, q1, hw3⟩ := zZ hw2 (n := 4) (by decide) (by decide)
  have hrl : rows.length <= 9 := by rw [hl, JW]; omega
  unfold jF
  have w : jT 2 (zN jM (gCons (zh jK (gO (zN yL (gCons (zm 0) (gCons (zm 1) gNil)))) (gO (zh QZ (gO (gC (.int 7))) (zk 1)))) gNil)) [.val (.fz ns), .val (.int (0 + k)), s2, s3, s4, s5] = .ok .nx [.val (.fz ns), .val (.int (0 + k)), .own o, s3, s4, s5] := by
    walk_at "gs"
    simp only [ei]
    walk_at "gs"
    simp only [if_pos (VS (i := 7) (j := 0 + (k : Int)) (by decide))]
    walk_at "gs"
    simp only [eo]
    walk_at "gs"
  have tl : ∀ (ds : List D) (o : D), (∀ d ∈ ds, ∃ ws, Row d ws) -> ds.length <= 100 -> ∃ ρ', zu (z0 4 (JR Ql (zk 3))) jE [.val (.fz ns), .val (.int (0 + k)), .own o, .val (.lst ds), s4, s5] = .ok .nx ρ' /\ ∃ s1 s2 s3 s4 s5, ρ' = [.val (.fz ns), s1, s2, s3, s4, s5] := fun ds o hd hl => by
    obtain ⟨ts, hb⟩ := Book.of hd
    obtain ⟨ρ', e, d', f', rfl⟩ := zfB hb hl (a := .val (.fz ns)) (b := .val (.int (0 + k))) (c := .own o) (d := s4) (f := s5)
    exact ⟨_, e, _, _, _, _, _, rfl⟩
  have c4 : z0 3 (yz (z9 (gCons (zh jK (gO (gC (.int 1))) (gO (zp 2 zq (gCons (gC (.int 9)) gNil)))) gNil)) [none, some 2] (zA 0) jy (zp 1 yi gNil)) [.val (.fz ns), .val (.int (0 + k)), .own o, s3, s4, s5] = .ok .nx [.val (.fz ns), .val (.int (0 + k)), .own o2, .val (.lst rows), s4, s5] := by
    have eR : z9 (gCons (zh jK (gO (gC (.int 1))) (gO (zp 2 zq (gCons (gC (.int 9)) gNil)))) gNil) [.val (.fz ns), .val (.int (0 + k)), .own o, s3, s4, s5] = .ok (yk 0 (1 + r).toNat) [.val (.fz ns), .val (.int (0 + k)), .own o1, s3, s4, s5] := by
      refine Yf (ds := [.int (1 + r)]) ?_ (zaf (by omega))
      walk_at "gs"
      simp only [e1]
      walk_at "gs"
    exact J3 (JC (js := [none, some 2]) (ρ2 := [.val (.fz ns), .val (.int (0 + k)), .own o2, s3, s4, s5]) eR (by rw [JW]; omega) e2 (by walk_at "gs"))
  have main : ∃ ρ', Jt [.val (.fz ns), .val (.int (0 + k)), .own o2, .val (.lst rows), s4, s5] = .ok .nx ρ' /\ ∃ s1 s2 s3 s4 s5, ρ' = [.val (.fz ns), s1, s2, s3, s4, s5] := by
    unfold Jt
    by_cases hq : q = 0
    · subst hq
      obtain ⟨p, o4, e4, p0, p1, hw4⟩ := zZ hw3 (n := 21) (by decide) (by decide)
      obtain ⟨d, ws, o5, e5, hr, hw5⟩ := zco hw4
      have hrep : Yx (.lst rows) (.int 60) = some (List.replicate 60 rows).flatten := if_pos ⟨by decide, by decide, by show rows.length * 60 <= 100000; omega⟩
      have cl := zfE (ds := (List.replicate 60 rows).flatten) (m := 39 + p) (by omega)
      have hcat : Q1 (.lst (yS (List.replicate 60 rows).flatten none (some (39 + p)))) (.lst [d]) = some (yS (List.replicate 60 rows).flatten none (some (39 + p)) ++ [d]) := if_pos (by show _ + 1 <= 100000; omega)
      obtain ⟨ρ', e, h⟩ := tl (yS (List.replicate 60 rows).flatten none (some (39 + p)) ++ [d]) o5 (fun x hx => by
        rcases List.mem_append.mp hx with hx | hx
        · exact hm x (zfD (zfC x hx))
        · rw [List.mem_singleton.mp hx]; exact ⟨_, hr⟩) (by rw [List.length_append, List.length_singleton]; omega)
      refine ⟨ρ', (zr ?_).trans e, h⟩
      refine (zhE (ρ1 := [.val (.fz ns), .val (.int (0 + k)), .own o3, .val (.lst rows), s4, s5]) (by walk_at "gs"; simp only [e3]; walk_at "gs")).trans ?_
      refine J3 (ρ1 := [.val (.fz ns), .val (.int (0 + k)), .own o5, .val (.lst rows), s4, s5]) ?_
      have g1 : Jg Yx (zk 3) (gO (gC (.int 60))) [.val (.fz ns), .val (.int (0 + k)), .own o3, .val (.lst rows), s4, s5] = .ok (.lst (List.replicate 60 rows).flatten) [.val (.fz ns), .val (.int (0 + k)), .own o3, .val (.lst rows), s4, s5] := by
        show yj ((Yx (.lst rows) (.int 60)).map D.lst) _ = _
        rw [hrep]; rfl
      generalize (List.replicate 60 rows).flatten = big at *
      have g2 : ZE (gO (Jg Yx (zk 3) (gO (gC (.int 60))))) Jh (Qm (zh jK (gO (gC (.int 39))) (gO (zp 2 zq (gCons (gC (.int 21)) gNil))))) [.val (.fz ns), .val (.int (0 + k)), .own o3, .val (.lst rows), s4, s5] = .ok (.lst (yS big none (some (39 + p)))) [.val (.fz ns), .val (.int (0 + k)), .own o4, .val (.lst rows), s4, s5] := by
        refine zfA g1 (ρ2 := [.val (.fz ns), .val (.int (0 + k)), .own o3, .val (.lst rows), s4, s5]) rfl ?_
        walk_at "gs"
        simp only [e4]
        walk_at "gs"
      refine zfz g2 (y := .lst [d]) ?_ hcat
      walk_at "gs"
      simp only [e5]
      walk_at "gs"
    · obtain ⟨ρ', e, h⟩ := tl rows o3 hm (by omega)
      refine ⟨ρ', (zr ?_).trans e, h⟩
      refine (zci (ρ1 := [.val (.fz ns), .val (.int (0 + k)), .own o3, .val (.lst rows), s4, s5]) ?_).trans rfl
      walk_at "gs"
      simp only [e3]
      walk_at "gs"
      rw [decide_eq_false hq]
  obtain ⟨ρ', e, h⟩ := main
  refine ⟨ρ', ?_, h⟩
  refine (zr w).trans ?_
  unfold QD
  exact (zr c4).trans e
theorem lawF : ∀ ns : List Int, ns.length <= 63 -> Vl [.val (.fz ns)] = .ok (.bl true) [] := fun ns hn => by
  obtain ⟨n, en, hn1⟩ : ∃ n : Int, z9 (gCons (zh Y3 (gO (gC (.int 1))) (gO (zh Y4 (gO (gC (.int 6))) (gO (yg Qu (zk 0)))))) gNil) [.val (.fz ns), .no, .no, .no, .no, .no] = .ok (yk 0 n.toNat) [.val (.fz ns), .no, .no, .no, .no, .no] /\ 0 <= n := by
    refine ⟨_, Yf (ds := [.int (if (if (ns.length : Int) < 6 then (ns.length : Int) else 6) > 1 then (if (ns.length : Int) < 6 then (ns.length : Int) else 6) else 1)]) rfl (zaf ?_), ?_⟩
    · constructor <;> (split <;> split) <;> omega
    · (split <;> split) <;> omega
  obtain ⟨ρ', e, s1, s2, s3, s4, s5, rfl, _⟩ := Zh (g := zA 1) (b := jF) (fun ds ρ => ∃ s1 s2 s3 s4 s5, ρ = [.val (.fz ns), s1, s2, s3, s4, s5] /\ ∀ d ∈ ds, ∃ k : Nat, d = .int (0 + k))
    (fun d r ρ ⟨s1, s2, s3, s4, s5, e, hd⟩ => by
      subst e
      obtain ⟨k, rfl⟩ := hd d List.mem_cons_self
      obtain ⟨ρ', e, t1, t2, t3, t4, t5, he⟩ := zfF (ns := ns) (k := k) (s2 := s2) (s3 := s3) (s4 := s4) (s5 := s5)
      exact ⟨_, rfl, ρ', .inl e, t1, t2, t3, t4, t5, he, fun d h => hd d (List.mem_cons_of_mem _ h)⟩) (yk 0 n.toNat) [.val (.fz ns), .no, .no, .no, .no, .no] ⟨_, _, _, _, _, rfl, fun d h => by
      obtain ⟨i, _, e⟩ := zbg h
      exact ⟨i, e⟩⟩
  refine jw rfl (?_ : _ = O.ok (End.rt (.bl true)) [.val (.fz ns), s1, s2, s3, s4, s5])
  unfold ZJ
  have e0 : yw [.val (.lst [])] = .ok (.str (Txt.join "\n" [])) [] := zak .nil (by decide)
  have e1 : Txt.join "\n" [] = Str.ofString "" := by decide +kernel
  rw [e1] at e0
  refine (zr (ρ1 := [.val (.fz ns), .no, .no, .no, .no, .no]) ?_).trans ?_
  · show zU _ _ _ [.val (.fz ns), .no, .no, .no, .no, .no] = _
    walk_at "gs"
    simp only [e0]
    walk_at "gs"
  unfold QE
  exact (zr ((zag en).trans e)).trans rfl
end K66
end M
namespace W_k66
open PySem L2 M
def top (i : Nat) : Stmt := PySem.Challenge.pw_enoughsaid_k66_books_written.main.body.getD i (.Pass ⟨0, 0, 0, 0⟩)
structure yY (K : PySem.W.Frag) (mg : Str -> Option Value) (cls : Nat -> Option Addr) (ad : Nat -> Addr) : Prop where
  isinstance_ : mg "isinstance" = none
  str_ : mg "str" = none
  len_ : mg "len" = none
  all_ : mg "all" = none
  tuple_ : mg "tuple" = none
  int_ : mg "int" = none
  bool_ : mg "bool" = none
  zip_ : mg "zip" = none
  list_ : mg "list" = none
  range_ : mg "range" = none
  max_ : mg "max" = none
  min_ : mg "min" = none
  LONGEST_NAME : ∃ t, mg "LONGEST_NAME" = some (.int 8 t)
  GREATEST_NUMBER : ∃ t, mg "GREATEST_NUMBER" = some (.int 9999999999 t)
  g_HEARD_WORDS : ∃ T, mg "HEARD_WORDS" = some (.ref T) /\ Va K T (List.map V.str ["idle", "strange", "elder", "false", "over", "twice", "done", "never", "no", "ok"])
  g_BOOK_ROWS : ∃ T, mg "BOOK_ROWS" = some (.ref T) /\ KnD K T [("begin", ["number", "number", "names"]), ("hear", ["number", "name", "number", "value", "number", "number", "heard"]), ("wake", ["number", "names"]), ("off", ["number", "truth"])]
section
variable {P : Program} {w : World} {K : PySem.W.Frag} {mg : Str -> Option Value} {base : Heap} {cls : Nat -> Option Addr} {ad : Nat -> Addr} {f : Addr} {fd : FuncData}
theorem zbj : zL ["thing"] ["thing"] (zt (top 7)) := ⟨rfl, rfl, rfl, by decide +kernel, rfl, by decide +kernel, by decide +kernel⟩
theorem zcv (F : Fun K "is_name" "is_name" (top 7) f fd) (M : yY K mg cls ad) : FnOk P w K mg base yN 1 f fd ["thing"] (yR ⟨K, cls⟩ [] false 1 (zB yb)) := by
  have sc := zbj
  exact y4 F sc rfl fun cdv A outer s H E hr => ⟨_, (zg (zY (Wp (ZV (QL (Qa (je rfl M.isinstance_ (zi 0) (zc (Jr (n := "str") rfl M.str_ (by kernel_rfl)))))) (Wq (QL (zdg zao zaS zao zaS ze (ZA rfl M.len_ (zi 0)) (Rw rfl M.LONGEST_NAME))))))
    (zj (zy VN))
    zK)
  (zj (zy (zb2 rfl rfl M.all_ (zc (yr (UF rfl (CompOk.of_b (N' := ["sign"]) (js := [none]) rfl (by kernel_rfl)) (by decide) (zhf (yu 0)) (fun _ _ _ _ _ => (yT (i := 0) (by decide) (show (["sign"] : List Str).Nodup by decide +kernel) rfl (Or.inl rfl) (Or.inr rfl))) (fun _ _ _ _ _ => J1) (fun _ _ _ _ _ => (zdf U9 zbX U9 zbX zI (yu 0) zI))))))))), by unfold ZI Qz; infer_instance⟩
theorem WU : zL ["thing"] ["thing"] (zt (top 13)) := ⟨rfl, rfl, rfl, by decide +kernel, rfl, by decide +kernel, by decide +kernel⟩
theorem W3 (F : Fun K "are_names" "are_names" (top 13) f fd) (M : yY K mg cls ad) (h_is_name : HM P w K mg base cls "is_name" 1 ["thing"] [] false (zB yb)) : FnOk P w K mg base yN 2 f fd ["thing"] (yR ⟨K, cls⟩ [] false 1 (zB jD)) := by
  have sc := WU
  exact y4 F sc rfl fun cdv A outer s H E hr => ⟨_, (zj (zy (Zz (je rfl M.isinstance_ (zi 0) (zc (Jr (n := "tuple") rfl M.tuple_ (by kernel_rfl)))) (Zy (zb2 rfl rfl M.all_ (zc (yr (UF rfl (CompOk.of_b (N' := ["name"]) (js := [none]) rfl (by kernel_rfl)) (by decide) (zhz (yu 0)) (fun _ _ _ _ _ => (yT (i := 0) (by decide) (show (["name"] : List Str).Nodup by decide +kernel) rfl (Or.inl rfl) (Or.inr rfl))) (fun _ _ _ _ _ => J1) (fun _ _ _ _ _ => (ym h_is_name (hr.mono (by omega)) rfl (zd (yu 0) zf))))))))))), by unfold QA; infer_instance⟩
theorem W4 : zL ["thing"] ["thing"] (zt (top 5)) := ⟨rfl, rfl, rfl, by decide +kernel, rfl, by decide +kernel, by decide +kernel⟩
theorem zbk (F : Fun K "is_whole" "is_whole" (top 5) f fd) (M : yY K mg cls ad) : FnOk P w K mg base yN 1 f fd ["thing"] (yR ⟨K, cls⟩ [] false 1 (zB ju)) := by
  have sc := W4
  exact y4 F sc rfl fun cdv A outer s H E hr => ⟨_, (zj (zy (Zz (je rfl M.isinstance_ (zi 0) (zc (Jr (n := "int") rfl M.int_ (by kernel_rfl)))) (Zy (zhc (je rfl M.isinstance_ (zi 0) (zc (Jr (n := "bool") rfl M.bool_ (by kernel_rfl))))))))), by unfold Q6; infer_instance⟩
theorem Z6 : zL ["thing"] ["thing"] (zt (top 6)) := ⟨rfl, rfl, rfl, by decide +kernel, rfl, by decide +kernel, by decide +kernel⟩
theorem YD (F : Fun K "is_from_nought" "is_from_nought" (top 6) f fd) (M : yY K mg cls ad) (h_is_whole : HM P w K mg base cls "is_whole" 1 ["thing"] [] false (zB ju)) : FnOk P w K mg base yN 2 f fd ["thing"] (yR ⟨K, cls⟩ [] false 1 (zB ya)) := by
  have sc := Z6
  exact y4 F sc rfl fun cdv A outer s H E hr => ⟨_, (zj (zy (Zz (ym h_is_whole (hr.mono (by omega)) rfl (zd (yu 0) zf)) (Zy (QK zdT zec (zi 0) (zc ze) (zH _)))))), by unfold jL; infer_instance⟩
theorem W5 : zL ["form", "thing"] ["form", "thing"] (zt (top 11)) := ⟨rfl, rfl, rfl, by decide +kernel, rfl, by decide +kernel, by decide +kernel⟩
theorem zbl (F : Fun K "can_show" "can_show" (top 11) f fd) (M : yY K mg cls ad) (h_is_name : HM P w K mg base cls "is_name" 1 ["thing"] [] false (zB yb)) (h_is_from_nought : HM P w K mg base cls "is_from_nought" 2 ["thing"] [] false (zB ya)) : FnOk P w K mg base yN 3 f fd ["form", "thing"] (yR ⟨K, cls⟩ [] false 2 (zB yh)) := by
  have sc := W5
  exact y4 F sc rfl fun cdv A outer s H E hr => ⟨_, (zg (zY (zO jh ji (zi 0) (zc zI) (zH _))
    (zj (zy (ym h_is_name (hr.mono (by omega)) rfl (zd (yu 1) zf))))
    zK)
  (zg (zY (zO jh ji (zi 0) (zc zI) (zH _))
    (zj (zy (Zz (je rfl M.isinstance_ (zi 1) (zc (Jr (n := "str") rfl M.str_ (by kernel_rfl)))) (Zy (QK U5 zd_ (zi 1) (zc (zhx rfl M.g_HEARD_WORDS)) (by with_unfolding_all rfl))))))
    zK)
  (zg (zY (zO jh ji (zi 0) (zc zI) (zH _))
    (zj (zy (je rfl M.isinstance_ (zi 1) (zc (Jr (n := "bool") rfl M.bool_ (by kernel_rfl))))))
    zK)
  (zg (zY (zO VX Wi (zi 1) (zc jB) (zH _))
    (zj (zy (QK jh ji (zi 0) (zc zI) (zH _))))
    zK)
  (zj (zy (Zz (ym h_is_from_nought (hr.mono (by omega)) rfl (zd (yu 1) zf)) (Zy (QK zao zaS (zi 1) (zc (Rw rfl M.GREATEST_NUMBER)) (zH _)))))))))), by unfold y6 yU jq j8 Qc; infer_instance⟩
theorem zdD : zL ["thing"] ["thing"] (zt (top 12)) := ⟨rfl, rfl, rfl, by decide +kernel, rfl, by decide +kernel, by decide +kernel⟩
theorem zfG (F : Fun K "shown" "shown" (top 12) f fd) (M : yY K mg cls ad) : FnOk P w K mg base yN 1 f fd ["thing"] (yR ⟨K, cls⟩ [] false 1 (zB yV)) := by
  have sc := zdD
  exact y4 F sc rfl fun cdv A outer s H E hr => ⟨_, (zg (zY (zO VX Wi (zi 0) (zc jB) (zH _))
    (zj (zy zI))
    zK)
  (zg (zY (Qa (je rfl M.isinstance_ (zi 0) (zc (Jr (n := "bool") rfl M.bool_ (by kernel_rfl)))))
    (zj (zy (zed (zb0 (zi 0)) zI zI)))
    zK)
  (zj (zy (jf rfl M.str_ (zi 0)))))), by unfold J2 JB; infer_instance⟩
theorem Vu : zL ["forms", "parts", "words", "form", "part"] ["forms", "parts"] (zt (top 14)) := ⟨rfl, rfl, rfl, by decide +kernel, rfl, by decide +kernel, by decide +kernel⟩
theorem WV (F : Fun K "show_parts" "show_parts" (top 14) f fd) (M : yY K mg cls ad) (h_are_names : HM P w K mg base cls "are_names" 2 ["thing"] [] false (zB jD)) (h_can_show : HM P w K mg base cls "can_show" 3 ["form", "thing"] [] false (zB yh)) (h_shown : HM P w K mg base cls "shown" 1 ["thing"] [] false (zB yV)) : FnOk P w K mg base yN 4 f fd ["forms", "parts"] (yR ⟨K, cls⟩ [] false 2 (zB jr)) := by
  have sc := Vu
  exact y4 F sc rfl fun cdv A outer s H E hr => ⟨_, (zg (zY (zO YE YT (zc (ZA rfl M.len_ (zi 1))) (zc (ZA rfl M.len_ (zi 0))) (zH _))
    (zj (zy jB))
    zK)
  (zg (ZB (i := 2) (by decide) sc.nd rfl (Or.inl rfl) (yv zf))
  (zg (YZ PassesOwn.never rfl (zhB rfl M.zip_ (zd (yu 0) (zd (yu 1) zf))) (zhe (n := 2) rfl (Ws (yT (i := 3) (by decide) sc.nd rfl (Or.inl rfl)) (Ws (yT (i := 4) (by decide) sc.nd rfl (Or.inl rfl)) zfd)))
    (zj (zY (Wp (zb1 (zO jh ji (zi 3) (zc zI) (zH _)) (Ry (Qa (ym h_are_names (hr.mono (by omega)) rfl (zd (yu 4) zf))))))
    (zj (QM (zfj 2 (yu 4))))
    (zj (zY (Wp (zb1 (zO YE YT (zi 3) (zc zI) (zH _)) (Ry (Qa (ym h_can_show (hr.mono (by omega)) rfl (zd (yu 3) (zd (yu 4) zf)))))))
    (zj (QM (ZC 2 (ym h_shown (hr.mono (by omega)) rfl (zd (yu 4) zf)))))
    (zj (zy jB)))))))
  (zj (zy (dv 2 (by decide))))))), by unfold Qd Ji yW; infer_instance⟩
theorem W6 : zL ["row", "words"] ["row"] (zt (top 17)) := ⟨rfl, rfl, rfl, by decide +kernel, rfl, by decide +kernel, by decide +kernel⟩
theorem zbm (F : Fun K "show_row" "show_row" (top 17) f fd) (M : yY K mg cls ad) (h_show_parts : HM P w K mg base cls "show_parts" 4 ["forms", "parts"] [] false (zB jr)) : FnOk P w K mg base yN 5 f fd ["row"] (yR ⟨K, cls⟩ [] false 1 (zB y7)) := by
  have sc := W6
  exact y4 F sc rfl fun cdv A outer s H E hr => ⟨_, (zg (zY (Wp (ZV (QL (Qa (je rfl M.isinstance_ (zi 0) (zc (Jr (n := "tuple") rfl M.tuple_ (by kernel_rfl)))))) (ZV (QL (zb0 (zi 0))) (ZV (QL (Qa (je rfl M.isinstance_ (zc (zo (zi 0) (zc ze) (fun _ _ => rfl))) (zc (Jr (n := "str") rfl M.str_ (by kernel_rfl)))))) (Wq (zO zba zfk (zc (zo (zi 0) (zc ze) (fun _ _ => rfl))) (zc (zcg rfl M.g_BOOK_ROWS)) (by with_unfolding_all rfl)))))))
    (zj (zy jB))
    zK)
  (zg (yl (i := 1) (by decide) sc.nd rfl (Or.inl rfl) (ym h_show_parts (hr.mono (by omega)) rfl (zd (zfm (zc (zcg rfl M.g_BOOK_ROWS)) (zc (zo (zi 0) (zc ze) (fun _ _ => rfl))) (fun _ _ => rfl)) (zd (zhv (zi 0) (RA ze) Rz) zf))))
  (zj (zy (zed (zO VX Wi (zi 1) (zc jB) (zH _)) jB (Z2 zI (zc (yr (YY (zc (yr (yv (zd (zo (zi 0) (zc ze) (fun _ _ => rfl)) zf)))) (zi 1)))))))))), by unfold Q7 Qf Qe; infer_instance⟩
theorem UW : zL ["rows"] ["rows"] (zt (top 18)) := ⟨rfl, rfl, rfl, by decide +kernel, rfl, by decide +kernel, by decide +kernel⟩
theorem Vv (F : Fun K "demand_rows" "demand_rows" (top 18) f fd) (M : yY K mg cls ad) : FnOk P w K mg base yN 1 f fd ["rows"] (yR ⟨K, cls⟩ [] false 1 (zB yC)) := by
  have sc := UW
  exact y4 F sc rfl fun cdv A outer s H E hr => ⟨_, (zj (zY (zO U5 zd_ (zc jB) (zi 0) (by with_unfolding_all rfl))
    (zj Wr)
    zK)), by unfold JJ; infer_instance⟩
theorem WW : zL ["book", "rows"] ["book"] (zt (top 19)) := ⟨rfl, rfl, rfl, by decide +kernel, rfl, by decide +kernel, by decide +kernel⟩
theorem W7 (F : Fun K "show_book" "show_book" (top 19) f fd) (M : yY K mg cls ad) (h_show_row : HM P w K mg base cls "show_row" 5 ["row"] [] false (zB y7)) (h_demand_rows : HM P w K mg base cls "demand_rows" 1 ["rows"] [] false (zB yC)) : FnOk P w K mg base yN 6 f fd ["book"] (yR ⟨K, cls⟩ [] false 1 (zB yw)) := by
  have sc := WW
  exact y4 F sc rfl fun cdv A outer s H E hr => ⟨_, (zg (zY (QL (Qa (je rfl M.isinstance_ (zi 0) (zc (Jr (n := "list") rfl M.list_ (by kernel_rfl))))))
    (zj Wr)
    zK)
  (zg (UG (i := 1) (by decide) rfl sc.nd rfl rfl (CompOk.of_b (N' := ["row"]) (js := [none]) rfl (by kernel_rfl)) (by decide) (RC (yu 0)) (fun _ _ _ _ _ => (yT (i := 0) (by decide) (show (["row"] : List Str).Nodup by decide +kernel) rfl (Or.inl rfl) (Or.inr rfl))) (fun _ _ _ _ _ => J1) (fun _ _ _ _ _ => (ym h_show_row (hr.mono (by omega)) rfl (zd (yu 0) zf))))
  (zg (QM (ym h_demand_rows (hr.mono (by omega)) rfl (zd (yu 1) zf)))
  (zj (zy (Z2 zI (zi 1))))))), by unfold QB JL JK; infer_instance⟩
theorem zcw : zL ["_law_cell"] ["_law_cell"] (zt (top 22)) := ⟨rfl, rfl, rfl, by decide +kernel, rfl, by decide +kernel, by decide +kernel⟩
theorem zdE (F : Fun K "_law_well" "_law_well" (top 22) f fd) (M : yY K mg cls ad) : FnOk P w K mg base yN 1 f fd ["_law_cell"] (yR ⟨K, cls⟩ [] true 1 (zB jM)) := by
  have sc := zcw
  exact y4 F sc rfl fun cdv A outer s H E hr => ⟨_, (zj (zfc (yv (zd (zo (zc (yr (yv (zd ze (zd (yu 0) zf))))) (zc (RB rfl M.int_ (zc (QK zdT zec (zi 0) (zc (Wo (zc ze) (zc ze))) (zH _))))) (fun _ _ => rfl)) (zd (J9 (zi 0) (zc ze)) (zd ze zf)))))), by unfold Yy; infer_instance⟩
theorem WX : zL ["_law_script", "_law_k"] ["_law_script", "_law_k"] (zt (top 21)) := ⟨rfl, rfl, rfl, by decide +kernel, rfl, by decide +kernel, by decide +kernel⟩
theorem W8 (F : Fun K "_law_cell_at" "_law_cell_at" (top 21) f fd) (M : yY K mg cls ad) : FnOk P w K mg base yN 1 f fd ["_law_script", "_law_k"] (yR ⟨K, cls⟩ [] false 2 (zB yL)) := by
  have sc := WX
  exact y4 F sc rfl fun cdv A outer s H E hr => ⟨_, (zg (zY (zO zhU zh8 (zi 1) (zc (ZA rfl M.len_ (zi 0))) (zH _))
    (zj (zy (zo (zi 0) (zi 1) (fun _ _ => rfl))))
    zK)
  (zj (zy ze))), by unfold QC; infer_instance⟩
theorem zcx : zL ["_law_well_here", "_law_base", "_law_digit", "_law_number_here"] ["_law_well_here", "_law_base"] (zt (top 23)) := ⟨rfl, rfl, rfl, by decide +kernel, rfl, by decide +kernel, by decide +kernel⟩
theorem zdF (F : Fun K "_law_draw" "_law_draw" (top 23) f fd) (M : yY K mg cls ad) : FnOk P w K mg base yN 1 f fd ["_law_well_here", "_law_base"] (yR ⟨K, cls⟩ [0] false 2 (zB zq)) := by
  have sc := zcx
  exact y4 F sc rfl fun cdv A outer s H E hr => ⟨_, (zg (zY (zO zhV zh9 (zc (zo (zi 0) (zc ze) (fun _ _ => rfl))) (zc ze) (zH _))
    (zg (yl (i := 2) (by decide) sc.nd rfl (Or.inl rfl) (J9 (zc (zo (zi 0) (zc ze) (fun _ _ => rfl))) (zi 1)))
  (zg (Wt 0 (Yw (zc (zo (zi 0) (zc ze) (fun _ _ => rfl))) (zi 1)) ze)
  (zj (zy (yu 2)))))
    zK)
  (zg (Wt 0 (Jx (zc (zo (zi 0) (zc ze) (fun _ _ => rfl))) (zc ze)) ze)
  (zg (yl (i := 3) (by decide) sc.nd rfl (Or.inl rfl) (J9 (zc (Zx (zc (Jx (zc (Jx (zc (zo (zi 0) (zc ze) (fun _ _ => rfl))) (zc (Zx (zc ze) (zc (zo (zi 0) (zc ze) (fun _ _ => rfl))))))) (zc ze))) (zc ze))) (zc ze)))
  (zg (yl (i := 3) (by decide) sc.nd rfl (Or.inl rfl) (J9 (zc (Zx (zi 3) (zc (Jx (zc (Yw (zi 3) (zc ze))) (zc ze))))) (zc ze)))
  (zj (zy (J9 (zc (J9 (zc (Zx (zi 3) (zc (Jx (zc (Yw (zi 3) (zc ze))) (zc ze))))) (zc ze))) (zi 1)))))))), by unfold Yz Zc Zb Za Q9 Q8; infer_instance⟩
theorem W9 : zL ["_law_well_here"] ["_law_well_here"] (zt (top 25)) := ⟨rfl, rfl, rfl, by decide +kernel, rfl, by decide +kernel, by decide +kernel⟩
theorem zbn (F : Fun K "_law_number" "_law_number" (top 25) f fd) (M : yY K mg cls ad) (h_l_draw : HM P w K mg base cls "_law_draw" 1 ["_law_well_here", "_law_base"] [0] false (zB zq)) : FnOk P w K mg base yN 2 f fd ["_law_well_here"] (yR ⟨K, cls⟩ [0] false 1 (zB zX)) := by
  have sc := W9
  exact y4 F sc rfl fun cdv A outer s H E hr => ⟨_, (zj (zy (zo (zc (yr (yv (zd ze (zd (zw (j := 0) h_l_draw (hr.mono (by omega)) rfl (zd ze zf)) (zd (zw (j := 0) h_l_draw (hr.mono (by omega)) rfl (zd (Wo (zc ze) (zc ze)) zf)) (zd (zhb (zc (Wo (zc ze) (zc ze))) (zc ze)) zf))))))) (zc (zw (j := 0) h_l_draw (hr.mono (by omega)) rfl (zd ze zf))) (fun _ _ => rfl)))), by unfold Zd; infer_instance⟩
theorem zcy : zL ["_law_well_here", "_law_last", "_law_letters", "_law_word_here", "_law_k"] ["_law_well_here", "_law_last"] (zt (top 24)) := ⟨rfl, rfl, rfl, by decide +kernel, rfl, by decide +kernel, by decide +kernel⟩
theorem zdG (F : Fun K "_law_word" "_law_word" (top 24) f fd) (M : yY K mg cls ad) (h_l_draw : HM P w K mg base cls "_law_draw" 1 ["_law_well_here", "_law_base"] [0] false (zB zq)) : FnOk P w K mg base yN 2 f fd ["_law_well_here", "_law_last"] (yR ⟨K, cls⟩ [0] false 2 (zB y8)) := by
  have sc := zcy
  exact y4 F sc rfl fun cdv A outer s H E hr => ⟨_, (zg (yl (i := 2) (by decide) sc.nd rfl (Or.inl rfl) zI)
  (zg (yl (i := 3) (by decide) sc.nd rfl (Or.inl rfl) zI)
  (zg (YZ PassesOwn.never rfl (Jy rfl M.range_ (zd (zw (j := 0) h_l_draw (hr.mono (by omega)) rfl (zd ze zf)) zf)) (yT (i := 4) (by decide) sc.nd rfl (Or.inl rfl))
    (zj (yl (i := 3) (by decide) sc.nd rfl (Or.inl rfl) (Rx (zi 3) (zc (zo (zi 2) (zc (zw (j := 0) h_l_draw (hr.mono (by omega)) rfl (zd ze zf))) (fun _ _ => rfl)))))))
  (zj (zy (Rx (zi 3) (zc (zo (zi 2) (zc (J9 (zi 1) (zc ze))) (fun _ _ => rfl))))))))), by unfold YA Zg Ze JV; infer_instance⟩
theorem UX : zL ["_law_well_here", "_law_found", "_law_k"] ["_law_well_here"] (zt (top 26)) := ⟨rfl, rfl, rfl, by decide +kernel, rfl, by decide +kernel, by decide +kernel⟩
theorem Vw (F : Fun K "_law_few_names" "_law_few_names" (top 26) f fd) (M : yY K mg cls ad) (h_l_draw : HM P w K mg base cls "_law_draw" 1 ["_law_well_here", "_law_base"] [0] false (zB zq)) (h_l_word : HM P w K mg base cls "_law_word" 2 ["_law_well_here", "_law_last"] [0] false (zB y8)) : FnOk P w K mg base yN 3 f fd ["_law_well_here"] (yR ⟨K, cls⟩ [0] false 1 (zB yt)) := by
  have sc := UX
  exact y4 F sc rfl fun cdv A outer s H E hr => ⟨_, (zg (ZB (i := 1) (by decide) sc.nd rfl (Or.inl rfl) (yv zf))
  (zg (YZ PassesOwn.never rfl (Jy rfl M.range_ (zd (zw (j := 0) h_l_draw (hr.mono (by omega)) rfl (zd ze zf)) zf)) (yT (i := 2) (by decide) sc.nd rfl (Or.inl rfl))
    (zg (QM (ZC 1 (zw (j := 0) h_l_word (hr.mono (by omega)) rfl (zd (zw (j := 0) h_l_draw (hr.mono (by omega)) rfl (zd ze zf)) zf))))
  (zj (zY (zO jh ji (zc (zw (j := 0) h_l_draw (hr.mono (by omega)) rfl (zd ze zf))) (zc ze) (zH _))
    (zj (QM (ZC 1 (zo (zi 1) (zc ze) (fun _ _ => rfl)))))
    zK))))
  (zj (zy (zdh rfl M.tuple_ (zi 1)))))), by unfold JM j9 yG jn; infer_instance⟩
theorem Vx : zL ["_law_well_here", "_law_chance", "_law_moment", "_law_value", "_law_words", "_law_name", "_law_numbers", "_law_told"] ["_law_well_here"] (zt (top 27)) := ⟨rfl, rfl, rfl, by decide +kernel, rfl, by decide +kernel, by decide +kernel⟩
theorem WY (F : Fun K "_law_book_row" "_law_book_row" (top 27) f fd) (M : yY K mg cls ad) (h_l_draw : HM P w K mg base cls "_law_draw" 1 ["_law_well_here", "_law_base"] [0] false (zB zq)) (h_l_number : HM P w K mg base cls "_law_number" 2 ["_law_well_here"] [0] false (zB zX)) (h_l_few_names : HM P w K mg base cls "_law_few_names" 3 ["_law_well_here"] [0] false (zB yt)) (h_l_word : HM P w K mg base cls "_law_word" 2 ["_law_well_here", "_law_last"] [0] false (zB y8)) : FnOk P w K mg base yN 4 f fd ["_law_well_here"] (yR ⟨K, cls⟩ [0] false 1 (zB yi)) := by
  have sc := Vx
  exact y4 F sc rfl fun cdv A outer s H E hr => ⟨_, (zg (yl (i := 1) (by decide) sc.nd rfl (Or.inl rfl) (zw (j := 0) h_l_draw (hr.mono (by omega)) rfl (zd ze zf)))
  (zg (yl (i := 2) (by decide) sc.nd rfl (Or.inl rfl) (zw (j := 0) h_l_number (hr.mono (by omega)) rfl zf))
  (zg (zY (zO jh ji (zi 1) (zc ze) (zH _))
    (zj (zy (YX (zd zI (zd (yu 2) (zd (zw (j := 0) h_l_number (hr.mono (by omega)) rfl zf) (zd (zw (j := 0) h_l_few_names (hr.mono (by omega)) rfl zf) zf)))))))
    zK)
  (zg (zY (zO jh ji (zi 1) (zc ze) (zH _))
    (zj (zy (YX (zd zI (zd (yu 2) (zd (zw (j := 0) h_l_few_names (hr.mono (by omega)) rfl zf) zf))))))
    zK)
  (zg (zY (zO jh ji (zi 1) (zc ze) (zH _))
    (zj (zy (YX (zd zI (zd (yu 2) (zd (QK jh ji (zc (zw (j := 0) h_l_draw (hr.mono (by omega)) rfl (zd ze zf))) (zc ze) (zH _)) zf))))))
    zK)
  (zg (yl (i := 3) (by decide) sc.nd rfl (Or.inl rfl) (zo (zc (yr (yv (zd jB (zd (zw (j := 0) h_l_number (hr.mono (by omega)) rfl zf) zf))))) (zc (zw (j := 0) h_l_draw (hr.mono (by omega)) rfl (zd ze zf))) (fun _ _ => rfl)))
  (zg (yl (i := 4) (by decide) sc.nd rfl (Or.inl rfl) (yr (yv (ze_ (ss := ["idle", "strange", "elder", "false", "over", "twice", "done", "never", "no", "ok"]) (by kernel_rfl)))))
  (zg (yl (i := 5) (by decide) sc.nd rfl (Or.inl rfl) (zo (zc (yr (yv (zd (zw (j := 0) h_l_word (hr.mono (by omega)) rfl (zd (zw (j := 0) h_l_draw (hr.mono (by omega)) rfl (zd ze zf)) zf)) (zd (zo (zi 4) (zc (zw (j := 0) h_l_draw (hr.mono (by omega)) rfl (zd ze zf))) (fun _ _ => rfl)) zf))))) (zc (zw (j := 0) h_l_draw (hr.mono (by omega)) rfl (zd ze zf))) (fun _ _ => rfl)))
  (zg (UG (i := 6) (by decide) rfl sc.nd rfl rfl (CompOk.of_b (N' := ["_law_k", "_law_well_here"]) (js := [none, some 0]) rfl (by kernel_rfl)) (by decide) (Jy rfl M.range_ (zd ze zf)) (fun _ _ _ _ _ => (yT (i := 0) (by decide) (show (["_law_k", "_law_well_here"] : List Str).Nodup by decide +kernel) rfl (Or.inl rfl) (Or.inr rfl))) (fun _ _ _ _ _ => J1) (fun _ _ _ _ _ => (zw (j := 1) h_l_number (hr.mono (by omega)) rfl zf)))
  (zg (yl (i := 7) (by decide) sc.nd rfl (Or.inl rfl) (zo (zi 4) (zc (zw (j := 0) h_l_draw (hr.mono (by omega)) rfl (zd ze zf))) (fun _ _ => rfl)))
  (zj (zy (YX (zd zI (zd (yu 2) (zd (yu 5) (zd (zo (zi 6) (zc ze) (fun _ _ => rfl)) (zd (yu 3) (zd (zo (zi 6) (zc ze) (fun _ _ => rfl)) (zd (zo (zi 6) (zc ze) (fun _ _ => rfl)) (zd (yu 7) zf))))))))))))))))))))), by unfold Qg yc yX jv Jo Jn Jm Jl Jk Jj; infer_instance⟩
theorem UY : zL ["_law_row", "_law_value"] ["_law_row"] (zt (top 28)) := ⟨rfl, rfl, rfl, by decide +kernel, rfl, by decide +kernel, by decide +kernel⟩
theorem Vy (F : Fun K "_law_row_words" "_law_row_words" (top 28) f fd) (M : yY K mg cls ad) : FnOk P w K mg base yN 1 f fd ["_law_row"] (yR ⟨K, cls⟩ [] false 1 (zB z3)) := by
  have sc := UY
  exact y4 F sc rfl fun cdv A outer s H E hr => ⟨_, (zg (zY (zO jh ji (zc (zo (zi 0) (zc ze) (fun _ _ => rfl))) (zc zI) (zH _))
    (zj (zy (yr (YY (zc (yr (yv (zd (zo (zi 0) (zc ze) (fun _ _ => rfl)) (zd (jf rfl M.str_ (zc (zo (zi 0) (zc ze) (fun _ _ => rfl)))) (zd (jf rfl M.str_ (zc (zo (zi 0) (zc ze) (fun _ _ => rfl)))) zf)))))) (zc (yr (UE rfl M.list_ (zc (zo (zi 0) (zc ze) (fun _ _ => rfl))))))))))
    zK)
  (zg (zY (zO jh ji (zc (zo (zi 0) (zc ze) (fun _ _ => rfl))) (zc zI) (zH _))
    (zj (zy (yr (YY (zc (yr (yv (zd (zo (zi 0) (zc ze) (fun _ _ => rfl)) (zd (jf rfl M.str_ (zc (zo (zi 0) (zc ze) (fun _ _ => rfl)))) zf))))) (zc (yr (UE rfl M.list_ (zc (zo (zi 0) (zc ze) (fun _ _ => rfl))))))))))
    zK)
  (zg (zY (zO jh ji (zc (zo (zi 0) (zc ze) (fun _ _ => rfl))) (zc zI) (zH _))
    (zj (zy (yr (yv (zd (zo (zi 0) (zc ze) (fun _ _ => rfl)) (zd (jf rfl M.str_ (zc (zo (zi 0) (zc ze) (fun _ _ => rfl)))) (zd (zo (zc (yr (yv (zd zI (zd zI zf))))) (zc (RB rfl M.int_ (zc (zo (zi 0) (zc ze) (fun _ _ => rfl))))) (fun _ _ => rfl)) zf)))))))
    zK)
  (zg (yl (i := 1) (by decide) sc.nd rfl (Or.inl rfl) zI)
  (zg (zY (zO zeB ze0 (zc (zo (zi 0) (zc ze) (fun _ _ => rfl))) (zc jB) (zH _))
    (zj (yl (i := 1) (by decide) sc.nd rfl (Or.inl rfl) (jf rfl M.str_ (zc (zo (zi 0) (zc ze) (fun _ _ => rfl))))))
    zK)
  (zj (zy (yr (yv (zd zI (zd (jf rfl M.str_ (zc (zo (zi 0) (zc ze) (fun _ _ => rfl)))) (zd (zo (zi 0) (zc ze) (fun _ _ => rfl)) (zd (jf rfl M.str_ (zc (zo (zi 0) (zc ze) (fun _ _ => rfl)))) (zd (yu 1) (zd (jf rfl M.str_ (zc (zo (zi 0) (zc ze) (fun _ _ => rfl)))) (zd (jf rfl M.str_ (zc (zo (zi 0) (zc ze) (fun _ _ => rfl)))) (zd (zo (zi 0) (zc ze) (fun _ _ => rfl)) zf))))))))))))))))), by unfold yD yH jo Jb Ja; infer_instance⟩
theorem zhQ : zL ["_law_script", "_law_k", "_law_well_here", "_law_rows", "_law_handed", "_law_due"] ["_law_script"] (zt (top 29)) := ⟨rfl, rfl, rfl, by decide +kernel, rfl, by decide +kernel, by decide +kernel⟩
theorem zil (F : Fun K "law" "law" (top 29) f fd) (M : yY K mg cls ad) (h_show_book : HM P w K mg base cls "show_book" 6 ["book"] [] false (zB yw)) (h_l_well : HM P w K mg base cls "_law_well" 1 ["_law_cell"] [] true (zB jM)) (h_l_cell_at : HM P w K mg base cls "_law_cell_at" 1 ["_law_script", "_law_k"] [] false (zB yL)) (h_l_draw : HM P w K mg base cls "_law_draw" 1 ["_law_well_here", "_law_base"] [0] false (zB zq)) (h_l_book_row : HM P w K mg base cls "_law_book_row" 4 ["_law_well_here"] [0] false (zB yi)) (h_l_row_words : HM P w K mg base cls "_law_row_words" 1 ["_law_row"] [] false (zB z3)) : FnOk P w K mg base yN 7 f fd ["_law_script"] (yR ⟨K, cls⟩ [] false 1 (zB Vl)) := by
  have sc := zhQ
  exact y4 F sc rfl fun cdv A outer s H E hr => ⟨_, (zg (zY (zO YE YT (zc (ym h_show_book (hr.mono (by omega)) rfl (zd (yr (yv zf)) zf))) (zc zI) (zH _))
    (zj (zy VN))
    zK)
  (zg (YZ PassesOwn.never rfl (Jy rfl M.range_ (zd (zfa rfl rfl M.max_ (zc ze) (zc (zfb rfl rfl M.min_ (zc ze) (zc (ZA rfl M.len_ (zi 0)))))) zf)) (yT (i := 1) (by decide) sc.nd rfl (Or.inl rfl))
    (zg (ZB (i := 2) (by decide) sc.nd rfl (Or.inr rfl) (zfe h_l_well (hr.mono (by omega)) rfl (zd (Jx (zc (ym h_l_cell_at (hr.mono (by omega)) rfl (zd (yu 0) (zd (yu 1) zf)))) (zc (Zx (zc ze) (zi 1)))) zf)))
  (zg (UG (i := 3) (by decide) rfl sc.nd rfl rfl (CompOk.of_b (N' := ["_law_j", "_law_well_here"]) (js := [none, some 2]) rfl (by kernel_rfl)) (by decide) (Jy rfl M.range_ (zd (Jx (zc ze) (zc (zw (j := 2) h_l_draw (hr.mono (by omega)) rfl (zd ze zf)))) zf)) (fun _ _ _ _ _ => (yT (i := 0) (by decide) (show (["_law_j", "_law_well_here"] : List Str).Nodup by decide +kernel) rfl (Or.inl rfl) (Or.inr rfl))) (fun _ _ _ _ _ => J1) (fun _ _ _ _ _ => (zw (j := 1) h_l_book_row (hr.mono (by omega)) rfl zf)))
  (zg (zY (zO jh ji (zc (zw (j := 2) h_l_draw (hr.mono (by omega)) rfl (zd ze zf))) (zc ze) (zH _))
    (zj (yl (i := 3) (by decide) sc.nd rfl (Or.inl rfl) (yr (YY (zc (yr (zhd (zc (yr (zht (zi 3) (zc ze)))) Rz (RA (Jx (zc ze) (zc (zw (j := 2) h_l_draw (hr.mono (by omega)) rfl (zd ze zf)))))))) (zc (yr (yv (zd (zw (j := 2) h_l_book_row (hr.mono (by omega)) rfl zf) zf))))))))
    zK)
  (zg (yl (i := 4) (by decide) sc.nd rfl (Or.inl rfl) (yr (UE rfl M.list_ (zi 3))))
  (zg (yl (i := 5) (by decide) sc.nd rfl (Or.inl rfl) (Z2 zI (zc (yr (UF rfl (CompOk.of_b (N' := ["_law_row"]) (js := [none]) rfl (by kernel_rfl)) (by decide) (RC (yu 3)) (fun _ _ _ _ _ => (yT (i := 0) (by decide) (show (["_law_row"] : List Str).Nodup by decide +kernel) rfl (Or.inl rfl) (Or.inr rfl))) (fun _ _ _ _ _ => J1) (fun _ _ _ _ _ => (Z2 zI (zc (ym h_l_row_words (hr.mono (by omega)) rfl (zd (yu 0) zf))))))))))
  (zj (zY (Wp (ZV (zO YE YT (zc (ym h_show_book (hr.mono (by omega)) rfl (zd (yu 4) zf))) (zi 5) (zH _)) (ZV (zO (zgD (zi0 hr)) zhj (zi 4) (zi 3) (zH _)) (Wq (zO YE YT (zc (ym h_show_book (hr.mono (by omega)) rfl (zd (yu 4) zf))) (zi 5) (zH _))))))
    (zj (zy VN))
    zK))))))))
  (zj (zy VN)))), by unfold ZJ QE jF QD Jt jE Js; infer_instance⟩
end
theorem all_mk {l : PySem.W.OpenLaw} {w : World} {K : PySem.W.Frag} {h : Heap} {mg : Str -> Option Value} {fa f1 f2 f3 f4 f5 f6 f7 f8 f9 f10 f11 f12 f13 f14 f15 f16 f17 f18 f19  : Addr} (X : K.In h) (G : h.Ns mainGlobals mg) (hfa : mg "law" = some (.ref fa))
    {od1 an1 od2 an2 od3 an3 od4 an4 od5 an5 od6 an6 od7 an7 od8 an8 od9 an9 od10 an10 od11 an11 od12 an12 od13 an13 od14 an14 od15 an15 od16 an16 od17 an17 od18 an18 od19 an19 : Option Addr} {sl1 sl2 sl3 sl4 sl5 sl6 sl7 sl8 sl9 sl10 sl11 sl12 sl13 sl14 sl15 sl16 sl17 sl18 sl19 : Array (Option Value)} {oc1 kV1 dc1 pm1 cd1 ct1 oc2 kV2 dc2 pm2 cd2 ct2 oc3 kV3 dc3 pm3 cd3 ct3 oc4 kV4 dc4 pm4 cd4 ct4 oc5 kV5 dc5 pm5 cd5 ct5 oc6 kV6 dc6 pm6 cd6 ct6 oc7 kV7 dc7 pm7 cd7 ct7 oc8 kV8 dc8 pm8 cd8 ct8 oc9 kV9 dc9 pm9 cd9 ct9 oc10 kV10 dc10 pm10 cd10 ct10 oc11 kV11 dc11 pm11 cd11 ct11 oc12 kV12 dc12 pm12 cd12 ct12 oc13 kV13 dc13 pm13 cd13 ct13 oc14 kV14 dc14 pm14 cd14 ct14 oc15 kV15 dc15 pm15 cd15 ct15 oc16 kV16 dc16 pm16 cd16 ct16 oc17 kV17 dc17 pm17 cd17 ct17 oc18 kV18 dc18 pm18 cd18 ct18 oc19 kV19 dc19 pm19 cd19 ct19 : Value}
    (a1 : NI K "is_name" f1) (l1 : LK K f1 oc1 od1 "is_name" "is_name" (top 7) kV1 dc1 pm1 an1 cd1 ct1 sl1) (c1 : CI K cd1 "is_name") (k1 : KI K f1)
    (a2 : NI K "are_names" f2) (l2 : LK K f2 oc2 od2 "are_names" "are_names" (top 13) kV2 dc2 pm2 an2 cd2 ct2 sl2) (c2 : CI K cd2 "are_names") (k2 : KI K f2)
    (a3 : NI K "is_whole" f3) (l3 : LK K f3 oc3 od3 "is_whole" "is_whole" (top 5) kV3 dc3 pm3 an3 cd3 ct3 sl3) (c3 : CI K cd3 "is_whole") (k3 : KI K f3)
    (a4 : NI K "is_from_nought" f4) (l4 : LK K f4 oc4 od4 "is_from_nought" "is_from_nought" (top 6) kV4 dc4 pm4 an4 cd4 ct4 sl4) (c4 : CI K cd4 "is_from_nought") (k4 : KI K f4)
    (a5 : NI K "can_show" f5) (l5 : LK K f5 oc5 od5 "can_show" "can_show" (top 11) kV5 dc5 pm5 an5 cd5 ct5 sl5) (c5 : CI K cd5 "can_show") (k5 : KI K f5)
    (a6 : NI K "shown" f6) (l6 : LK K f6 oc6 od6 "shown" "shown" (top 12) kV6 dc6 pm6 an6 cd6 ct6 sl6) (c6 : CI K cd6 "shown") (k6 : KI K f6)
    (a7 : NI K "show_parts" f7) (l7 : LK K f7 oc7 od7 "show_parts" "show_parts" (top 14) kV7 dc7 pm7 an7 cd7 ct7 sl7) (c7 : CI K cd7 "show_parts") (k7 : KI K f7)
    (a8 : NI K "show_row" f8) (l8 : LK K f8 oc8 od8 "show_row" "show_row" (top 17) kV8 dc8 pm8 an8 cd8 ct8 sl8) (c8 : CI K cd8 "show_row") (k8 : KI K f8)
    (a9 : NI K "demand_rows" f9) (l9 : LK K f9 oc9 od9 "demand_rows" "demand_rows" (top 18) kV9 dc9 pm9 an9 cd9 ct9 sl9) (c9 : CI K cd9 "demand_rows") (k9 : KI K f9)
    (a10 : NI K "show_book" f10) (l10 : LK K f10 oc10 od10 "show_book" "show_book" (top 19) kV10 dc10 pm10 an10 cd10 ct10 sl10) (c10 : CI K cd10 "show_book") (k10 : KI K f10)
    (a11 : NI K "_law_well" f11) (l11 : LK K f11 oc11 od11 "_law_well" "_law_well" (top 22) kV11 dc11 pm11 an11 cd11 ct11 sl11) (c11 : CI K cd11 "_law_well") (k11 : KI K f11)
    (a12 : NI K "_law_cell_at" f12) (l12 : LK K f12 oc12 od12 "_law_cell_at" "_law_cell_at" (top 21) kV12 dc12 pm12 an12 cd12 ct12 sl12) (c12 : CI K cd12 "_law_cell_at") (k12 : KI K f12)
    (a13 : NI K "_law_draw" f13) (l13 : LK K f13 oc13 od13 "_law_draw" "_law_draw" (top 23) kV13 dc13 pm13 an13 cd13 ct13 sl13) (c13 : CI K cd13 "_law_draw") (k13 : KI K f13)
    (a14 : NI K "_law_number" f14) (l14 : LK K f14 oc14 od14 "_law_number" "_law_number" (top 25) kV14 dc14 pm14 an14 cd14 ct14 sl14) (c14 : CI K cd14 "_law_number") (k14 : KI K f14)
    (a15 : NI K "_law_word" f15) (l15 : LK K f15 oc15 od15 "_law_word" "_law_word" (top 24) kV15 dc15 pm15 an15 cd15 ct15 sl15) (c15 : CI K cd15 "_law_word") (k15 : KI K f15)
    (a16 : NI K "_law_few_names" f16) (l16 : LK K f16 oc16 od16 "_law_few_names" "_law_few_names" (top 26) kV16 dc16 pm16 an16 cd16 ct16 sl16) (c16 : CI K cd16 "_law_few_names") (k16 : KI K f16)
    (a17 : NI K "_law_book_row" f17) (l17 : LK K f17 oc17 od17 "_law_book_row" "_law_book_row" (top 27) kV17 dc17 pm17 an17 cd17 ct17 sl17) (c17 : CI K cd17 "_law_book_row") (k17 : KI K f17)
    (a18 : NI K "_law_row_words" f18) (l18 : LK K f18 oc18 od18 "_law_row_words" "_law_row_words" (top 28) kV18 dc18 pm18 an18 cd18 ct18 sl18) (c18 : CI K cd18 "_law_row_words") (k18 : KI K f18)
    (a19 : NI K "law" f19) (l19 : LK K f19 oc19 od19 "law" "law" (top 29) kV19 dc19 pm19 an19 cd19 ct19 sl19) (c19 : CI K cd19 "law") (k19 : KI K f19)
    (z_isinstance : NZ K "isinstance")
    (z_str : NZ K "str")
    (z_len : NZ K "len")
    (z_all : NZ K "all")
    (z_tuple : NZ K "tuple")
    (z_int : NZ K "int")
    (z_bool : NZ K "bool")
    (z_zip : NZ K "zip")
    (z_list : NZ K "list")
    (z_range : NZ K "range")
    (z_max : NZ K "max")
    (z_min : NZ K "min")
    {t_LONGEST_NAME t_GREATEST_NUMBER : Tok}
    {T_HEARD_WORDS T_BOOK_ROWS : Addr}
    (z_HEARD_WORDS : PySem.W.nsIn K mainGlobals "HEARD_WORDS" = some (some (.ref T_HEARD_WORDS)))
    (y_HEARD_WORDS : UT K ["idle", "strange", "elder", "false", "over", "twice", "done", "never", "no", "ok"] (.ref T_HEARD_WORDS) = true)
    (z_BOOK_ROWS : PySem.W.nsIn K mainGlobals "BOOK_ROWS" = some (some (.ref T_BOOK_ROWS)))
    (y_BOOK_ROWS : PyProof.Rows.KTD.tabLook (UT K) (fun a => K.lookup a) T_BOOK_ROWS [("begin", ["number", "number", "names"]), ("hear", ["number", "name", "number", "value", "number", "number", "heard"]), ("wake", ["number", "names"]), ("off", ["number", "truth"])] = true)
    (z_LONGEST_NAME : PySem.W.nsIn K mainGlobals "LONGEST_NAME" = some (some (.int 8 t_LONGEST_NAME)))
    (z_GREATEST_NUMBER : PySem.W.nsIn K mainGlobals "GREATEST_NUMBER" = some (some (.int 9999999999 t_GREATEST_NUMBER)))
    : ∃ fd : FuncData, (∀ (s : Shared) (v : Value), BindsTo s fd ⟨[v], []⟩ [("_law_script", v)]) /\ ∀ base : Heap, K.In base -> base.Ns mainGlobals mg -> FnOk l.prog w K mg base yN 7 fa fd ["_law_script"] (Y2 K) := by
  have e := hfa.symm.trans (PySem.W.mg_of X G a19)
  cases e
  obtain ⟨cls, hcls⟩ : ∃ c : Nat -> Option Addr, c = (fun n : Nat => List.lookup n []) := ⟨_, rfl⟩
  have sp : ∀ c C, cls c = some C -> False := fun c C h => by rw [hcls] at h; cases h
  have F1 := yf (st := (top 7)) l1 c1 k1
  have b1 := F1.binds (ps := ["thing"]) fun _ _ _ _ _ _ us hl => match us, hl with | [_], _ => rfl
  have F2 := yf (st := (top 13)) l2 c2 k2
  have b2 := F2.binds (ps := ["thing"]) fun _ _ _ _ _ _ us hl => match us, hl with | [_], _ => rfl
  have F3 := yf (st := (top 5)) l3 c3 k3
  have b3 := F3.binds (ps := ["thing"]) fun _ _ _ _ _ _ us hl => match us, hl with | [_], _ => rfl
  have F4 := yf (st := (top 6)) l4 c4 k4
  have b4 := F4.binds (ps := ["thing"]) fun _ _ _ _ _ _ us hl => match us, hl with | [_], _ => rfl
  have F5 := yf (st := (top 11)) l5 c5 k5
  have b5 := F5.binds (ps := ["form", "thing"]) fun _ _ _ _ _ _ us hl => match us, hl with | [_, _], _ => rfl
  have F6 := yf (st := (top 12)) l6 c6 k6
  have b6 := F6.binds (ps := ["thing"]) fun _ _ _ _ _ _ us hl => match us, hl with | [_], _ => rfl
  have F7 := yf (st := (top 14)) l7 c7 k7
  have b7 := F7.binds (ps := ["forms", "parts"]) fun _ _ _ _ _ _ us hl => match us, hl with | [_, _], _ => rfl
  have F8 := yf (st := (top 17)) l8 c8 k8
  have b8 := F8.binds (ps := ["row"]) fun _ _ _ _ _ _ us hl => match us, hl with | [_], _ => rfl
  have F9 := yf (st := (top 18)) l9 c9 k9
  have b9 := F9.binds (ps := ["rows"]) fun _ _ _ _ _ _ us hl => match us, hl with | [_], _ => rfl
  have F10 := yf (st := (top 19)) l10 c10 k10
  have b10 := F10.binds (ps := ["book"]) fun _ _ _ _ _ _ us hl => match us, hl with | [_], _ => rfl
  have F11 := yf (st := (top 22)) l11 c11 k11
  have b11 := F11.binds (ps := ["_law_cell"]) fun _ _ _ _ _ _ us hl => match us, hl with | [_], _ => rfl
  have F12 := yf (st := (top 21)) l12 c12 k12
  have b12 := F12.binds (ps := ["_law_script", "_law_k"]) fun _ _ _ _ _ _ us hl => match us, hl with | [_, _], _ => rfl
  have F13 := yf (st := (top 23)) l13 c13 k13
  have b13 := F13.binds (ps := ["_law_well_here", "_law_base"]) fun _ _ _ _ _ _ us hl => match us, hl with | [_, _], _ => rfl
  have F14 := yf (st := (top 25)) l14 c14 k14
  have b14 := F14.binds (ps := ["_law_well_here"]) fun _ _ _ _ _ _ us hl => match us, hl with | [_], _ => rfl
  have F15 := yf (st := (top 24)) l15 c15 k15
  have b15 := F15.binds (ps := ["_law_well_here", "_law_last"]) fun _ _ _ _ _ _ us hl => match us, hl with | [_, _], _ => rfl
  have F16 := yf (st := (top 26)) l16 c16 k16
  have b16 := F16.binds (ps := ["_law_well_here"]) fun _ _ _ _ _ _ us hl => match us, hl with | [_], _ => rfl
  have F17 := yf (st := (top 27)) l17 c17 k17
  have b17 := F17.binds (ps := ["_law_well_here"]) fun _ _ _ _ _ _ us hl => match us, hl with | [_], _ => rfl
  have F18 := yf (st := (top 28)) l18 c18 k18
  have b18 := F18.binds (ps := ["_law_row"]) fun _ _ _ _ _ _ us hl => match us, hl with | [_], _ => rfl
  have F19 := yf (st := (top 29)) l19 c19 k19
  have b19 := F19.binds (ps := ["_law_script"]) fun _ _ _ _ _ _ us hl => match us, hl with | [_], _ => rfl
  have M : yY K mg cls (fun _ => 0) := by
    refine ⟨PySem.W.mg_none_of X G z_isinstance, PySem.W.mg_none_of X G z_str, PySem.W.mg_none_of X G z_len, PySem.W.mg_none_of X G z_all, PySem.W.mg_none_of X G z_tuple, PySem.W.mg_none_of X G z_int, PySem.W.mg_none_of X G z_bool, PySem.W.mg_none_of X G z_zip, PySem.W.mg_none_of X G z_list, PySem.W.mg_none_of X G z_range, PySem.W.mg_none_of X G z_max, PySem.W.mg_none_of X G z_min, ⟨t_LONGEST_NAME, PySem.W.mg_of X G z_LONGEST_NAME⟩, ⟨t_GREATEST_NUMBER, PySem.W.mg_of X G z_GREATEST_NUMBER⟩, ⟨T_HEARD_WORDS, PySem.W.mg_of X G z_HEARD_WORDS, zih y_HEARD_WORDS⟩, ⟨T_BOOK_ROWS, PySem.W.mg_of X G z_BOOK_ROWS, zii y_BOOK_ROWS⟩⟩
  refine ⟨PySem.W.fnOf "law" "law" (JY (top 29)) (jP (top 29)) (zt (top 29)) .none kV19 dc19 pm19 an19 cd19 ct19, fun s v => .of_eq rfl, fun base _ _ => ?_⟩
  have h_is_name : HM l.prog w K mg base cls "is_name" 1 ["thing"] [] false (zB yb) := ⟨⟨_, _, (zcv F1 M).mono (by omega), b1, k1, PySem.W.mg_of X G a1⟩, fun _ _ h => zQ h⟩
  have h_are_names : HM l.prog w K mg base cls "are_names" 2 ["thing"] [] false (zB jD) := ⟨⟨_, _, (W3 F2 M h_is_name).mono (by omega), b2, k2, PySem.W.mg_of X G a2⟩, fun _ _ h => zQ h⟩
  have h_is_whole : HM l.prog w K mg base cls "is_whole" 1 ["thing"] [] false (zB ju) := ⟨⟨_, _, (zbk F3 M).mono (by omega), b3, k3, PySem.W.mg_of X G a3⟩, fun _ _ h => zQ h⟩
  have h_is_from_nought : HM l.prog w K mg base cls "is_from_nought" 2 ["thing"] [] false (zB ya) := ⟨⟨_, _, (YD F4 M h_is_whole).mono (by omega), b4, k4, PySem.W.mg_of X G a4⟩, fun _ _ h => zQ h⟩
  have h_can_show : HM l.prog w K mg base cls "can_show" 3 ["form", "thing"] [] false (zB yh) := ⟨⟨_, _, (zbl F5 M h_is_name h_is_from_nought).mono (by omega), b5, k5, PySem.W.mg_of X G a5⟩, fun _ _ h => zQ h⟩
  have h_shown : HM l.prog w K mg base cls "shown" 1 ["thing"] [] false (zB yV) := ⟨⟨_, _, (zfG F6 M).mono (by omega), b6, k6, PySem.W.mg_of X G a6⟩, fun _ _ h => zQ h⟩
  have h_show_parts : HM l.prog w K mg base cls "show_parts" 4 ["forms", "parts"] [] false (zB jr) := ⟨⟨_, _, (WV F7 M h_are_names h_can_show h_shown).mono (by omega), b7, k7, PySem.W.mg_of X G a7⟩, fun _ _ h => zQ h⟩
  have h_show_row : HM l.prog w K mg base cls "show_row" 5 ["row"] [] false (zB y7) := ⟨⟨_, _, (zbm F8 M h_show_parts).mono (by omega), b8, k8, PySem.W.mg_of X G a8⟩, fun _ _ h => zQ h⟩
  have h_demand_rows : HM l.prog w K mg base cls "demand_rows" 1 ["rows"] [] false (zB yC) := ⟨⟨_, _, (Vv F9 M).mono (by omega), b9, k9, PySem.W.mg_of X G a9⟩, fun _ _ h => zQ h⟩
  have h_show_book : HM l.prog w K mg base cls "show_book" 6 ["book"] [] false (zB yw) := ⟨⟨_, _, (W7 F10 M h_show_row h_demand_rows).mono (by omega), b10, k10, PySem.W.mg_of X G a10⟩, fun _ _ h => zQ h⟩
  have h_l_well : HM l.prog w K mg base cls "_law_well" 1 ["_law_cell"] [] true (zB jM) := ⟨⟨_, _, (zdE F11 M).mono (by omega), b11, k11, PySem.W.mg_of X G a11⟩, fun _ _ h => zQ h⟩
  have h_l_cell_at : HM l.prog w K mg base cls "_law_cell_at" 1 ["_law_script", "_law_k"] [] false (zB yL) := ⟨⟨_, _, (W8 F12 M).mono (by omega), b12, k12, PySem.W.mg_of X G a12⟩, fun _ _ h => zQ h⟩
  have h_l_draw : HM l.prog w K mg base cls "_law_draw" 1 ["_law_well_here", "_law_base"] [0] false (zB zq) := ⟨⟨_, _, (zdF F13 M).mono (by omega), b13, k13, PySem.W.mg_of X G a13⟩, fun _ _ h => zQ h⟩
  have h_l_number : HM l.prog w K mg base cls "_law_number" 2 ["_law_well_here"] [0] false (zB zX) := ⟨⟨_, _, (zbn F14 M h_l_draw).mono (by omega), b14, k14, PySem.W.mg_of X G a14⟩, fun _ _ h => zQ h⟩
  have h_l_word : HM l.prog w K mg base cls "_law_word" 2 ["_law_well_here", "_law_last"] [0] false (zB y8) := ⟨⟨_, _, (zdG F15 M h_l_draw).mono (by omega), b15, k15, PySem.W.mg_of X G a15⟩, fun _ _ h => zQ h⟩
  have h_l_few_names : HM l.prog w K mg base cls "_law_few_names" 3 ["_law_well_here"] [0] false (zB yt) := ⟨⟨_, _, (Vw F16 M h_l_draw h_l_word).mono (by omega), b16, k16, PySem.W.mg_of X G a16⟩, fun _ _ h => zQ h⟩
  have h_l_book_row : HM l.prog w K mg base cls "_law_book_row" 4 ["_law_well_here"] [0] false (zB yi) := ⟨⟨_, _, (WY F17 M h_l_draw h_l_number h_l_few_names h_l_word).mono (by omega), b17, k17, PySem.W.mg_of X G a17⟩, fun _ _ h => zQ h⟩
  have h_l_row_words : HM l.prog w K mg base cls "_law_row_words" 1 ["_law_row"] [] false (zB z3) := ⟨⟨_, _, (Vy F18 M).mono (by omega), b18, k18, PySem.W.mg_of X G a18⟩, fun _ _ h => zQ h⟩
  exact (zil (cls := cls) F19 M h_show_book h_l_well h_l_cell_at h_l_draw h_l_book_row h_l_row_words).imp fun vs H Q E h => za2 _root_.M.K66.lawF h
theorem walk {l : PySem.W.OpenLaw} {q : Program} {loose : List Str} {XP : (Str -> Option Value) -> Heap -> Prop} {YP : World -> Heap -> Prop} {d : DefRec} {K : Params -> PySem.W.Frag} (hn : l.most = some 63) (hdf : d.params.defaults = [])
    (hY : ∀ (w : World) (h : Heap), YP w h -> (K w.params).In h)
    (F : ∀ (w : World) (mg : Str -> Option Value) (fa : Addr) (h : Heap), (K w.params).In h -> h.Ns mainGlobals mg -> mg d.name = some (.ref fa) ->
      ∃ fd : FuncData, (∀ (s : Shared) (u : Value), BindsTo s fd ⟨[u], []⟩ [("_law_script", u)]) /\ ∀ base : Heap, (K w.params).In base -> base.Ns mainGlobals mg -> FnOk l.prog w (K w.params) mg base yN 7 fa fd ["_law_script"] (Y2 (K w.params))) :
    PySem.W.WalkO q loose XP YP l.row.toRowW d [] (fun f vs => PySem.call f vs) :=
  L2.walk_of (n := 63) (k := 7) (x := "_law_script") (CX := fun _ => yN) (sp := fun w => Y2 (K w.params)) hn (by decide) hdf ⟨rfl, by decide, by decide⟩ hY F (fun _ _ a ns hl _ hS => ⟨a, ns, rfl, hS, hl, fun _ => rfl⟩) fun _ _ _ _ _ z => z
end W_k66
open PySem PySem.W PyProof.Rows
def PySem.W.Fast.tw4941966058409568652 : Unit := ()
def PySem.W.Fast.tw16038208982961212855 : Unit := ()
def PySem.W.Fast.tw11264071063758392628 : Unit := ()
def PySem.W.Fast.tw17882278161984443099 : Unit := ()
def PySem.W.Fast.tw721463019550009553 : Unit := ()
def PySem.W.Fast.tw6890989066769617529 : Unit := ()
def PySem.W.Fast.tw4210281952799770729 : Unit := ()
def PySem.W.Fast.tw1234702339361956911 : Unit := ()
def PySem.W.Fast.tw9312915465943976246 : Unit := ()
def PySem.W.Fast.tw3837539482471140118 : Unit := ()
def PySem.W.Fast.tw12883671752201347108 : Unit := ()
def PySem.W.Fast.tw1749157126013685936 : Unit := ()
def PySem.W.Fast.tw1878702630477720248 : Unit := ()
def PySem.W.Fast.tw890685952483933418 : Unit := ()
def PySem.W.Fast.tw7490324941061154446 : Unit := ()
def PySem.W.Fast.tw3115065290515609375 : Unit := ()
set_option maxRecDepth 100000 in
set_option maxHeartbeats 0 in
theorem PySem.Challenge.cw_enoughsaid_k66_books_written_holds : PySem.Challenge.rw_enoughsaid_k66_books_written.Holds := by
  w_on; o_law; k_head; (case hw => w_witness2)
  k_fill
  refine W_k66.walk (l := PySem.Challenge.rw_enoughsaid_k66_books_written) rfl rfl (fun w h Y => PySem.W.kIn_of Y) ?F
  case F =>
    intro w mg fa h KX G hmg
    refine' W_k66.all_mk KX G hmg ?a1 ?l1 ?c1 ?k1 ?a2 ?l2 ?c2 ?k2 ?a3 ?l3 ?c3 ?k3 ?a4 ?l4 ?c4 ?k4 ?a5 ?l5 ?c5 ?k5 ?a6 ?l6 ?c6 ?k6 ?a7 ?l7 ?c7 ?k7 ?a8 ?l8 ?c8 ?k8 ?a9 ?l9 ?c9 ?k9 ?a10 ?l10 ?c10 ?k10 ?a11 ?l11 ?c11 ?k11 ?a12 ?l12 ?c12 ?k12 ?a13 ?l13 ?c13 ?k13 ?a14 ?l14 ?c14 ?k14 ?a15 ?l15 ?c15 ?k15 ?a16 ?l16 ?c16 ?k16 ?a17 ?l17 ?c17 ?k17 ?a18 ?l18 ?c18 ?k18 ?a19 ?l19 ?c19 ?k19 ?z_isinstance ?z_str ?z_len ?z_all ?z_tuple ?z_int ?z_bool ?z_zip ?z_list ?z_range ?z_max ?z_min ?z_HEARD_WORDS ?y_HEARD_WORDS ?z_BOOK_ROWS ?y_BOOK_ROWS ?z_LONGEST_NAME ?z_GREATEST_NUMBER
    all_goals first | delta M.FN0 | delta M.FI | delta M.NI | delta M.NZ | delta M.LK | delta M.CI | delta M.KI | skip
    (case a1 => k_is)
    (case l1 => k_is)
    (case c1 => k_is)
    (case k1 => k_is)
    (case a2 => k_is)
    (case l2 => k_is)
    (case c2 => k_is)
    (case k2 => k_is)
    (case a3 => k_is)
    (case l3 => k_is)
    (case c3 => k_is)
    (case k3 => k_is)
    (case a4 => k_is)
    (case l4 => k_is)
    (case c4 => k_is)
    (case k4 => k_is)
    (case a5 => k_is)
    (case l5 => k_is)
    (case c5 => k_is)
    (case k5 => k_is)
    (case a6 => k_is)
    (case l6 => k_is)
    (case c6 => k_is)
    (case k6 => k_is)
    (case a7 => k_is)
    (case l7 => k_is)
    (case c7 => k_is)
    (case k7 => k_is)
    (case a8 => k_is)
    (case l8 => k_is)
    (case c8 => k_is)
    (case k8 => k_is)
    (case a9 => k_is)
    (case l9 => k_is)
    (case c9 => k_is)
    (case k9 => k_is)
    (case a10 => k_is)
    (case l10 => k_is)
    (case c10 => k_is)
    (case k10 => k_is)
    (case a11 => k_is)
    (case l11 => k_is)
    (case c11 => k_is)
    (case k11 => k_is)
    (case a12 => k_is)
    (case l12 => k_is)
    (case c12 => k_is)
    (case k12 => k_is)
    (case a13 => k_is)
    (case l13 => k_is)
    (case c13 => k_is)
    (case k13 => k_is)
    (case a14 => k_is)
    (case l14 => k_is)
    (case c14 => k_is)
    (case k14 => k_is)
    (case a15 => k_is)
    (case l15 => k_is)
    (case c15 => k_is)
    (case k15 => k_is)
    (case a16 => k_is)
    (case l16 => k_is)
    (case c16 => k_is)
    (case k16 => k_is)
    (case a17 => k_is)
    (case l17 => k_is)
    (case c17 => k_is)
    (case k17 => k_is)
    (case a18 => k_is)
    (case l18 => k_is)
    (case c18 => k_is)
    (case k18 => k_is)
    (case a19 => k_is)
    (case l19 => k_is)
    (case c19 => k_is)
    (case k19 => k_is)
    (case z_isinstance => k_is)
    (case z_str => k_is)
    (case z_len => k_is)
    (case z_all => k_is)
    (case z_tuple => k_is)
    (case z_int => k_is)
    (case z_bool => k_is)
    (case z_zip => k_is)
    (case z_list => k_is)
    (case z_range => k_is)
    (case z_max => k_is)
    (case z_min => k_is)
    (case z_HEARD_WORDS => k_is)
    (case y_HEARD_WORDS => kernel_rfl)
    (case z_BOOK_ROWS => k_is)
    (case y_BOOK_ROWS => kernel_rfl)
    (case z_LONGEST_NAME => k_is)
    (case z_GREATEST_NUMBER => k_is)
