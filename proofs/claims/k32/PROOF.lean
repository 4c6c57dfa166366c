import PyProof.Rows.All
import Wide.All
import OpenK.AllK
import Wide.FinOn
import Lean
import PyProof.EqAt
import PyProof.EqKinds
import PyProof.TupleCall
import PyProof.AttrMissHeap
import KE.KDictOf
import PySem.Challenge.RW_enoughsaid_k32_seals
set_option Elab.async false
set_option linter.all false
set_option maxRecDepth 100000
set_option maxHeartbeats 4000000
/-! THE HAND LAYER, for ints, bools, texts, own classes, LISTS and tuples (index, slices, in, append, pop ..), calls, loops. Paste it whole ahead of your own text; what your proof does not reach may be deleted. -/
namespace L2
open PySem PySem.Spec PyProof.Rows

/-- a key: an int or a str -/
abbrev Key := Sum Int Str
def keyIs : Key → Value → Bool
  | .inl k, v => Value.isInt k v
  | .inr x, v => Value.isStrOf x v
def keyH (w : World) : Key → Int
  | .inl k => hashInt k
  | .inr x => hashStr w x
theorem keyIs_shape : ∀ {k : Key} {v : Value}, keyIs k v = true → (∃ i t, k = Sum.inl i ∧ v = Value.int i t) ∨ (∃ x t, k = Sum.inr x ∧ v = Value.str x t)
  | .inl i, v, h => by
    obtain ⟨t, e⟩ := Value.isInt_shape (k := i) (v := v) h
    exact .inl ⟨i, t, rfl, e⟩
  | .inr x, v, h => by
    obtain ⟨t, e⟩ := Value.isStrOf_shape (x := x) (v := v) h
    exact .inr ⟨x, t, rfl, e⟩
theorem keyIs_int (i : Int) (t : Tok) : keyIs (.inl i) (.int i t) = true := by simp [keyIs, Value.isInt]
theorem keyIs_str (x : Str) (t : Tok) : keyIs (.inr x) (.str x t) = true := by simp [keyIs, Value.isStrOf]
theorem key_ll (a b : Int) : decide ((Sum.inl a : Key) = Sum.inl b) = (a == b) := by
  by_cases e : a = b
  · subst e; simp
  · have h : ¬ (Sum.inl a : Key) = Sum.inl b := fun q => e (Sum.inl.inj q)
    rw [decide_eq_false h]
    exact (beq_eq_false_iff_ne.mpr e).symm
theorem key_rr (a b : Str) : decide ((Sum.inr a : Key) = Sum.inr b) = decide (a = b) := by
  by_cases e : a = b
  · subst e; simp
  · have h : ¬ (Sum.inr a : Key) = Sum.inr b := fun q => e (Sum.inr.inj q)
    rw [decide_eq_false h, decide_eq_false e]
theorem key_lr (a : Int) (b : Str) : decide ((Sum.inl a : Key) = Sum.inr b) = false := decide_eq_false (fun q => nomatch q)
theorem key_rl (a : Str) (b : Int) : decide ((Sum.inr a : Key) = Sum.inl b) = false := decide_eq_false (fun q => nomatch q)

def mixKind (prog : Program) (w : World) : PySem.KeyKind prog w Key where
  is := keyIs
  hash := keyH w
  inj := fun v a b ha hb => by
    rcases keyIs_shape ha with ⟨i, t, rfl, rfl⟩ | ⟨x, t, rfl, rfl⟩
    · rcases keyIs_shape hb with ⟨j, u, rfl, e⟩ | ⟨y, u, rfl, e⟩
      · injection e with e1 _; rw [e1]
      · exact nomatch e
    · rcases keyIs_shape hb with ⟨j, u, rfl, e⟩ | ⟨y, u, rfl, e⟩
      · exact nomatch e
      · injection e with e1 _; rw [e1]
  byValue := fun k v h => by
    rcases keyIs_shape h with ⟨i, t, rfl, rfl⟩ | ⟨x, t, rfl, rfl⟩ <;> rfl
  pyHash := fun hv h => by
    rcases keyIs_shape hv with ⟨i, t, rfl, rfl⟩ | ⟨x, t, rfl, rfl⟩
    · exact wpAny_pyHash_int h
    · exact wpAny_pyHash_str h
  eqBool := fun hu hv h => by
    rcases keyIs_shape hu with ⟨i, t, rfl, rfl⟩ | ⟨x, t, rfl, rfl⟩
    · rcases keyIs_shape hv with ⟨j, u, rfl, rfl⟩ | ⟨y, u, rfl, rfl⟩
      · rw [key_ll] at h; exact wpAny_eqBool_int h
      · rw [key_lr] at h; exact SeqAt.EqAt.int_str i t y u _ _ _ _ h
    · rcases keyIs_shape hv with ⟨j, u, rfl, rfl⟩ | ⟨y, u, rfl, rfl⟩
      · rw [key_rl] at h; exact SeqAt.EqAt.str_int x t j u _ _ _ _ h
      · rw [key_rr] at h; exact wpAny_eqBool_str h
  «strs» := fun k x t v h => by
    rcases keyIs_shape h with ⟨i, u, rfl, e⟩ | ⟨y, u, rfl, e⟩
    · exact nomatch e
    · injection e with e1 _
      subst e1
      cases v <;> rfl

theorem mixKind_is (prog : Program) (w : World) (k : Key) (v : Value) : (mixKind prog w).is k v = keyIs k v := rfl
theorem mixKind_int (prog : Program) (w : World) (i : Int) (t : Tok) : (mixKind prog w).is (.inl i) (.int i t) = true := keyIs_int i t
theorem mixKind_str (prog : Program) (w : World) (x : Str) (t : Tok) : (mixKind prog w).is (.inr x) (.str x t) = true := keyIs_str x t
end L2

namespace L2
open PySem PySem.Spec PyProof.Rows

/-- a value, without the heap -/
inductive V where
  | non | bl (b : Bool) | int (i : Int) | str (x : Str) | byt (b : Array UInt8) | flt (b : UInt64) | ref (a : Addr) | ty (n : String)
  deriving DecidableEq

def RelV : V → Value → Prop
  | .non, u => u = Value.none
  | .bl b, u => u = Value.bool b
  | .int i, u => ∃ t, u = Value.int i t
  | .str x, u => ∃ t, u = Value.str x t
  | .byt b, u => ∃ t, u = Value.bytes b t
  | .flt b, u => ∃ t, u = Value.float b t
  | .ref a, u => u = Value.ref a
  | .ty n, u => u = Value.type n

abbrev Vals : List V → List Value → Prop := Paired RelV
theorem Vals.length {xs : List V} {us : List Value} (r : Vals xs us) : xs.length = us.length := Paired.length r
theorem Vals.get : ∀ {xs : List V} {us : List Value} {i : Nat} {x : V}, Vals xs us → xs[i]? = some x → ∃ u, us[i]? = some u ∧ RelV x u
  | _, _, _, _, .nil, e => by simp at e
  | _, _, 0, _, .cons r _, e => by simp at e; subst e; exact ⟨_, rfl, r⟩
  | _, _, i + 1, x, .cons _ t, e => by
    obtain ⟨u, h1, h2⟩ := Vals.get (i := i) (x := x) t (by simpa using e)
    exact ⟨u, by simpa using h1, h2⟩
theorem Vals.set {x : V} {u : Value} (r : RelV x u) : ∀ {xs : List V} {us : List Value} (i : Nat), Vals xs us → Vals (xs.set i x) (us.set i u)
  | _, _, _, .nil => .nil
  | _, _, 0, .cons _ t => .cons r t
  | _, _, i + 1, .cons q t => .cons q (Vals.set r i t)
theorem Vals.append : ∀ {xs ys : List V} {us ws : List Value}, Vals xs us → Vals ys ws → Vals (xs ++ ys) (us ++ ws)
  | _, _, _, _, .nil, s => s
  | _, _, _, _, .cons r t, s => .cons r (Vals.append t s)
theorem Vals.take : ∀ {xs : List V} {us : List Value} (n : Nat), Vals xs us → Vals (xs.take n) (us.take n)
  | _, _, 0, _ => .nil
  | _, _, _ + 1, .nil => .nil
  | _, _, n + 1, .cons r t => .cons r (Vals.take n t)
theorem Vals.drop : ∀ {xs : List V} {us : List Value} (n : Nat), Vals xs us → Vals (xs.drop n) (us.drop n)
  | _, _, 0, r => r
  | _, _, _ + 1, .nil => .nil
  | _, _, n + 1, .cons _ t => Vals.drop n t
theorem Vals.none_of : ∀ {xs : List V} {us : List Value} {i : Nat}, Vals xs us → xs[i]? = none → us[i]? = none := fun {xs us i} r e => by
  have h1 := r.length
  have h2 : xs.length ≤ i := List.getElem?_eq_none_iff.mp e
  exact List.getElem?_eq_none_iff.mpr (by omega)

def RelO : Option V → Option Value → Prop
  | some v, some u => RelV v u
  | none, none => True
  | _, _ => False
def KV {κ : Type} : List (κ × V) → List (κ × Value) → Prop := Paired fun (p : κ × V) (q : κ × Value) => p.1 = q.1 ∧ RelV p.2 q.2

/-- a key of a dict (00_mix): an int or a text -/
def kV : Key → V
  | .inl i => .int i
  | .inr x => .str x

/-- what stands at a tracked address -/
inductive HO where
  /-- a list -/
  | lst (xs : List V)
  /-- a tuple (never changes) -/
  | tup (xs : List V)
  /-- a dict whose keys are ints and texts; one whose keys are tuples of ints and texts (the empty one is both) -/
  | dK (kvs : List (Key × V)) | dT (kvs : List (List Key × V))
  /-- a set of ints: its members, its size -/
  | set (S : Int → Bool) (n : Nat)
  /-- an instance of the class at C, its dict at dx, its attributes -/
  | ins (C dx : Addr) (fs : List (Str × V))
  /-- the dict of the instance at x -/
  | own (x : Addr)
  /-- the dict of an exception -/
  | xd (fs : List (Str × V))
  /-- a bound method, f of x -/
  | met (f x : Addr)
  /-- a range object lo, lo + 1, .. below hi -/
  | rng (lo hi : Int)
  /-- a thing that is known to the object (the script; a dict while a loop walks it): read, never written while it is so -/
  | frz (o : Obj) (u : HO)
  /-- a code object's table -/
  | tbl (ps : Array Value)
  /-- any other thing, by what is true of its one object (a def of one's own: SetO a S n := HO.ext fun h => ..) -/
  | ext (φ : Heap → Prop)

abbrev Hp := Addr → Option HO
def upd (H : Hp) (a : Addr) (o : HO) : Hp := fun b => if b = a then some o else H b
theorem upd_same {H : Hp} {a : Addr} {o : HO} : upd H a o a = some o := by unfold upd; rw [if_pos rfl]
theorem upd_ne {H : Hp} {a b : Addr} {o : HO} (h : b ≠ a) : upd H a o b = H b := by unfold upd; rw [if_neg h]
theorem upd_upd {H : Hp} {a : Addr} {o u : HO} : upd (upd H a o) a u = upd H a u := by
  funext b; unfold upd; split <;> rfl
/-- two objects of different content stand apart -/
theorem ne_of {H : Hp} {a b : Addr} {o u : HO} (h : H a = some o) (h' : H b = some u) (d : o ≠ u) : a ≠ b := by
  intro e; subst e; rw [h] at h'; exact d (Option.some.inj h')
theorem ne_of_none {H : Hp} {a b : Addr} {o : HO} (h : H a = some o) (h' : H b = none) : a ≠ b := by
  intro e; subst e; rw [h] at h'; cases h'

section
variable (P : Program) (w : World)
def ObjOk (H : Hp) (h : Heap) (a : Addr) : HO → Prop
  | .lst xs => xs.length ≤ sizeLine ∧ ∃ (its : List Value) (n : Nat), Vals xs its ∧ h.get? a = some { cls := .type "list", data := .seq its.toArray n }
  | .tup xs => xs.length ≤ sizeLine ∧ ∃ its : List Value, Vals xs its ∧ IsTup h a its.toArray
  | .dK kvs => kvs.length ≤ sizeLine ∧ (a == sysModules) = false ∧ ∃ vs, KV kvs vs ∧ h.DictOf (mixKind P w) a vs
  | .dT kvs => kvs.length ≤ sizeLine ∧ (a == sysModules) = false ∧ ∃ xs : List (List Key × Addr × Value),
      Paired (fun (p : List Key × V) (q : List Key × Addr × Value) => p.1 = q.1 ∧ H q.2.1 = some (.tup (p.1.map kV)) ∧ RelV p.2 q.2.2) kvs xs ∧
      ∃ o es ep, h.get? a = some o ∧ o.ExactDict ∧ o.data = .dict es ep ∧ es.toList = xs.map (entryOfKey (tupleKind (mixKind P w))) ∧ (xs.map (·.1)).Nodup
  | .set S n => h.SetOf (intKind P w) a S n
  | .ins C dx fs => H dx = some (.own a) ∧ fs.length ≤ 1000 ∧ dx ≠ a ∧ h.get? a = some (PySem.W.instObj C dx) ∧
      ∃ mA, h.Ns1 dx mA ∧ (∀ f, RelO (fs.lookup f) (mA f)) ∧ PySem.Within mA (fs.map (·.1))
  | .own _ => ∃ o, h.get? a = some o
  | .xd fs => ∃ mA, h.Ns1 a mA ∧ ∀ f, RelO (fs.lookup f) (mA f)
  | .rng lo hi => ∃ t u v, h.get? a = some { cls := .type "range", data := .fields #[.int lo t, .int hi u, .int 1 v] }
  | .frz o u => h.get? a = some o ∧ ObjOk H h a u
  | .tbl ps => h.get? a = some { cls := .none, data := .fields ps }
  | .met f x => h.get? a = some (PySem.W.methodObj (.ref f) (.ref x))
  | .ext φ => φ h ∧ (∃ o, h.get? a = some o) ∧ ∀ h1 h2 : Heap, φ h1 → (∀ o, h1.get? a = some o → h2.get? a = some o) → φ h2
/-- the abstract heap is held -/
def HOk (H : Hp) (h : Heap) : Prop := ∀ a o, H a = some o → ObjOk P w H h a o
end

section
variable {P : Program} {w : World} {H H' : Hp} {h h' : Heap} {a : Addr} {o : HO}
theorem ObjOk.lt (x : ObjOk P w H h a o) : a < h.objs.size := by
  cases o with
  | lst xs => obtain ⟨_, _, _, _, e⟩ := x; exact Heap.lt_size e
  | tup xs => obtain ⟨_, _, _, p⟩ := x; exact p.lt
  | dK kvs => obtain ⟨_, _, _, _, o, _, _, e, _⟩ := x; exact Heap.lt_size e
  | dT kvs => obtain ⟨_, _, _, _, o, _, _, e, _⟩ := x; exact Heap.lt_size e
  | set S n => obtain ⟨o, _, _, _, e, _⟩ := x; exact Heap.lt_size e
  | ins C dx fs => obtain ⟨_, _, _, e, _⟩ := x; exact Heap.lt_size e
  | own y => obtain ⟨_, e⟩ := x; exact Heap.lt_size e
  | xd fs => obtain ⟨_, ⟨_, _, _, e, _⟩, _⟩ := x; exact Heap.lt_size e
  | rng lo hi => obtain ⟨_, _, _, e⟩ := x; exact Heap.lt_size e
  | frz ob u => obtain ⟨e, _⟩ := x; exact Heap.lt_size e
  | tbl ps => exact Heap.lt_size (show h.get? a = some _ from x)
  | met f y => exact Heap.lt_size (show h.get? a = some _ from x)
  | ext φ => obtain ⟨_, ⟨_, e⟩, _⟩ := x; exact Heap.lt_size e
theorem Paired.mapP {α β : Type} {F G : α → β → Prop} : ∀ {l₁ : List α} {l₂ : List β}, Paired F l₁ l₂ → (∀ a b, F a b → G a b) → Paired G l₁ l₂
  | _, _, .nil, _ => .nil
  | _, _, .cons r t, f => .cons (f _ _ r) (Paired.mapP t f)
theorem Paired.imp' {α β : Type} {F G : α → β → Prop} (f : ∀ a b, F a b → G a b) {l₁ : List α} {l₂ : List β} (r : Paired F l₁ l₂) : Paired G l₁ l₂ := Paired.mapP r f
/-- what an object's description leans on: its own object, its own dict, the tuples -/
theorem ObjOk.stay (x : ObjOk P w H h a o) (k : ∀ b u, (b = a ∨ H b = some (.own a)) → h.get? b = some u → h'.get? b = some u)
    (ho : ∀ b, H b = some (.own a) → H' b = some (.own a)) (ht : ∀ b xs, H b = some (.tup xs) → H' b = some (.tup xs)) : ObjOk P w H' h' a o := by
  induction o with
  | lst xs => obtain ⟨z, its, n, r, e⟩ := x; exact ⟨z, its, n, r, k _ _ (.inl rfl) e⟩
  | tup xs => obtain ⟨z, its, r, ob, e, c⟩ := x; exact ⟨z, its, r, ob, k _ _ (.inl rfl) e, c⟩
  | dK kvs => obtain ⟨z, y, vs, r, ob, es, ep, e, c⟩ := x; exact ⟨z, y, vs, r, ob, es, ep, k _ _ (.inl rfl) e, c⟩
  | dT kvs =>
    obtain ⟨z, y, xs, r, ob, es, ep, e, c⟩ := x
    exact ⟨z, y, xs, Paired.mapP r fun p q z => ⟨z.1, ht _ _ z.2.1, z.2.2⟩, ob, es, ep, k _ _ (.inl rfl) e, c⟩
  | set S n => obtain ⟨ob, es, ep, t, e, c⟩ := x; exact ⟨ob, es, ep, t, k _ _ (.inl rfl) e, c⟩
  | ins C dx fs =>
    obtain ⟨d, z, ne, e, mA, ⟨od, es, ep, e2, c⟩, r⟩ := x
    exact ⟨ho _ d, z, ne, k _ _ (.inl rfl) e, mA, ⟨od, es, ep, k _ _ (.inr d) e2, c⟩, r⟩
  | own y => obtain ⟨ob, e⟩ := x; exact ⟨ob, k _ _ (.inl rfl) e⟩
  | xd fs => obtain ⟨mA, ⟨od, es, ep, e, c⟩, r⟩ := x; exact ⟨mA, ⟨od, es, ep, k _ _ (.inl rfl) e, c⟩, r⟩
  | rng lo hi => obtain ⟨t, u, v, e⟩ := x; exact ⟨t, u, v, k _ _ (.inl rfl) e⟩
  | frz ob u ih => obtain ⟨e, q⟩ := x; exact ⟨k _ _ (.inl rfl) e, ih q⟩
  | tbl ps =>
    have e : h.get? a = some { cls := .none, data := .fields ps } := x
    show h'.get? a = some { cls := .none, data := .fields ps }
    exact k a _ (.inl rfl) e
  | met f y =>
    have e : h.get? a = some (PySem.W.methodObj (.ref f) (.ref y)) := x
    show h'.get? a = some (PySem.W.methodObj (.ref f) (.ref y))
    exact k a _ (.inl rfl) e
  | ext φ => obtain ⟨p, ⟨o, e⟩, st⟩ := x; exact ⟨st _ _ p fun o q => k _ _ (.inl rfl) q, ⟨o, k _ _ (.inl rfl) e⟩, st⟩
theorem HOk.lt (x : HOk P w H h) (e : H a = some o) : a < h.objs.size := (x a o e).lt
theorem HOk.fresh (x : HOk P w H h) (e : h.objs.size ≤ a) : H a = none := by
  cases q : H a with
  | none => rfl
  | some u => exact absurd (Nat.lt_of_lt_of_le (x.lt q) e) (Nat.lt_irrefl _)
/-- every object of the heap is kept -/
theorem HOk.kept (x : HOk P w H h) (k : ∀ b u, h.get? b = some u → h'.get? b = some u) : HOk P w H h' := fun a o e =>
  (x a o e).stay (fun b u _ q => k b u q) (fun _ q => q) fun _ _ q => q
/-- a new object is laid and tracked -/
theorem HOk.laid (x : HOk P w H h) (k : ∀ b u, h.get? b = some u → h'.get? b = some u) (hp : h.objs.size ≤ a) (new : ObjOk P w (upd H a o) h' a o) : HOk P w (upd H a o) h' := fun b u e => by
  have hn := x.fresh hp
  by_cases hb : b = a
  · subst hb; rw [upd_same] at e; cases e; exact new
  · rw [upd_ne hb] at e
    exact (x b u e).stay (fun c v _ q => k c v q) (fun c q => by rw [upd_ne (ne_of_none q hn)]; exact q) fun c xs q => by rw [upd_ne (ne_of_none q hn)]; exact q
end

/-- what may be read as u: it is u, or a known u -/
def Rd (H : Hp) (a : Addr) (u : HO) : Prop := H a = some u ∨ ∃ o, H a = some (.frz o u)
theorem Rd.of {H : Hp} {a : Addr} {u : HO} (h : H a = some u) : Rd H a u := .inl h
theorem Rd.ok {P : Program} {w : World} {H : Hp} {h : Heap} {a : Addr} {u : HO} (r : Rd H a u) (x : HOk P w H h) : ObjOk P w H h a u := by
  rcases r with r | ⟨o, r⟩
  · exact x a u r
  · obtain ⟨_, q⟩ := x a _ r
    exact q
/-- what may be written -/
def Mut : Option HO → Prop
  | some (.lst _) => True
  | some (.dK _) => True
  | some (.dT _) => True
  | some (.set _ _) => True
  | some (.ins _ _ _) => True
  | some (.ext _) => True
  | _ => False
section
variable {P : Program} {w : World} {H : Hp} {h h' : Heap} {x e : Addr} {o' : HO}
/-- the object at e is changed: x itself, or the dict of the instance x -/
theorem HOk.write (ok : HOk P w H h) (mu : Mut (H x)) (he : e = x ∨ H e = some (.own x)) (k : ∀ b u, b ≠ e → h.get? b = some u → h'.get? b = some u) (heo : ∃ u, h'.get? e = some u)
    (new : ObjOk P w (upd H x o') h' x o') : HOk P w (upd H x o') h' := fun b u q => by
  have nown : ∀ c y, H c = some (.own y) → c ≠ x := fun c y r z => by subst z; rw [r] at mu; exact mu
  have ntup : ∀ c xs, H c = some (.tup xs) → c ≠ x := fun c xs r z => by subst z; rw [r] at mu; exact mu
  by_cases hb : b = x
  · subst hb; rw [upd_same] at q; cases q; exact new
  · rw [upd_ne hb] at q
    by_cases hbe : b = e
    · have q' : H b = some (.own x) := by
        rcases he with z | z
        · exact absurd (hbe.trans z) hb
        · rw [hbe]; exact z
      rw [q] at q'; cases q'
      obtain ⟨v, hv⟩ := heo
      exact ⟨v, by rw [hbe]; exact hv⟩
    · refine (ok b u q).stay (fun c v hc r => k c v ?_ r) (fun c r => by rw [upd_ne (nown c b r)]; exact r) fun c xs r => by rw [upd_ne (ntup c xs r)]; exact r
      rcases hc with rfl | hc
      · exact hbe
      · rintro rfl
        rcases he with z | z
        · exact nown c b hc z
        · rw [hc] at z; cases z; exact hb rfl
end

/-! ### kept unless tracked; of the frames at fs (the callers') the slots may change (an exception that passes writes there); of the records at ex (iterators) nothing is said -/
structure Un (fs ex : List Addr) (H H' : Hp) (h h' : Heap) : Prop where
  keep : ∀ b o, h.get? b = some o → H b = none → b ∉ fs → b ∉ ex → h'.get? b = some o
  slot : ∀ b o, h.get? b = some o → H b = none → b ∈ fs → b ∉ ex → ∃ sl, h'.get? b = some { o with slots := sl }
  free : ∀ b o, h.get? b = some o → H b = none → b ∉ ex → H' b = none
  there : ∀ b o, h.get? b = some o → b ∉ ex → ∃ o', h'.get? b = some o'
  tups : ∀ b xs, H b = some (.tup xs) → H' b = some (.tup xs)
  frzs : ∀ b o u, H b = some (.frz o u) → H' b = some (.frz o u)
  tbls : ∀ b ps, H b = some (.tbl ps) → ∃ more, H' b = some (.tbl (ps ++ more))
section
variable {fs fs' ex ex' : List Addr} {H H1 H2 : Hp} {h h1 h2 h' : Heap} {a x e : Addr} {o : HO}
theorem Un.any (u : Un fs ex H H1 h h1) {b : Addr} {ob : Obj} (q : h.get? b = some ob) (n : H b = none) (hx : b ∉ ex) : ∃ sl, h1.get? b = some { ob with slots := sl } := by
  by_cases hb : b ∈ fs
  · exact u.slot b ob q n hb hx
  · exact ⟨ob.slots, u.keep b ob q n hb hx⟩
theorem Un.trans (a : Un fs ex H H1 h h1) (b : Un fs ex H1 H2 h1 h2) : Un fs ex H H2 h h2 where
  keep := fun c ob q n hc hx => b.keep c ob (a.keep c ob q n hc hx) (a.free c ob q n hx) hc hx
  slot := fun c ob q n hc hx => by
    obtain ⟨sl, e1⟩ := a.slot c ob q n hc hx
    obtain ⟨sl', e2⟩ := b.slot c _ e1 (a.free c ob q n hx) hc hx
    exact ⟨sl', e2⟩
  free := fun c ob q n hx => by
    obtain ⟨o', e1⟩ := a.there c ob q hx
    exact b.free c o' e1 (a.free c ob q n hx) hx
  there := fun c ob q hx => by
    obtain ⟨o', e1⟩ := a.there c ob q hx
    exact b.there c o' e1 hx
  tups := fun c xs q => b.tups c xs (a.tups c xs q)
  frzs := fun c ob xs q => b.frzs c ob xs (a.frzs c ob xs q)
  tbls := fun c ps q => by
    obtain ⟨m1, e1⟩ := a.tbls c ps q
    obtain ⟨m2, e2⟩ := b.tbls c _ e1
    exact ⟨m1 ++ m2, by rw [e2, Array.append_assoc]⟩
theorem Un.kept (k : ∀ b u, h.get? b = some u → h'.get? b = some u) : Un fs ex H H h h' :=
  ⟨fun b ob q _ _ _ => k b ob q, fun b ob q _ _ _ => ⟨ob.slots, k b ob q⟩, fun _ _ _ n _ => n, fun b ob q _ => ⟨ob, k b ob q⟩, fun _ _ q => q, fun _ _ _ q => q, fun _ ps q => ⟨#[], by rw [q]; simp⟩⟩
theorem Un.refl : Un fs ex H H h h := Un.kept fun _ _ q => q
theorem Un.laid (k : ∀ b u, h.get? b = some u → h'.get? b = some u) (hp : h.objs.size ≤ a) (hn : H a = none) : Un fs ex H (upd H a o) h h' where
  keep := fun b u q _ _ _ => k b u q
  slot := fun b u q _ _ _ => ⟨u.slots, k b u q⟩
  free := fun b u q n _ => by rw [upd_ne (Nat.ne_of_lt (Nat.lt_of_lt_of_le (Heap.lt_size q) hp))]; exact n
  there := fun b u q _ => ⟨u, k b u q⟩
  tups := fun b xs q => by rw [upd_ne (ne_of_none q hn)]; exact q
  frzs := fun b u xs q => by rw [upd_ne (ne_of_none q hn)]; exact q
  tbls := fun b ps q => ⟨#[], by rw [upd_ne (ne_of_none q hn), q]; simp⟩
theorem Un.write (mu : Mut (H x)) (he : e = x ∨ H e = some (.own x)) (k : ∀ b u, b ≠ e → h.get? b = some u → h'.get? b = some u) (heo : ∃ u, h'.get? e = some u) : Un fs ex H (upd H x o) h h' := by
  have hx : ∀ b, H b = none → b ≠ x := fun b n z => by subst z; rw [n] at mu; exact mu
  have hb : ∀ b, H b = none → b ≠ e := fun b n z => by
    subst z
    rcases he with r | r
    · exact hx b n r
    · rw [n] at r; cases r
  have hm : ∀ b u, H b = some u → ¬ Mut (some u) → b ≠ x := fun b u q nm z => by subst z; rw [q] at mu; exact nm mu
  refine ⟨fun b u q n _ _ => k b u (hb b n) q, fun b u q n _ _ => ⟨u.slots, k b u (hb b n) q⟩, fun b u q n _ => by rw [upd_ne (hx b n)]; exact n, fun b u q _ => ?_,
    fun b xs q => by rw [upd_ne (hm b _ q fun z => z)]; exact q, fun b u xs q => by rw [upd_ne (hm b _ q fun z => z)]; exact q, fun b ps q => ⟨#[], by rw [upd_ne (hm b _ q fun z => z), q]; simp⟩⟩
  by_cases hbe : b = e
  · subst hbe; exact heo
  · exact ⟨u, k b u hbe q⟩
theorem Un.mono (u : Un fs ex H H1 h h1) (hs : ∀ b ∈ fs, b ∈ fs') (hx : ∀ b ∈ ex, b ∈ ex') : Un fs' ex' H H1 h h1 :=
  ⟨fun b ob q n hb he => u.keep b ob q n (fun z => hb (hs b z)) fun z => he (hx b z), fun _ _ q n _ he => u.any q n fun z => he (hx _ z), fun b ob q n he => u.free b ob q n fun z => he (hx b z), fun b ob q he => u.there b ob q fun z => he (hx b z), u.tups, u.frzs, u.tbls⟩
end

/-! ### the heap without what is tracked -/
def trk (h : Heap) (H : Hp) : List Addr := (List.range h.objs.size).filter fun a => (H a).isSome
def hidT (h : Heap) (H : Hp) : Heap := PySem.W.hideAll h (trk h H)
theorem hidT_size (h : Heap) (H : Hp) : (hidT h H).objs.size = h.objs.size := PySem.W.hideAll_size _ _
theorem hidT_get {h : Heap} {H : Hp} {b : Addr} {o : Obj} (e : h.get? b = some o) (n : H b = none) : (hidT h H).get? b = some o :=
  PySem.W.hideAll_get _ e fun hm => by
    have q : (H b).isSome = true := (List.mem_filter.mp hm).2
    rw [n] at q; simp at q
theorem of_hidT {h : Heap} {H : Hp} {b : Addr} {o : Obj} (e : (hidT h H).get? b = some o) : h.get? b = some o ∧ H b = none := by
  have e' : h.get? b = some o := PySem.W.of_hideAll (trk h H) e
  refine ⟨e', ?_⟩
  cases q : H b with
  | none => rfl
  | some x =>
    have hm : b ∈ trk h H := List.mem_filter.mpr ⟨List.mem_range.mpr (Heap.lt_size e'), by simp [q]⟩
    have z : (hidT h H).get? b = none := PySem.W.hideAll_none (trk h H) hm
    rw [z] at e; cases e

/-! ### OpenK's ledger, filled with every new object but one -/
def allNews (g h : Heap) (L : Addr) : List (Addr × Obj) := (List.range h.objs.size).filterMap fun a => if a = L ∨ (g.get? a).isSome = true then none else (h.get? a).map fun o => (a, o)
theorem mem_allNews {g h : Heap} {L a : Addr} {o : Obj} (h1 : a ≠ L) (h2 : g.get? a = none) (h3 : h.get? a = some o) : (a, o) ∈ allNews g h L :=
  List.mem_filterMap.mpr ⟨a, List.mem_range.mpr (Heap.lt_size h3), by simp [h1, h2, h3]⟩
theorem of_mem_allNews {g h : Heap} {L : Addr} {p : Addr × Obj} (hp : p ∈ allNews g h L) : p.1 ≠ L ∧ g.get? p.1 = none ∧ h.get? p.1 = some p.2 := by
  obtain ⟨b, _, e⟩ := List.mem_filterMap.mp hp
  split at e
  · cases e
  · rename_i hn
    cases q : h.get? b with
    | none => rw [q] at e; simp at e
    | some u =>
      rw [q] at e
      simp only [Option.map_some, Option.some.injEq] at e
      subst e
      refine ⟨fun z => hn (.inl z), ?_, q⟩
      show g.get? b = none
      cases r : g.get? b with
      | none => rfl
      | some v => exact (hn (.inr (by simp [r]))).elim
def rest (g h : Heap) (L d : Addr) : List (Addr × Obj) := (allNews g h L).filter fun p => decide (p.1 ≠ d)
theorem rest_ne {g h : Heap} {L d : Addr} : ∀ p ∈ rest g h L d, p.1 ≠ d := fun p hp => of_decide_eq_true (List.mem_filter.mp hp).2
theorem mem_rest {g h : Heap} {L d a : Addr} {o : Obj} (h1 : a ≠ L) (h2 : g.get? a = none) (h3 : h.get? a = some o) (h4 : a ≠ d) : (a, o) ∈ rest g h L d :=
  List.mem_filter.mpr ⟨mem_allNews h1 h2 h3, decide_eq_true h4⟩
theorem news_all {g h : Heap} {L : Addr} : News g L h (allNews g h L) := fun p hp => let ⟨a, b, c⟩ := of_mem_allNews hp; ⟨c, a, b⟩
theorem news_at {g h : Heap} {L d : Addr} {o : Obj} (h1 : d ≠ L) (h2 : g.get? d = none) (h3 : h.get? d = some o) : News g L h ((d, o) :: rest g h L d) := fun p hp => by
  rcases List.mem_cons.mp hp with rfl | hp
  · exact ⟨h3, h1, h2⟩
  · exact news_all p (List.mem_filter.mp hp).1
/-- behind a rule that changed d alone: all else but the frame is kept -/
theorem kept_of_news {g h h' : Heap} {L d : Addr} {m : Str → Option Value} (k : ∀ b o, g.get? b = some o → h.get? b = some o) (F : Fr g L h' m) (N : News g L h' (rest g h L d)) :
    ∀ b o, b ≠ L → b ≠ d → h.get? b = some o → h'.get? b = some o := fun b o h1 h2 e => by
  cases q : g.get? b with
  | some u =>
    have := k b u q
    rw [e] at this; cases this
    exact F.keep b _ q
  | none => exact (N (b, o) (mem_rest h1 q e h2)).1
end L2

namespace L2
open PySem PySem.Spec PyProof.Rows

/-- the module's facts, over the base: the heap at the law's entry without what is tracked there -/
structure Mod (K : PySem.W.Frag) (mg : Str → Option Value) (base : Heap) : Prop where
  kin : K.In base
  glob : base.Ns mainGlobals mg
  blt : ∃ mb, base.Ns builtinsNs mb ∧ ∀ x : Str, x ≠ "__name__" → mb x = bootBuiltins x
  nolimit : base.NoLimit

/-- the context: a def's body (or a comprehension's block) running. base: fixed through the whole law; s₀, H₀: the entry; outer: the frames whose slots others may change (a def's callers); stack: all frames that run;
   ex: iterators that were made ahead of the entry and are walked here (a comprehension's); fn: the names whose cells were made at the entry (a def: all; a comprehension's block: its own); calm: not within an except suite; pn: pins that every state bears; xe: what is wanted of an exception that leaves the code -/
structure Cx where
  prog : Program
  w : World
  K : PySem.W.Frag
  mg : Str → Option Value
  base : Heap
  A : Around
  N : List Str
  s₀ : Shared
  H₀ : Hp
  env : Env
  outer : List Env
  stack : List Env
  ex : List Addr
  fn : Str → Bool
  calm : Bool
  pn : List (Addr × Obj)
  xe : Value → Shared → Prop
/-- the callers' frames -/
def frs (l : List Env) : List Addr := l.filterMap (·.frame)
abbrev Cx.fs (X : Cx) : List Addr := frs X.outer

def Vis (sc : Scope) (x : Str) : Prop := sc.names.lookup x = some .local ∨ sc.names.lookup x = some .cell ∨ sc.names.lookup x = some .free
def Loc (sc : Scope) (x : Str) : Prop := sc.names.lookup x = some .local ∨ sc.names.lookup x = some .cell
def Look (env : Env) (h : Heap) (m : Str → Option Value) (x : Str) (u : Value) : Prop :=
  (env.kindOf x = some .local ∧ m x = some u) ∨ ((env.kindOf x = some .cell ∨ env.kindOf x = some .free) ∧ ∃ c, env.cells.lookup x = some c ∧ h.IsCell c (some u))

structure Cx.Ok (X : Cx) : Prop where
  mod : Mod X.K X.mg X.base
  kind : X.env.scope.kind = .function
  glob : X.env.globals = mainGlobals
  blt : X.env.builtins = builtinsNs
  above : X.s₀.heap.objs.size ≤ X.env.locals
  inj : ∀ x y c, X.env.cells.lookup x = some c → X.env.cells.lookup y = some c → x = y
  has : ∀ x, (X.env.kindOf x = some .cell ∨ X.env.kindOf x = some .free) → ∃ c, X.env.cells.lookup x = some c
  cab : ∀ x c, X.fn x = true → X.env.cells.lookup x = some c → X.s₀.heap.objs.size ≤ c
  hd : X.calm = true → X.A.handled = none
  frames : X.A.frames = some X.stack
  stk : X.stack = X.outer ∨ (X.stack = X.env :: X.outer ∧ X.env.frame = some X.env.locals)
  exf : ∀ b ∈ X.ex, b ≠ X.env.locals ∧ ∀ x c, X.env.cells.lookup x = some c → c ≠ b
  bs : ∀ b o, X.base.get? b = some o → X.s₀.heap.get? b = some o ∧ X.H₀ b = none
  bsz : X.base.objs.size ≤ X.s₀.heap.objs.size
  noex : ∀ b o, X.base.get? b = some o → b ∉ X.ex
  exfs : ∀ b ∈ X.ex, b ∉ X.fs
  funs : X.s₀.heap.FunFrames X.base X.outer
  frf : ∀ b ∈ X.fs, X.H₀ b = none

structure Inv (X : Cx) (pins : List (Addr × Obj)) (σ : List (Option V)) (H : Hp) (s : Shared) : Prop where
  ok : X.Ok
  os : s.os = X.s₀.os
  bare : AllBare s.gens
  base : Un X.fs X.ex X.H₀ H X.s₀.heap s.heap
  loc : ∃ m, s.heap.Ns X.env.locals m ∧ ∀ (i : Nat) (x : Str) (v : V), X.N[i]? = some x → σ[i]? = some (some v) → Vis X.env.scope x → ∃ u, RelV v u ∧ Look X.env s.heap m x u
  cell : ∀ x c, X.env.cells.lookup x = some c → ∃ v, s.heap.IsCell c v
  free : H X.env.locals = none
  freeC : ∀ x c, X.env.cells.lookup x = some c → H c = none
  pin : ∀ p ∈ X.pn ++ pins, s.heap.get? p.1 = some p.2 ∧ H p.1 = none ∧ p.1 ≠ X.env.locals ∧ p.1 ∉ X.fs ∧ ∀ v, p.2.data ≠ .cell v
  hok : HOk X.prog X.w H s.heap
  len : σ.length = X.N.length

section
variable {X : Cx} {pins : List (Addr × Obj)} {σ : List (Option V)} {H H' : Hp} {s : Shared} {h' : Heap}

theorem Cx.Ok.nofr (ok : X.Ok) {b : Addr} {o : Obj} (e : X.base.get? b = some o) : b ∉ X.fs := fun hb => by
  have := (ok.funs.mem hb).1
  rw [e] at this; cases this
theorem Inv.bs (I : Inv X pins σ H s) : ∀ b o, X.base.get? b = some o → s.heap.get? b = some o ∧ H b = none := fun b o e =>
  ⟨I.base.keep b o (I.ok.bs b o e).1 (I.ok.bs b o e).2 (I.ok.nofr e) (I.ok.noex b o e), I.base.free b o (I.ok.bs b o e).1 (I.ok.bs b o e).2 (I.ok.noex b o e)⟩
theorem Inv.bk (I : Inv X pins σ H s) : ∀ b o, X.base.get? b = some o → s.heap.get? b = some o := fun b o e => (I.bs b o e).1
theorem Inv.mod (I : Inv X pins σ H s) : Mod X.K X.mg X.base := I.ok.mod
theorem Inv.kIn (I : Inv X pins σ H s) : X.K.In s.heap := I.ok.mod.kin.keeps I.bk
theorem Inv.nolimit (I : Inv X pins σ H s) : s.heap.NoLimit := I.ok.mod.nolimit.keeps I.bk
/-- the frame over the base: for OpenK's rules (K.In X.base is I.mod.kin) -/
theorem Inv.fr (I : Inv X pins σ H s) : ∃ m, Fr X.base X.env.locals s.heap m :=
  let ⟨m, hn, _⟩ := I.loc
  ⟨m, hn, I.bk, Nat.le_trans I.ok.bsz I.ok.above⟩
theorem Inv.lt (I : Inv X pins σ H s) : X.env.locals < s.heap.objs.size := let ⟨_, hn, _⟩ := I.loc; hn.lt
theorem Inv.sz (I : Inv X pins σ H s) : X.s₀.heap.objs.size ≤ s.heap.objs.size := Nat.le_trans I.ok.above (Nat.le_of_lt I.lt)
theorem Inv.nofs (I : Inv X pins σ H s) {a : Addr} (h : s.heap.objs.size ≤ a) : a ∉ X.fs := fun hb => by
  obtain ⟨_, o, ho, _⟩ := I.ok.funs.mem hb
  exact absurd (Nat.lt_of_lt_of_le (Heap.lt_size ho) (Nat.le_trans I.sz h)) (Nat.lt_irrefl _)
theorem Inv.cne (I : Inv X pins σ H s) : ∀ x c, X.env.cells.lookup x = some c → c ≠ X.env.locals := fun x c e z => by
  obtain ⟨v, o, ho, hd⟩ := I.cell x c e
  obtain ⟨m, ⟨o', es, ep, ho', hd', _⟩, _⟩ := I.loc
  rw [z, ho'] at ho; cases ho; rw [hd'] at hd; cases hd
theorem Inv.funs (I : Inv X pins σ H s) : s.heap.FunFrames X.base X.outer := by
  have all : ∀ (l : List Env), (∀ b ∈ frs l, b ∈ X.fs) → X.s₀.heap.FunFrames X.base l → s.heap.FunFrames X.base l := by
    intro l
    induction l with
    | nil => intro _ _; trivial
    | cons env r ih =>
      intro hs hl
      obtain ⟨hk, ⟨L, o, hf, hn, ho, hd⟩, hr⟩ := hl
      have hL : L ∈ X.fs := hs L (by unfold frs; rw [List.filterMap_cons, hf]; exact List.mem_cons_self)
      obtain ⟨sl, e⟩ := I.base.slot L o ho (I.ok.frf L hL) hL fun z => I.ok.exfs L z hL
      exact ⟨hk, ⟨L, _, hf, hn, e, hd⟩, ih (fun b hb => hs b (by unfold frs; rw [List.filterMap_cons, hf]; exact List.mem_cons_of_mem _ hb)) hr⟩
  exact all X.outer (fun _ hb => hb) I.ok.funs

/-- the frames that run, for a call -/
theorem Inv.stack (I : Inv X pins σ H s) : s.heap.FunFrames X.base X.stack := by
  rcases I.ok.stk with e | ⟨e, hf⟩
  · rw [e]; exact I.funs
  · rw [e]
    obtain ⟨m, hn, _⟩ := I.loc
    refine .cons (by rw [I.ok.kind]; decide) hf hn ?_ I.funs
    exact Heap.get?_none_of_le (Nat.le_trans I.ok.bsz I.ok.above)
theorem Inv.stkSub (I : Inv X pins σ H s) : ∀ b ∈ frs X.stack, b ∈ X.env.locals :: X.fs := fun b hb => by
  rcases I.ok.stk with e | ⟨e, hf⟩
  · rw [e] at hb; exact List.mem_cons_of_mem _ hb
  · rw [e] at hb
    unfold frs at hb
    rw [List.filterMap_cons, hf] at hb
    exact hb
theorem Inv.stkFree (I : Inv X pins σ H s) : ∀ b ∈ frs X.stack, H b = none := fun b hb => by
  rcases List.mem_cons.mp (I.stkSub b hb) with e | hb
  · rw [e]; exact I.free
  · obtain ⟨_, o, ho, _⟩ := I.ok.funs.mem hb
    exact I.base.free b o ho (I.ok.frf b hb) fun z => I.ok.exfs b z hb

/-- THE STEP: the untracked objects but the frame and the records at ch are kept (the callers' frames up to slots), the frame's map is kept, the new abstract heap is held -/
theorem Inv.step {g' : Array GenState} {t' : Nat} {d' : Drawn} {ch : List Addr} (I : Inv X pins σ H s)
    (hch : ∀ b ∈ ch, (b ∈ X.ex ∨ X.s₀.heap.objs.size ≤ b) ∧ b ≠ X.env.locals ∧ (∀ x c, X.env.cells.lookup x = some c → c ≠ b) ∧ ∀ p ∈ X.pn ++ pins, p.1 ≠ b)
    (keep : ∀ b o, b ≠ X.env.locals → b ∉ X.fs → b ∉ ch → s.heap.get? b = some o → H b = none → h'.get? b = some o)
    (slot : ∀ b o, b ≠ X.env.locals → b ∈ X.fs → b ∉ ch → s.heap.get? b = some o → H b = none → ∃ sl, h'.get? b = some { o with slots := sl }) (free : ∀ b o, b ∉ ch → s.heap.get? b = some o → H b = none → H' b = none)
    (there : ∀ b o, b ∉ ch → s.heap.get? b = some o → ∃ o', h'.get? b = some o')
    (tups : ∀ b xs, H b = some (.tup xs) → H' b = some (.tup xs)) (frzs : ∀ b o u, H b = some (.frz o u) → H' b = some (.frz o u)) (tbls : ∀ b ps, H b = some (.tbl ps) → ∃ more, H' b = some (.tbl (ps ++ more)))
    (ns : ∀ m, s.heap.Ns X.env.locals m → h'.Ns X.env.locals m) (hok : HOk X.prog X.w H' h') (hg : AllBare g') :
    Inv X pins σ H' { s with heap := h', gens := g', drawn := d', toks := t' } := by
  have neL : ∀ b o, X.s₀.heap.get? b = some o → b ≠ X.env.locals := fun b o e => Nat.ne_of_lt (Nat.lt_of_lt_of_le (Heap.lt_size e) I.ok.above)
  have neC : ∀ b o, X.s₀.heap.get? b = some o → b ∉ X.ex → b ∉ ch := fun b o e hx hb => by
    rcases (hch b hb).1 with z | z
    · exact hx z
    · exact absurd (Nat.lt_of_lt_of_le (Heap.lt_size e) z) (Nat.lt_irrefl _)
  have cellK : ∀ x c, X.env.cells.lookup x = some c → ∀ v, s.heap.IsCell c v → h'.IsCell c v := fun x c e v ⟨o, ho, hd⟩ => by
    have nch : c ∉ ch := fun z => (hch c z).2.2.1 x c e rfl
    by_cases hc : c ∈ X.fs
    · obtain ⟨sl, q⟩ := slot c o (I.cne x c e) hc nch ho (I.freeC x c e)
      exact ⟨_, q, hd⟩
    · exact ⟨o, keep c o (I.cne x c e) hc nch ho (I.freeC x c e), hd⟩
  refine ⟨I.ok, I.os, hg, ⟨fun b o e n hb hx => ?_, fun b o e n hb hx => ?_, fun b o e n hx => ?_, fun b o e hx => ?_, fun b xs e => tups b xs (I.base.tups b xs e), fun b o xs e => frzs b o xs (I.base.frzs b o xs e), fun b ps e => ?_⟩, ?_, fun x c e => ?_, ?_, fun x c e => ?_, fun p hp => ?_, hok, I.len⟩
  · exact keep b o (neL b o e) hb (neC b o e hx) (I.base.keep b o e n hb hx) (I.base.free b o e n hx)
  · obtain ⟨sl, e1⟩ := I.base.slot b o e n hb hx
    obtain ⟨sl', e2⟩ := slot b _ (neL b o e) hb (neC b o e hx) e1 (I.base.free b o e n hx)
    exact ⟨sl', e2⟩
  · obtain ⟨o', e1⟩ := I.base.there b o e hx
    exact free b o' (neC b o e hx) e1 (I.base.free b o e n hx)
  · obtain ⟨o', e1⟩ := I.base.there b o e hx
    exact there b o' (neC b o e hx) e1
  · obtain ⟨m1, e1⟩ := I.base.tbls b ps e
    obtain ⟨m2, e2⟩ := tbls b _ e1
    exact ⟨m1 ++ m2, by rw [e2, Array.append_assoc]⟩
  · obtain ⟨m, hn, hl⟩ := I.loc
    refine ⟨m, ns m hn, fun i x v e1 e2 e3 => ?_⟩
    obtain ⟨u, r, l⟩ := hl i x v e1 e2 e3
    refine ⟨u, r, ?_⟩
    rcases l with l | ⟨k, c, e, z⟩
    · exact .inl l
    · exact .inr ⟨k, c, e, cellK x c e _ z⟩
  · obtain ⟨v, z⟩ := I.cell x c e
    exact ⟨v, cellK x c e v z⟩
  · obtain ⟨m, ⟨o, _, _, ho, _⟩, _⟩ := I.loc
    exact free _ o (fun z => (hch _ z).2.1 rfl) ho I.free
  · obtain ⟨v, o, ho, hd⟩ := I.cell x c e
    exact free c o (fun z => (hch c z).2.2.1 x c e rfl) ho (I.freeC x c e)
  · obtain ⟨e, n, ne, nf, d⟩ := I.pin p hp
    have nch : p.1 ∉ ch := fun z => (hch p.1 z).2.2.2 p hp rfl
    exact ⟨keep p.1 p.2 ne nf nch e n, free p.1 p.2 nch e n, ne, nf, d⟩
/-- .. where the frame's own object is kept too -/
theorem Inv.un {t' : Nat} (I : Inv X pins σ H s) (u : Un X.fs [] H H' s.heap h') (hok : HOk X.prog X.w H' h') : Inv X pins σ H' { s with heap := h', toks := t' } := by
  obtain ⟨m, ⟨o, es, ep, ho, r⟩, _⟩ := id I.loc
  obtain ⟨sl, hL⟩ := u.any ho I.free (by simp)
  exact I.step (g' := s.gens) (d' := s.drawn) (ch := []) (fun _ z => nomatch z) (fun b o _ hb _ e n => u.keep b o e n hb (by simp)) (fun b o _ hb _ e n => u.slot b o e n hb (by simp)) (fun b o _ e n => u.free b o e n (by simp)) (fun b o _ e => u.there b o e (by simp)) u.tups u.frzs u.tbls (fun m' hm => by
    obtain ⟨o', es', ep', ho', r'⟩ := hm
    rw [ho] at ho'; cases ho'
    exact ⟨_, es', ep', hL, r'⟩) hok I.bare
/-- behind a call (or a comprehension's block): the slots of this frame may have changed too, the records at ch may have turned -/
theorem Inv.call {g' : Array GenState} {t' : Nat} {d' : Drawn} {ch : List Addr} (I : Inv X pins σ H s) (u : Un (frs X.stack) ch H H' s.heap h') (hok : HOk X.prog X.w H' h') (hg : AllBare g')
    (hch : ∀ b ∈ ch, (b ∈ X.ex ∨ X.s₀.heap.objs.size ≤ b) ∧ b ≠ X.env.locals ∧ (∀ x c, X.env.cells.lookup x = some c → c ≠ b) ∧ ∀ p ∈ X.pn ++ pins, p.1 ≠ b) :
    Inv X pins σ H' { s with heap := h', gens := g', drawn := d', toks := t' } := by
  obtain ⟨m, ⟨o, es, ep, ho, r⟩, _⟩ := id I.loc
  obtain ⟨sl, hL⟩ := u.any ho I.free fun z => (hch _ z).2.1 rfl
  exact I.step (ch := ch) hch (fun b o hL hb hc e n => u.keep b o e n (fun z => (List.mem_cons.mp (I.stkSub b z)).elim hL hb) hc) (fun b o _ _ hc e n => u.any e n hc) (fun b o hc e n => u.free b o e n hc) (fun b o hc e => u.there b o e hc) u.tups u.frzs u.tbls (fun m' hm => by
    obtain ⟨o', es', ep', ho', r'⟩ := hm
    rw [ho] at ho'; cases ho'
    exact ⟨_, es', ep', hL, r'⟩) hok hg
/-- an untracked record of ours (an iterator) has turned -/
theorem Inv.turned {t' : Nat} {it : Addr} (I : Inv X pins σ H s) (k : ∀ b o, b ≠ it → s.heap.get? b = some o → h'.get? b = some o) (hn : H it = none) (hL : it ≠ X.env.locals)
    (h1 : it ∈ X.ex ∨ X.s₀.heap.objs.size ≤ it) (h2 : ∀ x c, X.env.cells.lookup x = some c → c ≠ it) (h3 : ∀ p ∈ X.pn ++ pins, p.1 ≠ it) : Inv X pins σ H { s with heap := h', toks := t' } := by
  have nit : ∀ b u, H b = some u → b ≠ it := fun b u e z => by rw [z, hn] at e; cases e
  refine I.step (g' := s.gens) (d' := s.drawn) (ch := [it]) (fun b hb => ?_) (fun b o _ _ hc e _ => k b o (fun z => hc (by simp [z])) e) (fun b o _ _ hc e _ => ⟨o.slots, k b o (fun z => hc (by simp [z])) e⟩) (fun _ _ _ _ n => n)
    (fun b o hc e => ⟨o, k b o (fun z => hc (by simp [z])) e⟩) (fun _ _ e => e) (fun _ _ _ e => e) (fun b ps e => ⟨#[], by rw [e]; simp⟩) (fun m hm => ?_) (fun b u e => ?_) I.bare
  · have e : b = it := by simpa using hb
    subst e
    exact ⟨h1, hL, h2, h3⟩
  · obtain ⟨o, es, ep, ho, r⟩ := hm
    exact ⟨o, es, ep, k _ o (Ne.symm hL) ho, r⟩
  · refine (I.hok b u e).stay (fun c v hc q => k c v ?_ q) (fun _ q => q) fun _ _ q => q
    rcases hc with z | z
    · rw [z]; exact nit b u e
    · exact nit c _ z
theorem Inv.tok (I : Inv X pins σ H s) (t : Nat) : Inv X pins σ H { s with toks := t } := I.un (h' := s.heap) (t' := t) Un.refl I.hok
/-- all objects kept -/
theorem Inv.kept {t' : Nat} (I : Inv X pins σ H s) (k : ∀ b u, s.heap.get? b = some u → h'.get? b = some u) : Inv X pins σ H { s with heap := h', toks := t' } := I.un (Un.kept k) (I.hok.kept k)
/-- a new object laid and tracked -/
theorem Inv.laid {a : Addr} {o : HO} {t' : Nat} (I : Inv X pins σ H s) (k : ∀ b u, s.heap.get? b = some u → h'.get? b = some u) (hp : s.heap.objs.size ≤ a) (new : ObjOk X.prog X.w (upd H a o) h' a o) :
    Inv X pins σ (upd H a o) { s with heap := h', toks := t' } := I.un (Un.laid k hp (I.hok.fresh hp)) (I.hok.laid k hp new)
/-- an object written -/
theorem Inv.write {x e : Addr} {o : HO} {t' : Nat} (I : Inv X pins σ H s) (mu : Mut (H x)) (he : e = x ∨ H e = some (.own x)) (k : ∀ b u, b ≠ e → s.heap.get? b = some u → h'.get? b = some u) (heo : ∃ u, h'.get? e = some u)
    (new : ObjOk X.prog X.w (upd H x o) h' x o) : Inv X pins σ (upd H x o) { s with heap := h', toks := t' } := I.un (Un.write mu he k heo) (I.hok.write mu he k heo new)
/-- forgetting slots, pins -/
theorem Inv.weak {σ' : List (Option V)} (I : Inv X pins σ H s) (hl : σ'.length = σ.length) (w : ∀ (i : Nat) v, σ'[i]? = some (some v) → σ[i]? = some (some v)) : Inv X pins σ' H s :=
  ⟨I.ok, I.os, I.bare, I.base, let ⟨m, hn, hl'⟩ := I.loc; ⟨m, hn, fun i x v e1 e2 e3 => hl' i x v e1 (w i v e2) e3⟩, I.cell, I.free, I.freeC, I.pin, I.hok, hl.trans I.len⟩
theorem Inv.pins_of {pins' : List (Addr × Obj)} (I : Inv X pins σ H s) (h : ∀ p ∈ pins', s.heap.get? p.1 = some p.2 ∧ H p.1 = none ∧ p.1 ≠ X.env.locals ∧ p.1 ∉ X.fs ∧ ∀ v, p.2.data ≠ .cell v) : Inv X pins' σ H s :=
  ⟨I.ok, I.os, I.bare, I.base, I.loc, I.cell, I.free, I.freeC, fun p hp => (List.mem_append.mp hp).elim (fun z => I.pin p (List.mem_append_left _ z)) (h p), I.hok, I.len⟩

theorem nodup_ix {N : List Str} (hN : N.Nodup) {i j : Nat} {x : Str} (a : N[i]? = some x) (b : N[j]? = some x) : i = j := by
  obtain ⟨h1, e1⟩ := List.getElem?_eq_some_iff.mp a
  obtain ⟨h2, e2⟩ := List.getElem?_eq_some_iff.mp b
  exact (List.getElem_inj hN).mp (e1.trans e2.symm)

/-- a name is stored; what changed -/
theorem store_ok2 {M : Model} {A : Around} {E : Value → Shared → Prop} {i : Nat} {x : Str} {v : V} {u : Value} {Q : Unit → Shared → Prop} (I : Inv X pins σ H s) (hN : X.N.Nodup) (hi : X.N[i]? = some x) (hx : Loc X.env.scope x) (r : RelV v u)
    (h : ∀ s', Inv X pins (σ.set i (some v)) H s' → (∃ a, Heap.SameBut a s.heap s'.heap ∧ (a = X.env.locals ∨ X.env.cells.lookup x = some a)) → Q () s') (hf : X.fn x = true ∨ X.env.scope.names.lookup x = some .local := by first | exact .inl rfl | exact .inr rfl | assumption) : wpAny M A (storeName X.env x u) Q E s := by
  obtain ⟨m, hn, hl⟩ := id I.loc
  have hcls : (X.env.scope.kind == .class || (X.env.scope.kind == .module && X.env.locals != X.env.globals)) = false := by rw [I.ok.kind]; rfl
  have hiσ : i < σ.length := by rw [I.len]; exact (List.getElem?_eq_some_iff.mp hi).1
  have cne := I.cne
  have tracked : ∀ {a : Addr} {h' : Heap}, (∃ o, s.heap.get? a = some o ∧ H a = none) → Heap.SameBut a s.heap h' → HOk X.prog X.w H h' := fun {a h'} ha hs b ob e => by
    obtain ⟨_, _, hfree⟩ := ha
    refine (I.hok b ob e).stay (fun c w' hc q => (hs.2 c ?_).trans q) (fun _ q => q) fun _ _ q => q
    rintro rfl
    rcases hc with rfl | hc
    · rw [hfree] at e; cases e
    · rw [hfree] at hc; cases hc
  rcases hx with hk | hk
  · refine wpAny_storeName_local hk hn (fun h' hn' hs => ?_) hcls
    obtain ⟨oL, _, _, hoL, _⟩ := id hn
    refine h _ ⟨I.ok, I.os, I.bare, ⟨fun b o e n hb hx => ?_, fun b o e n hb hx => ?_, I.base.free, fun b o e hx => ?_, I.base.tups, I.base.frzs, I.base.tbls⟩, ⟨_, hn', fun j y v' e1 e2 e3 => ?_⟩, fun y c e => ?_, I.free, I.freeC, fun p hp => ?_, tracked ⟨oL, hoL, I.free⟩ hs, by simpa using I.len⟩ ⟨_, hs, .inl rfl⟩
    · exact (hs.2 b (Nat.ne_of_lt (Nat.lt_of_lt_of_le (Heap.lt_size e) I.ok.above))).trans (I.base.keep b o e n hb hx)
    · obtain ⟨sl, e1⟩ := I.base.slot b o e n hb hx
      exact ⟨sl, (hs.2 b (Nat.ne_of_lt (Nat.lt_of_lt_of_le (Heap.lt_size e) I.ok.above))).trans e1⟩
    · obtain ⟨o', e1⟩ := I.base.there b o e hx
      exact ⟨o', (hs.2 b (Nat.ne_of_lt (Nat.lt_of_lt_of_le (Heap.lt_size e) I.ok.above))).trans e1⟩
    · by_cases hj : j = i
      · subst hj
        rw [hi] at e1; cases e1
        rw [List.getElem?_set_self hiσ] at e2
        cases e2
        exact ⟨u, r, .inl ⟨hk, by simp⟩⟩
      · rw [List.getElem?_set_ne (Ne.symm hj)] at e2
        obtain ⟨u', r', q⟩ := hl j y v' e1 e2 e3
        refine ⟨u', r', ?_⟩
        rcases q with ⟨k, e⟩ | ⟨k, c, e, z⟩
        · refine .inl ⟨k, ?_⟩
          have : y ≠ x := fun e => hj (nodup_ix hN e1 (e ▸ hi))
          simp [this, e]
        · exact .inr ⟨k, c, e, z.sameBut hs (cne y c e)⟩
    · obtain ⟨w', z⟩ := I.cell y c e
      exact ⟨w', z.sameBut hs (cne y c e)⟩
    · obtain ⟨e, n, ne, nf, d⟩ := I.pin p hp
      exact ⟨(hs.2 p.1 ne).trans e, n, ne, nf, d⟩
  · have hfn : X.fn x = true := by
      rcases hf with z | z
      · exact z
      · rw [z] at hk; cases hk
    obtain ⟨c, hc⟩ := I.ok.has x (.inl hk)
    obtain ⟨w', z⟩ := I.cell x c hc
    refine wpAny_storeName_cell I.ok.kind hk hc z (fun h' hc' hs => ?_)
    obtain ⟨oc, hoc, hocd⟩ := id z
    refine h { s with heap := h' } ⟨I.ok, I.os, I.bare, ⟨fun b o e n hb hx => ?_, fun b o e n hb hx => ?_, I.base.free, fun b o e hx => ?_, I.base.tups, I.base.frzs, I.base.tbls⟩, ⟨m, hn.sameBut hs (Ne.symm (cne x c hc)), fun j y v' e1 e2 e3 => ?_⟩, fun y c' e => ?_, I.free, I.freeC, fun p hp => ?_, tracked ⟨oc, hoc, I.freeC x c hc⟩ hs, by simpa using I.len⟩ ⟨c, hs, .inr hc⟩
    · exact (hs.2 b (Nat.ne_of_lt (Nat.lt_of_lt_of_le (Heap.lt_size e) (I.ok.cab x c hfn hc)))).trans (I.base.keep b o e n hb hx)
    · obtain ⟨sl, e1⟩ := I.base.slot b o e n hb hx
      exact ⟨sl, (hs.2 b (Nat.ne_of_lt (Nat.lt_of_lt_of_le (Heap.lt_size e) (I.ok.cab x c hfn hc)))).trans e1⟩
    · obtain ⟨o', e1⟩ := I.base.there b o e hx
      exact ⟨o', (hs.2 b (Nat.ne_of_lt (Nat.lt_of_lt_of_le (Heap.lt_size e) (I.ok.cab x c hfn hc)))).trans e1⟩
    · by_cases hj : j = i
      · subst hj
        rw [hi] at e1; cases e1
        rw [List.getElem?_set_self hiσ] at e2
        cases e2
        exact ⟨u, r, .inr ⟨.inl hk, c, hc, hc'⟩⟩
      · rw [List.getElem?_set_ne (Ne.symm hj)] at e2
        obtain ⟨u', r', q⟩ := hl j y v' e1 e2 e3
        refine ⟨u', r', ?_⟩
        rcases q with q | ⟨k, c', e, z'⟩
        · exact .inl q
        · refine .inr ⟨k, c', e, z'.sameBut hs ?_⟩
          rintro rfl
          exact hj (nodup_ix hN e1 (I.ok.inj _ _ _ e hc ▸ hi))
    · by_cases hcc : c' = c
      · subst hcc; exact ⟨_, hc'⟩
      · obtain ⟨w2, z2⟩ := I.cell y c' e
        exact ⟨w2, z2.sameBut hs hcc⟩
    · obtain ⟨e, n, ne, nf, d⟩ := I.pin p hp
      refine ⟨(hs.2 p.1 ?_).trans e, n, ne, nf, d⟩
      intro q
      rw [q, hoc] at e
      have q' : oc = p.2 := Option.some.inj e
      exact d w' (by rw [← q']; exact hocd)
theorem store_ok {M : Model} {A : Around} {E : Value → Shared → Prop} {i : Nat} {x : Str} {v : V} {u : Value} {Q : Unit → Shared → Prop} (I : Inv X pins σ H s) (hN : X.N.Nodup) (hi : X.N[i]? = some x) (hx : Loc X.env.scope x) (r : RelV v u)
    (h : ∀ s', Inv X pins (σ.set i (some v)) H s' → Q () s') (hf : X.fn x = true ∨ X.env.scope.names.lookup x = some .local := by first | exact .inl rfl | exact .inr rfl | assumption) : wpAny M A (storeName X.env x u) Q E s :=
  store_ok2 I hN hi hx r (fun s' I' _ => h s' I') hf
/-- behind a call or a block, the state as it is -/
theorem Inv.call' {s' : Shared} {ch : List Addr} (I : Inv X pins σ H s) (ho : s'.os = s.os) (u : Un (frs X.stack) ch H H' s.heap s'.heap) (hok : HOk X.prog X.w H' s'.heap) (hg : AllBare s'.gens)
    (hch : ∀ b ∈ ch, (b ∈ X.ex ∨ X.s₀.heap.objs.size ≤ b) ∧ b ≠ X.env.locals ∧ (∀ x c, X.env.cells.lookup x = some c → c ≠ b) ∧ ∀ p ∈ X.pn ++ pins, p.1 ≠ b) : Inv X pins σ H' s' := by
  obtain ⟨h', g', d', t', o'⟩ := s'
  have e : o' = s.os := ho
  subst e
  exact I.call (g' := g') (t' := t') (d' := d') u hok hg hch
end

/-! ### the judgements -/
/-- an exception: its class, its own dict's address (where it has one), the abstract heap behind it -/
abbrev XK := Value → Option Addr → Hp → Prop
abbrev St := List (Option V)
abbrev VK := V → Hp → Prop
/-- an expression's reading; a test's; an argument list's -/
abbrev TE := St → Hp → VK → Prop
abbrev TT := St → Hp → (Bool → Hp → Prop) → Prop
abbrev TA := St → Hp → (List V → Hp → Prop) → Prop
/-- what is wanted behind a statement -/
structure Ends where
  nx : St → Hp → Prop
  rt : VK
  bk : St → Hp → Prop := fun _ _ => False
  ct : St → Hp → Prop := fun _ _ => False
abbrev TS := Ends → St → Hp → Prop

def EP (X : Cx) (pins : List (Addr × Obj)) (σ : St) (Q : VK) (u : Value) (s' : Shared) : Prop := ∃ v H', Inv X pins σ H' s' ∧ RelV v u ∧ Q v H'
def TP (X : Cx) (pins : List (Addr × Obj)) (σ : St) (Q : Bool → Hp → Prop) (b : Bool) (s' : Shared) : Prop := ∃ H', Inv X pins σ H' s' ∧ Q b H'
def AP (X : Cx) (pins : List (Addr × Obj)) (σ : St) (Q : List V → Hp → Prop) (us : List Value) (s' : Shared) : Prop := ∃ vs H', Inv X pins σ H' s' ∧ Vals vs us ∧ Q vs H'
def SP (X : Cx) (pins : List (Addr × Obj)) (D : Ends) (f : Flow) (s' : Shared) : Prop :=
  match f with
  | .next => ∃ σ' H', Inv X pins σ' H' s' ∧ D.nx σ' H'
  | .brk => ∃ σ' H', Inv X pins σ' H' s' ∧ D.bk σ' H'
  | .cont => ∃ σ' H', Inv X pins σ' H' s' ∧ D.ct σ' H'
  | .ret u => ∃ v σ' H', Inv X pins σ' H' s' ∧ RelV v u ∧ D.rt v H'

def PE (X : Cx) (e : Expr) (t : TE) : Prop :=
  ∀ (pins : List (Addr × Obj)) (s : Shared) (σ : St) (H : Hp) (Q : VK), Inv X pins σ H s → t σ H Q → wpAny (model X.prog X.w) X.A (eval e X.env) (EP X pins σ Q) X.xe s
def PT (X : Cx) (e : Expr) (t : TT) : Prop :=
  ∀ (pins : List (Addr × Obj)) (s : Shared) (σ : St) (H : Hp) (Q : Bool → Hp → Prop), Inv X pins σ H s → t σ H Q → wpAny (model X.prog X.w) X.A (isTrue e X.env (eval e X.env)) (TP X pins σ Q) X.xe s
/-- a test whatever its 'whole' is (and, or) -/
def PW (X : Cx) (e : Expr) (t : TT) : Prop :=
  ∀ (whole : Sem Value) (pins : List (Addr × Obj)) (s : Shared) (σ : St) (H : Hp) (Q : Bool → Hp → Prop), Inv X pins σ H s → t σ H Q → wpAny (model X.prog X.w) X.A (isTrue e X.env whole) (TP X pins σ Q) X.xe s
theorem PW.pt {X : Cx} {e : Expr} {t : TT} (h : PW X e t) : PT X e t := h _
/-- an argument list (no star), from the left -/
def PA (X : Cx) (es : List Expr) (t : TA) : Prop :=
  ∀ (pos : Pos) (pins : List (Addr × Obj)) (s : Shared) (σ : St) (H : Hp) (Q : List V → Hp → Prop), Inv X pins σ H s → t σ H Q → wpAny (model X.prog X.w) X.A (spliced (backTo pos (starEach es X.env))) (AP X pins σ Q) X.xe s
def PS (X : Cx) (st : Stmt) (t : TS) : Prop :=
  ∀ (pins : List (Addr × Obj)) (s : Shared) (σ : St) (H : Hp) (D : Ends), Inv X pins σ H s → t D σ H → wpAny (model X.prog X.w) X.A (exec st X.env) (SP X pins D) X.xe s
def PSs (X : Cx) (st : List Stmt) (t : TS) : Prop :=
  ∀ (pins : List (Addr × Obj)) (s : Shared) (σ : St) (H : Hp) (D : Ends), Inv X pins σ H s → t D σ H → wpAny (model X.prog X.w) X.A (execs st X.env) (SP X pins D) X.xe s
/-- weaken the end -/
theorem thn {α : Type} {t : Sem α} {Q Q' : α → Shared → Prop} {M : Model} {A : Around} {E : Value → Shared → Prop} {s : Shared} (h : wpAny M A t Q E s) (hQ : ∀ a s, Q a s → Q' a s) : wpAny M A t Q' E s := wpAny_mono h hQ fun _ _ x => x
end L2

namespace L2
open PySem PySem.Spec PyProof.Rows
section
variable {X : Cx}

/-- two expressions in a row -/
theorem bin {a b : Expr} {ta tb : TE} (ha : PE X a ta) (hb : PE X b tb) {pins : List (Addr × Obj)} {s : Shared} {σ : St} {H : Hp} {R : V → V → Hp → Prop} (I : Inv X pins σ H s) (h : ta σ H fun x H1 => tb σ H1 fun y H2 => R x y H2)
    {α : Type} {Q : α → Shared → Prop} {f : Value → Value → Sem α}
    (hf : ∀ v u s2 x y H2, Inv X pins σ H2 s2 → RelV x v → RelV y u → R x y H2 → wpAny (model X.prog X.w) X.A (f v u) Q X.xe s2) :
    wpAny (model X.prog X.w) X.A (eval a X.env) (fun v s₁ => wpAny (model X.prog X.w) X.A (eval b X.env) (fun u s₂ => wpAny (model X.prog X.w) X.A (f v u) Q X.xe s₂) X.xe s₁) X.xe s := by
  refine thn (ha pins s σ H _ I h) fun v s1 ⟨x, H1, I1, r1, q1⟩ => ?_
  refine thn (hb pins s1 σ H1 _ I1 q1) fun u s2 ⟨y, H2, I2, r2, q2⟩ => ?_
  exact hf v u s2 x y H2 I2 r1 r2 q2

/-! ### names and constants -/
def tVar (i : Nat) : TE := fun σ H Q => ∃ v, σ[i]? = some (some v) ∧ Q v H
def tC (v : V) : TE := fun _ H Q => Q v H
theorem pe_var {i : Nat} {x : Str} {pos : Pos} (hN : X.N[i]? = some x) (hv : Vis X.env.scope x) (hd : (x == ("__debug__" : Str)) = false := by decide) (hcd : (x == ("__classdict__" : Str)) = false := by decide) : PE X (.Name x pos) (tVar i) := by
  intro pins s σ H Q I h
  obtain ⟨v, e, h⟩ := h
  obtain ⟨m, hn, hl⟩ := I.loc
  obtain ⟨u, r, l⟩ := hl i x v hN e hv
  have fin : EP X pins σ Q u s := ⟨v, H, I, r, h⟩
  rcases l with ⟨hk, hm⟩ | ⟨hk, c, hc, hcell⟩
  · exact wpAny_Name (wpAny_loadName_local I.ok.kind hk hn hm fin) hd
  · rcases hk with hk | hk
    · exact wpAny_Name (wpAny_loadName_cell I.ok.kind hk hc hcell fin) hd
    · exact wpAny_Name (wpAny_loadName_free I.ok.kind hk hc hcell fin hcd) hd
theorem pe_int {i j pos} : PE X (.Constant (.int i) j pos) (tC (.int i)) := fun _ _ _ H _ I h => wpAny_Constant_int ⟨.int i, H, I.tok _, ⟨_, rfl⟩, h⟩
theorem pe_bl {b j pos} : PE X (.Constant (.bool b) j pos) (tC (.bl b)) := fun _ _ _ H _ I h => Constant_bool ⟨.bl b, H, I, rfl, h⟩
theorem pe_non {j pos} : PE X (.Constant .none j pos) (tC .non) := fun _ _ _ H _ I h => Constant_none ⟨.non, H, I, rfl, h⟩
theorem pe_str {x j pos} : PE X (.Constant (.str x) j pos) (tC (.str x)) := fun _ _ _ H _ I h => Calls.Constant_str ⟨.str x, H, I.tok _, ⟨_, rfl⟩, h⟩

/-- a global name of the def -/
def Gl (X : Cx) (x : Str) : Prop := X.env.kindOf x = some .globalImplicit
theorem ld_glob {E : Value → Shared → Prop} {pins : List (Addr × Obj)} {s : Shared} {σ : St} {H : Hp} {x : Str} {u : Value} {pos : Pos} {Q : Value → Shared → Prop} (I : Inv X pins σ H s) (hg : Gl X x) (hm : X.mg x = some u) (h : Q u s)
    (hd : (x == ("__debug__" : Str)) = false := by decide) : wpAny (model X.prog X.w) X.A (eval (.Name x pos) X.env) Q E s :=
  Calls.Name_function_global I.ok.kind hg (Calls.loadGlobal_global (by rw [I.ok.glob]; exact I.mod.glob.keeps I.bk) hm h) hd
theorem ld_blt {E : Value → Shared → Prop} {pins : List (Addr × Obj)} {s : Shared} {σ : St} {H : Hp} {x : Str} {u : Value} {pos : Pos} {Q : Value → Shared → Prop} (I : Inv X pins σ H s) (hg : Gl X x) (hm : X.mg x = none) (hv : bootBuiltins x = some u) (h : Q u s)
    (hn : x ≠ "__name__" := by decide) (hd : (x == ("__debug__" : Str)) = false := by decide) : wpAny (model X.prog X.w) X.A (eval (.Name x pos) X.env) Q E s := by
  obtain ⟨mb, h1, h2⟩ := I.mod.blt
  exact Calls.Name_function_global I.ok.kind hg (Calls.loadGlobal_builtin (by rw [I.ok.glob]; exact I.mod.glob.keeps I.bk) hm (by rw [I.ok.blt]; exact h1.keeps I.bk) ((h2 x hn).trans hv) h) hd
/-- a module's constant, a class, a function, as a value -/
theorem pe_glob {x : Str} {v : V} {u : Value} {pos : Pos} (hg : Gl X x) (hm : X.mg x = some u) (r : RelV v u) (hd : (x == ("__debug__" : Str)) = false := by decide) : PE X (.Name x pos) (tC v) :=
  fun _ _ _ H _ I h => ld_glob I hg hm ⟨v, H, I, r, h⟩ hd
theorem pe_bltn {x : Str} {v : V} {u : Value} {pos : Pos} (hg : Gl X x) (hm : X.mg x = none) (hv : bootBuiltins x = some u) (r : RelV v u) (hn : x ≠ "__name__" := by decide) (hd : (x == ("__debug__" : Str)) = false := by decide) : PE X (.Name x pos) (tC v) :=
  fun _ _ _ H _ I h => ld_blt I hg hm hv ⟨v, H, I, r, h⟩ hn hd

/-! ### arithmetic -/
/-- two ints -/
def t2I (ta tb : TE) (k : Int → Int → Hp → Prop) : St → Hp → Prop := fun σ H => ta σ H fun x H1 => tb σ H1 fun y H2 => ∃ i j, x = .int i ∧ y = .int j ∧ k i j H2
def tAdd (ta tb : TE) : TE := fun σ H Q => t2I ta tb (fun i j H2 => Q (.int (i + j)) H2) σ H
def tSub (ta tb : TE) : TE := fun σ H Q => t2I ta tb (fun i j H2 => Q (.int (i - j)) H2) σ H
/-- the left factor below 2^64 -/
def tMul (ta tb : TE) : TE := fun σ H Q => t2I ta tb (fun i j H2 => (-(2 ^ 64) < i ∧ i < 2 ^ 64) ∧ Q (.int (i * j)) H2) σ H
variable {a b : Expr} {ta tb : TE} {pos : Pos}
theorem pe_add (ha : PE X a ta) (hb : PE X b tb) : PE X (.BinOp a .Add b pos) (tAdd ta tb) := by
  intro pins s σ H Q I h
  refine wpAny_BinOp (bin ha hb I h fun v u s2 x y H2 I2 rx ry q => ?_)
  obtain ⟨i, j, rfl, rfl, q⟩ := q
  obtain ⟨t, rfl⟩ := rx
  obtain ⟨t', rfl⟩ := ry
  exact add_int ⟨.int _, H2, I2.tok _, ⟨_, rfl⟩, q⟩
theorem pe_sub (ha : PE X a ta) (hb : PE X b tb) : PE X (.BinOp a .Sub b pos) (tSub ta tb) := by
  intro pins s σ H Q I h
  refine wpAny_BinOp (bin ha hb I h fun v u s2 x y H2 I2 rx ry q => ?_)
  obtain ⟨i, j, rfl, rfl, q⟩ := q
  obtain ⟨t, rfl⟩ := rx
  obtain ⟨t', rfl⟩ := ry
  exact sub_int ⟨.int _, H2, I2.tok _, ⟨_, rfl⟩, q⟩
theorem pe_mul (ha : PE X a ta) (hb : PE X b tb) : PE X (.BinOp a .Mult b pos) (tMul ta tb) := by
  intro pins s σ H Q I h
  refine wpAny_BinOp (bin ha hb I h fun v u s2 x y H2 I2 rx ry q => ?_)
  obtain ⟨i, j, rfl, rfl, ⟨q1, q2⟩, q⟩ := q
  obtain ⟨t, rfl⟩ := rx
  obtain ⟨t', rfl⟩ := ry
  exact mul_int ⟨.int _, H2, I2.tok _, ⟨_, rfl⟩, q⟩ (.of_left (intBits_le_64 q1 q2))

/-! ### comparisons -/
def PC (X : Cx) (op : CmpOp) (a b : Expr) (t : TE) : Prop :=
  ∀ (pins : List (Addr × Obj)) (s : Shared) (σ : St) (H : Hp) (Q : VK), Inv X pins σ H s → t σ H Q →
    wpAny (model X.prog X.w) X.A (eval a X.env) (fun v s₁ => wpAny (model X.prog X.w) X.A (eval b X.env) (fun u s₂ => wpAny (model X.prog X.w) X.A (compareOp op v u) (EP X pins σ Q) X.xe s₂) X.xe s₁) X.xe s
theorem nobehind (b : Expr) {op : CmpOp} (h : op ≠ .In) (h2 : op ≠ .NotIn) : behindInMarks op b = false := by
  have e1 : (op == CmpOp.In) = false := by cases op <;> first | rfl | exact absurd rfl h
  have e2 : (op == CmpOp.NotIn) = false := by cases op <;> first | rfl | exact absurd rfl h2
  cases b <;> simp [behindInMarks, e1, e2]
def tCmp (p : Int → Int → Bool) (ta tb : TE) : TE := fun σ H Q => t2I ta tb (fun i j H2 => Q (.bl (p i j)) H2) σ H
abbrev tLt : TE → TE → TE := tCmp fun i j => decide (i < j)
abbrev tLe : TE → TE → TE := tCmp fun i j => decide (i ≤ j)
abbrev tGt : TE → TE → TE := tCmp fun i j => decide (j < i)
abbrev tGe : TE → TE → TE := tCmp fun i j => decide (j ≤ i)
abbrev tEqI : TE → TE → TE := tCmp fun i j => decide (i = j)
abbrev tNeI : TE → TE → TE := tCmp fun i j => !decide (i = j)
/-- a comparison of two ints, by its rule -/
theorem pc_int {op : CmpOp} {p : Int → Int → Bool} (ha : PE X a ta) (hb : PE X b tb)
    (rule : ∀ (i j : Int) (t u : Tok) (Q : Value → Shared → Prop) (s : Shared), Q (.bool (p i j)) s → wpAny (model X.prog X.w) X.A (compareOp op (.int i t) (.int j u)) Q X.xe s) : PC X op a b (tCmp p ta tb) := by
  intro pins s σ H Q I h
  refine bin ha hb I h fun v u s2 x y H2 I2 rx ry q => ?_
  obtain ⟨i, j, rfl, rfl, q⟩ := q
  obtain ⟨t, rfl⟩ := rx
  obtain ⟨t', rfl⟩ := ry
  exact rule i j t t' _ s2 ⟨.bl _, H2, I2, rfl, q⟩
theorem pc_lt (ha : PE X a ta) (hb : PE X b tb) : PC X .Lt a b (tLt ta tb) := pc_int ha hb fun _ _ _ _ _ _ h => lt_int h
theorem pc_le (ha : PE X a ta) (hb : PE X b tb) : PC X .LtE a b (tLe ta tb) := pc_int ha hb fun _ _ _ _ _ _ h => le_int h
theorem pc_gt (ha : PE X a ta) (hb : PE X b tb) : PC X .Gt a b (tGt ta tb) := pc_int ha hb fun _ _ _ _ _ _ h => gt_int h
theorem pc_ge (ha : PE X a ta) (hb : PE X b tb) : PC X .GtE a b (tGe ta tb) := pc_int ha hb fun _ _ _ _ _ _ h => ge_int h
theorem pc_eqI (ha : PE X a ta) (hb : PE X b tb) : PC X .Eq a b (tEqI ta tb) := pc_int ha hb fun _ _ _ _ _ _ h => eq_int (by rw [Bool.beq_eq_decide_eq]; exact h)
theorem pc_neI (ha : PE X a ta) (hb : PE X b tb) : PC X .NotEq a b (tNeI ta tb) := pc_int ha hb fun _ _ _ _ _ _ h => ne_int (by rw [bne, Bool.beq_eq_decide_eq]; exact h)
/-- is None -/
def tIsN (ta : TE) : TE := fun σ H Q => ta σ H fun x H1 => Q (.bl (decide (x = .non))) H1
def tNotN (ta : TE) : TE := fun σ H Q => ta σ H fun x H1 => Q (.bl (!decide (x = .non))) H1
theorem RelV.none_iff {x : V} {v : Value} (r : RelV x v) : (v == Value.none) = decide (x = .non) := by
  cases x with
  | non => cases r; rfl
  | bl _ => cases r; rfl
  | int _ => obtain ⟨t, rfl⟩ := r; rfl
  | str _ => obtain ⟨t, rfl⟩ := r; rfl
  | byt _ => obtain ⟨t, rfl⟩ := r; rfl
  | flt _ => obtain ⟨t, rfl⟩ := r; rfl
  | ref _ => cases r; rfl
  | ty _ => cases r; rfl
theorem pc_isN {j pos'} (ha : PE X a ta) : PC X .Is a (.Constant .none j pos') (tIsN ta) := by
  intro pins s σ H Q I h
  refine thn (ha pins s σ H _ I h) fun v s1 ⟨x, H1, I1, r1, q1⟩ => ?_
  exact Constant_none (is_none_gen ⟨.bl _, H1, I1, by rw [r1.none_iff]; rfl, q1⟩)
theorem pc_notN {j pos'} (ha : PE X a ta) : PC X .IsNot a (.Constant .none j pos') (tNotN ta) := by
  intro pins s σ H Q I h
  refine thn (ha pins s σ H _ I h) fun v s1 ⟨x, H1, I1, r1, q1⟩ => ?_
  exact Constant_none (isnot_none_gen ⟨.bl _, H1, I1, by rw [r1.none_iff]; rfl, q1⟩)
/-- a comparison as a value, as a test -/
def tB (t : TE) : TT := fun σ H Q => t σ H fun x H1 => ∃ c, x = .bl c ∧ Q c H1
theorem pe_cmp {op : CmpOp} {t : TE} (h : PC X op a b t) (h1 : behindInMarks op b = false := by first | exact nobehind _ (by decide) (by decide) | rfl) : PE X (.Compare a [op] [b] pos) t := fun pins s σ H Q I hw => wpAny_Compare1 (h pins s σ H Q I hw) h1
theorem pt_cmp {op : CmpOp} {t : TE} (h : PC X op a b t) (h1 : behindInMarks op b = false := by first | exact nobehind _ (by decide) (by decide) | rfl) : PT X (.Compare a [op] [b] pos) (tB t) := by
  intro pins s σ H Q I hw
  refine wpAny_isTrue_Compare1 (thn (h pins s σ H _ I hw) fun v s1 h1 => thn h1 fun u s2 h2 => thn h2 fun c s3 ⟨x, H1, I1, r1, q1⟩ => ?_) h1
  obtain ⟨d, rfl, q⟩ := q1
  cases r1
  exact wpAny_truthy_bool ⟨H1, I1, q⟩
/-- an expression whose value is a bool, as a test -/
theorem pt_val {e : Expr} {t : TE} (h : PE X e t) (he : ∀ whole, isTrue e X.env whole = (do let v ← whole; standAt e.pos; holding [v] (truthy v)) := by intro _; rfl) : PT X e (tB t) := by
  intro pins s σ H Q I hw
  refine isTrue_plain (thn (h pins s σ H _ I hw) fun v s1 ⟨x, H1, I1, r1, q1⟩ => ?_) (he _)
  obtain ⟨d, rfl, q⟩ := q1
  cases r1
  exact wpAny_truthy_bool ⟨H1, I1, q⟩

/-! ### and, or, not -/
variable {tA tB' : TT} {rest : List Expr}
def tAnd (t u : TT) : TT := fun σ H Q => t σ H fun c H1 => if c = true then u σ H1 Q else Q false H1
def tOr (t u : TT) : TT := fun σ H Q => t σ H fun c H1 => if c = true then Q true H1 else u σ H1 Q
def tNot (t : TT) : TT := fun σ H Q => t σ H fun c H1 => Q (!c) H1
theorem pw_and1 (ha : PT X a tA) : PW X (.BoolOp .And [a] pos) tA := by
  intro wh pins s σ H Q I h
  refine isTrue_and (thn (ha pins s σ H Q I h) fun c s1 e => ?_)
  cases c with
  | true => exact isTrue_and_nil e
  | false => exact e
theorem pw_or1 (ha : PT X a tA) : PW X (.BoolOp .Or [a] pos) tA := by
  intro wh pins s σ H Q I h
  refine isTrue_or (thn (ha pins s σ H Q I h) fun c s1 e => ?_)
  cases c with
  | false => exact isTrue_or_nil e
  | true => exact e
theorem pw_and (ha : PT X a tA) (hb : PW X (.BoolOp .And (b :: rest) pos) tB') : PW X (.BoolOp .And (a :: b :: rest) pos) (tAnd tA tB') := by
  intro wh pins s σ H Q I h
  refine isTrue_and (thn (ha pins s σ H _ I h) fun c s1 ⟨H1, I1, q1⟩ => ?_)
  cases c with
  | true => exact hb wh pins s1 σ H1 Q I1 q1
  | false => exact ⟨H1, I1, q1⟩
theorem pw_or (ha : PT X a tA) (hb : PW X (.BoolOp .Or (b :: rest) pos) tB') : PW X (.BoolOp .Or (a :: b :: rest) pos) (tOr tA tB') := by
  intro wh pins s σ H Q I h
  refine isTrue_or (thn (ha pins s σ H _ I h) fun c s1 ⟨H1, I1, q1⟩ => ?_)
  cases c with
  | true => exact ⟨H1, I1, q1⟩
  | false => exact hb wh pins s1 σ H1 Q I1 q1
theorem pt_not (ha : PT X a tA) : PT X (.UnaryOp .Not a pos) (tNot tA) := by
  intro pins s σ H Q I h
  exact isTrue_not (ha pins s σ H (fun c H1 => Q (!c) H1) I h)
/-- .. as values (bools) -/
def tAndV (ta tb : TE) : TE := fun σ H Q => ta σ H fun x H1 => ∃ c, x = .bl c ∧ if c = true then tb σ H1 Q else Q (.bl false) H1
def tOrV (ta tb : TE) : TE := fun σ H Q => ta σ H fun x H1 => ∃ c, x = .bl c ∧ if c = true then Q (.bl true) H1 else tb σ H1 Q
def tNotV (ta : TE) : TE := fun σ H Q => ta σ H fun x H1 => ∃ c, x = .bl c ∧ Q (.bl (!c)) H1
theorem pe_one {op} {t : TE} (h : PE X a t) : PE X (.BoolOp op [a] pos) t := fun pins s σ H Q I hw => BoolOp_one (h pins s σ H Q I hw)
theorem pe_and (ha : PE X a ta) (hb : PE X (.BoolOp .And (b :: rest) pos) tb) : PE X (.BoolOp .And (a :: b :: rest) pos) (tAndV ta tb) := by
  intro pins s σ H Q I h
  refine BoolOp_and (thn (ha pins s σ H _ I h) fun v s1 ⟨x, H1, I1, r1, q1⟩ => ?_)
  obtain ⟨c, rfl, q1⟩ := q1
  cases r1
  refine wpAny_truthy_bool ?_
  cases c with
  | true => exact hb pins s1 σ H1 Q I1 q1
  | false => exact ⟨.bl false, H1, I1, rfl, q1⟩
theorem pe_or (ha : PE X a ta) (hb : PE X (.BoolOp .Or (b :: rest) pos) tb) : PE X (.BoolOp .Or (a :: b :: rest) pos) (tOrV ta tb) := by
  intro pins s σ H Q I h
  refine BoolOp_or (thn (ha pins s σ H _ I h) fun v s1 ⟨x, H1, I1, r1, q1⟩ => ?_)
  obtain ⟨c, rfl, q1⟩ := q1
  cases r1
  refine wpAny_truthy_bool ?_
  cases c with
  | false => exact hb pins s1 σ H1 Q I1 q1
  | true => exact ⟨.bl true, H1, I1, rfl, q1⟩
theorem pe_not (ha : PE X a ta) : PE X (.UnaryOp .Not a pos) (tNotV ta) := by
  intro pins s σ H Q I h
  refine UnaryOp_ (thn (ha pins s σ H _ I h) fun v s1 ⟨x, H1, I1, r1, q1⟩ => ?_)
  obtain ⟨c, rfl, q1⟩ := q1
  cases r1
  exact not_of (wpAny_truthy_bool ⟨.bl (!c), H1, I1, rfl, q1⟩)
/-- a if t else b -/
def tIf (t : TT) (ta tb : TE) : TE := fun σ H Q => t σ H fun c H1 => if c = true then ta σ H1 Q else tb σ H1 Q
theorem pe_ifExp {c : Expr} (hc : PT X c tA) (ha : PE X a ta) (hb : PE X b tb) : PE X (.IfExp c a b pos) (tIf tA ta tb) := by
  intro pins s σ H Q I h
  refine wpAny_IfExp (thn (hc pins s σ H _ I h) fun d s1 ⟨H1, I1, q1⟩ => ?_)
  cases d with
  | true => exact ha pins s1 σ H1 Q I1 q1
  | false => exact hb pins s1 σ H1 Q I1 q1
end
end L2

namespace L2
open PySem PySem.Spec PyProof.Rows

/-! ### a list, a tuple that is read: tracked, frozen, or an object of the module -/
def SqL (K : PySem.W.Frag) (H : Hp) (a : Addr) (xs : List V) : Prop :=
  Rd H a (.lst xs) ∨
    ∃ (o : Obj) (its : Array Value) (n : Nat), K.lookup a = some o ∧ o.cls = .type "list" ∧ o.dict = none ∧ o.data = .seq its n ∧ its.size ≤ sizeLine ∧ Vals xs its.toList
def SqT (K : PySem.W.Frag) (H : Hp) (a : Addr) (xs : List V) : Prop :=
  Rd H a (.tup xs) ∨
    ∃ (o : Obj) (its : Array Value) (n : Nat), K.lookup a = some o ∧ o.cls = .type "tuple" ∧ o.data = .seq its n ∧ its.size ≤ sizeLine ∧ Vals xs its.toList
def absV : Value → Option V
  | .none => some .non
  | .bool b => some (.bl b)
  | .int i _ => some (.int i)
  | .str x _ => some (.str x)
  | .bytes b _ => some (.byt b)
  | .float b _ => some (.flt b)
  | .ref a => some (.ref a)
  | .type n => some (.ty n)
  | _ => none
theorem RelV.abs {x : V} {u : Value} (r : RelV x u) : absV u = some x := by
  cases x with
  | non => cases r; rfl
  | bl _ => cases r; rfl
  | int _ => obtain ⟨t, rfl⟩ := r; rfl
  | str _ => obtain ⟨t, rfl⟩ := r; rfl
  | byt _ => obtain ⟨t, rfl⟩ := r; rfl
  | flt _ => obtain ⟨t, rfl⟩ := r; rfl
  | ref _ => cases r; rfl
  | ty _ => cases r; rfl
theorem RelV.inj {x y : V} {u : Value} (r : RelV x u) (q : RelV y u) : x = y := Option.some.inj (r.abs.symm.trans q.abs)
theorem Vals.inj : ∀ {xs ys : List V} {us : List Value}, Vals xs us → Vals ys us → xs = ys
  | _, _, _, .nil, .nil => rfl
  | _, _, _, .cons r t, .cons r' t' => by rw [r.inj r', Vals.inj t t']
section
variable {X : Cx} {pins : List (Addr × Obj)} {σ : St} {H : Hp} {s : Shared} {a : Addr} {xs ys : List V}
theorem SqL.of {K : PySem.W.Frag} (h : H a = some (.lst xs)) : SqL K H a xs := .inl (.inl h)
theorem SqT.of {K : PySem.W.Frag} (h : H a = some (.tup xs)) : SqT K H a xs := .inl (.inl h)
theorem Inv.list (I : Inv X pins σ H s) (h : SqL X.K H a xs) : ∃ its : List Value, Vals xs its ∧ PlainL s.heap a its.toArray ∧ xs.length ≤ sizeLine := by
  rcases h with h | ⟨o, its, n, hk, hc, hd, hs, hz, r⟩
  · obtain ⟨z, its, n, r, e⟩ := h.ok I.hok
    exact ⟨its, r, ⟨_, n, e, rfl, rfl, rfl⟩, z⟩
  · refine ⟨its.toList, r, ⟨o, n, I.kIn a o hk, hc, hd, by simpa using hs⟩, ?_⟩
    have e := r.length
    simp only [Array.length_toList] at e
    omega
theorem Inv.tuple (I : Inv X pins σ H s) (h : SqT X.K H a xs) : ∃ its : List Value, Vals xs its ∧ IsTup s.heap a its.toArray ∧ xs.length ≤ sizeLine := by
  rcases h with h | ⟨o, its, n, hk, hc, hs, hz, r⟩
  · obtain ⟨z, its, r, p⟩ := h.ok I.hok
    exact ⟨its, r, p, z⟩
  · refine ⟨its.toList, r, ⟨o, I.kIn a o hk, hc, n, by simpa using hs⟩, ?_⟩
    have e := r.length
    simp only [Array.length_toList] at e
    omega
theorem Inv.list_inj (I : Inv X pins σ H s) (h : SqL X.K H a xs) (h' : SqL X.K H a ys) : xs = ys := by
  obtain ⟨its, r, ⟨o, n, e, _, _, d⟩, _⟩ := I.list h
  obtain ⟨its', r', ⟨o', n', e', _, _, d'⟩, _⟩ := I.list h'
  rw [e] at e'; cases e'
  rw [d] at d'
  injection d' with d1 _
  have : its = its' := by simpa using congrArg Array.toList d1
  subst this
  exact r.inj r'
theorem Inv.tuple_inj (I : Inv X pins σ H s) (h : SqT X.K H a xs) (h' : SqT X.K H a ys) : xs = ys := by
  obtain ⟨its, r, ⟨o, e, _, n, d⟩, _⟩ := I.tuple h
  obtain ⟨its', r', ⟨o', e', _, n', d'⟩, _⟩ := I.tuple h'
  rw [e] at e'; cases e'
  rw [d] at d'
  injection d' with d1 _
  have : its = its' := by simpa using congrArg Array.toList d1
  subst this
  exact r.inj r'
end

/-! ### another wish about exceptions -/
abbrev Cx.wish (X : Cx) (E : Value → Shared → Prop) : Cx := { X with xe := E }
/-- no exception leaves -/
abbrev Cx.nox (X : Cx) : Cx := X.wish fun _ _ => False
theorem Cx.Ok.wish {X : Cx} (ok : X.Ok) (E : Value → Shared → Prop) : (X.wish E).Ok :=
  ⟨ok.mod, ok.kind, ok.glob, ok.blt, ok.above, ok.inj, ok.has, ok.cab, ok.hd, ok.frames, ok.stk, ok.exf, ok.bs, ok.bsz, ok.noex, ok.exfs, ok.funs, ok.frf⟩
theorem Cx.Ok.unwish {X : Cx} {E : Value → Shared → Prop} (ok : (X.wish E).Ok) : X.Ok :=
  ⟨ok.mod, ok.kind, ok.glob, ok.blt, ok.above, ok.inj, ok.has, ok.cab, ok.hd, ok.frames, ok.stk, ok.exf, ok.bs, ok.bsz, ok.noex, ok.exfs, ok.funs, ok.frf⟩
section
variable {X : Cx} {pins : List (Addr × Obj)} {σ : St} {H : Hp} {s : Shared} {E : Value → Shared → Prop}
theorem Inv.wish (I : Inv X pins σ H s) (E : Value → Shared → Prop) : Inv (X.wish E) pins σ H s := ⟨I.ok.wish E, I.os, I.bare, I.base, I.loc, I.cell, I.free, I.freeC, I.pin, I.hok, I.len⟩
theorem Inv.unwish (I : Inv (X.wish E) pins σ H s) : Inv X pins σ H s := ⟨I.ok.unwish, I.os, I.bare, I.base, I.loc, I.cell, I.free, I.freeC, I.pin, I.hok, I.len⟩
theorem SP.unwish {D : Ends} {f : Flow} {s' : Shared} (h : SP (X.wish E) pins D f s') : SP X pins D f s' := by
  cases f with
  | next => obtain ⟨σ', H', I, q⟩ := h; exact ⟨σ', H', I.unwish, q⟩
  | brk => obtain ⟨σ', H', I, q⟩ := h; exact ⟨σ', H', I.unwish, q⟩
  | cont => obtain ⟨σ', H', I, q⟩ := h; exact ⟨σ', H', I.unwish, q⟩
  | ret u => obtain ⟨v, σ', H', I, r, q⟩ := h; exact ⟨v, σ', H', I.unwish, r, q⟩
theorem PE.nox {e : Expr} {t : TE} (h : PE X.nox e t) : PE X e t := fun pins s σ H Q I hw =>
  wpAny_mono (h pins s σ H Q (I.wish _) hw) (fun _ _ ⟨v, H', I', r, q⟩ => ⟨v, H', I'.unwish, r, q⟩) fun _ _ z => False.elim z
theorem PT.nox {e : Expr} {t : TT} (h : PT X.nox e t) : PT X e t := fun pins s σ H Q I hw =>
  wpAny_mono (h pins s σ H Q (I.wish _) hw) (fun _ _ ⟨H', I', q⟩ => ⟨H', I'.unwish, q⟩) fun _ _ z => False.elim z
theorem PSs.nox {st : List Stmt} {t : TS} (h : PSs X.nox st t) : PSs X st t := fun pins s σ H D I hw =>
  wpAny_mono (h pins s σ H D (I.wish _) hw) (fun _ _ q => q.unwish) fun _ _ z => False.elim z
end

/-! ### blocks and small statements -/
section
variable {X : Cx} {st : Stmt} {rest : List Stmt} {t u : TS} {e : Expr} {te : TE} {pos : Pos}
def tNext : TS := fun D σ H => D.nx σ H
def tSeq (t u : TS) : TS := fun D σ H => t { D with nx := u D } σ H
theorem pss_nil : PSs X [] tNext := fun _ _ σ H _ I h => wpAny_execs_nil ⟨σ, H, I, h⟩
theorem pss_cons (h1 : PS X st t) (h2 : PSs X rest u) : PSs X (st :: rest) (tSeq t u) := by
  intro pins s σ H D I h
  refine wpAny_execs_cons (thn (h1 pins s σ H { D with nx := u D } I h) fun f s1 q => ?_)
  cases f with
  | next =>
    obtain ⟨σ', H', I', q⟩ := q
    exact h2 pins s1 σ' H' D I' q
  | ret v => exact q
  | brk => exact q
  | cont => exact q
theorem pss_one (h1 : PS X st t) : PSs X [st] t := by
  intro pins s σ H D I h
  refine wpAny_execs_cons (thn (h1 pins s σ H D I h) fun f s1 q => ?_)
  cases f with
  | next => exact wpAny_execs_nil q
  | ret v => exact q
  | brk => exact q
  | cont => exact q
def tBreak : TS := fun D σ H => D.bk σ H
def tCont : TS := fun D σ H => D.ct σ H
theorem ps_pass : PS X (.Pass pos) tNext := fun _ _ σ H _ I h => wpAny_Pass ⟨σ, H, I, h⟩
theorem ps_break : PS X (.Break pos) tBreak := fun _ _ σ H _ I h => wpAny_Break ⟨σ, H, I, h⟩
theorem ps_continue : PS X (.Continue pos) tCont := fun _ _ σ H _ I h => wpAny_Continue ⟨σ, H, I, h⟩
/-- in a def's body nothing is shown -/
theorem Inv.quiet {pins : List (Addr × Obj)} {σ : St} {H : Hp} {s : Shared} (I : Inv X pins σ H s) : interactive X.env = false := by simp [interactive, I.ok.kind]
/-- a docstring -/
theorem ps_doc {x j pos pos'} : PS X (.Expr (.Constant (.str x) j pos) pos') tNext := fun _ s σ H _ I h => wpAny_Expr (Calls.Constant_str (show SP X _ _ .next { s with toks := s.toks + 1 } from ⟨σ, H, I.tok _, h⟩)) I.quiet
/-- an expression whose value is dropped -/
def tDrop (te : TE) : TS := fun D σ H => te σ H fun _ H1 => D.nx σ H1
theorem ps_expr (he : PE X e te) (hs : swapsWith e none pos.line X.env = pure false := by rfl) : PS X (.Expr e pos) (tDrop te) := by
  intro pins s σ H D I h
  exact wpAny_Expr_any (thn (he pins s σ H _ I h) fun v s1 ⟨x, H1, I1, r1, q1⟩ => ⟨σ, H1, I1, q1⟩) I.quiet hs
def tRet (te : TE) : TS := fun D σ H => te σ H D.rt
theorem ps_ret (he : PE X e te) : PS X (.Return (some e) pos) (tRet te) := by
  intro pins s σ H D I h
  exact wpAny_Return_some (thn (he pins s σ H _ I h) fun v s1 ⟨x, H1, I1, r1, q1⟩ => ⟨x, σ, H1, I1, r1, q1⟩)
def tRetN : TS := fun D _ H => D.rt .non H
theorem ps_retN : PS X (.Return none pos) tRetN := fun _ _ σ H _ I h => wpAny_Return_none ⟨.non, σ, H, I, rfl, h⟩
def tIfS (c : TT) (t u : TS) : TS := fun D σ H => c σ H fun b H1 => if b = true then t D σ H1 else u D σ H1
theorem ps_if {c : Expr} {a b : List Stmt} {tc : TT} (hc : PT X c tc) (ha : PSs X a t) (hb : PSs X b u) : PS X (.If c a b pos) (tIfS tc t u) := by
  intro pins s σ H D I h
  refine wpAny_If (thn (hc pins s σ H _ I h) fun d s1 ⟨H1, I1, q1⟩ => ?_)
  cases d with
  | true => exact ha pins s1 σ H1 D I1 q1
  | false => exact hb pins s1 σ H1 D I1 q1
/-- code that the proof never comes to -/
def tNever : TS := fun _ _ _ => False
theorem ps_never : PS X st tNever := fun _ _ _ _ _ _ h => h.elim
theorem pss_never {sts : List Stmt} : PSs X sts tNever := fun _ _ _ _ _ _ h => h.elim
end

/-! ### targets -/
abbrev TG := V → St → Hp → (St → Hp → Prop) → Prop
abbrev TGs := List V → St → Hp → (St → Hp → Prop) → Prop
def PG (X : Cx) (target : Expr) (t : TG) : Prop :=
  ∀ (pins : List (Addr × Obj)) (s : Shared) (σ : St) (H : Hp) (v : V) (u : Value) (Q : St → Hp → Prop), Inv X pins σ H s → RelV v u → t v σ H Q →
    wpAny (model X.prog X.w) X.A (assign target X.env u) (fun _ s' => ∃ σ' H', Inv X pins σ' H' s' ∧ Q σ' H') X.xe s
/-- several targets, one after another -/
def PGs (X : Cx) (ts : List Expr) (t : TGs) : Prop :=
  ∀ (pins : List (Addr × Obj)) (s : Shared) (σ : St) (H : Hp) (vs : List V) (us : List Value) (Q : St → Hp → Prop), Inv X pins σ H s → Vals vs us → t vs σ H Q →
    wpAny (model X.prog X.w) X.A (assignInOrder ((assignEach ts X.env).map (·.2)) us) (fun _ s' => ∃ σ' H', Inv X pins σ' H' s' ∧ Q σ' H') X.xe s
/-- o[i] = v, by values -/
abbrev TSet := V → V → V → Hp → (Hp → Prop) → Prop
def PSet (X : Cx) (t : TSet) : Prop :=
  ∀ (pins : List (Addr × Obj)) (s : Shared) (σ : St) (H : Hp) (o i v : V) (ov iv u : Value) (Q : Hp → Prop), Inv X pins σ H s → RelV o ov → RelV i iv → RelV v u → t o i v H Q →
    wpAny (model X.prog X.w) X.A (setItem ov iv u) (fun _ s' => ∃ H', Inv X pins σ H' s' ∧ Q H') X.xe s
/-- a op= b, by values -/
abbrev TIp := V → V → Hp → VK → Prop
def PIp (X : Cx) (op : Operator) (t : TIp) : Prop :=
  ∀ (pins : List (Addr × Obj)) (s : Shared) (σ : St) (H : Hp) (x y : V) (v u : Value) (Q : VK), Inv X pins σ H s → RelV x v → RelV y u → t x y H Q →
    wpAny (model X.prog X.w) X.A (inplaceOp op v u) (EP X pins σ Q) X.xe s
section
variable {X : Cx} {pos : Pos}
def gName (i : Nat) : TG := fun v σ H Q => Q (σ.set i (some v)) H
theorem pg_name {i : Nat} {x : Str} (hN : X.N.Nodup) (hi : X.N[i]? = some x) (hx : Loc X.env.scope x) (hf : X.fn x = true ∨ X.env.scope.names.lookup x = some .local := by first | exact .inl rfl | exact .inr rfl | assumption) : PG X (.Name x pos) (gName i) := by
  intro pins s σ H v u Q I r h
  exact wpAny_assign_Name (store_ok I hN hi hx r (fun s' I' => ⟨_, H, I', h⟩) hf)
def gNil : TGs := fun vs σ H Q => vs = [] ∧ Q σ H
def gCons (t : TG) (u : TGs) : TGs := fun vs σ H Q => ∃ v r, vs = v :: r ∧ t v σ H fun σ' H' => u r σ' H' Q
theorem pgs_nil : PGs X [] gNil := by
  intro pins s σ H vs us Q I r h
  obtain ⟨e, h⟩ := h
  subst e
  cases r
  exact assignInOrder_nil ⟨σ, H, I, h⟩
theorem pgs_cons {e : Expr} {es : List Expr} {t : TG} {u : TGs} (h1 : PG X e t) (h2 : PGs X es u)
    (hs : (assignEach (e :: es) X.env).map (·.2) = assign e X.env :: (assignEach es X.env).map (·.2) := by rfl) : PGs X (e :: es) (gCons t u) := by
  intro pins s σ H vs us Q I r h
  obtain ⟨v, vr, e1, h⟩ := h
  subst e1
  cases r with
  | cons r rr =>
    rw [hs]
    refine assignInOrder_cons (thn (h1 pins s σ H _ _ _ I r h) fun _ s1 ⟨σ1, H1, I1, q1⟩ => ?_)
    exact h2 pins s1 σ1 H1 _ _ Q I1 rr q1
/-- (a, b, ..) = a tuple of that length -/
def gTup (K : PySem.W.Frag) (n : Nat) (t : TGs) : TG := fun v σ H Q => ∃ a xs, v = .ref a ∧ SqT K H a xs ∧ xs.length = n ∧ t xs σ H Q
theorem pg_tup {es : List Expr} {k : Nat} {t : TGs} {n : Nat} (hc : X.calm = true) (h : PGs X es t)
    (hn : (assignEach es X.env).length = n := by rfl) (hst : (assignEach es X.env).findIdx? (·.1) = none := by rfl) : PG X (.Tuple es k pos) (gTup X.K n t) := by
  intro pins s σ H v u Q I r hw
  obtain ⟨a, xs, e1, hq, hl, hw⟩ := hw
  subst e1
  cases r
  obtain ⟨its, rv, ht, hz⟩ := I.tuple hq
  refine assign_Tuple_tuple (I.ok.hd hc) ht (by simp [hn, ← hl, rv.length]) hst fun h' hx => ?_
  have I1 : Inv X pins σ H { s with heap := h' } := I.kept (t' := s.toks) fun b o e => hx b o (Nat.ne_of_lt (Heap.lt_size e)) e
  exact h pins _ σ H xs _ Q I1 (by simpa using rv) hw
/-- o[i] = .. -/
def gSub (to ti : TE) (t : TSet) : TG := fun v σ H Q => to σ H fun o H1 => ti σ H1 fun i H2 => t o i v H2 fun H3 => Q σ H3
theorem pg_sub {o i : Expr} {to ti : TE} {t : TSet} (ho : PE X o to) (hi : PE X i ti) (hs : PSet X t)
    (ha : ∀ v, assign (.Subscript o i pos) X.env v = (do
      let ov ← holding [v] (eval o X.env)
      let iv ← holding [v, ov] (eval i X.env)
      standAt pos
      holding [v, ov, iv] (setItem ov iv v)
      release [v, ov, iv] []) := by intro _; rfl) : PG X (.Subscript o i pos) (gSub to ti t) := by
  intro pins s σ H v u Q I r h
  rw [ha]
  refine wpAny_bind (wpAny_holding (thn (ho pins s σ H _ I h) fun ov s1 ⟨x, H1, I1, r1, q1⟩ => ?_))
  refine wpAny_bind (wpAny_holding (thn (hi pins s1 σ H1 _ I1 q1) fun iv s2 ⟨y, H2, I2, r2, q2⟩ => ?_))
  refine wpAny_bind (wpAny_standAt (wpAny_bind (wpAny_holding (thn (hs pins s2 σ H2 x y v ov iv u _ I2 r1 r2 r q2) fun _ s3 ⟨H3, I3, q3⟩ => ?_))))
  exact wpAny_release ⟨σ, H3, I3, q3⟩
/-- target = value -/
def tAsg (te : TE) (g : TG) : TS := fun D σ H => te σ H fun x H1 => g x σ H1 D.nx
theorem ps_asg {tg e : Expr} {te : TE} {g : TG} (he : PE X e te) (hg : PG X tg g) (hs : swapsWithSole [tg] e pos.line X.env = pure false := by rfl) (hw : swappedStores [tg] e X.env = pure none := by rfl)
    (h1 : (assignEach [tg] X.env).map (·.2) = [assign tg X.env] := by rfl) : PS X (.Assign [tg] e pos) (tAsg te g) := by
  intro pins s σ H D I h
  refine wpAny_Assign_stores (thn (he pins s σ H _ I h) fun v s1 ⟨x, H1, I1, r1, q1⟩ => ?_) hs hw
  rw [h1]
  exact thn (hg pins s1 σ H1 x v _ I1 r1 q1) fun _ s2 q => q
/-- name = value -/
theorem ps_set {i : Nat} {x : Str} {e : Expr} {te : TE} {pos' : Pos} (hN : X.N.Nodup) (hi : X.N[i]? = some x) (hx : Loc X.env.scope x) (he : PE X e te) (hs : swapsWith e (some (.Name x pos')) pos.line X.env = pure false := by rfl) (hf : X.fn x = true ∨ X.env.scope.names.lookup x = some .local := by first | exact .inl rfl | exact .inr rfl | assumption) :
    PS X (.Assign [.Name x pos'] e pos) (tAsg te (gName i)) := by
  intro pins s σ H D I h
  refine wpAny_Assign_Name (thn (he pins s σ H _ I h) fun v s1 ⟨y, H1, I1, r1, q1⟩ => ?_) hs
  exact store_ok I1 hN hi hx r1 (fun s2 I2 => ⟨_, H1, I2, q1⟩) hf
/-- a, b = x, y with plain local names: stored from the right; the pair itself is not tracked (the opening rows as in PyProof/Rows/TupAssign.lean:23) -/
def tPar (i j : Nat) (ta : TA) : TS := fun D σ H => ta σ H fun vs H1 => ∃ v w, vs = [v, w] ∧ D.nx ((σ.set i (some v)).set j (some w)) H1
theorem ps_par {i j : Nat} {x y : Str} {a b : Expr} {ta : TA} {px py pt : Pos} {kt k2 pt2} (hc : X.calm = true) (hN : X.N.Nodup) (hi : X.N[i]? = some x) (hj : X.N[j]? = some y) (hij : i ≠ j)
    (hx : X.env.scope.names.lookup x = some .local) (hy : X.env.scope.names.lookup y = some .local) (ha : PA X [a, b] ta)
    (hw : swappedStores [.Tuple [.Name x px, .Name y py] kt pt] (.Tuple [a, b] k2 pt2) X.env = pure (some [x, y]))
    (hs : swapsWithSole [.Tuple [.Name x px, .Name y py] kt pt] (.Tuple [a, b] k2 pt2) pos.line X.env = pure false := by rfl) :
    PS X (.Assign [.Tuple [.Name x px, .Name y py] kt pt] (.Tuple [a, b] k2 pt2) pos) (tPar i j ta) := by
  intro pins s σ H D I h
  rw [exec_Assign_arm]
  refine wpAny_bind (wpAny_standAt ?_)
  rw [hs]
  refine wpAny_bind (wpAny_pure ?_)
  rw [if_neg (by decide)]
  refine wpAny_bind (Tuple_ (thn (ha _ pins s σ H _ I h) fun us s1 ⟨vs, H1, I1, r1, q1⟩ => ?_))
  obtain ⟨v, w, e1, q1⟩ := q1
  subst e1
  obtain ⟨u1, u2, rfl, rv, rw'⟩ : ∃ u1 u2, us = [u1, u2] ∧ RelV v u1 ∧ RelV w u2 := by
    cases r1 with
    | cons p q =>
      cases q with
      | cons p' q' =>
        cases q'
        exact ⟨_, _, rfl, p, p'⟩
  refine wpAny_newObj_type ?_ (by show 2 ≤ sizeLine; decide)
  have I2 : Inv X pins σ H1 { s1 with heap := s1.heap.push { cls := .type "tuple", data := .seq [u1, u2].toArray } } := I1.kept (t' := s1.toks) fun b o e => Heap.get?_push_of_some _ e
  rw [hw]
  refine wpAny_bind (wpAny_pure ?_)
  show wpAny (model X.prog X.w) X.A (do rule "assign.swapped-stores"; let items ← unpackItems (.ref s1.heap.objs.size) 2 none; assignInOrder [fun v => bindName X.env y v, fun v => bindName X.env x v] items.reverse; pure Flow.next) _ _ _
  refine wpAny_bind (wpAny_rule (wpAny_bind (unpackItems_tuple (items := #[u1, u2]) (I.ok.hd hc) (IsTup.new s1.heap _) fun h' hx' => ?_)))
  have I3 := I2.kept (h' := h') (t' := s1.toks) fun b o e => hx' b o (Nat.ne_of_lt (Heap.lt_size e)) e
  show wpAny _ _ (assignInOrder [fun v => bindName X.env y v, fun v => bindName X.env x v] [u2, u1] >>= fun _ => pure Flow.next) _ _ _
  refine wpAny_bind (assignInOrder_cons (wpAny_bindName (store_ok I3 hN hj (.inl hy) rw' (fun s2 I4 => ?_) (.inr hy))))
  refine assignInOrder_cons (wpAny_bindName (store_ok I4 hN hi (.inl hx) rv (fun s3 I5 => assignInOrder_nil (wpAny_pure ?_)) (.inr hx)))
  rw [List.set_comm _ _ (Ne.symm hij)] at I5
  exact ⟨_, H1, I5, q1⟩
/-- name op= e -/
def tAug (i : Nat) (te : TE) (ti : TIp) : TS := fun D σ H => ∃ x, σ[i]? = some (some x) ∧ te σ H fun y H1 => ti x y H1 fun z H2 => D.nx (σ.set i (some z)) H2
theorem ps_aug {i : Nat} {x : Str} {e : Expr} {te : TE} {op : Operator} {ti : TIp} {pos' : Pos} (hN : X.N.Nodup) (hi : X.N[i]? = some x) (hx : Loc X.env.scope x) (he : PE X e te) (ho : PIp X op ti) (hf : X.fn x = true ∨ X.env.scope.names.lookup x = some .local := by first | exact .inl rfl | exact .inr rfl | assumption) :
    PS X (.AugAssign (.Name x pos') op e pos) (tAug i te ti) := by
  intro pins s σ H D I h
  obtain ⟨v, e1, h⟩ := h
  obtain ⟨m, hn, hl⟩ := I.loc
  have vis : Vis X.env.scope x := by rcases hx with k | k; exact .inl k; exact .inr (.inl k)
  obtain ⟨u, r, l⟩ := hl i x v hi e1 vis
  refine wpAny_AugAssign_Name ?_
  have go : wpAny (model X.prog X.w) X.A (eval e X.env) (fun w s₂ => wpAny (model X.prog X.w) X.A (inplaceOp op u w) (fun r s₃ => wpAny (model X.prog X.w) X.A (storeName X.env x r) (fun _ => SP X pins D .next) X.xe s₃) X.xe s₂) X.xe s := by
    refine thn (he pins s σ H _ I h) fun w s1 ⟨y, H1, I1, r1, q1⟩ => ?_
    refine thn (ho pins s1 σ H1 v y u w _ I1 r r1 q1) fun z s2 ⟨zv, H2, I2, r2, q2⟩ => ?_
    exact store_ok I2 hN hi hx r2 (fun s3 I3 => ⟨_, H2, I3, q2⟩) hf
  rcases l with ⟨hk, hm⟩ | ⟨hk, c, hc, hcell⟩
  · exact wpAny_loadName_local I.ok.kind hk hn hm go
  · rcases hk with hk | hk
    · exact wpAny_loadName_cell I.ok.kind hk hc hcell go
    · rcases hx with k | k
      · have : X.env.scope.names.lookup x = some .free := hk
        rw [k] at this; cases this
      · have : X.env.scope.names.lookup x = some .free := hk
        rw [k] at this; cases this
/-- o[i] op= e -/
def tAugS (to ti te : TE) (tget : V → V → Hp → VK → Prop) (tip : TIp) (tset : TSet) : TS := fun D σ H => to σ H fun o H1 => ti σ H1 fun i H2 => tget o i H2 fun x H3 => te σ H3 fun y H4 => tip x y H4 fun z H5 => tset o i z H5 fun H6 => D.nx σ H6
/-- o[i], by values -/
def PGet (X : Cx) (t : V → V → Hp → VK → Prop) : Prop :=
  ∀ (pins : List (Addr × Obj)) (s : Shared) (σ : St) (H : Hp) (o i : V) (ov iv : Value) (Q : VK), Inv X pins σ H s → RelV o ov → RelV i iv → t o i H Q →
    wpAny (model X.prog X.w) X.A (getItem ov iv) (EP X pins σ Q) X.xe s
theorem ps_augS {o i e : Expr} {to ti te : TE} {tget : V → V → Hp → VK → Prop} {tip : TIp} {tset : TSet} {op : Operator} {tpos : Pos} (ho : PE X o to) (hi : PE X i ti) (hg : PGet X tget) (he : PE X e te) (hp : PIp X op tip) (hs : PSet X tset)
    (ha : ∀ ov iv new, augStore i ov iv new = (do holding [new, ov, iv] (setItem ov iv new); release [new, ov, iv] []; pure .next) := by intros; rfl) : PS X (.AugAssign (.Subscript o i tpos) op e pos) (tAugS to ti te tget tip tset) := by
  intro pins s σ H D I h
  refine wpAny_AugAssign_SubscriptAny (thn (ho pins s σ H _ I h) fun ov s1 ⟨x1, H1, I1, r1, q1⟩ => ?_) ha
  refine thn (hi pins s1 σ H1 _ I1 q1) fun iv s2 ⟨x2, H2, I2, r2, q2⟩ => ?_
  refine thn (hg pins s2 σ H2 x1 x2 ov iv _ I2 r1 r2 q2) fun old s3 ⟨x3, H3, I3, r3, q3⟩ => ?_
  refine thn (he pins s3 σ H3 _ I3 q3) fun v s4 ⟨x4, H4, I4, r4, q4⟩ => ?_
  refine thn (hp pins s4 σ H4 x3 x4 old v _ I4 r3 r4 q4) fun new s5 ⟨x5, H5, I5, r5, q5⟩ => ?_
  exact thn (hs pins s5 σ H5 x1 x2 x5 ov iv new _ I5 r1 r2 r5 q5) fun _ s6 ⟨H6, I6, q6⟩ => ⟨σ, H6, I6, q6⟩
/-- ints -/
def ipI (f : Int → Int → Int) : TIp := fun x y H Q => ∃ i j, x = .int i ∧ y = .int j ∧ Q (.int (f i j)) H
theorem ip_add : PIp X .Add (ipI fun i j => i + j) := by
  intro pins s σ H x y v u Q I r1 r2 h
  obtain ⟨i, j, e1, e2, q⟩ := h
  subst e1; subst e2
  obtain ⟨t, rfl⟩ := r1
  obtain ⟨t', rfl⟩ := r2
  exact iadd_int ⟨.int _, H, I.tok _, ⟨_, rfl⟩, q⟩
theorem ip_sub : PIp X .Sub (ipI fun i j => i - j) := by
  intro pins s σ H x y v u Q I r1 r2 h
  obtain ⟨i, j, e1, e2, q⟩ := h
  subst e1; subst e2
  obtain ⟨t, rfl⟩ := r1
  obtain ⟨t', rfl⟩ := r2
  exact isub_int ⟨.int _, H, I.tok _, ⟨_, rfl⟩, q⟩
end

/-! ### while -/
section
variable {X : Cx} {pos : Pos}
/-- the invariant W with its measure -/
def tWhile (c : TT) (tb : TS) : TS := fun D σ H => ∃ W : Nat → St → Hp → Prop, (∃ m, W m σ H) ∧ ∀ m σ H, W m σ H →
  c σ H fun b H1 => if b = true then ∃ N : St → Hp → Prop, (∀ σ' H', N σ' H' → ∃ m', m' < m ∧ W m' σ' H') ∧ tb { D with nx := N, ct := N, bk := D.nx } σ H1 else D.nx σ H1
theorem ps_while {c : Expr} {body : List Stmt} {tc : TT} {tb : TS} (hp : PassesOwn (model X.prog X.w) X.A X.env X.xe) (hc : PT X c tc) (hb : PSs X body tb) : PS X (.While c body [] pos) (tWhile tc tb) := by
  intro pins s σ H D I h
  obtain ⟨W, ⟨m0, w0⟩, turn⟩ := h
  refine wpAny_While (codeAny_whileLoop (fun n s' => ∃ σ' H', Inv X pins σ' H' s' ∧ W n σ' H') ?_ m0 ⟨σ, H, I, w0⟩)
  rintro n s1 ⟨σ1, H1, I1, w1⟩
  refine wpAny_passesOwn hp (thn (hc pins s1 σ1 H1 _ I1 (turn n σ1 H1 w1)) fun b s2 ⟨H2, I2, q2⟩ => ?_)
  cases b with
  | true =>
    obtain ⟨N, hN, q2⟩ := q2
    rw [if_pos rfl]
    refine wpAny_passesOwn hp (thn (hb pins s2 σ1 H2 _ I2 q2) fun f s3 q3 => ?_)
    cases f with
    | next =>
      obtain ⟨σ3, H3, I3, n3⟩ := q3
      obtain ⟨m', hm, w3⟩ := hN σ3 H3 n3
      exact ⟨m', hm, σ3, H3, I3, w3⟩
    | cont =>
      obtain ⟨σ3, H3, I3, n3⟩ := q3
      obtain ⟨m', hm, w3⟩ := hN σ3 H3 n3
      exact ⟨m', hm, σ3, H3, I3, w3⟩
    | brk => exact q3
    | ret v => exact q3
  | false =>
    rw [if_neg Bool.false_ne_true]
    exact wpAny_execs_nil ⟨σ1, H2, I2, q2⟩
end

/-! ### what a loop or a comprehension walks -/
/-- at turn i: it yields x (the heap may grow), or it stops -/
structure It where
  go : Nat → Hp → Prop
  yld : Nat → Hp → V → Hp → Prop
  stop : Nat → Hp → Prop
/-- the iterator's own objects may turn: they are not the frame's, not pinned, younger than the entry (or a comprehension's own) -/
def FpOk (X : Cx) (pins : List (Addr × Obj)) (H : Hp) (b : Addr) : Prop :=
  H b = none ∧ b ≠ X.env.locals ∧ b ∉ X.fs ∧ (b ∈ X.ex ∨ X.s₀.heap.objs.size ≤ b) ∧ (∀ x c, X.env.cells.lookup x = some c → c ≠ b) ∧ ∀ p ∈ X.pn ++ pins, p.1 ≠ b
theorem Inv.fpOk {X : Cx} {pins : List (Addr × Obj)} {σ : St} {H H' : Hp} {s : Shared} {b : Addr} (I : Inv X pins σ H s) (hb : s.heap.objs.size ≤ b) (hn : H' b = none) : FpOk X pins H' b := by
  refine ⟨hn, Nat.ne_of_gt (Nat.lt_of_lt_of_le I.lt hb), I.nofs hb, .inr (Nat.le_trans I.sz hb), fun x c e z => ?_, fun p hp z => ?_⟩
  · obtain ⟨v, q⟩ := I.cell x c e
    exact absurd (Nat.lt_of_lt_of_le q.lt (by rw [z]; exact hb)) (Nat.lt_irrefl _)
  · exact absurd (Nat.lt_of_lt_of_le (Heap.lt_size (I.pin p hp).1) (by rw [z]; exact hb)) (Nat.lt_irrefl _)
structure Turn (P : Program) (w : World) (K : PySem.W.Frag) (tg : Expr) (J : It) (fp : List Addr) (it : Addr) (tn : Nat → Heap → Prop) : Prop where
  mem : it ∈ fp
  obj : ∀ i h, tn i h → ∀ b ∈ fp, ∃ o, h.get? b = some o ∧ ∀ v, o.data ≠ .cell v
  keep : ∀ i h h', tn i h → (∀ b ∈ fp, ∀ o, h.get? b = some o → h'.get? b = some o) → tn i h'
  item : ∀ (X : Cx), X.prog = P → X.w = w → X.K = K → X.calm = true → ∀ (i : Nat) (pins : List (Addr × Obj)) (s : Shared) (σ : St) (H : Hp) (E : Value → Shared → Prop), Inv X pins σ H s → (∀ b ∈ fp, FpOk X pins H b) → tn i s.heap → J.go i H →
    wpAny (model P w) X.A (pyNext (.ref it)) (fun r s1 => ∃ u, r = some u ∧
      wpAny (model P w) X.A (letOwnedTupleGo tg (.ref it) u) (fun _ s2 => ∃ x H', Inv X pins σ H' s2 ∧ RelV x u ∧ J.yld i H x H' ∧ tn (i + 1) s2.heap ∧ ∀ b ∈ fp, H' b = none) E s1) E s
  done : ∀ (X : Cx), X.prog = P → X.w = w → X.K = K → X.calm = true → ∀ (i : Nat) (pins : List (Addr × Obj)) (s : Shared) (σ : St) (H : Hp) (E : Value → Shared → Prop), Inv X pins σ H s → (∀ b ∈ fp, FpOk X pins H b) → tn i s.heap → J.stop i H →
    wpAny (model P w) X.A (pyNext (.ref it)) (fun r s1 => r = none ∧ Inv X pins σ H s1) E s
  self : ∀ (A : Around) (i : Nat) (s : Shared) (Q : Value → Shared → Prop) (E : Value → Shared → Prop), tn i s.heap → Q (.ref it) s → wpAny (model P w) A (pyIter (.ref it)) Q E s
abbrev TI := St → Hp → (It → Hp → Prop) → Prop
/-- an iterator has come -/
def PIE (X : Cx) (pins : List (Addr × Obj)) (σ : St) (tg : Expr) (R : It → Hp → Prop) (itv : Value) (s2 : Shared) : Prop :=
  ∃ (it : Addr) (fp : List Addr) (tn : Nat → Heap → Prop) (J : It) (H' : Hp), itv = .ref it ∧ Inv X pins σ H' s2 ∧ Turn X.prog X.w X.K tg J fp it tn ∧ tn 0 s2.heap ∧ (∀ b ∈ fp, FpOk X pins H' b) ∧ R J H'
def PI (X : Cx) (tg iter : Expr) (wi : TI) : Prop :=
  ∀ (pins : List (Addr × Obj)) (s : Shared) (σ : St) (H : Hp) (R : It → Hp → Prop), Inv X pins σ H s → wi σ H R →
    wpAny (model X.prog X.w) X.A (eval iter X.env) (fun v s1 => wpAny (model X.prog X.w) X.A (pyIter v) (PIE X pins σ tg R) X.xe s1) X.xe s

/-- the step ahead of the store is nothing for an iterator that keeps no tuple -/
theorem go_of {M : Model} {A : Around} {E : Value → Shared → Prop} {s : Shared} {tg : Expr} {it : Addr} {u : Value} {o : Obj} {n : String} {vs : Array Value} {Q : Unit → Shared → Prop} (ho : s.heap.get? it = some o) (hc : o.cls = .type n) (hd : o.data = .fields vs)
    (hn : ["enumerate", "zip", "dict_itemiterator", "dict_reverseitemiterator", "odict_iterator", "itertools.zip_longest", "itertools.pairwise"].contains n = false) (hQ : Q () s) : wpAny M A (letOwnedTupleGo tg (.ref it) u) Q E s := by
  unfold letOwnedTupleGo
  cases tg <;> first
    | exact wpAny_pure hQ
    | (cases u <;> first
        | exact wpAny_pure hQ
        | (refine wpAny_bind (wpAny_load ho ?_)
           rw [hc, hd]
           show wpAny M A (if (["enumerate", "zip", "dict_itemiterator", "dict_reverseitemiterator", "odict_iterator", "itertools.zip_longest", "itertools.pairwise"].contains n && vs[0]? == some (rawInt _)) = true then _ else _) Q E s
           rw [if_neg (by intro h; rw [hn, Bool.false_and] at h; cases h)]
           exact wpAny_pure hQ))

/-- the list at a, as it stands at each turn (a loop may append to it) -/
def Itl (K : PySem.W.Frag) (a : Addr) : It :=
  ⟨fun i H => ∃ xs x, SqL K H a xs ∧ xs[i]? = some x, fun i H x H' => H' = H ∧ ∀ xs, SqL K H a xs → xs[i]? = some x, fun i H => ∃ xs, SqL K H a xs ∧ xs.length ≤ i⟩
def Itt (K : PySem.W.Frag) (a : Addr) : It :=
  ⟨fun i H => ∃ xs x, SqT K H a xs ∧ xs[i]? = some x, fun i H x H' => H' = H ∧ ∀ xs, SqT K H a xs → xs[i]? = some x, fun i H => ∃ xs, SqT K H a xs ∧ xs.length ≤ i⟩
/-- lo, lo + 1, .. (n of them) -/
def Itr (lo : Int) (n : Nat) : It := ⟨fun i _ => i < n, fun i H x H' => H' = H ∧ x = .int (lo + i), fun i _ => n ≤ i⟩
theorem turn_list {P : Program} {w : World} {K : PySem.W.Frag} {tg : Expr} (a it : Addr) : Turn P w K tg (Itl K a) [it] it (fun i h => h.IsListIter it a i) where
  mem := by simp
  obj := fun i h st b hb => by
    have e : b = it := by simpa using hb
    subst e
    obtain ⟨o, e, c, d⟩ := st
    exact ⟨o, e, fun v z => by rw [d] at z; cases z⟩
  keep := fun i h h' st k => st.at fun o e => k it (by simp) o e
  item := by
    intro X hP hw hK hc i pins s σ H E I hf st hg
    subst hP hw hK
    obtain ⟨xs, x, hq, hx⟩ := hg
    obtain ⟨its, rv, p, hz⟩ := I.list hq
    obtain ⟨u, hu, ru⟩ := rv.get hx
    obtain ⟨f0, f1, f2, f3, f4, f5⟩ := hf it (by simp)
    refine wpAny_pyNext_list_item st p.isList (x := u) (by simpa using hu) fun h' st' sb => ?_
    have I1 : Inv X pins σ H { s with heap := h' } := I.turned (t' := s.toks) (fun b o hb e => (sb.2 b hb).trans e) f0 f1 f3 f4 f5
    obtain ⟨o, e, c, d⟩ := id st'
    exact ⟨u, rfl, go_of (s := { s with heap := h' }) e c d (by decide) ⟨x, H, I1, ru, ⟨rfl, fun ys hy => by rw [I.list_inj hy hq]; exact hx⟩, st', fun b hb => (hf b hb).1⟩⟩
  done := by
    intro X hP hw hK hc i pins s σ H E I hf st hg
    subst hP hw hK
    obtain ⟨xs, hq, hx⟩ := hg
    obtain ⟨its, rv, p, hz⟩ := I.list hq
    obtain ⟨f0, f1, f2, f3, f4, f5⟩ := hf it (by simp)
    have hl := rv.length
    exact wpAny_pyNext_list_end (I.ok.hd hc) st p.isList (by simp; omega) fun h' eb => ⟨rfl, I.turned (t' := s.toks) (fun b o hb e => eb b o hb e) f0 f1 f3 f4 f5⟩
  self := fun _ _ _ _ _ st h => wpAny_pyIter_listiter st h
theorem turn_tuple {P : Program} {w : World} {K : PySem.W.Frag} {tg : Expr} (a it : Addr) : Turn P w K tg (Itt K a) [it] it (fun i h => h.IsTupleIter it a i) where
  mem := by simp
  obj := fun i h st b hb => by
    have e : b = it := by simpa using hb
    subst e
    obtain ⟨o, e, c, d⟩ := st
    exact ⟨o, e, fun v z => by rw [d] at z; cases z⟩
  keep := fun i h h' st k => st.at fun o e => k it (by simp) o e
  item := by
    intro X hP hw hK hc i pins s σ H E I hf st hg
    subst hP hw hK
    obtain ⟨xs, x, hq, hx⟩ := hg
    obtain ⟨its, rv, p, hz⟩ := I.tuple hq
    obtain ⟨u, hu, ru⟩ := rv.get hx
    obtain ⟨f0, f1, f2, f3, f4, f5⟩ := hf it (by simp)
    refine wpAny_pyNext_tuple_item st (show s.heap.IsTuple a its.toArray from p) (x := u) (by simpa using hu) fun h' st' sb => ?_
    have I1 : Inv X pins σ H { s with heap := h' } := I.turned (t' := s.toks) (fun b o hb e => (sb.2 b hb).trans e) f0 f1 f3 f4 f5
    obtain ⟨o, e, c, d⟩ := id st'
    exact ⟨u, rfl, go_of (s := { s with heap := h' }) e c d (by decide) ⟨x, H, I1, ru, ⟨rfl, fun ys hy => by rw [I.tuple_inj hy hq]; exact hx⟩, st', fun b hb => (hf b hb).1⟩⟩
  done := by
    intro X hP hw hK hc i pins s σ H E I hf st hg
    subst hP hw hK
    obtain ⟨xs, hq, hx⟩ := hg
    obtain ⟨its, rv, p, hz⟩ := I.tuple hq
    obtain ⟨f0, f1, f2, f3, f4, f5⟩ := hf it (by simp)
    have hl := rv.length
    exact wpAny_pyNext_tuple_end (I.ok.hd hc) st (show s.heap.IsTuple a its.toArray from p) (by simp; omega) fun h' eb => ⟨rfl, I.turned (t' := s.toks) (fun b o hb e => eb b o hb e) f0 f1 f3 f4 f5⟩
  self := fun _ _ _ _ _ st h => wpAny_pyIter_tupleiter st h
theorem turn_range {P : Program} {w : World} {K : PySem.W.Frag} {tg : Expr} (it : Addr) (lo : Int) (n : Nat) : Turn P w K tg (Itr lo n) [it] it (fun i h => IsRangeIter h it (lo + (i : Nat) * 1) ((n : Int) - (i : Nat)) 1) where
  mem := by simp
  obj := fun i h st b hb => by
    have e : b = it := by simpa using hb
    subst e
    exact ⟨_, st, fun v z => by
      have z' : Data.fields _ = Data.cell v := z
      cases z'⟩
  keep := fun i h h' st k => k it (by simp) _ st
  item := by
    intro X hP hw hK hc i pins s σ H E I hf st hg
    subst hP hw hK
    obtain ⟨f0, f1, f2, f3, f4, f5⟩ := hf it (by simp)
    have W := Walks.range (prog := X.prog) (w := X.w) (I.ok.hd hc) it lo 1 n
    refine W.item i s _ _ hg st fun v h' tk hv st' kk => ?_
    obtain ⟨t, rfl⟩ := hv
    have I1 : Inv X pins σ H { s with heap := h', toks := tk } := I.turned (fun b o hb e => kk b o (by simpa using hb) e) f0 f1 f3 f4 f5
    refine ⟨_, rfl, go_of (s := { s with heap := h', toks := tk }) (n := "range_iterator") st' rfl rfl (by decide) ⟨.int (lo + i), H, I1, ⟨t, ?_⟩, ⟨rfl, rfl⟩, st', fun b hb => (hf b hb).1⟩⟩
    rw [Int.mul_one]
  done := by
    intro X hP hw hK hc i pins s σ H E I hf st hg
    subst hP hw hK
    obtain ⟨f0, f1, f2, f3, f4, f5⟩ := hf it (by simp)
    exact wpAny_pyNext_range_end (I.ok.hd hc) st (by have : n ≤ i := hg; omega) fun h' eb => ⟨rfl, I.turned (t' := s.toks) (fun b o hb e => eb b o hb e) f0 f1 f3 f4 f5⟩
  self := fun _ _ _ _ _ st h => wpAny_pyIter_rangeiter st h
end L2

namespace L2
open PySem PySem.Spec PyProof.Rows
section
variable {X : Cx} {tg : Expr}
def iList (K : PySem.W.Frag) (tl : TE) : TI := fun σ H R => tl σ H fun x H1 => ∃ a, x = .ref a ∧ (∃ xs, SqL K H1 a xs) ∧ R (Itl K a) H1
def iTup (K : PySem.W.Frag) (tl : TE) : TI := fun σ H R => tl σ H fun x H1 => ∃ a, x = .ref a ∧ (∃ xs, SqT K H1 a xs) ∧ R (Itt K a) H1
theorem pi_list {l : Expr} {tl : TE} (hl : PE X l tl) : PI X tg l (iList X.K tl) := by
  intro pins s σ H R I h
  refine thn (hl pins s σ H _ I h) fun v s1 ⟨x, H1, I1, r1, q1⟩ => ?_
  obtain ⟨a, e, ⟨xs, hq⟩, q⟩ := q1
  subst e
  cases r1
  obtain ⟨its, rv, p, hz⟩ := I1.list hq
  refine wpAny_pyIter_list p.isList ?_
  refine ⟨s1.heap.objs.size, [s1.heap.objs.size], _, _, H1, rfl, I1.kept (t' := s1.toks) fun b o e => Heap.get?_push_of_some _ e, turn_list a _, ⟨_, Heap.get?_push_size _ rfl, rfl, rfl⟩, fun b hb => ?_, q⟩
  have e : b = s1.heap.objs.size := by simpa using hb
  subst e
  exact I1.fpOk (Nat.le_refl _) (I1.hok.fresh (Nat.le_refl _))
theorem pi_tup {l : Expr} {tl : TE} (hl : PE X l tl) : PI X tg l (iTup X.K tl) := by
  intro pins s σ H R I h
  refine thn (hl pins s σ H _ I h) fun v s1 ⟨x, H1, I1, r1, q1⟩ => ?_
  obtain ⟨a, e, ⟨xs, hq⟩, q⟩ := q1
  subst e
  cases r1
  obtain ⟨its, rv, p, hz⟩ := I1.tuple hq
  refine wpAny_pyIter_tuple (show s1.heap.IsTuple a its.toArray from p) ?_
  refine ⟨s1.heap.objs.size, [s1.heap.objs.size], _, _, H1, rfl, I1.kept (t' := s1.toks) fun b o e => Heap.get?_push_of_some _ e, turn_tuple a _, ⟨_, Heap.get?_push_size _ rfl, rfl, rfl⟩, fun b hb => ?_, q⟩
  have e : b = s1.heap.objs.size := by simpa using hb
  subst e
  exact I1.fpOk (Nat.le_refl _) (I1.hok.fresh (Nat.le_refl _))
/-- a range object just made, walked -/
theorem range_it {pins : List (Addr × Obj)} {σ : St} {H : Hp} {s : Shared} {R : It → Hp → Prop} {E : Value → Shared → Prop} {lo hi : Int} {t u v : Tok} {tk : Nat} (I : Inv X pins σ H s) (h1 : -(2 ^ 62) ≤ lo) (h2 : lo < 2 ^ 62) (h3 : -(2 ^ 62) ≤ hi) (h4 : hi < 2 ^ 62)
    (q : R (Itr lo (hi - lo).toNat) H) : wpAny (model X.prog X.w) X.A (pyIter (.ref s.heap.objs.size)) (PIE X pins σ tg R) E { s with heap := s.heap.push { cls := .type "range", data := .fields #[.int lo t, .int hi u, .int 1 v] }, toks := tk } := by
  refine wpAny_pyIter_range (IsRange.new ..) (small_one h1 h2 h3 h4) ?_
  have I1 : Inv X pins σ H { s with heap := s.heap.push { cls := .type "range", data := .fields #[.int lo t, .int hi u, .int 1 v] }, toks := tk } := I.kept fun b o e => Heap.get?_push_of_some _ e
  refine ⟨(s.heap.push { cls := .type "range", data := .fields #[.int lo t, .int hi u, .int 1 v] }).objs.size, [(s.heap.push { cls := .type "range", data := .fields #[.int lo t, .int hi u, .int 1 v] }).objs.size], _, _, H, rfl,
    I1.kept (t' := tk) fun b o e => Heap.get?_push_of_some _ e, turn_range _ lo (hi - lo).toNat, ?_, fun b hb => ?_, q⟩
  · have e1 : lo + ((0 : Nat) : Int) * 1 = lo := by simp
    have e2 : (((hi - lo).toNat : Nat) : Int) - ((0 : Nat) : Int) = Builtin.Range.rangeSize lo hi 1 := by rw [rangeSize_one]; split <;> omega
    show IsRangeIter _ _ (lo + ((0 : Nat) : Int) * 1) ((((hi - lo).toNat : Nat) : Int) - ((0 : Nat) : Int)) 1
    rw [e1, e2]
    exact Heap.get?_push_size _ rfl
  · have e : b = (s.heap.push { cls := .type "range", data := .fields #[.int lo t, .int hi u, .int 1 v] }).objs.size := by simpa using hb
    subst e
    exact I1.fpOk (Nat.le_refl _) (I1.hok.fresh (Nat.le_refl _))
def iRng1 (ta : TA) : TI := fun σ H R => ta σ H fun vs H1 => ∃ j : Int, vs = [.int j] ∧ -(2 ^ 62) ≤ j ∧ j < 2 ^ 62 ∧ R (Itr 0 j.toNat) H1
def iRng2 (ta : TA) : TI := fun σ H R => ta σ H fun vs H1 => ∃ i j : Int, vs = [.int i, .int j] ∧ (-(2 ^ 62) ≤ i ∧ i < 2 ^ 62 ∧ -(2 ^ 62) ≤ j ∧ j < 2 ^ 62) ∧ R (Itr i (j - i).toNat) H1
theorem pi_range1 {a : Expr} {ta : TA} {p pos : Pos} (hg : Gl X "range") (hm : X.mg "range" = none) (ha : PA X [a] ta) (hs : starEach [a] X.env = [(false, eval a X.env)] := by rfl) : PI X tg (.Call (.Name "range" p) [a] [] pos) (iRng1 ta) := by
  intro pins s σ H R I h
  refine Call_ (ld_blt I hg hm boot_range (PyProof.Rows.callWith_type1 (thn (ha pos pins s σ H _ I h) fun us s1 ⟨vs, H1, I1, r1, q1⟩ => ?_) hs rfl))
  obtain ⟨j, e, q1, q2, q⟩ := q1
  subst e
  cases r1 with
  | cons r rr =>
    cases rr
    obtain ⟨t, rfl⟩ := r
    exact call_range_1 (range_it I1 (by omega) (by omega) q1 q2 (by simpa using q))
theorem pi_range2 {a b : Expr} {ta : TA} {p pos : Pos} (hg : Gl X "range") (hm : X.mg "range" = none) (ha : PA X [a, b] ta) (hs : starEach [a, b] X.env = [(false, eval a X.env), (false, eval b X.env)] := by rfl) (hs2 : starEach [b] X.env = [(false, eval b X.env)] := by rfl) :
    PI X tg (.Call (.Name "range" p) [a, b] [] pos) (iRng2 ta) := by
  intro pins s σ H R I h
  refine Call_ (ld_blt I hg hm boot_range (PyProof.Rows.callWith_type1 (thn (ha pos pins s σ H _ I h) fun us s1 ⟨vs, H1, I1, r1, q1⟩ => ?_) (by rw [hs, hs2]) (by rw [hs2]; rfl)))
  obtain ⟨i, j, e, ⟨q1, q2, q3, q4⟩, q⟩ := q1
  subst e
  cases r1 with
  | cons r rr =>
    cases rr with
    | cons r' rr =>
      cases rr
      obtain ⟨t, rfl⟩ := r
      obtain ⟨t', rfl⟩ := r'
      exact call_range_2 (range_it I1 q1 q2 q3 q4 q)

/-! ### for -/
/-- W: the invariant by the turn and a measure; N: what the body is to reach -/
def tFor (wi : TI) (g : TG) (tb : TS) : TS := fun D σ H => wi σ H fun J H1 => ∃ W : Nat → Nat → St → Hp → Prop, (∃ m, W 0 m σ H1) ∧ ∀ i m σ H, W i m σ H →
  (J.stop i H ∧ D.nx σ H) ∨ (J.go i H ∧ ∃ N : St → Hp → Prop, (∀ σ' H', N σ' H' → ∃ m', m' < m ∧ W (i + 1) m' σ' H') ∧ ∀ x H', J.yld i H x H' → g x σ H' fun σ2 H2 => tb { D with nx := N, ct := N, bk := D.nx } σ2 H2)
/-- the records at fp as they stand -/
def pinsAt (fp : List Addr) (h : Heap) : List (Addr × Obj) := fp.filterMap fun b => (h.get? b).map fun o => (b, o)
theorem mem_pinsAt {fp : List Addr} {h : Heap} {b : Addr} {o : Obj} (hb : b ∈ fp) (e : h.get? b = some o) : (b, o) ∈ pinsAt fp h := List.mem_filterMap.mpr ⟨b, hb, by rw [e]; rfl⟩
theorem of_pinsAt {fp : List Addr} {h : Heap} {p : Addr × Obj} (hp : p ∈ pinsAt fp h) : p.1 ∈ fp ∧ h.get? p.1 = some p.2 := by
  obtain ⟨b, hb, e⟩ := List.mem_filterMap.mp hp
  cases q : h.get? b with
  | none => rw [q] at e; cases e
  | some o =>
    rw [q] at e
    have e' : (b, o) = p := Option.some.inj e
    subst e'
    exact ⟨hb, q⟩
theorem Inv.pinned {pins : List (Addr × Obj)} {σ : St} {H : Hp} {s : Shared} {fp : List Addr} (I : Inv X pins σ H s) (hf : ∀ b ∈ fp, FpOk X pins H b) (ho : ∀ b ∈ fp, ∃ o, s.heap.get? b = some o ∧ ∀ v, o.data ≠ .cell v) : Inv X (pins ++ pinsAt fp s.heap) σ H s :=
  I.pins_of fun p hp => (List.mem_append.mp hp).elim (fun z => I.pin p (List.mem_append_right _ z)) fun z => by
    obtain ⟨hb, e⟩ := of_pinsAt z
    obtain ⟨f0, f1, f2, _⟩ := hf p.1 hb
    obtain ⟨o, e', d⟩ := ho p.1 hb
    rw [e] at e'; cases e'
    exact ⟨e, f0, f1, f2, d⟩
theorem Inv.unpinned {pins pl : List (Addr × Obj)} {σ : St} {H : Hp} {s : Shared} (I : Inv X (pins ++ pl) σ H s) : Inv X pins σ H s := I.pins_of fun p hp => I.pin p (List.mem_append_right _ (List.mem_append_left _ hp))
theorem ps_for {iter : Expr} {body : List Stmt} {wi : TI} {g : TG} {tb : TS} {pos : Pos} (hp : PassesOwn (model X.prog X.w) X.A X.env X.xe) (hc : X.calm = true) (hi : PI X tg iter wi) (hg : PG X tg g) (hb : PSs X body tb)
    (hs : ∀ x, foldedSetIterable iter X.env x = pure x := by intro _; rfl) : PS X (.For tg iter body [] pos) (tFor wi g tb) := by
  intro pins s σ H D I h
  refine wpAny_For (thn (hi pins s σ H _ I h) fun v s1 h1 => thn h1 fun itv s2 h2 => ?_) hs
  obtain ⟨it, fp, tn, J, H2, e, I2, T, st2, f2, W, ⟨m0, w0⟩, turn⟩ := h2
  subst e
  -- what stays true of the iterator's objects through the loop
  have stat : ∀ {H' : Hp}, (∀ b ∈ fp, H' b = none) → ∀ b ∈ fp, FpOk X pins H' b := fun hn b hb => ⟨hn b hb, (f2 b hb).2⟩
  refine codeAny_forLoop_any (fun n s' => ∃ i σ' H', Inv X pins σ' H' s' ∧ tn i s'.heap ∧ (∀ b ∈ fp, H' b = none) ∧ W i n σ' H') ?_ m0 ⟨0, σ, H2, I2, st2, fun b hb => (f2 b hb).1, w0⟩
  rintro n s3 ⟨i, σ3, H3, I3, st3, fr3, w3⟩
  rcases turn i n σ3 H3 w3 with ⟨stop, qn⟩ | ⟨go, N, hN, step⟩
  · refine wpAny_passesOwn hp (thn (T.done X rfl rfl rfl hc i pins s3 σ3 H3 X.xe I3 (stat fr3) st3 stop) fun r s4 ⟨hr, I4⟩ => ?_)
    subst hr
    exact wpAny_execs_nil ⟨σ3, H3, I4, qn⟩
  · refine wpAny_passesOwn hp (thn (T.item X rfl rfl rfl hc i pins s3 σ3 H3 X.xe I3 (stat fr3) st3 go) fun r s4 ⟨u, hr, h4⟩ => ?_)
    subst hr
    refine wpAny_passesOwn hp (thn h4 fun _ s5 ⟨x, H5, I5, r5, y5, st5, fr5⟩ => ?_)
    have I5' := I5.pinned (stat fr5) (T.obj _ _ st5)
    refine wpAny_passesOwn hp (thn (hg _ s5 σ3 H5 x u _ I5' r5 (step x H5 y5)) fun _ s6 ⟨σ6, H6, I6, q6⟩ => ?_)
    refine wpAny_passesOwn hp (thn (hb _ s6 σ6 H6 _ I6 q6) fun f s7 q7 => ?_)
    have again : ∀ {σ7 : St} {H7 : Hp}, Inv X (pins ++ pinsAt fp s5.heap) σ7 H7 s7 → N σ7 H7 → ∃ m, m < n ∧ ∃ i σ' H', Inv X pins σ' H' s7 ∧ tn i s7.heap ∧ (∀ b ∈ fp, H' b = none) ∧ W i m σ' H' := fun {σ7 H7} I7 n7 => by
      obtain ⟨m', hm, w7⟩ := hN σ7 H7 n7
      refine ⟨m', hm, i + 1, σ7, H7, I7.unpinned, T.keep _ _ _ st5 fun b hb o e => (I7.pin (b, o) (List.mem_append_right _ (List.mem_append_right _ (mem_pinsAt hb e)))).1, fun b hb => ?_, w7⟩
      obtain ⟨o, e, d⟩ := T.obj _ _ st5 b hb
      exact (I7.pin (b, o) (List.mem_append_right _ (List.mem_append_right _ (mem_pinsAt hb e)))).2.1
    cases f with
    | next => obtain ⟨σ7, H7, I7, n7⟩ := q7; exact again I7 n7
    | cont => obtain ⟨σ7, H7, I7, n7⟩ := q7; exact again I7 n7
    | brk => obtain ⟨σ7, H7, I7, q7⟩ := q7; exact ⟨σ7, H7, I7.unpinned, q7⟩
    | ret v => obtain ⟨x7, σ7, H7, I7, r7, q7⟩ := q7; exact ⟨x7, σ7, H7, I7.unpinned, r7, q7⟩
end

/-! ### the forms one uses -/
/-- over a list that the body leaves as it is -/
theorem for_list {K : PySem.W.Frag} {a : Addr} {xs : List V} {g : TG} {tb : TS} {D : Ends} {σ : St} {H : Hp} (Pv : Nat → St → Hp → Prop) (h0 : Pv 0 σ H) (hl : ∀ i σ H, i ≤ xs.length → Pv i σ H → SqL K H a xs)
    (hs : ∀ i x σ H, xs[i]? = some x → Pv i σ H → g x σ H fun σ2 H2 => tb { D with nx := Pv (i + 1), ct := Pv (i + 1), bk := D.nx } σ2 H2) (hd : ∀ σ H, Pv xs.length σ H → D.nx σ H) :
    ∃ W : Nat → Nat → St → Hp → Prop, (∃ m, W 0 m σ H) ∧ ∀ i m σ H, W i m σ H →
      ((Itl K a).stop i H ∧ D.nx σ H) ∨ ((Itl K a).go i H ∧ ∃ N : St → Hp → Prop, (∀ σ' H', N σ' H' → ∃ m', m' < m ∧ W (i + 1) m' σ' H') ∧ ∀ x H', (Itl K a).yld i H x H' → g x σ H' fun σ2 H2 => tb { D with nx := N, ct := N, bk := D.nx } σ2 H2) := by
  refine ⟨fun i m σ H => m = xs.length - i ∧ i ≤ xs.length ∧ Pv i σ H, ⟨xs.length, by simp, Nat.zero_le _, h0⟩, ?_⟩
  rintro i m σ H ⟨rfl, hi, p⟩
  have q := hl i σ H hi p
  by_cases hlt : i < xs.length
  · refine .inr ⟨⟨xs, xs[i], q, by simp [hlt]⟩, Pv (i + 1), fun σ' H' p' => ⟨xs.length - (i + 1), by omega, rfl, hlt, p'⟩, fun x H' y => ?_⟩
    obtain ⟨e, y⟩ := y
    subst e
    exact hs i x σ _ (y xs q) p
  · have e : i = xs.length := by omega
    subst e
    exact .inl ⟨⟨xs, q, Nat.le_refl _⟩, hd σ H p⟩
theorem for_tup {K : PySem.W.Frag} {a : Addr} {xs : List V} {g : TG} {tb : TS} {D : Ends} {σ : St} {H : Hp} (Pv : Nat → St → Hp → Prop) (h0 : Pv 0 σ H) (hl : ∀ i σ H, i ≤ xs.length → Pv i σ H → SqT K H a xs)
    (hs : ∀ i x σ H, xs[i]? = some x → Pv i σ H → g x σ H fun σ2 H2 => tb { D with nx := Pv (i + 1), ct := Pv (i + 1), bk := D.nx } σ2 H2) (hd : ∀ σ H, Pv xs.length σ H → D.nx σ H) :
    ∃ W : Nat → Nat → St → Hp → Prop, (∃ m, W 0 m σ H) ∧ ∀ i m σ H, W i m σ H →
      ((Itt K a).stop i H ∧ D.nx σ H) ∨ ((Itt K a).go i H ∧ ∃ N : St → Hp → Prop, (∀ σ' H', N σ' H' → ∃ m', m' < m ∧ W (i + 1) m' σ' H') ∧ ∀ x H', (Itt K a).yld i H x H' → g x σ H' fun σ2 H2 => tb { D with nx := N, ct := N, bk := D.nx } σ2 H2) := by
  refine ⟨fun i m σ H => m = xs.length - i ∧ i ≤ xs.length ∧ Pv i σ H, ⟨xs.length, by simp, Nat.zero_le _, h0⟩, ?_⟩
  rintro i m σ H ⟨rfl, hi, p⟩
  have q := hl i σ H hi p
  by_cases hlt : i < xs.length
  · refine .inr ⟨⟨xs, xs[i], q, by simp [hlt]⟩, Pv (i + 1), fun σ' H' p' => ⟨xs.length - (i + 1), by omega, rfl, hlt, p'⟩, fun x H' y => ?_⟩
    obtain ⟨e, y⟩ := y
    subst e
    exact hs i x σ _ (y xs q) p
  · have e : i = xs.length := by omega
    subst e
    exact .inl ⟨⟨xs, q, Nat.le_refl _⟩, hd σ H p⟩
theorem for_range {lo : Int} {n : Nat} {g : TG} {tb : TS} {D : Ends} {σ : St} {H : Hp} (Pv : Nat → St → Hp → Prop) (h0 : Pv 0 σ H)
    (hs : ∀ i σ H, i < n → Pv i σ H → g (.int (lo + i)) σ H fun σ2 H2 => tb { D with nx := Pv (i + 1), ct := Pv (i + 1), bk := D.nx } σ2 H2) (hd : ∀ σ H, Pv n σ H → D.nx σ H) :
    ∃ W : Nat → Nat → St → Hp → Prop, (∃ m, W 0 m σ H) ∧ ∀ i m σ H, W i m σ H →
      ((Itr lo n).stop i H ∧ D.nx σ H) ∨ ((Itr lo n).go i H ∧ ∃ N : St → Hp → Prop, (∀ σ' H', N σ' H' → ∃ m', m' < m ∧ W (i + 1) m' σ' H') ∧ ∀ x H', (Itr lo n).yld i H x H' → g x σ H' fun σ2 H2 => tb { D with nx := N, ct := N, bk := D.nx } σ2 H2) := by
  refine ⟨fun i m σ H => m = n - i ∧ i ≤ n ∧ Pv i σ H, ⟨n, by simp, Nat.zero_le _, h0⟩, ?_⟩
  rintro i m σ H ⟨rfl, hi, p⟩
  by_cases hlt : i < n
  · refine .inr ⟨hlt, Pv (i + 1), fun σ' H' p' => ⟨n - (i + 1), by omega, rfl, hlt, p'⟩, fun x H' y => ?_⟩
    obtain ⟨e, y⟩ := y
    subst e y
    exact hs i σ _ hlt p
  · have e : i = n := by omega
    subst e
    exact .inl ⟨Nat.le_refl _, hd σ H p⟩
/-- while, by a word and a measure of the state -/
theorem while_by {c : TT} {tb : TS} {D : Ends} {σ : St} {H : Hp} (Pv : St → Hp → Prop) (μ : St → Hp → Nat) (h0 : Pv σ H)
    (hs : ∀ σ H, Pv σ H → c σ H fun b H1 => if b = true then tb { D with nx := fun σ' H' => Pv σ' H' ∧ μ σ' H' < μ σ H, ct := fun σ' H' => Pv σ' H' ∧ μ σ' H' < μ σ H, bk := D.nx } σ H1 else D.nx σ H1)
    (mono : ∀ σ H Q Q', (∀ b H1, Q b H1 → Q' b H1) → c σ H Q → c σ H Q') : tWhile c tb D σ H := by
  refine ⟨fun m σ H => m = μ σ H ∧ Pv σ H, ⟨_, rfl, h0⟩, ?_⟩
  rintro m σ H ⟨rfl, p⟩
  refine mono σ H _ _ (fun b H1 q => ?_) (hs σ H p)
  cases b with
  | true => exact ⟨_, fun σ' H' ⟨p', l⟩ => ⟨_, l, rfl, p'⟩, q⟩
  | false => exact q
end L2

namespace L2
open PySem PySem.Spec PyProof.Rows

abbrev R2 := V → V → Hp → VK → Prop
/-- a two-place operation on values: f is binaryOp op, inplaceOp op or compareOp op -/
def OpR (X : Cx) (f : Value → Value → Sem Value) (r : R2) : Prop :=
  ∀ (pins : List (Addr × Obj)) (s : Shared) (σ : St) (H : Hp) (x y : V) (v u : Value) (Q : VK), Inv X pins σ H s → RelV x v → RelV y u → r x y H Q →
    wpAny (model X.prog X.w) X.A (f v u) (EP X pins σ Q) X.xe s
/-- a one-place operation -/
def UnR (X : Cx) (f : Value → Sem Value) (r : V → Hp → VK → Prop) : Prop :=
  ∀ (pins : List (Addr × Obj)) (s : Shared) (σ : St) (H : Hp) (x : V) (v : Value) (Q : VK), Inv X pins σ H s → RelV x v → r x H Q →
    wpAny (model X.prog X.w) X.A (f v) (EP X pins σ Q) X.xe s
/-- a call of a value that is known (a builtin, a type) with values -/
def CallR (X : Cx) (f : Value) (r : List V → Hp → VK → Prop) : Prop :=
  ∀ (pins : List (Addr × Obj)) (s : Shared) (σ : St) (H : Hp) (xs : List V) (us : List Value) (Q : VK), Inv X pins σ H s → Vals xs us → r xs H Q →
    wpAny (model X.prog X.w) X.A (call f us) (EP X pins σ Q) X.xe s
/-- a value's truth -/
def TruR (X : Cx) (r : V → Hp → (Bool → Hp → Prop) → Prop) : Prop :=
  ∀ (pins : List (Addr × Obj)) (s : Shared) (σ : St) (H : Hp) (x : V) (v : Value) (Q : Bool → Hp → Prop), Inv X pins σ H s → RelV x v → r x H Q →
    wpAny (model X.prog X.w) X.A (truthy v) (TP X pins σ Q) X.xe s

def tOp (r : R2) (ta tb : TE) : TE := fun σ H Q => ta σ H fun x H1 => tb σ H1 fun y H2 => r x y H2 Q
def tUn (r : V → Hp → VK → Prop) (ta : TE) : TE := fun σ H Q => ta σ H fun x H1 => r x H1 Q
/-- ints in, under C, and a value out -/
def rI (C : Int → Int → Prop) (g : Int → Int → V) : R2 := fun x y H Q => ∃ i j, x = .int i ∧ y = .int j ∧ C i j ∧ Q (g i j) H
def rI0 (g : Int → Int → V) : R2 := fun x y H Q => ∃ i j, x = .int i ∧ y = .int j ∧ Q (g i j) H
def rU (g : Int → V) : V → Hp → VK → Prop := fun x H Q => ∃ i, x = .int i ∧ Q (g i) H

section
variable {X : Cx} {a b c : Expr} {ta tb tc : TE} {pos : Pos}

theorem binT (ha : PE X a ta) (hb : PE X b tb) {pins : List (Addr × Obj)} {s : Shared} {σ : St} {H : Hp} {R : V → V → Hp → Prop} (I : Inv X pins σ H s)
    (h : ta σ H fun x H1 => tb σ H1 fun y H2 => R x y H2) {Q : Value → Shared → Prop} {f : Value → Value → Sem Value}
    (hf : ∀ v u s2 x y H2, Inv X pins σ H2 s2 → RelV x v → RelV y u → R x y H2 → wpAny (model X.prog X.w) X.A (f v u) Q X.xe s2) :
    wpAny (model X.prog X.w) X.A (eval a X.env) (fun v s₁ => wpAny (model X.prog X.w) X.A (eval b X.env) (fun u s₂ => wpAny (model X.prog X.w) X.A (f v u) Q X.xe s₂) X.xe s₁) X.xe s := by
  refine thn (ha pins s σ H _ I h) fun v s1 ⟨x, H1, I1, r1, q1⟩ => ?_
  refine thn (hb pins s1 σ H1 _ I1 q1) fun u s2 ⟨y, H2, I2, r2, q2⟩ => ?_
  exact hf v u s2 x y H2 I2 r1 r2 q2

theorem pe_op {op : Operator} {r : R2} (ho : OpR X (binaryOp op) r) (ha : PE X a ta) (hb : PE X b tb) : PE X (.BinOp a op b pos) (tOp r ta tb) := by
  intro pins s σ H Q I h
  exact wpAny_BinOp (binT ha hb I h fun v u s2 x y H2 I2 rx ry q => ho pins s2 σ H2 x y v u Q I2 rx ry q)
theorem pe_un {op : UnaryOp} {r : V → Hp → VK → Prop} (ho : UnR X (unaryOp op) r) (ha : PE X a ta) : PE X (.UnaryOp op a pos) (tUn r ta) := by
  intro pins s σ H Q I h
  exact UnaryOp_ (thn (ha pins s σ H _ I h) fun v s1 ⟨x, H1, I1, r1, q1⟩ => ho pins s1 σ H1 x v Q I1 r1 q1)
/-- a op= e at a name: the name's slot i -/
theorem augR {op : Operator} {r : R2} (ho : OpR X (inplaceOp op) r) {pins : List (Addr × Obj)} {s : Shared} {σ : St} {H : Hp} {x y : V} {v u : Value} {Q : VK} (I : Inv X pins σ H s)
    (rx : RelV x v) (ry : RelV y u) (q : r x y H Q) : wpAny (model X.prog X.w) X.A (inplaceOp op v u) (EP X pins σ Q) X.xe s := ho pins s σ H x y v u Q I rx ry q

/-! ### ints -/
theorem opI {f : Value → Value → Sem Value} {C : Int → Int → Prop} {g : Int → Int → Int}
    (rule : ∀ (i j : Int) (t u : Tok) (s : Shared) (Q : Value → Shared → Prop) (E : Value → Shared → Prop), C i j → Q (.int (g i j) s.toks) { s with toks := s.toks + 1 } → wpAny (model X.prog X.w) X.A (f (.int i t) (.int j u)) Q E s) :
    OpR X f (rI C fun i j => .int (g i j)) := by
  intro pins s σ H x y v u Q I rx ry h
  obtain ⟨i, j, rfl, rfl, hc, q⟩ := h
  obtain ⟨t, rfl⟩ := rx
  obtain ⟨t', rfl⟩ := ry
  exact rule i j t t' s _ _ hc ⟨.int (g i j), H, I.tok _, ⟨_, rfl⟩, q⟩
theorem opI0 {f : Value → Value → Sem Value} {g : Int → Int → Int}
    (rule : ∀ (i j : Int) (t u : Tok) (s : Shared) (Q : Value → Shared → Prop) (E : Value → Shared → Prop), Q (.int (g i j) s.toks) { s with toks := s.toks + 1 } → wpAny (model X.prog X.w) X.A (f (.int i t) (.int j u)) Q E s) :
    OpR X f (rI0 fun i j => .int (g i j)) := by
  intro pins s σ H x y v u Q I rx ry h
  obtain ⟨i, j, rfl, rfl, q⟩ := h
  obtain ⟨t, rfl⟩ := rx
  obtain ⟨t', rfl⟩ := ry
  exact rule i j t t' s _ _ ⟨.int (g i j), H, I.tok _, ⟨_, rfl⟩, q⟩
theorem opB0 {f : Value → Value → Sem Value} {g : Int → Int → Bool}
    (rule : ∀ (i j : Int) (t u : Tok) (s : Shared) (Q : Value → Shared → Prop) (E : Value → Shared → Prop), Q (.bool (g i j)) s → wpAny (model X.prog X.w) X.A (f (.int i t) (.int j u)) Q E s) :
    OpR X f (rI0 fun i j => .bl (g i j)) := by
  intro pins s σ H x y v u Q I rx ry h
  obtain ⟨i, j, rfl, rfl, q⟩ := h
  obtain ⟨t, rfl⟩ := rx
  obtain ⟨t', rfl⟩ := ry
  exact rule i j t t' s _ _ ⟨.bl (g i j), H, I, rfl, q⟩

def CDiv (i j : Int) : Prop := 0 < j ∧ j < 1073741824
def CDivN (i j : Int) : Prop := j ≠ 0 ∧ j.natAbs < 1073741824
def CPow (i j : Int) : Prop := 0 ≤ j ∧ j ≤ 1000000 ∧ i.natAbs < 2 ^ 64
def CMul (i j : Int) : Prop := (-(2 ^ 64) < i ∧ i < 2 ^ 64) ∨ (-(2 ^ 64) < j ∧ j < 2 ^ 64)
theorem CMul.ok {i j : Int} (h : CMul i j) : IntMulOk i j := by
  rcases h with ⟨h1, h2⟩ | ⟨h1, h2⟩
  · exact .of_left (intBits_le_64 h1 h2)
  · exact .of_right (intBits_le_64 h1 h2)
theorem two_pow_nn (k : Nat) : (0 : Int) ≤ 2 ^ k := by
  rw [two_pow_cast]
  exact Int.natCast_nonneg _

theorem op_add : OpR X (binaryOp .Add) (rI0 fun i j => .int (i + j)) := opI0 fun _ _ _ _ _ _ _ q => add_int q
theorem op_sub : OpR X (binaryOp .Sub) (rI0 fun i j => .int (i - j)) := opI0 fun _ _ _ _ _ _ _ q => sub_int q
theorem op_mul : OpR X (binaryOp .Mult) (rI CMul fun i j => .int (i * j)) := opI fun _ _ _ _ _ _ _ hc q => mul_int q hc.ok
/-- // by a positive divisor -/
theorem op_fdiv : OpR X (binaryOp .FloorDiv) (rI CDiv fun i j => .int (i / j)) := opI fun i j _ _ _ _ _ hc q => by
  have h1 : (0 : Int) < j := hc.1
  have h2 : j < 1073741824 := hc.2
  exact floordiv_int (by omega) (by rw [Int.fdiv_eq_ediv_of_nonneg i (by omega)]; exact q) (.inl (PyProof.noPylong_small (by omega)))
theorem op_fdivN : OpR X (binaryOp .FloorDiv) (rI CDivN fun i j => .int (i.fdiv j)) := opI fun _ _ _ _ _ _ _ hc q => floordiv_int hc.1 q (.inl (PyProof.noPylong_small hc.2))
/-- % by a positive divisor of any size -/
theorem op_mod : OpR X (binaryOp .Mod) (rI (fun _ j => 0 < j) fun i j => .int (i % j)) := opI fun i j _ _ _ _ _ hc q => by
  have h1 : (0 : Int) < j := hc
  exact mod_int' (by omega) (by rw [Int.fmod_eq_emod_of_nonneg i (by omega)]; exact q)
theorem op_modN : OpR X (binaryOp .Mod) (rI (fun _ j => j ≠ 0) fun i j => .int (i.fmod j)) := opI fun _ _ _ _ _ _ _ hc q => mod_int' hc q
theorem op_pow : OpR X (binaryOp .Pow) (rI CPow fun i j => .int (i ^ j.toNat)) := opI fun _ _ _ _ _ _ _ hc q => pow_int_small hc.1 hc.2.1 hc.2.2 q
theorem op_shl : OpR X (binaryOp .LShift) (rI CPow fun i j => .int (i * 2 ^ j.toNat)) := opI fun _ _ _ _ _ _ _ hc q => lshift_int_small hc.1 hc.2.1 hc.2.2 q
theorem op_shr : OpR X (binaryOp .RShift) (rI (fun _ j => 0 ≤ j) fun i j => .int (i / 2 ^ j.toNat)) := opI fun i j _ _ _ _ _ hc q =>
  rshift_int hc (by rw [Int.fdiv_eq_ediv_of_nonneg i (two_pow_nn _)]; exact q)
theorem op_and : OpR X (binaryOp .BitAnd) (rI0 fun i j => .int (Builtin.bitAnd i j)) := opI0 fun _ _ _ _ _ _ _ q => and_int q
theorem op_or : OpR X (binaryOp .BitOr) (rI0 fun i j => .int (Builtin.bitOr i j)) := opI0 fun _ _ _ _ _ _ _ q => or_int q
theorem op_xor : OpR X (binaryOp .BitXor) (rI0 fun i j => .int (Builtin.bitXor i j)) := opI0 fun _ _ _ _ _ _ _ q => xor_int q

theorem iop_add : OpR X (inplaceOp .Add) (rI0 fun i j => .int (i + j)) := opI0 fun _ _ _ _ _ _ _ q => iadd_int q
theorem iop_sub : OpR X (inplaceOp .Sub) (rI0 fun i j => .int (i - j)) := opI0 fun _ _ _ _ _ _ _ q => isub_int q
theorem iop_mul : OpR X (inplaceOp .Mult) (rI CMul fun i j => .int (i * j)) := opI fun _ _ _ _ _ _ _ hc q => imul_int q hc.ok
theorem iop_fdiv : OpR X (inplaceOp .FloorDiv) (rI CDiv fun i j => .int (i / j)) := opI fun i j _ _ _ _ _ hc q => by
  have h1 : (0 : Int) < j := hc.1
  have h2 : j < 1073741824 := hc.2
  exact ifloordiv_int (by omega) (by rw [Int.fdiv_eq_ediv_of_nonneg i (by omega)]; exact q) (.inl (PyProof.noPylong_small (by omega)))
theorem iop_mod : OpR X (inplaceOp .Mod) (rI (fun _ j => 0 < j) fun i j => .int (i % j)) := opI fun i j _ _ _ _ _ hc q => by
  have h1 : (0 : Int) < j := hc
  exact imod_int (by omega) (by rw [Int.fmod_eq_emod_of_nonneg i (by omega)]; exact q)
theorem iop_shl : OpR X (inplaceOp .LShift) (rI CPow fun i j => .int (i * 2 ^ j.toNat)) := opI fun _ _ _ _ _ _ _ hc q => ilshift_int_small hc.1 hc.2.1 hc.2.2 q
theorem iop_shr : OpR X (inplaceOp .RShift) (rI (fun _ j => 0 ≤ j) fun i j => .int (i / 2 ^ j.toNat)) := opI fun i j _ _ _ _ _ hc q =>
  irshift_int hc (by rw [Int.fdiv_eq_ediv_of_nonneg i (two_pow_nn _)]; exact q)
theorem iop_and : OpR X (inplaceOp .BitAnd) (rI0 fun i j => .int (Builtin.bitAnd i j)) := opI0 fun _ _ _ _ _ _ _ q => iand_int q
theorem iop_or : OpR X (inplaceOp .BitOr) (rI0 fun i j => .int (Builtin.bitOr i j)) := opI0 fun _ _ _ _ _ _ _ q => ior_int q
theorem iop_xor : OpR X (inplaceOp .BitXor) (rI0 fun i j => .int (Builtin.bitXor i j)) := opI0 fun _ _ _ _ _ _ _ q => ixor_int q

theorem unI {f : Value → Sem Value} {g : Int → Int}
    (rule : ∀ (i : Int) (t : Tok) (s : Shared) (Q : Value → Shared → Prop) (E : Value → Shared → Prop), Q (.int (g i) s.toks) { s with toks := s.toks + 1 } → wpAny (model X.prog X.w) X.A (f (.int i t)) Q E s) :
    UnR X f (rU fun i => .int (g i)) := by
  intro pins s σ H x v Q I rx h
  obtain ⟨i, rfl, q⟩ := h
  obtain ⟨t, rfl⟩ := rx
  exact rule i t s _ _ ⟨.int (g i), H, I.tok _, ⟨_, rfl⟩, q⟩
theorem un_neg : UnR X (unaryOp .USub) (rU fun i => .int (-i)) := unI fun _ _ _ _ _ q => neg_int q
theorem un_inv : UnR X (unaryOp .Invert) (rU fun i => .int (Builtin.bitNot i)) := unI fun _ _ _ _ _ q => invert_int q

/-! ### bools among ints: n += (a < b) -/
theorem op_add_ib : OpR X (binaryOp .Add) (fun x y H Q => ∃ i k, x = .int i ∧ y = .bl k ∧ Q (.int (i + b2i k)) H) := by
  intro pins s σ H x y v u Q I rx ry h
  obtain ⟨i, k, rfl, rfl, q⟩ := h
  obtain ⟨t, rfl⟩ := rx
  cases ry
  exact add_int_bool ⟨.int (i + b2i k), H, I.tok _, ⟨_, rfl⟩, q⟩
end

/-! ### comparisons -/
/-- the scalars that == tells apart as data does -/
def scal : V → V → Bool
  | .non, .non => true | .non, .int _ => true | .int _, .non => true | .non, .bl _ => true | .bl _, .non => true | .non, .str _ => true | .str _, .non => true
  | .int _, .int _ => true | .bl _, .bl _ => true | .str _, .str _ => true | .byt _, .byt _ => true
  | .int _, .str _ => true | .str _, .int _ => true | .bl _, .str _ => true | .str _, .bl _ => true
  | _, _ => false
def rEq : R2 := fun x y H Q => scal x y = true ∧ Q (.bl (decide (x = y))) H
def rNe : R2 := fun x y H Q => scal x y = true ∧ Q (.bl (!decide (x = y))) H

theorem dec_int {i j : Int} : decide (V.int i = V.int j) = (i == j) := by
  rw [Bool.eq_iff_iff]
  simp
theorem dec_bl {i j : Bool} : decide (V.bl i = V.bl j) = (i == j) := by
  rw [Bool.eq_iff_iff]
  simp
theorem dec_str {i j : Str} : decide (V.str i = V.str j) = (i == j) := by
  rw [Bool.eq_iff_iff]
  simp
theorem dec_byt {i j : Array UInt8} : decide (V.byt i = V.byt j) = (i.toList == j.toList) := by
  rw [Bool.eq_iff_iff]
  cases i
  cases j
  simp

section
variable {X : Cx} {a b c : Expr} {ta tb tc : TE} {pos : Pos}
theorem fin_bl {pins : List (Addr × Obj)} {σ : St} {H : Hp} {s : Shared} {Q : VK} {k k' : Bool} (I : Inv X pins σ H s) (q : Q (.bl k) H) (e : k = k') : EP X pins σ Q (.bool k') s := by
  subst e
  exact ⟨.bl k, H, I, rfl, q⟩
theorem op_eq : OpR X (compareOp .Eq) rEq := by
  intro pins s σ H x y v u Q I rx ry h
  obtain ⟨hs, q⟩ := h
  cases x with
  | non =>
    cases rx
    cases y with
    | non => cases ry; exact PySem.EqNone.eq_none_none (fin_bl I q (by simp))
    | bl j => cases ry; exact PySem.EqNone.eq_none_bool (fin_bl I q (by simp))
    | int j => obtain ⟨t', rfl⟩ := ry; exact PySem.EqNone.eq_none_int (fin_bl I q (by simp))
    | str j => obtain ⟨t', rfl⟩ := ry; exact PySem.EqNone.eq_none_str (fin_bl I q (by simp))
    | _ => exact absurd (show false = true from hs) Bool.false_ne_true
  | bl i =>
    cases rx
    cases y with
    | non => cases ry; exact PySem.EqNone.eq_bool_none (fin_bl I q (by simp))
    | bl j => cases ry; exact eq_bool (fin_bl I q dec_bl)
    | str j => obtain ⟨t', rfl⟩ := ry; exact PySem.EqMixed.eq_bool_str (fin_bl I q (by simp))
    | _ => exact absurd (show false = true from hs) Bool.false_ne_true
  | int i =>
    obtain ⟨t, rfl⟩ := rx
    cases y with
    | non => cases ry; exact PySem.EqNone.eq_int_none (fin_bl I q (by simp))
    | int j => obtain ⟨t', rfl⟩ := ry; exact eq_int (fin_bl I q dec_int)
    | str j => obtain ⟨t', rfl⟩ := ry; exact PySem.EqMixed.eq_int_str (fin_bl I q (by simp))
    | _ => exact absurd (show false = true from hs) Bool.false_ne_true
  | str i =>
    obtain ⟨t, rfl⟩ := rx
    cases y with
    | non => cases ry; exact PySem.EqNone.eq_str_none (fin_bl I q (by simp))
    | bl j => cases ry; exact PySem.EqMixed.eq_str_bool (fin_bl I q (by simp))
    | int j => obtain ⟨t', rfl⟩ := ry; exact PySem.EqMixed.eq_str_int (fin_bl I q (by simp))
    | str j => obtain ⟨t', rfl⟩ := ry; exact eq_str (fin_bl I q dec_str)
    | _ => exact absurd (show false = true from hs) Bool.false_ne_true
  | byt i =>
    obtain ⟨t, rfl⟩ := rx
    cases y with
    | byt j => obtain ⟨t', rfl⟩ := ry; exact PySem.W.eq_bytes (fin_bl I q dec_byt)
    | _ => exact absurd (show false = true from hs) Bool.false_ne_true
  | _ => cases y <;> exact absurd (show false = true from hs) Bool.false_ne_true
theorem op_ne : OpR X (compareOp .NotEq) rNe := by
  intro pins s σ H x y v u Q I rx ry h
  obtain ⟨hs, q⟩ := h
  cases x with
  | non =>
    cases rx
    cases y with
    | non => cases ry; exact PySem.EqNone.ne_none_none (fin_bl I q (by simp))
    | bl j => cases ry; exact PySem.EqNone.ne_none_bool (fin_bl I q (by simp))
    | int j => obtain ⟨t', rfl⟩ := ry; exact PySem.EqNone.ne_none_int (fin_bl I q (by simp))
    | str j => obtain ⟨t', rfl⟩ := ry; exact PySem.EqNone.ne_none_str (fin_bl I q (by simp))
    | _ => exact absurd (show false = true from hs) Bool.false_ne_true
  | bl i =>
    cases rx
    cases y with
    | non => cases ry; exact PySem.EqNone.ne_bool_none (fin_bl I q (by simp))
    | bl j => cases ry; exact ne_bool (fin_bl I q (congrArg not dec_bl))
    | str j => obtain ⟨t', rfl⟩ := ry; exact PySem.EqMixed.ne_bool_str (fin_bl I q (by simp))
    | _ => exact absurd (show false = true from hs) Bool.false_ne_true
  | int i =>
    obtain ⟨t, rfl⟩ := rx
    cases y with
    | non => cases ry; exact PySem.EqNone.ne_int_none (fin_bl I q (by simp))
    | int j => obtain ⟨t', rfl⟩ := ry; exact ne_int (fin_bl I q (congrArg not dec_int))
    | str j => obtain ⟨t', rfl⟩ := ry; exact PySem.EqMixed.ne_int_str (fin_bl I q (by simp))
    | _ => exact absurd (show false = true from hs) Bool.false_ne_true
  | str i =>
    obtain ⟨t, rfl⟩ := rx
    cases y with
    | non => cases ry; exact PySem.EqNone.ne_str_none (fin_bl I q (by simp))
    | bl j => cases ry; exact PySem.EqMixed.ne_str_bool (fin_bl I q (by simp))
    | int j => obtain ⟨t', rfl⟩ := ry; exact PySem.EqMixed.ne_str_int (fin_bl I q (by simp))
    | str j => obtain ⟨t', rfl⟩ := ry; exact ne_str (fin_bl I q (congrArg not dec_str))
    | _ => exact absurd (show false = true from hs) Bool.false_ne_true
  | byt i =>
    obtain ⟨t, rfl⟩ := rx
    cases y with
    | byt j => obtain ⟨t', rfl⟩ := ry; exact PySem.W.ne_bytes (fin_bl I q (congrArg not dec_byt))
    | _ => exact absurd (show false = true from hs) Bool.false_ne_true
  | _ => cases y <;> exact absurd (show false = true from hs) Bool.false_ne_true

theorem op_lt : OpR X (compareOp .Lt) (rI0 fun i j => .bl (decide (i < j))) := opB0 fun _ _ _ _ _ _ _ q => lt_int q
theorem op_le : OpR X (compareOp .LtE) (rI0 fun i j => .bl (decide (i ≤ j))) := opB0 fun _ _ _ _ _ _ _ q => le_int q
theorem op_gt : OpR X (compareOp .Gt) (rI0 fun i j => .bl (decide (j < i))) := opB0 fun _ _ _ _ _ _ _ q => gt_int q
theorem op_ge : OpR X (compareOp .GtE) (rI0 fun i j => .bl (decide (j ≤ i))) := opB0 fun _ _ _ _ _ _ _ q => ge_int q
theorem op_lt_str : OpR X (compareOp .Lt) (fun x y H Q => ∃ i j, x = .str i ∧ y = .str j ∧ Q (.bl (decide (i.cps.toList < j.cps.toList))) H) := by
  intro pins s σ H x y v u Q I rx ry h
  obtain ⟨i, j, rfl, rfl, q⟩ := h
  obtain ⟨t, rfl⟩ := rx
  obtain ⟨t', rfl⟩ := ry
  exact lt_str (fin_bl I q rfl)
/-- the one string within the other -/
theorem op_in_str : OpR X (compareOp .In) (fun x y H Q => ∃ i j, x = .str i ∧ y = .str j ∧ Q (.bl (!(Builtin.Str.occurrences j i 0 j.length 1).isEmpty)) H) := by
  intro pins s σ H x y v u Q I rx ry h
  obtain ⟨i, j, rfl, rfl, q⟩ := h
  obtain ⟨t, rfl⟩ := rx
  obtain ⟨t', rfl⟩ := ry
  exact in_str (fin_bl I q rfl)

/-- is None, is not None: the right side a value none -/
theorem op_isN : OpR X (compareOp .Is) (fun x y H Q => y = .non ∧ Q (.bl (decide (x = .non))) H) := by
  intro pins s σ H x y v u Q I rx ry h
  obtain ⟨rfl, q⟩ := h
  cases ry
  refine is_none_gen (fin_bl I q ?_)
  cases x <;> first
    | (cases rx; rfl)
    | (obtain ⟨t, rfl⟩ := rx; rfl)
theorem op_notN : OpR X (compareOp .IsNot) (fun x y H Q => y = .non ∧ Q (.bl (!decide (x = .non))) H) := by
  intro pins s σ H x y v u Q I rx ry h
  obtain ⟨rfl, q⟩ := h
  cases ry
  refine isnot_none_gen (fin_bl I q ?_)
  cases x <;> first
    | (cases rx; rfl)
    | (obtain ⟨t, rfl⟩ := rx; rfl)

theorem op_notin_str : OpR X (compareOp .NotIn) (fun x y H Q => ∃ i j, x = .str i ∧ y = .str j ∧ Q (.bl (!(!(Builtin.Str.occurrences j i 0 j.length 1).isEmpty))) H) := by
  intro pins s σ H x y v u Q I rx ry h
  obtain ⟨i, j, rfl, rfl, q⟩ := h
  obtain ⟨t, rfl⟩ := rx
  obtain ⟨t', rfl⟩ := ry
  exact notIn_str (fin_bl I q rfl)
/-- is, is not of two objects that are tracked lists or instances -/
def isObj : HO → Bool
  | .lst _ => true
  | .ins _ _ _ => true
  | _ => false
theorem obj_there {pins : List (Addr × Obj)} {s : Shared} {σ : St} {H : Hp} {a : Addr} {o : HO} (I : Inv X pins σ H s) (h : H a = some o) (p : isObj o = true) : ∃ ob, s.heap.get? a = some ob ∧ ob.cls ≠ .type "tuple" := by
  cases o with
  | lst xs =>
    obtain ⟨_, its, n, _, e⟩ : xs.length ≤ sizeLine ∧ ∃ (its : List Value) (n : Nat), Vals xs its ∧ s.heap.get? a = some { cls := .type "list", data := .seq its.toArray n } := I.hok a _ h
    exact ⟨_, e, (by show Value.type "list" ≠ .type "tuple"; decide +kernel)⟩
  | ins C dx fs =>
    have x := I.hok a _ h
    obtain ⟨_, _, _, e, _⟩ := x
    exact ⟨_, e, (by show Value.ref C ≠ .type "tuple"; exact fun z => by cases z)⟩
  | _ => exact absurd (show false = true from p) Bool.false_ne_true
theorem op_is_ref : OpR X (compareOp .Is) (fun x y H Q => ∃ a b oa ob, x = .ref a ∧ y = .ref b ∧ H a = some oa ∧ isObj oa = true ∧ H b = some ob ∧ isObj ob = true ∧ Q (.bl (decide (a = b))) H) := by
  intro pins s σ H x y v u Q I rx ry h
  obtain ⟨a, b, oa, ob, rfl, rfl, ha, pa, hb, pb, q⟩ := h
  cases rx
  cases ry
  obtain ⟨o1, e1, n1⟩ := obj_there I ha pa
  obtain ⟨o2, e2, _⟩ := obj_there I hb pb
  by_cases z : a = b
  · subst z
    exact wpAny_is_ref_self (fin_bl I q (by simp))
  · exact wpAny_is_ref_other z e1 e2 n1 (fin_bl I q (by simp [z]))
theorem op_isnot_ref : OpR X (compareOp .IsNot) (fun x y H Q => ∃ a b oa ob, x = .ref a ∧ y = .ref b ∧ H a = some oa ∧ isObj oa = true ∧ H b = some ob ∧ isObj ob = true ∧ Q (.bl (!decide (a = b))) H) := by
  intro pins s σ H x y v u Q I rx ry h
  obtain ⟨a, b, oa, ob, rfl, rfl, ha, pa, hb, pb, q⟩ := h
  cases rx
  cases ry
  obtain ⟨o1, e1, n1⟩ := obj_there I ha pa
  obtain ⟨o2, e2, _⟩ := obj_there I hb pb
  by_cases z : a = b
  · subst z
    exact wpAny_isNot_ref_self (fin_bl I q (by simp))
  · exact wpAny_isNot_ref_other z e1 e2 n1 (fin_bl I q (by simp [z]))

/-- two rules for one operation: by cases -/
theorem OpR.or {f : Value → Value → Sem Value} {r r' : R2} (h : OpR X f r) (h' : OpR X f r') : OpR X f (fun x y H Q => r x y H Q ∨ r' x y H Q) := by
  intro pins s σ H x y v u Q I rx ry q
  rcases q with q | q
  · exact h pins s σ H x y v u Q I rx ry q
  · exact h' pins s σ H x y v u Q I rx ry q

theorem nomark (b : Expr) {op : CmpOp} (h : op ≠ .In := by decide) (h2 : op ≠ .NotIn := by decide) : behindInMarks op b = false := by
  have e1 : (op == CmpOp.In) = false := by cases op <;> first | rfl | exact absurd rfl h
  have e2 : (op == CmpOp.NotIn) = false := by cases op <;> first | rfl | exact absurd rfl h2
  cases b <;> simp [behindInMarks, e1, e2]
/-- a comparison as a value; hm: nomark b, or (for in, not in) by with_unfolding_all rfl -/
theorem pe_cmpR {op : CmpOp} {r : R2} (ho : OpR X (compareOp op) r) (ha : PE X a ta) (hb : PE X b tb) (hm : behindInMarks op b = false) : PE X (.Compare a [op] [b] pos) (tOp r ta tb) := by
  intro pins s σ H Q I h
  exact wpAny_Compare1 (binT ha hb I h fun v u s2 x y H2 I2 rx ry q => ho pins s2 σ H2 x y v u Q I2 rx ry q) hm
/-- a reading of a value as a test -/
def tTest (t : TE) : TT := fun σ H Q => t σ H fun x H' => ∃ k, x = .bl k ∧ Q k H'
theorem pt_cmpR {op : CmpOp} {r : R2} (ho : OpR X (compareOp op) r) (ha : PE X a ta) (hb : PE X b tb) (hm : behindInMarks op b = false) : PT X (.Compare a [op] [b] pos) (tTest (tOp r ta tb)) := by
  intro pins s σ H Q I h
  refine wpAny_isTrue_Compare1 (thn (ha pins s σ H _ I h) fun v s1 ⟨x, H1, I1, r1, q1⟩ => thn (hb pins s1 σ H1 _ I1 q1) fun u s2 ⟨y, H2, I2, r2, q2⟩ =>
    thn (ho pins s2 σ H2 x y v u _ I2 r1 r2 q2) fun c s3 ⟨z, H3, I3, r3, k, e, q3⟩ => ?_) hm
  subst e
  cases r3
  exact wpAny_truthy_bool ⟨H3, I3, q3⟩
/-- a op1 b op2 c -/
def tChain (r r' : R2) (ta tb tc : TE) : TE := fun σ H Q => ta σ H fun x H1 => tb σ H1 fun y H2 => r x y H2 fun z H3 => ∃ k, z = .bl k ∧
  (if k = true then tc σ H3 fun w' H4 => r' y w' H4 Q else Q (.bl false) H3)
theorem pe_chain {op op' : CmpOp} {r r' : R2} (ho : OpR X (compareOp op) r) (ho' : OpR X (compareOp op') r') (ha : PE X a ta) (hb : PE X b tb) (hc : PE X c tc)
    (hm : lastMarks [op, op'] [b, c] = false := by with_unfolding_all rfl) : PE X (.Compare a [op, op'] [b, c] pos) (tChain r r' ta tb tc) := by
  intro pins s σ H Q I h
  refine Compare_chain (thn (ha pins s σ H _ I h) fun v s1 ⟨x, H1, I1, r1, q1⟩ => chain_link (thn (hb pins s1 σ H1 _ I1 q1) fun u s2 ⟨y, H2, I2, r2, q2⟩ =>
    thn (ho pins s2 σ H2 x y v u _ I2 r1 r2 q2) fun d s3 ⟨z, H3, I3, r3, k, e, q3⟩ => ?_)) hm
  subst e
  cases r3
  refine wpAny_truthy_bool ?_
  cases k with
  | false => exact ite_ff ⟨.bl false, H3, I3, rfl, q3⟩
  | true => exact ite_tt (chain_last (thn (hc pins s3 σ H3 _ I3 q3) fun w' s4 ⟨z', H4, I4, r4, q4⟩ => ho' pins s4 σ H4 y z' u w' Q I4 r2 r4 q4))
theorem pt_chain {op op' : CmpOp} {r r' : R2} (ho : OpR X (compareOp op) r) (ho' : OpR X (compareOp op') r') (ha : PE X a ta) (hb : PE X b tb) (hc : PE X c tc)
    (hm : lastMarks [op, op'] [b, c] = false := by with_unfolding_all rfl) : PT X (.Compare a [op, op'] [b, c] pos) (tTest (tChain r r' ta tb tc)) := by
  intro pins s σ H Q I h
  refine isTrue_chain (thn (ha pins s σ H _ I h) fun v s1 ⟨x, H1, I1, r1, q1⟩ => test_link (thn (hb pins s1 σ H1 _ I1 q1) fun u s2 ⟨y, H2, I2, r2, q2⟩ =>
    thn (ho pins s2 σ H2 x y v u _ I2 r1 r2 q2) fun d s3 ⟨z, H3, I3, r3, k, e, q3⟩ => ?_)) hm
  subst e
  cases r3
  refine wpAny_truthy_bool ?_
  cases k with
  | false =>
    obtain ⟨k', e', q'⟩ := q3
    cases e'
    exact ite_ff ⟨H3, I3, q'⟩
  | true =>
    refine ite_tt (test_last (thn (hc pins s3 σ H3 _ I3 q3) fun w' s4 ⟨z', H4, I4, r4, q4⟩ => thn (ho' pins s4 σ H4 y z' u w' _ I4 r2 r4 q4) fun d' s5 ⟨z2, H5, I5, r5, k2, e2, q5⟩ => ?_))
    subst e2
    cases r5
    exact wpAny_truthy_bool ⟨H5, I5, q5⟩

/-! ### truth -/
/-- a value's truth by the abstract heap -/
def TruV (K : PySem.W.Frag) (x : V) (H : Hp) (k : Bool) : Prop :=
  match x with
  | .non => k = false
  | .bl b => k = b
  | .int i => k = (i != 0)
  | .str y => y.length ≤ sizeLine ∧ k = ((y.length : Int) != 0)
  | .byt y => y.size ≤ sizeLine ∧ k = ((y.size : Int) != 0)
  | .ref p => (∃ xs, SqL K H p xs ∧ k = !xs.isEmpty) ∨ (∃ xs, SqT K H p xs ∧ k = !xs.isEmpty) ∨ ∃ kvs, H p = some (.dK kvs) ∧ k = !kvs.isEmpty
  | _ => False
theorem isEmpty_kv {κ : Type} {kvs : List (κ × V)} {vs : List (κ × Value)} (r : KV kvs vs) : (!vs.isEmpty) = !kvs.isEmpty := by
  cases r <;> rfl
theorem isEmpty_of {xs : List V} {its : List Value} (r : Vals xs its) : (!its.toArray.isEmpty) = !xs.isEmpty := by
  cases r <;> simp
theorem line63 : (sizeLine : Nat) < 2 ^ 63 := by rw [sizeLine_eq]; decide
theorem tru_ok : TruR X (fun x H Q => ∃ k, TruV X.K x H k ∧ Q k H) := by
  intro pins s σ H x v Q I rx h
  obtain ⟨k, e, q⟩ := h
  have hl := line63
  have hs : sizeLine = 16777216 := sizeLine_eq
  cases x with
  | non =>
    cases rx
    have e' : k = false := e
    subst e'
    exact truthy_none ⟨H, I, q⟩
  | bl b =>
    cases rx
    have e' : k = b := e
    subst e'
    exact wpAny_truthy_bool ⟨H, I, q⟩
  | int i =>
    obtain ⟨t, rfl⟩ := rx
    have e' : k = (i != 0) := e
    subst e'
    exact PySem.P.truthy_int ⟨H, I, q⟩
  | str y =>
    obtain ⟨t, rfl⟩ := rx
    obtain ⟨hy, e'⟩ : y.length ≤ sizeLine ∧ k = ((y.length : Int) != 0) := e
    subst e'
    exact PySem.P.truthy_str (by omega) ⟨H, I.tok _, q⟩
  | byt y =>
    obtain ⟨t, rfl⟩ := rx
    obtain ⟨hy, e'⟩ : y.size ≤ sizeLine ∧ k = ((y.size : Int) != 0) := e
    subst e'
    exact PySem.W.truthy_bytes (by omega) ⟨H, I.tok _, q⟩
  | ref p =>
    cases rx
    have e' : (∃ xs, SqL X.K H p xs ∧ k = !xs.isEmpty) ∨ (∃ xs, SqT X.K H p xs ∧ k = !xs.isEmpty) ∨ ∃ kvs, H p = some (.dK kvs) ∧ k = !kvs.isEmpty := e
    rcases e' with ⟨xs, hx, e'⟩ | ⟨xs, hx, e'⟩ | ⟨kvs, hx, e'⟩
    · subst e'
      obtain ⟨its, r, pl, hz⟩ := I.list hx
      have hlen := r.length
      exact wpAny_truthy_list pl.isList (by simp only [List.size_toArray]; omega) ⟨H, I.tok _, by rw [isEmpty_of r]; exact q⟩
    · subst e'
      obtain ⟨its, r, pl, hz⟩ := I.tuple hx
      have hlen := r.length
      exact truthy_tuple pl (by simp only [List.size_toArray]; omega) ⟨H, I.tok _, by rw [isEmpty_of r]; exact q⟩
    · subst e'
      obtain ⟨hz, hS, vs, r, m⟩ : kvs.length ≤ sizeLine ∧ (p == sysModules) = false ∧ ∃ vs, KV kvs vs ∧ s.heap.DictOf (mixKind X.prog X.w) p vs := I.hok p _ hx
      have hlen : kvs.length = vs.length := Paired.length r
      exact wpAny_truthy_dict hS m (by omega) ⟨H, I.tok _, by rw [isEmpty_kv r]; exact q⟩
  | _ => exact (show False from e).elim
/-- any expression whose test is its value's truth (a name, a call, a subscript, a field ..: he by fun _ => rfl) -/
theorem pt_truth (ha : PE X a ta) (he : ∀ whole, isTrue a X.env whole = (do let v ← whole; standAt a.pos; holding [v] (truthy v))) :
    PT X a (fun σ H Q => ta σ H fun x H' => ∃ k, TruV X.K x H' k ∧ Q k H') := by
  intro pins s σ H Q I h
  exact isTrue_plain (thn (ha pins s σ H _ I h) fun v s1 ⟨x, H1, I1, r1, q1⟩ => tru_ok pins s1 σ H1 x v Q I1 r1 q1) (he _)

/-! ### strs and bytes -/
theorem pe_byt {x : List UInt8} {k : Nat} : PE X (.Constant (.bytes x) k pos) (fun _ H Q => Q (.byt x.toArray) H) := fun _ _ _ H _ I h => PySem.W.Constant_bytes ⟨.byt x.toArray, H, I.tok _, ⟨_, rfl⟩, h⟩
theorem op_add_str : OpR X (binaryOp .Add) (fun x y H Q => ∃ i j, x = .str i ∧ y = .str j ∧ i.length + j.length ≤ sizeLine ∧ Q (.str (i ++ j)) H) := by
  intro pins s σ H x y v u Q I rx ry h
  obtain ⟨i, j, rfl, rfl, hz, q⟩ := h
  obtain ⟨t, rfl⟩ := rx
  obtain ⟨t', rfl⟩ := ry
  exact add_str (fun t' tk => ⟨.str (i ++ j), H, I.tok _, ⟨_, rfl⟩, q⟩) hz
theorem iop_add_str : OpR X (inplaceOp .Add) (fun x y H Q => ∃ i j, x = .str i ∧ y = .str j ∧ i.length + j.length ≤ sizeLine ∧ Q (.str (i ++ j)) H) := by
  intro pins s σ H x y v u Q I rx ry h
  obtain ⟨i, j, rfl, rfl, hz, q⟩ := h
  obtain ⟨t, rfl⟩ := rx
  obtain ⟨t', rfl⟩ := ry
  exact iadd_str (fun t' tk => ⟨.str (i ++ j), H, I.tok _, ⟨_, rfl⟩, q⟩) hz
theorem op_add_byt : OpR X (binaryOp .Add) (fun x y H Q => ∃ i j, x = .byt i ∧ y = .byt j ∧ i.size + j.size ≤ 16777216 ∧ Q (.byt (i ++ j)) H) := by
  intro pins s σ H x y v u Q I rx ry h
  obtain ⟨i, j, rfl, rfl, hz, q⟩ := h
  obtain ⟨t, rfl⟩ := rx
  obtain ⟨t', rfl⟩ := ry
  exact PySem.W.KBy.add_bytes hz (fun t' tk => ⟨.byt (i ++ j), H, I.tok _, ⟨_, rfl⟩, q⟩)

def PlainIxT (b : Expr) : Prop := ∀ o i, subscripted b false o i = operate [o, i] (getItem o i)
/-- s[i], 0 ≤ i < len -/
theorem pe_item_str (ha : PE X a ta) (hb : PE X b tb) (hs : PlainIxT b) :
    PE X (.Subscript a b pos) (tOp (fun x y H Q => ∃ z i c, x = .str z ∧ y = .int i ∧ 0 ≤ i ∧ i < 2 ^ 63 ∧ i < z.length ∧ z.cps[i.toNat]? = some c ∧ Q (.str ⟨#[c]⟩) H) ta tb) := by
  intro pins s σ H Q I h
  refine Subscript_ (binT ha hb I h fun v u s2 x y H2 I2 rx ry q => ?_)
  obtain ⟨z, i, c, rfl, rfl, h0, h63, h1, hc, q⟩ := q
  obtain ⟨t, rfl⟩ := rx
  obtain ⟨t', rfl⟩ := ry
  have e : seqIndex? i z.length = some i.toNat := PySem.StrLaws.seqIndex_nonneg h0 h1
  exact tail_any (typeIs_str s2 z t) slot_str_getitem.lookup (getItem_str (c := c) (by
    have e1 : decide (i < -(2 ^ 63 : Int)) = false := decide_eq_false (by omega)
    have e2 : decide (i ≥ 2 ^ 63) = false := decide_eq_false (by omega)
    rw [e1, e2] <;> rfl) (by rw [e]; exact hc) ⟨.str ⟨#[c]⟩, H2, I2.tok _, ⟨_, rfl⟩, q⟩) (hs _ _)
/-- b[i], 0 ≤ i < len -/
theorem pe_item_byt (ha : PE X a ta) (hb : PE X b tb) (hs : PlainIxT b) :
    PE X (.Subscript a b pos) (tOp (fun x y H Q => ∃ (z : List UInt8) (i : Int), x = .byt z.toArray ∧ y = .int i ∧ z.length ≤ sizeLine ∧ 0 ≤ i ∧ i < z.length ∧ Q (.int ((z.getD i.toNat 0).toNat : Nat)) H) ta tb) := by
  intro pins s σ H Q I h
  refine Subscript_ (binT ha hb I h fun v u s2 x y H2 I2 rx ry q => ?_)
  obtain ⟨z, i, rfl, rfl, hz, h0, h1, q⟩ := q
  obtain ⟨t, rfl⟩ := rx
  obtain ⟨t', rfl⟩ := ry
  have hl : sizeLine = 16777216 := sizeLine_eq
  exact tail_any (PySem.W.typeIs_bytes s2 z.toArray t) PySem.W.FB.slot_bytes_getitem.lookup (PySem.W.getItem_bytes (by omega) h0 h1 ⟨.int ((z.getD i.toNat 0).toNat : Nat), H2, I2.tok _, ⟨_, rfl⟩, q⟩) (hs _ _)

/-! ### scalar builtins, by CallR -/
theorem vals1 {x : V} {us : List Value} (r : Vals [x] us) : ∃ u, us = [u] ∧ RelV x u := by
  cases r with
  | cons r1 r2 => cases r2; exact ⟨_, rfl, r1⟩
theorem vals2 {x y : V} {us : List Value} (r : Vals [x, y] us) : ∃ u w', us = [u, w'] ∧ RelV x u ∧ RelV y w' := by
  cases r with
  | cons r1 r2 =>
    cases r2 with
    | cons r3 r4 => cases r4; exact ⟨_, _, rfl, r1, r3⟩
theorem call_abs : CallR X (.builtin "abs") (fun xs H Q => ∃ i, xs = [.int i] ∧ Q (.int (if i < 0 then -i else i)) H) := by
  intro pins s σ H xs us Q I r h
  obtain ⟨i, rfl, q⟩ := h
  obtain ⟨u, rfl, t, rfl⟩ := vals1 r
  exact call_abs_int fun u tk => ⟨.int (if i < 0 then -i else i), H, I.tok _, ⟨_, rfl⟩, q⟩
theorem call_max2 (hc : X.calm = true) : CallR X (.builtin "max") (fun xs H Q => ∃ i j, xs = [.int i, .int j] ∧ Q (.int (if j > i then j else i)) H) := by
  intro pins s σ H xs us Q I r h
  obtain ⟨i, j, rfl, q⟩ := h
  obtain ⟨u, w', rfl, ⟨t, rfl⟩, ⟨t', rfl⟩⟩ := vals2 r
  refine max_two_ints (I.ok.hd hc) fun h' tk k => ⟨_, H, I.kept k, ?_, q⟩
  by_cases hj : j > i
  · rw [if_pos hj, if_pos hj]; exact ⟨_, rfl⟩
  · rw [if_neg hj, if_neg hj]; exact ⟨_, rfl⟩
theorem call_min2 (hc : X.calm = true) : CallR X (.builtin "min") (fun xs H Q => ∃ i j, xs = [.int i, .int j] ∧ Q (.int (if j < i then j else i)) H) := by
  intro pins s σ H xs us Q I r h
  obtain ⟨i, j, rfl, q⟩ := h
  obtain ⟨u, w', rfl, ⟨t, rfl⟩, ⟨t', rfl⟩⟩ := vals2 r
  refine min_two_ints (I.ok.hd hc) fun h' tk k => ⟨_, H, I.kept k, ?_, q⟩
  by_cases hj : j < i
  · rw [if_pos hj, if_pos hj]; exact ⟨_, rfl⟩
  · rw [if_neg hj, if_neg hj]; exact ⟨_, rfl⟩
theorem call_int1 : CallR X (.type "int") (fun xs H Q => (∃ i, xs = [.int i] ∧ Q (.int i) H) ∨ ∃ k, xs = [.bl k] ∧ Q (.int (if k then 1 else 0)) H) := by
  intro pins s σ H xs us Q I r h
  rcases h with ⟨i, rfl, q⟩ | ⟨k, rfl, q⟩
  · obtain ⟨u, rfl, t, rfl⟩ := vals1 r
    exact call_int_int ⟨.int i, H, I, ⟨_, rfl⟩, q⟩
  · obtain ⟨u, rfl, r1⟩ := vals1 r
    cases r1
    exact call_int_bool ⟨.int (if k then 1 else 0), H, I.tok _, ⟨_, rfl⟩, q⟩
theorem call_bool1 : CallR X (.type "bool") (fun xs H Q => (∃ i, xs = [.int i] ∧ Q (.bl (i != 0)) H) ∨ ∃ k, xs = [.bl k] ∧ Q (.bl k) H) := by
  intro pins s σ H xs us Q I r h
  rcases h with ⟨i, rfl, q⟩ | ⟨k, rfl, q⟩
  · obtain ⟨u, rfl, t, rfl⟩ := vals1 r
    exact call_bool_int ⟨.bl (i != 0), H, I, rfl, q⟩
  · obtain ⟨u, rfl, r1⟩ := vals1 r
    cases r1
    exact call_bool_bool ⟨.bl k, H, I, rfl, q⟩
theorem call_str_int : CallR X (.type "str") (fun xs H Q => ∃ i, xs = [.int i] ∧ i.natAbs.log2 < 1920 ∧ Q (.str (toString i)) H) := by
  intro pins s σ H xs us Q I r h
  obtain ⟨i, rfl, hz, q⟩ := h
  obtain ⟨u, rfl, t, rfl⟩ := vals1 r
  exact PySem.P.str_of_int hz ⟨.str _, H, I.tok _, ⟨_, rfl⟩, q⟩
theorem call_ord : CallR X (.builtin "ord") (fun xs H Q => ∃ x, xs = [.str x] ∧ x.length = 1 ∧ Q (.int (x.cps.getD 0 0 : Nat)) H) := by
  intro pins s σ H xs us Q I r h
  obtain ⟨x, rfl, hz, q⟩ := h
  obtain ⟨u, rfl, t, rfl⟩ := vals1 r
  exact ord_of_one hz ⟨.int _, H, I.tok _, ⟨_, rfl⟩, q⟩
theorem call_chr : CallR X (.builtin "chr") (fun xs H Q => ∃ i, xs = [.int i] ∧ 0 ≤ i ∧ i ≤ 1114111 ∧ Q (.str ⟨#[i.toNat]⟩) H) := by
  intro pins s σ H xs us Q I r h
  obtain ⟨i, rfl, h0, h1, q⟩ := h
  obtain ⟨u, rfl, t, rfl⟩ := vals1 r
  exact chr_of_range h0 h1 ⟨.str _, H, I.tok _, ⟨_, rfl⟩, q⟩
/-- len of a str, a bytes, a list, a tuple -/
def LenV (K : PySem.W.Frag) (x : V) (H : Hp) (n : Nat) : Prop :=
  match x with
  | .str y => y.length ≤ sizeLine ∧ n = y.length
  | .byt y => y.size ≤ sizeLine ∧ n = y.size
  | .ref p => (∃ xs, SqL K H p xs ∧ n = xs.length) ∨ ∃ xs, SqT K H p xs ∧ n = xs.length
  | _ => False
theorem call_len : CallR X (.builtin "len") (fun xs H Q => ∃ x n, xs = [x] ∧ LenV X.K x H n ∧ Q (.int n) H) := by
  intro pins s σ H xs us Q I r h
  obtain ⟨x, n, rfl, e, q⟩ := h
  obtain ⟨u, rfl, rx⟩ := vals1 r
  have hl := line63
  have hs : sizeLine = 16777216 := sizeLine_eq
  cases x with
  | str y =>
    obtain ⟨t, rfl⟩ := rx
    obtain ⟨hy, e'⟩ : y.length ≤ sizeLine ∧ n = y.length := e
    subst e'
    exact len_str (by omega) ⟨.int _, H, I.tok _, ⟨_, rfl⟩, q⟩
  | byt y =>
    obtain ⟨t, rfl⟩ := rx
    obtain ⟨hy, e'⟩ : y.size ≤ sizeLine ∧ n = y.size := e
    subst e'
    exact PySem.W.len_bytes (by omega) ⟨.int _, H, I.tok _, ⟨_, rfl⟩, q⟩
  | ref p =>
    cases rx
    have e' : (∃ xs, SqL X.K H p xs ∧ n = xs.length) ∨ ∃ xs, SqT X.K H p xs ∧ n = xs.length := e
    rcases e' with ⟨xs, hx, e'⟩ | ⟨xs, hx, e'⟩
    · subst e'
      obtain ⟨its, r', pl, hz⟩ := I.list hx
      have hlen := r'.length
      exact Calls.call_len_list pl.isList (by simp only [List.size_toArray]; omega) ⟨.int xs.length, H, I.tok _, ⟨_, by simp only [List.size_toArray]; rw [hlen]⟩, q⟩
    · subst e'
      obtain ⟨its, r', pl, hz⟩ := I.tuple hx
      have hlen := r'.length
      exact len_tuple pl (by simp only [List.size_toArray]; omega) ⟨.int xs.length, H, I.tok _, ⟨_, by simp only [List.size_toArray]; rw [hlen]⟩, q⟩
  | _ => exact (show False from e).elim
/-- divmod: a new tuple -/
theorem call_divmod : CallR X (.builtin "divmod") (fun xs H Q => ∃ i j, xs = [.int i, .int j] ∧ CDiv i j ∧ ∀ p, H p = none → Q (.ref p) (upd H p (.tup [.int (i / j), .int (i % j)]))) := by
  intro pins s σ H xs us Q I r h
  obtain ⟨i, j, rfl, ⟨h1, h2⟩, q⟩ := h
  obtain ⟨u, w', rfl, ⟨t, rfl⟩, ⟨t', rfl⟩⟩ := vals2 r
  refine divmod_int (by omega) ?_ (.inl (PyProof.noPylong_small (by omega)))
  rw [Int.fdiv_eq_ediv_of_nonneg i (by omega), Int.fmod_eq_emod_of_nonneg i (by omega)]
  have hn : H s.heap.objs.size = none := I.hok.fresh (Nat.le_refl _)
  refine ⟨.ref s.heap.objs.size, _, ?_, rfl, q _ hn⟩
  refine I.laid (fun b o e => Heap.get?_push_of_some _ e) (Nat.le_refl _) ⟨by simp only [List.length_cons, List.length_nil]; rw [sizeLine_eq]; decide, [.int (i / j) s.toks, .int (i % j) (s.toks + 1)], .cons ⟨_, rfl⟩ (.cons ⟨_, rfl⟩ .nil), ?_⟩
  exact ⟨_, Heap.get?_push_size s.heap rfl, rfl, 0, rfl⟩
end
end L2

namespace L2
open PySem PySem.Spec PyProof.Rows

/-! ### an instance, its attributes a map -/
structure ObjM (h : Heap) (x dx C : Addr) (mA : Str → Option Value) : Prop where
  obj : h.get? x = some (PySem.W.instObj C dx)
  ns : h.Ns1 dx mA
  ne : dx ≠ x

theorem lookIn_ns {h : Heap} {dx : Addr} {mA : Str → Option Value} (n : h.Ns1 dx mA) : ∃ od, h.get? dx = some od ∧ ∀ name, PySem.W.lookIn name od = some (mA name) := by
  obtain ⟨o, es, ep, ho, hd, hk, _, hm⟩ := n
  refine ⟨o, ho, fun name => ?_⟩
  have e := hm name
  unfold nsFind findBy at e
  rw [← Array.find?_toList] at e
  unfold PySem.W.lookIn
  rw [hd]
  dsimp only
  split
  · rename_i y q
    rw [q] at e
    exact congrArg some e
  · rename_i q
    rw [q] at e
    have a : es.toList.any (·.refKey) = false := by
      rw [List.any_eq_false]
      intro y hy
      obtain ⟨z, t, hkey⟩ := hk y (Array.mem_toList_iff.mp hy)
      simp [DictEntry.refKey, hkey]
    have a' : ¬ es.toList.any (·.refKey) = true := by rw [a]; exact Bool.false_ne_true
    rw [if_neg a']
    exact congrArg some e

theorem ObjM.look {h : Heap} {x dx C : Addr} {mA : Str → Option Value} (I : ObjM h x dx C mA) : ∃ od, PySem.W.InstAt h x (PySem.W.instObj C dx) C (some od) ∧ ∀ name, PySem.W.lookIn name od = some (mA name) :=
  let ⟨od, ho, hl⟩ := lookIn_ns I.ns
  ⟨od, ⟨I.obj, rfl, rfl, ho⟩, hl⟩

section
variable {prog : Program} {w : World} {A : Around} {E : Value → Shared → Prop} {s : Shared} {K : PySem.W.Frag} {x dx C f : Addr} {mA : Str → Option Value} {name : Str} {v : Value}

theorem get_map {expr : Bool} {Q : Value → Shared → Prop} (X : K.In s.heap) (I : ObjM s.heap x dx C mA) (hg : PySem.W.plainGet K C name = true) (hh : PySem.W.hasDictIn K C = true)
    (ha : PySem.W.findIn K (.ref C) name = some none) (hv : mA name = some v) (hv' : PySem.W.handedIn v = true) (h : Q v { s with toks := s.toks + 1 }) :
    wpAny (model prog w) A (getAttr (.ref x) name expr) Q E s := by
  obtain ⟨od, J, hl⟩ := I.look
  exact PySem.W.get_value X J (PySem.W.plainGet_of hg).1 (PySem.W.findObj_own hh ha rfl (by rw [hl, hv])) hv' h

theorem get_const {expr : Bool} {a : Value} {Q : Value → Shared → Prop} (X : K.In s.heap) (I : ObjM s.heap x dx C mA) (hg : PySem.W.plainGet K C name = true) (hh : PySem.W.hasDictIn K C = true)
    (ha : PySem.W.findIn K (.ref C) name = some (some a)) (hn : PySem.W.specialIn K a "__get__" = some none) (hc : PySem.W.copiedNames.contains name = false) (hv : mA name = none) (hv' : PySem.W.handedIn a = true)
    (h : Q a { s with toks := s.toks + 1 }) : wpAny (model prog w) A (getAttr (.ref x) name expr) Q E s := by
  obtain ⟨od, J, hl⟩ := I.look
  exact PySem.W.get_value X J (PySem.W.plainGet_of hg).1 (PySem.W.findObj_cls hh ha hn hv' hc (by rw [hl, hv])) hv' h

theorem get_meth {pl : Sem Bool} {Q : Value × List Value → Shared → Prop} (X : K.In s.heap) (I : ObjM s.heap x dx C mA) (hg : PySem.W.plainGet K C name = true)
    (hf : PySem.W.findIn K (.ref C) name = some (some (.ref f))) (ht : PySem.W.isFn K (.ref f) = true) (hv : mA name = none) (h : Q (.ref f, [.ref x]) s) :
    wpAny (model prog w) A (getMethod (.ref x) name pl) Q E s := by
  obtain ⟨od, J, hl⟩ := I.look
  exact PySem.W.method_fn X J (PySem.W.plainGet_of hg).1 (PySem.W.plainGet_of hg).2 hf (beq_iff_eq.mp ht) (by show (PySem.W.lookIn name od).map (·.isSome) = some false; rw [hl, hv]; rfl) h

theorem set_map {ns : List Str} {Q : Unit → Shared → Prop} (X : K.In s.heap) (I : ObjM s.heap x dx C mA)
    (hs : PySem.W.findIn K (.ref C) "__setattr__" = some (some (.builtin "object.__setattr__"))) (hp : PySem.W.plainOver K C = true) (ht : PySem.W.takerIn K C name = some none) (hh : PySem.W.hasDictIn K C = true)
    (hw : PySem.Within mA ns) (hsz : ns.length ≤ sizeLine)
    (h : ∀ h', ObjM h' x dx C (fun y => if y = name then some v else mA y) → Heap.SameBut dx s.heap h' → Q () { s with heap := h', toks := s.toks + 2 }) :
    wpAny (model prog w) A (setAttr (.ref x) name v) Q E s := by
  obtain ⟨od, J, hl⟩ := I.look
  refine PySem.W.set_plain X J hs (PySem.W.osa_open (s := { s with toks := s.toks + 1 }) (r := none) X J hp ht fun b => ?_)
  obtain ⟨cd, hc, hd'⟩ := PySem.W.any_some hh
  have hx : s.heap.get? x = some ⟨.ref C, some dx, .plain, #[]⟩ := I.obj
  refine wpAny_bind (wpAny_pure (wpAny_bind (wpAny_bind (wpAny_loadPart hx (wpAny_bind (PySem.W.Looks.here (s := { s with toks := s.toks + 1 }) (PySem.W.looks_clsIn X hc) ?_))))))
  rw [hd']
  refine wpAny_pure (a := some dx) (wpAny_bind (wpAny_pure (wpAny_bind ?_)))
  refine wpAny_nsSet1 (s := { s with toks := s.toks + 1 }) I.ns fun h' hn2 hs2 => ?_
  obtain ⟨oD, esD, epD, hoD, hdD, hcD⟩ := hn2.count (PySem.Within.cons name v hw)
  refine wpAny_bind (wpAny_lookBehind hoD (by rw [hdD]; exact pastItsLine_dict (Nat.le_trans hcD (by rw [List.length_cons]; omega))) ?_)
  exact wpAny_pure (h _ ⟨(hs2.2 _ (Ne.symm I.ne)).trans I.obj, hn2, I.ne⟩ hs2)

/-- C(..): the dict at the heap's end, the instance behind it; then its __init__ -/
theorem make_map {R : Result → Shared → Prop} {vs : List Value} {kw : List (Str × Value)} (X : K.In s.heap) (hm : PySem.W.makesIn K C = true)
    (hi : PySem.W.findIn K (.ref C) "__init__" = some (some (.ref f))) (hf : PySem.W.typeIn K (.ref f) = some (.type "function"))
    (h : codeAny (model prog w) (A.under (.builtin "type.__call__" ⟨.ref C :: vs, kw⟩)) (.call (.ref f) ⟨.ref (s.heap.objs.size + 1) :: vs, kw⟩) (PySem.W.InitBack (s.heap.objs.size + 1) R)
      { s with heap := (s.heap.push PySem.W.emptyDict).push (PySem.W.instObj C s.heap.objs.size) }) :
    codeAny (model prog w) A (.call (.ref C) ⟨vs, kw⟩) R s := by
  obtain ⟨hh, g, d, t, os⟩ := s
  exact PySem.W.make_core (PySem.W.makes_of X hm) (PySem.W.looks_findIn X hi) (fun self => PySem.W.bind_fn X self hf) (.inl rfl) h
/-- C() where there is no __init__ but object's -/
theorem make_map0 {R : Result → Shared → Prop} (X : K.In s.heap) (hm : PySem.W.makesIn K C = true)
    (hi : PySem.W.findIn K (.ref C) "__init__" = some (some (.builtin "object.__init__")))
    (hb : ∀ self, PySem.W.Looks (model prog w) s.heap (bindSpecial (.builtin "object.__init__") self) (.builtin "object.__init__", [self]))
    (h : codeAny (model prog w) (A.under (.builtin "type.__call__" ⟨[.ref C], []⟩)) (.call (.builtin "object.__init__") ⟨[.ref (s.heap.objs.size + 1)], []⟩) (PySem.W.InitBack (s.heap.objs.size + 1) R)
      { s with heap := (s.heap.push PySem.W.emptyDict).push (PySem.W.instObj C s.heap.objs.size) }) :
    codeAny (model prog w) A (.call (.ref C) ⟨[], []⟩) R s := by
  obtain ⟨hh, g, d, t, os⟩ := s
  exact PySem.W.make_core (PySem.W.makes_of X hm) (PySem.W.looks_findIn X hi) hb (.inr ⟨rfl, rfl⟩) h
end

/-! ### the attributes as a list of pairs -/
def putF (f : Str) (v : V) : List (Str × V) → List (Str × V)
  | [] => [(f, v)]
  | (g, x) :: r => if g = f then (g, v) :: r else (g, x) :: putF f v r
theorem lookup_putF (f g : Str) (v : V) : ∀ fs : List (Str × V), (putF f v fs).lookup g = if g = f then some v else fs.lookup g
  | [] => by
    show List.lookup g [(f, v)] = _
    by_cases h : g = f
    · have hb : (g == f) = true := beq_iff_eq.mpr h
      simp only [List.lookup, hb, if_pos h]
    · have hb : (g == f) = false := beq_eq_false_iff_ne.mpr h
      simp only [List.lookup, hb, if_neg h]
  | (k, x) :: r => by
    have ih := lookup_putF f g v r
    rw [show putF f v ((k, x) :: r) = (if k = f then (k, v) :: r else (k, x) :: putF f v r) from rfl]
    by_cases hk : k = f
    · rw [if_pos hk]
      by_cases h : g = k
      · have hb : (g == k) = true := beq_iff_eq.mpr h
        simp only [List.lookup, hb, if_pos (h.trans hk)]
      · have hb : (g == k) = false := beq_eq_false_iff_ne.mpr h
        simp only [List.lookup, hb, if_neg (fun e : g = f => h (e.trans hk.symm))]
    · rw [if_neg hk]
      by_cases h : g = k
      · have hb : (g == k) = true := beq_iff_eq.mpr h
        simp only [List.lookup, hb, if_neg (fun e : g = f => hk (h.symm.trans e))]
      · have hb : (g == k) = false := beq_eq_false_iff_ne.mpr h
        simp only [List.lookup, hb]
        exact ih
theorem keys_putF (f : Str) (v : V) : ∀ fs : List (Str × V), f ∈ (putF f v fs).map (·.1) ∧ ∀ g, g ∈ fs.map (·.1) → g ∈ (putF f v fs).map (·.1)
  | [] => ⟨by simp [putF], fun g h => by simp at h⟩
  | (k, x) :: r => by
    obtain ⟨i1, i2⟩ := keys_putF f v r
    rw [show putF f v ((k, x) :: r) = (if k = f then (k, v) :: r else (k, x) :: putF f v r) from rfl]
    by_cases hk : k = f
    · rw [if_pos hk]
      subst hk
      exact ⟨by simp, fun g h => by simpa using h⟩
    · rw [if_neg hk]
      refine ⟨?_, fun g h => ?_⟩
      · rw [List.map_cons]
        exact List.mem_cons_of_mem _ i1
      · rw [List.map_cons] at h ⊢
        rcases List.mem_cons.mp h with e | e
        · exact List.mem_cons.mpr (.inl e)
        · exact List.mem_cons_of_mem _ (i2 g e)
theorem length_putF (f : Str) (v : V) : ∀ fs : List (Str × V), (putF f v fs).length ≤ fs.length + 1
  | [] => by simp [putF]
  | (k, x) :: r => by
    have ih := length_putF f v r
    rw [show putF f v ((k, x) :: r) = (if k = f then (k, v) :: r else (k, x) :: putF f v r) from rfl]
    by_cases hk : k = f
    · rw [if_pos hk, List.length_cons, List.length_cons]; omega
    · rw [if_neg hk, List.length_cons, List.length_cons]; omega

theorem RelO.some_of {v : V} {o : Option Value} (r : RelO (some v) o) : ∃ u, o = some u ∧ RelV v u := by
  cases o with
  | none => exact (show False from r).elim
  | some u => exact ⟨u, rfl, r⟩
theorem RelO.none_of {o : Option Value} (r : RelO none o) : o = none := by
  cases o with
  | none => rfl
  | some u => exact (show False from r).elim
theorem handed_of {v : V} {u : Value} (r : RelV v u) : PySem.W.handedIn u = true := by
  cases v with
  | non => cases (show u = Value.none from r); rfl
  | bl b => cases (show u = Value.bool b from r); rfl
  | int i => obtain ⟨t, e⟩ := (show ∃ t, u = Value.int i t from r); cases e; rfl
  | str x => obtain ⟨t, e⟩ := (show ∃ t, u = Value.str x t from r); cases e; rfl
  | byt b => obtain ⟨t, e⟩ := (show ∃ t, u = Value.bytes b t from r); cases e; rfl
  | flt b => obtain ⟨t, e⟩ := (show ∃ t, u = Value.float b t from r); cases e; rfl
  | ref a => cases (show u = Value.ref a from r); rfl
  | ty n => cases (show u = Value.type n from r); rfl

section
variable {P : Program} {w : World} {H H' : Hp} {h h' : Heap} {a C dx : Addr} {fs fs' : List (Str × V)}
theorem ins_get (hok : HOk P w H h) (e : H a = some (.ins C dx fs)) : ∃ mA, ObjM h a dx C mA ∧ (∀ f, RelO (fs.lookup f) (mA f)) ∧ PySem.Within mA (fs.map (·.1)) ∧ fs.length ≤ 1000 ∧ H dx = some (.own a) := by
  obtain ⟨d, z, ne, ob, mA, n, r, q⟩ := (show ObjOk P w H h a (.ins C dx fs) from hok a _ e)
  exact ⟨mA, ⟨ob, n, ne⟩, r, q, z, d⟩
end

/-! ### what of the text a class must have -/
structure Cls (K : PySem.W.Frag) (C : Addr) : Prop where
  pg : PySem.W.plainGet K C Str.empty = true
  hd : PySem.W.hasDictIn K C = true
  po : PySem.W.plainOver K C = true
  sa : PySem.W.findIn K (.ref C) "__setattr__" = some (some (.builtin "object.__setattr__"))
theorem Cls.get {K : PySem.W.Frag} {C : Addr} (c : Cls K C) (f : Str) : PySem.W.plainGet K C f = true := c.pg
/-- no class of it has the name -/
def NoAttr (K : PySem.W.Frag) (C : Addr) (f : Str) : Prop := PySem.W.findIn K (.ref C) f = some none
theorem NoAttr.taker {K : PySem.W.Frag} {C : Addr} {f : Str} (n : NoAttr K C f) : PySem.W.takerIn K C f = some none := by
  unfold PySem.W.takerIn
  rw [show PySem.W.findIn K (.ref C) f = some none from n]
  rfl
/-- a constant of the class -/
structure Con (K : PySem.W.Frag) (C : Addr) (f : Str) (v : V) (u : Value) : Prop where
  at_ : PySem.W.findIn K (.ref C) f = some (some u)
  rel : RelV v u
  get : PySem.W.specialIn K u "__get__" = some none
  cp : PySem.W.copiedNames.contains f = false
/-- a method: a plain def of the class or of one above it -/
structure Meth (K : PySem.W.Frag) (C : Addr) (m : Str) (f : Addr) : Prop where
  at_ : PySem.W.findIn K (.ref C) m = some (some (.ref f))
  fn : PySem.W.isFn K (.ref f) = true
  kp : PySem.W.keepIn K (.ref f) = true

section
variable {X : Cx} {pins : List (Addr × Obj)} {σ : St} {H : Hp} {s : Shared} {a C dx : Addr} {fs : List (Str × V)} {f : Str} {v : V} {A : Around} {E : Value → Shared → Prop}

theorem getattr_ok {b : Bool} {Q : Value → Shared → Prop} (I : Inv X pins σ H s) (e : H a = some (.ins C dx fs)) (c : Cls X.K C) (n : NoAttr X.K C f) (l : fs.lookup f = some v)
    (h : ∀ u s', Inv X pins σ H s' → RelV v u → Q u s') : wpAny (model X.prog X.w) A (getAttr (.ref a) f b) Q E s := by
  obtain ⟨mA, O, r, _, _, _⟩ := ins_get I.hok e
  obtain ⟨u, hu, ru⟩ := RelO.some_of (v := v) (o := mA f) (by rw [← l]; exact r f)
  exact get_map I.kIn O (c.get f) c.hd n hu (handed_of ru) (h u _ (I.tok _) ru)

theorem getcon_ok {b : Bool} {u : Value} {Q : Value → Shared → Prop} (I : Inv X pins σ H s) (e : H a = some (.ins C dx fs)) (c : Cls X.K C) (k : Con X.K C f v u) (l : fs.lookup f = none)
    (h : ∀ s', Inv X pins σ H s' → Q u s') : wpAny (model X.prog X.w) A (getAttr (.ref a) f b) Q E s := by
  obtain ⟨mA, O, r, _, _, _⟩ := ins_get I.hok e
  have hn : mA f = none := RelO.none_of (by rw [← l]; exact r f)
  exact get_const I.kIn O (c.get f) c.hd k.at_ k.get k.cp hn (handed_of k.rel) (h _ (I.tok _))

theorem getmeth_ok {m : Str} {g : Addr} {pl : Sem Bool} {Q : Value × List Value → Shared → Prop} (I : Inv X pins σ H s) (e : H a = some (.ins C dx fs)) (c : Cls X.K C) (k : Meth X.K C m g) (l : fs.lookup m = none)
    (h : Q (.ref g, [.ref a]) s) : wpAny (model X.prog X.w) A (getMethod (.ref a) m pl) Q E s := by
  obtain ⟨mA, O, r, _, _, _⟩ := ins_get I.hok e
  have hn : mA m = none := RelO.none_of (by rw [← l]; exact r m)
  exact get_meth I.kIn O (c.get m) k.at_ k.fn hn h

theorem setattr_ok {y : V} {u : Value} {Q : Unit → Shared → Prop} (I : Inv X pins σ H s) (e : H a = some (.ins C dx fs)) (c : Cls X.K C) (n : NoAttr X.K C f) (hl : fs.length < 1000) (ry : RelV y u)
    (h : ∀ s', Inv X pins σ (upd H a (.ins C dx (putF f y fs))) s' → Q () s') : wpAny (model X.prog X.w) A (setAttr (.ref a) f u) Q E s := by
  obtain ⟨mA, O, r, wi, _, ho⟩ := ins_get I.hok e
  have hz : (fs.map (·.1)).length ≤ sizeLine := by rw [List.length_map, sizeLine_eq]; omega
  refine set_map I.kIn O c.sa c.po n.taker c.hd wi hz fun h' O' sb => h _ ?_
  have hd : ∃ o, h'.get? dx = some o := let ⟨o, _, _, e', _⟩ := O'.ns; ⟨o, e'⟩
  refine I.write (x := a) (e := dx) (by rw [e]; exact True.intro) (.inr ho) (fun b q hb z => (sb.2 b hb).trans z) hd ?_
  refine ⟨by rw [upd_ne O.ne]; exact ho, ?_, O.ne, O'.obj, _, O'.ns, fun g => ?_, fun g hg => ?_⟩
  · have := length_putF f y fs; omega
  · show RelO ((putF f y fs).lookup g) (if g = f then some u else mA g)
    rw [lookup_putF]
    by_cases q : g = f
    · rw [if_pos q, if_pos q]; exact ry
    · rw [if_neg q, if_neg q]; exact r g
  · by_cases q : g = f
    · rw [q]; exact (keys_putF f y fs).1
    · refine (keys_putF f y fs).2 g (wi g fun z => hg ?_)
      show (if g = f then some u else mA g) = none
      rw [if_neg q]; exact z

/-- a new instance, tracked, without attributes -/
theorem Inv.made (I : Inv X pins σ H s) : Inv X pins σ (upd (upd H s.heap.objs.size (.own (s.heap.objs.size + 1))) (s.heap.objs.size + 1) (.ins C s.heap.objs.size []))
    { s with heap := (s.heap.push PySem.W.emptyDict).push (PySem.W.instObj C s.heap.objs.size) } := by
  have e1 : (s.heap.push PySem.W.emptyDict).get? s.heap.objs.size = some PySem.W.emptyDict := Heap.get?_push_size s.heap rfl
  have e2 : ((s.heap.push PySem.W.emptyDict).push (PySem.W.instObj C s.heap.objs.size)).get? (s.heap.objs.size + 1) = some (PySem.W.instObj C s.heap.objs.size) := by
    have := Heap.get?_push_size (s.heap.push PySem.W.emptyDict) (o := PySem.W.instObj C s.heap.objs.size) rfl
    rwa [Heap.size_push] at this
  have e3 : (s.heap.push PySem.W.emptyDict).Ns s.heap.objs.size (fun _ => none) := ⟨PySem.W.emptyDict, #[], _, e1, rfl, (fun e he => absurd he (by simp)), fun _ => rfl⟩
  have I1 := I.laid (a := s.heap.objs.size) (o := .own (s.heap.objs.size + 1)) (h' := s.heap.push PySem.W.emptyDict) (t' := s.toks) (fun b u q => Heap.get?_push_of_some _ q) (Nat.le_refl _) ⟨_, e1⟩
  refine I1.laid (a := s.heap.objs.size + 1) (o := .ins C s.heap.objs.size []) (t' := s.toks) (fun b u q => Heap.get?_push_of_some _ q) (Nat.le_of_eq (Heap.size_push _ _)) ?_
  have ne : s.heap.objs.size ≠ s.heap.objs.size + 1 := Nat.ne_of_lt (Nat.lt_succ_self _)
  refine ⟨by rw [upd_ne ne, upd_same], Nat.zero_le _, ne, e2, fun _ => none, (Heap.Ns1.of_empty e3).at fun o q => Heap.get?_push_of_some _ q, fun _ => True.intro, fun y hy => absurd rfl hy⟩

/-- e.f where nothing but the object is asked: through attributeBase (super) and the last hold -/
theorem attr_of {prog : Program} {w : World} {env : Env} {e : Expr} {f : Str} {pos : Pos} {s : Shared} {Q : Value → Shared → Prop} (hb : attributeBase e f env (eval e env) = eval e env)
    (h : wpAny (model prog w) A (eval e env) (fun o s₁ => wpAny (model prog w) A (getAttr o f true) Q E s₁) E s) : wpAny (model prog w) A (eval (.Attribute e f pos) env) Q E s :=
  Attribute_any_ h (by rw [arm_eval_Attribute, hb])
end

/-! ### readings and rules -/
/-- e.f, an attribute of the instance -/
def tFld (K : PySem.W.Frag) (ta : TE) (f : Str) : TE := fun σ H Q => ta σ H fun x H1 => ∃ a C dx fs v, x = .ref a ∧ H1 a = some (.ins C dx fs) ∧ Cls K C ∧ NoAttr K C f ∧ fs.lookup f = some v ∧ Q v H1
/-- e.f, a constant of the class -/
def tCon (K : PySem.W.Frag) (ta : TE) (f : Str) : TE := fun σ H Q => ta σ H fun x H1 => ∃ a C dx fs v u, x = .ref a ∧ H1 a = some (.ins C dx fs) ∧ Cls K C ∧ Con K C f v u ∧ fs.lookup f = none ∧ Q v H1
/-- e.f = value -/
def sFld (K : PySem.W.Frag) (ta tv : TE) (f : Str) : TS := fun D σ H => tv σ H fun y H1 => ta σ H1 fun x H2 => ∃ a C dx fs, x = .ref a ∧ H2 a = some (.ins C dx fs) ∧ Cls K C ∧ NoAttr K C f ∧ fs.length < 1000 ∧
  D.nx σ (upd H2 a (.ins C dx (putF f y fs)))
/-- an augmented operator on two values -/
def InOp (X : Cx) (op : Operator) (rd : V → V → Hp → VK → Prop) : Prop :=
  ∀ (pins : List (Addr × Obj)) (s : Shared) (σ : St) (H : Hp) (x y : V) (u v : Value) (Q : VK), Inv X pins σ H s → RelV x u → RelV y v → rd x y H Q → wpAny (model X.prog X.w) X.A (inplaceOp op u v) (EP X pins σ Q) X.xe s
/-- e.f op= value -/
def sFldAug (K : PySem.W.Frag) (ta tv : TE) (rd : V → V → Hp → VK → Prop) (f : Str) : TS := fun D σ H => ta σ H fun x H1 => ∃ a C dx fs v, x = .ref a ∧ H1 a = some (.ins C dx fs) ∧ Cls K C ∧ NoAttr K C f ∧ fs.lookup f = some v ∧
  tv σ H1 fun y H2 => rd v y H2 fun z H3 => ∃ dx' fs', H3 a = some (.ins C dx' fs') ∧ fs'.length < 1000 ∧ D.nx σ (upd H3 a (.ins C dx' (putF f z fs')))

section
variable {X : Cx} {o e value : Expr} {f : Str} {pos pos' tpos : Pos} {ta tv : TE}
theorem pe_fld (he : PE X e ta) (hb : attributeBase e f X.env (eval e X.env) = eval e X.env) : PE X (.Attribute e f pos) (tFld X.K ta f) := by
  intro pins s σ H Q I h
  refine attr_of hb (thn (he pins s σ H _ I h) fun u s1 ⟨x, H1, I1, rx, a, C, dx, fs, v, ex, ea, c, n, l, q⟩ => ?_)
  subst ex
  obtain rfl : u = Value.ref a := rx
  exact getattr_ok I1 ea c n l fun u' s2 I2 ru => ⟨v, H1, I2, ru, q⟩
theorem pe_con (he : PE X e ta) (hb : attributeBase e f X.env (eval e X.env) = eval e X.env) : PE X (.Attribute e f pos) (tCon X.K ta f) := by
  intro pins s σ H Q I h
  refine attr_of hb (thn (he pins s σ H _ I h) fun u s1 ⟨x, H1, I1, rx, a, C, dx, fs, v, u0, ex, ea, c, k, l, q⟩ => ?_)
  subst ex
  obtain rfl : u = Value.ref a := rx
  exact getcon_ok I1 ea c k l fun s2 I2 => ⟨v, H1, I2, k.rel, q⟩
theorem ps_fld (ha : PE X o ta) (hv : PE X value tv) (hs : swapsWith value (some (.Attribute o f pos')) pos.line X.env = pure false) : PS X (.Assign [.Attribute o f pos'] value pos) (sFld X.K ta tv f) := by
  intro pins s σ H D I h
  refine plainObj_wpAny_Assign_Attribute (thn (hv pins s σ H _ I h) fun u s1 ⟨y, H1, I1, ry, q⟩ => thn (ha pins s1 σ H1 _ I1 q) fun ov s2 ⟨x, H2, I2, rx, a, C, dx, fs, ex, ea, c, n, l, q2⟩ => ?_) hs
  subst ex
  obtain rfl : ov = Value.ref a := rx
  exact setattr_ok I2 ea c n l ry fun s3 I3 => ⟨σ, _, I3, q2⟩
theorem ps_fldaug {op : Operator} {rd : V → V → Hp → VK → Prop} (ha : PE X o ta) (hv : PE X value tv) (hop : InOp X op rd) : PS X (.AugAssign (.Attribute o f tpos) op value pos) (sFldAug X.K ta tv rd f) := by
  intro pins s σ H D I h
  refine wpAny_AugAssign_AttributeAny (thn (ha pins s σ H _ I h) fun ov s1 ⟨x, H1, I1, rx, a, C, dx, fs, v, ex, ea, c, n, l, q⟩ => ?_)
  subst ex
  obtain rfl : ov = Value.ref a := rx
  refine getattr_ok I1 ea c n l fun u s2 I2 ru => thn (hv pins s2 σ H1 _ I2 q) fun w3 s3 ⟨y, H2, I3, ry, q3⟩ => thn (hop pins s3 σ H2 v y u w3 _ I3 ru ry q3) fun w4 s4 ⟨z, H3, I4, rz, dx', fs', ea', l', q4⟩ => ?_
  exact setattr_ok I4 ea' c n l' rz fun s5 I5 => ⟨σ, _, I5, q4⟩
def rAdd : V → V → Hp → VK → Prop := fun x y H Q => ∃ i j, x = .int i ∧ y = .int j ∧ Q (.int (i + j)) H
def rSub : V → V → Hp → VK → Prop := fun x y H Q => ∃ i j, x = .int i ∧ y = .int j ∧ Q (.int (i - j)) H
theorem in_add : InOp X .Add rAdd := by
  rintro pins s σ H x y u v Q I rx ry ⟨i, j, rfl, rfl, q⟩
  obtain ⟨t, rfl⟩ := (show ∃ t, u = Value.int i t from rx)
  obtain ⟨t', rfl⟩ := (show ∃ t', v = Value.int j t' from ry)
  exact PyProof.Rows.iadd_int ⟨.int (i + j), H, I.tok _, ⟨_, rfl⟩, q⟩
theorem in_sub : InOp X .Sub rSub := by
  rintro pins s σ H x y u v Q I rx ry ⟨i, j, rfl, rfl, q⟩
  obtain ⟨t, rfl⟩ := (show ∃ t, u = Value.int i t from rx)
  obtain ⟨t', rfl⟩ := (show ∃ t', v = Value.int j t' from ry)
  exact PyProof.Rows.isub_int ⟨.int (i - j), H, I.tok _, ⟨_, rfl⟩, q⟩

/-- what is between an instance and its method: the tree of a method call -/
theorem methcall_of {pl : Sem Bool} {m : Str} {apos : Pos} {args : List Expr} {pins : List (Addr × Obj)} {s : Shared} {σ : St} {H : Hp} {Q : Value → Shared → Prop} {te : TE} (he : PE X e te) (I : Inv X pins σ H s)
    (h : te σ H fun x H1 => ∃ a C dx fs g, x = .ref a ∧ H1 a = some (.ins C dx fs) ∧ Cls X.K C ∧ Meth X.K C m g ∧ fs.lookup m = none ∧
      ∀ s1, Inv X pins σ H1 s1 → wpAny (model X.prog X.w) X.A (callWith pos (.ref g) [.ref a] (backTo pos (starEach args X.env)) (backToKw pos (keywordEach [] X.env))) Q X.xe s1)
    (ht : eval (.Call (.Attribute e m apos) args [] pos) X.env = (do
      let ov ← eval e X.env
      standAt apos.atName
      let (f, first) ← holding [ov] (getMethod ov m pl)
      callWith pos f first (backTo pos (starEach args X.env)) (backToKw pos (keywordEach [] X.env)))) :
    wpAny (model X.prog X.w) X.A (eval (.Call (.Attribute e m apos) args [] pos) X.env) Q X.xe s := by
  refine PySem.W.methodCall_KW (pl := pl) (thn (he pins s σ H _ I h) fun u s1 ⟨x, H1, I1, rx, a, C, dx, fs, g, ex, ea, c, k, l, q⟩ => ?_) ht
  subst ex
  obtain rfl : u = Value.ref a := rx
  exact getmeth_ok I1 ea c k l (q s1 I1)
end

/-! ### isinstance -/
section
variable {X : Cx} {pins : List (Addr × Obj)} {σ : St} {H : Hp} {s : Shared} {A : Around} {E : Value → Shared → Prop} {Q : Value → Shared → Prop} {c : Value} {b : Bool}
/-- the type of a value, as the fragment's deciders take it; for an instance its class -/
inductive TyOf (K : PySem.W.Frag) (H : Hp) : V → Value → Prop where
  | non : TyOf K H .non (.type "NoneType")
  | bl (x : Bool) : TyOf K H (.bl x) (.type "bool")
  | int (i : Int) : TyOf K H (.int i) (.type "int")
  | str (x : Str) : TyOf K H (.str x) (.type "str")
  | flt (x : UInt64) : TyOf K H (.flt x) (.type "float")
  | lst {a : Addr} {xs : List V} (e : H a = some (.lst xs)) : TyOf K H (.ref a) (.type "list")
  | frz {a : Addr} {o : Obj} {xs : List V} (e : H a = some (.frz o (.lst xs))) : TyOf K H (.ref a) (.type "list")
  | tup {a : Addr} {xs : List V} (e : H a = some (.tup xs)) : TyOf K H (.ref a) (.type "tuple")
  | dK {a : Addr} {kvs : List (Key × V)} (e : H a = some (.dK kvs)) : TyOf K H (.ref a) (.type "dict")
  | dT {a : Addr} {kvs : List (List Key × V)} (e : H a = some (.dT kvs)) : TyOf K H (.ref a) (.type "dict")
  | ins {a C dx : Addr} {fs : List (Str × V)} (e : H a = some (.ins C dx fs)) (cl : Cls K C) (ha : PySem.W.findIn K (.ref C) "__class__" = some (some (.builtin "object.__class__")))
      (hn : PySem.W.specialIn K (.builtin "object.__class__") "__get__" = some (some (.builtin "getset_descriptor.__get__"))) (htk : PySem.W.takesIn K (.builtin "object.__class__") = some true)
      (hm : PySem.W.mroIn K C (.type "object") = some true) : TyOf K H (.ref a) (.ref C)
/-- isinstance(x, c) for one class c, a built-in or an own one: kitOne's answer -/
theorem isinst_ok {x : V} {u t : Value} (I : Inv X pins σ H s) (rx : RelV x u) (ty : TyOf X.K H x t) (e : PySem.W.kitOne X.K t c = some b) (h : ∀ tk, Q (.bool b) { s with toks := tk }) :
    wpAny (model X.prog X.w) A (call (.builtin "isinstance") [u, c]) Q E s := by
  cases ty with
  | non => cases (show u = Value.none from rx); exact PySem.W.kia_one PySem.W.kitx_none I.kIn True.intro e (fun z => nomatch z) h
  | bl y => cases (show u = Value.bool y from rx); exact PySem.W.kia_one PySem.W.kitx_bool I.kIn True.intro e (fun z => nomatch z) h
  | int i => obtain ⟨t, q⟩ := (show ∃ t, u = Value.int i t from rx); cases q; exact PySem.W.kia_one PySem.W.kitx_int I.kIn True.intro e (fun z => nomatch z) h
  | str y => obtain ⟨t, q⟩ := (show ∃ t, u = Value.str y t from rx); cases q; exact PySem.W.kia_one PySem.W.kitx_str I.kIn True.intro e (fun z => nomatch z) h
  | flt y => obtain ⟨t, q⟩ := (show ∃ t, u = Value.float y t from rx); cases q; exact PySem.W.kia_one PySem.W.kitx_float I.kIn True.intro e (fun z => nomatch z) h
  | @lst a xs ea =>
    cases (show u = Value.ref a from rx)
    obtain ⟨_, _, n, _, h1⟩ := (show ObjOk X.prog X.w H s.heap a (.lst xs) from I.hok a _ ea)
    exact PySem.W.kia_one PySem.W.kitx_list I.kIn ⟨_, h1, rfl⟩ e (fun z => nomatch z) h
  | @frz a ob xs ea =>
    cases (show u = Value.ref a from rx)
    obtain ⟨_, _, _, n, _, h1⟩ := (show ObjOk X.prog X.w H s.heap a (.frz ob (.lst xs)) from I.hok a _ ea)
    exact PySem.W.kia_one PySem.W.kitx_list I.kIn ⟨_, h1, rfl⟩ e (fun z => nomatch z) h
  | @tup a xs ea =>
    cases (show u = Value.ref a from rx)
    obtain ⟨_, _, _, p⟩ := (show ObjOk X.prog X.w H s.heap a (.tup xs) from I.hok a _ ea)
    obtain ⟨o, h1, h2, _⟩ := p
    exact PySem.W.kia_one PySem.W.kitx_tuple I.kIn ⟨o, h1, h2⟩ e (fun z => nomatch z) h
  | @dK a kvs ea =>
    cases (show u = Value.ref a from rx)
    obtain ⟨_, _, vs, _, p⟩ := (show ObjOk X.prog X.w H s.heap a (.dK kvs) from I.hok a _ ea)
    obtain ⟨o, es, ep, h1, h2, _⟩ := p
    exact PySem.W.kia_one PySem.W.kitx_dict I.kIn ⟨o, h1, h2.1⟩ e (fun z => nomatch z) h
  | @dT a kvs ea =>
    cases (show u = Value.ref a from rx)
    obtain ⟨_, _, xs, _, o, es, ep, h1, h2, _⟩ := (show ObjOk X.prog X.w H s.heap a (.dT kvs) from I.hok a _ ea)
    exact PySem.W.kia_one PySem.W.kitx_dict I.kIn ⟨o, h1, h2.1⟩ e (fun z => nomatch z) h
  | @ins a C dx fs ea cl ha hn htk hm =>
    cases (show u = Value.ref a from rx)
    obtain ⟨mA, O, _⟩ := ins_get I.hok ea
    obtain ⟨od, J, _⟩ := O.look
    exact PySem.W.kia_one (PySem.W.kitx_own (cl.get _) cl.hd ha hn htk hm) I.kIn J e (fun z => nomatch z) h
end
end L2

namespace L2
open PySem PySem.Spec PyProof.Rows

/-! ### room -/
structure Room (k : Nat) (A : Around) : Prop where
  hd : A.handled = none
  dp : A.depth + 3 * k + 5 < recursionLimit
  un : A.units + 16 * k + 200 < cLine
theorem Room.mono {j k : Nat} {A : Around} (r : Room k A) (h : j ≤ k) : Room j A := ⟨r.hd, by have := r.dp; omega, by have := r.un; omega⟩
theorem Room.deeper {k : Nat} {A : Around} (r : Room (k + 1) A) (env : Env) : Room k (A.deeper env) :=
  ⟨r.hd, by have := r.dp; show A.depth + 1 + 3 * k + 5 < _; omega, by have := r.un; show A.units + 3 + 16 * k + 200 < _; omega⟩
theorem Room.in1 {k : Nat} {A : Around} (r : Room (k + 1) A) : Room k A.in1 :=
  ⟨r.hd, by have := r.dp; show A.depth + 3 * k + 5 < _; omega, by have := r.un; show A.units + 1 + 16 * k + 200 < _; omega⟩
theorem make_depth {A : Around} {C : Addr} {us : List Value} {kw : List (Str × Value)} : (A.under (.builtin "type.__call__" ⟨.ref C :: us, kw⟩)).depth = A.depth + 1 := by
  first | rfl | simp [Around.under, Code.weight, Code.isCreation, Code.isGuard, Code.isCaller, Code.frames, Code.isFrame, guardIds]
theorem make_units {A : Around} {C : Addr} {us : List Value} {kw : List (Str × Value)} : (A.under (.builtin "type.__call__" ⟨.ref C :: us, kw⟩)).units = A.units + 1 := by
  first | rfl | simp [Around.under, Code.cUnits, Code.frames, Code.isFrame]
theorem Room.make {k : Nat} {A : Around} (r : Room (k + 1) A) (C : Addr) (us : List Value) (kw : List (Str × Value)) : Room k (A.under (.builtin "type.__call__" ⟨.ref C :: us, kw⟩)) :=
  ⟨r.hd, by have := r.dp; rw [make_depth]; omega, by have := r.un; rw [make_units]; omega⟩
theorem Room.depth {k : Nat} {A : Around} (r : Room k A) : A.depth < recursionLimit := by have := r.dp; omega
theorem Room.units {k : Nat} {A : Around} (r : Room k A) : A.units + 64 < cLine := by have := r.un; omega
theorem Room.units0 {k : Nat} {A : Around} (r : Room k A) : A.units < cLine := by have := r.un; omega

/-! ### argument lists and displays -/
def tNil : TA := fun _ H Q => Q [] H
def tCons (ta : TE) (tr : TA) : TA := fun σ H Q => ta σ H fun x H1 => tr σ H1 fun xs H2 => Q (x :: xs) H2
section
variable {X : Cx} {e : Expr} {es : List Expr} {te : TE} {t : TA} {pos : Pos}
theorem pa_nil : PA X [] tNil := fun _ _ _ _ H Q I h => Calls.spliced_nil ⟨[], H, I, .nil, h⟩
theorem pa_cons (ha : PE X e te) (hr : PA X es t) (hs : starEach (e :: es) X.env = (false, eval e X.env) :: starEach es X.env := by rfl) : PA X (e :: es) (tCons te t) := by
  intro pos pins s σ H Q I h
  rw [hs]
  show wpAny _ _ (spliced ((false, eval e X.env) :: backTo pos (starEach es X.env))) _ _ s
  refine Calls.spliced_cons (thn (ha pins s σ H _ I h) fun u s1 ⟨x, H1, I1, r1, q1⟩ => ?_)
  exact thn (hr pos pins s1 σ H1 _ I1 q1) fun us s2 ⟨xs, H2, I2, r2, q2⟩ => ⟨x :: xs, H2, I2, .cons r1 r2, q2⟩

/-- a tuple, a list of written items -/
def tTup (t : TA) : TE := fun σ H Q => t σ H fun xs H1 => xs.length ≤ sizeLine ∧ ∀ p, H1 p = none → Q (.ref p) (upd H1 p (.tup xs))
def tLst (t : TA) : TE := fun σ H Q => t σ H fun xs H1 => xs.length ≤ sizeLine ∧ ∀ p, H1 p = none → Q (.ref p) (upd H1 p (.lst xs))
theorem pe_tup {x1} (h : PA X es t) : PE X (.Tuple es x1 pos) (tTup t) := by
  intro pins s σ H Q I hq
  refine wpAny_Tuple_spliced (thn (h pos pins s σ H _ I hq) fun us s1 ⟨xs, H1, I1, r, z, q⟩ => ⟨by rw [← r.length]; exact z, ?_⟩)
  have hf : H1 s1.heap.objs.size = none := I1.hok.fresh (Nat.le_refl _)
  refine ⟨.ref s1.heap.objs.size, upd H1 s1.heap.objs.size (.tup xs), I1.laid (t' := s1.toks) (fun b u e => Heap.get?_push_of_some _ e) (Nat.le_refl _) ?_, rfl, q _ hf⟩
  exact ⟨z, us, r, ⟨_, Heap.get?_push_size _ rfl, rfl, _, rfl⟩⟩
theorem pe_lst (h : PA X es t) : PE X (.List es pos) (tLst t) := by
  intro pins s σ H Q I hq
  refine wpAny_List_spliced (thn (h pos pins s σ H _ I hq) fun us s1 ⟨xs, H1, I1, r, z, q⟩ => ⟨by rw [← r.length]; exact z, ?_⟩)
  have hf : H1 s1.heap.objs.size = none := I1.hok.fresh (Nat.le_refl _)
  refine ⟨.ref s1.heap.objs.size, upd H1 s1.heap.objs.size (.lst xs), I1.laid (t' := s1.toks) (fun b u e => Heap.get?_push_of_some _ e) (Nat.le_refl _) ?_, rfl, q _ hf⟩
  exact ⟨z, us, 0, r, Heap.get?_push_size _ rfl⟩
end

/-! ### what a def promises -/
/-- a def's promise: the bound arguments in the parameters' order, the heap, the wanted end, the wanted exception -/
abbrev Sp := List V → Hp → VK → XK → Prop
/-- how an exception lies behind a call (file 08 gives it): the callers' frames, abstract heap and state ahead of the call, the wish, the exception, the state -/
abbrev CXT := List Env → Hp → Shared → XK → Value → Shared → Prop

/-- the state at a call -/
structure Env0 (P : Program) (w : World) (K : PySem.W.Frag) (mg : Str → Option Value) (base : Heap) (A : Around) (outer : List Env) (s : Shared) (H : Hp) : Prop where
  frames : A.frames = some outer
  mod : Mod K mg base
  bs : ∀ b o, base.get? b = some o → s.heap.get? b = some o ∧ H b = none
  bsz : base.objs.size ≤ s.heap.objs.size
  funs : s.heap.FunFrames base outer
  frf : ∀ b ∈ frs outer, H b = none
  hok : HOk P w H s.heap
  bare : AllBare s.gens
/-- a call's end -/
def CE (outer : List Env) (P : Program) (w : World) (H : Hp) (s : Shared) (Q : VK) (u : Value) (s' : Shared) : Prop :=
  ∃ v H', s'.os = s.os ∧ AllBare s'.gens ∧ Un (frs outer) [] H H' s.heap s'.heap ∧ HOk P w H' s'.heap ∧ RelV v u ∧ Q v H'
def CR (CX : CXT) (outer : List Env) (P : Program) (w : World) (H : Hp) (s : Shared) (Q : VK) (E : XK) (r : Result) (s' : Shared) : Prop :=
  match r with
  | .ok (.ret u) => CE outer P w H s Q u s'
  | .ok _ => False
  | .error e => CX outer H s E e s'
structure FnOk (P : Program) (w : World) (K : PySem.W.Frag) (mg : Str → Option Value) (base : Heap) (CX : CXT) (k : Nat) (f : Addr) (fd : FuncData) (ps : List Str) (sp : Sp) : Prop where
  len : ∀ vs H Q E, sp vs H Q E → vs.length = ps.length
  run : ∀ (A : Around) (outer : List Env) (s : Shared) (H : Hp) (args : Args) (us : List Value) (vs : List V) (Q : VK) (E : XK), Room k A → Env0 P w K mg base A outer s H → BindsTo s fd args (ps.zip us) → Vals vs us → sp vs H Q E →
    codeAny (model P w) A (.call (.ref f) args) (CR CX outer P w H s Q E) s
theorem FnOk.mono {P : Program} {w : World} {K : PySem.W.Frag} {mg : Str → Option Value} {base : Heap} {CX : CXT} {j k : Nat} {f : Addr} {fd : FuncData} {ps : List Str} {sp : Sp} (F : FnOk P w K mg base CX j f fd ps sp) (h : j ≤ k) :
    FnOk P w K mg base CX k f fd ps sp := ⟨F.len, fun A outer s H args us vs Q E hr => F.run A outer s H args us vs Q E (hr.mono h)⟩
/-- a weaker promise -/
theorem FnOk.imp {P : Program} {w : World} {K : PySem.W.Frag} {mg : Str → Option Value} {base : Heap} {CX : CXT} {k : Nat} {f : Addr} {fd : FuncData} {ps : List Str} {sp sp' : Sp} (F : FnOk P w K mg base CX k f fd ps sp)
    (h : ∀ vs H Q E, sp' vs H Q E → sp vs H Q E) : FnOk P w K mg base CX k f fd ps sp' :=
  ⟨fun vs H Q E q => F.len vs H Q E (h _ _ _ _ q), fun A outer s H args us vs Q E hr he hb hv hs => F.run A outer s H args us vs Q E hr he hb hv (h _ _ _ _ hs)⟩

theorem Env0.make {P : Program} {w : World} {K : PySem.W.Frag} {mg : Str → Option Value} {base : Heap} {A : Around} {outer : List Env} {s : Shared} {H : Hp} (e : Env0 P w K mg base A outer s H) (C : Addr) (us : List Value) (kw : List (Str × Value)) :
    Env0 P w K mg base (A.under (.builtin "type.__call__" ⟨.ref C :: us, kw⟩)) outer s H := ⟨by first | exact e.frames | (simpa [Around.under, Code.envs, Code.isFrame, pushEnvs] using e.frames), e.mod, e.bs, e.bsz, e.funs, e.frf, e.hok, e.bare⟩
theorem Env0.in1 {P : Program} {w : World} {K : PySem.W.Frag} {mg : Str → Option Value} {base : Heap} {A : Around} {outer : List Env} {s : Shared} {H : Hp} (e : Env0 P w K mg base A outer s H) :
    Env0 P w K mg base A.in1 outer s H := ⟨e.frames, e.mod, e.bs, e.bsz, e.funs, e.frf, e.hok, e.bare⟩

section
variable {X : Cx} {pins : List (Addr × Obj)} {σ : St} {H : Hp} {s s' : Shared}
/-- from a body: what a callee wants -/
theorem Inv.env0 (I : Inv X pins σ H s) : Env0 X.prog X.w X.K X.mg X.base X.A X.stack s H :=
  ⟨I.ok.frames, I.ok.mod, I.bs, Nat.le_trans I.ok.bsz I.sz, I.stack, I.stkFree, I.hok, I.bare⟩
/-- behind a call -/
theorem Inv.after {Q : VK} {u : Value} (I : Inv X pins σ H s) (h : CE X.stack X.prog X.w H s Q u s') : EP X pins σ Q u s' := by
  obtain ⟨v, H', os, bare, un, hok, r, q⟩ := h
  obtain ⟨hh, g, d, t, os'⟩ := s'
  obtain rfl : os' = s.os := os
  exact ⟨v, H', I.call (h' := hh) (g' := g) (d' := d) (t' := t) (ch := []) un hok bare (fun b z => absurd z (by simp)), r, q⟩
end

/-! ### calls -/
/-- f(..): the written arguments, then the defaults dvs; E: what is wanted of an exception -/
def tCall (sp : Sp) (dvs : List V) (E : XK) (t : TA) : TE := fun σ H Q => t σ H fun vs H1 => sp (vs ++ dvs) H1 Q E
/-- o.m(..) of an instance of the class at C -/
def tMeth (C : Addr) (m : Str) (sp : Sp) (dvs : List V) (E : XK) (ta : TE) (t : TA) : TE := fun σ H Q => ta σ H fun x H1 => ∃ a dx fs, x = .ref a ∧ H1 a = some (.ins C dx fs) ∧ fs.lookup m = none ∧
  t σ H1 fun vs H2 => sp (x :: (vs ++ dvs)) H2 Q E
/-- C(..): a new instance and its dict, then __init__ -/
def tMake (C : Addr) (sp : Sp) (dvs : List V) (E : XK) (t : TA) : TE := fun σ H Q => t σ H fun vs H1 => ∀ x dx, H1 x = none → H1 dx = none → dx ≠ x →
  sp (.ref x :: (vs ++ dvs)) (upd (upd H1 dx (.own x)) x (.ins C dx [])) (fun v H2 => v = .non ∧ Q (.ref x) H2) E

/-- how the parameters are bound: us the positional arguments, kw the keywords' values by name, ds the defaults that fill up -/
def Binds (K : PySem.W.Frag) (fd : FuncData) (ps : List Str) (ds : List Value) : Prop :=
  ∀ (s : Shared) (us : List Value), K.In s.heap → (us ++ ds).length = ps.length → BindsTo s fd ⟨us, []⟩ (ps.zip (us ++ ds))
/-- every parameter is given -/
theorem Binds.all {K : PySem.W.Frag} {fd : FuncData} {ps : List Str} (h : ∀ us : List Value, us.length = ps.length → bindArgs fd ⟨us, []⟩ = pure (ps.zip us)) : Binds K fd ps [] := fun s us _ hl => by
  rw [List.append_nil] at hl ⊢
  exact .of_eq (h us hl)

/-- an exception of a callee reaches what this body wants of exceptions -/
def Passes (CX : CXT) (X : Cx) (E : XK) : Prop := ∀ (pins : List (Addr × Obj)) (σ : St) (H : Hp) (s : Shared) (e : Value) (s' : Shared), Inv X pins σ H s → CX X.stack H s E e s' → X.xe e s'

section
variable {X : Cx} {CX : CXT} {k : Nat} {f C : Addr} {fd : FuncData} {ps : List Str} {sp : Sp} {dvs : List V} {ds : List Value} {E : XK} {x m : Str} {p pos apos : Pos} {e o : Expr} {es : List Expr} {ta : TE} {t : TA}

/-- the callee runs -/
theorem run_fn {pins : List (Addr × Obj)} {σ : St} {H : Hp} {s : Shared} {Q : VK} {us : List Value} {vs : List V} (F : FnOk X.prog X.w X.K X.mg X.base CX k f fd ps sp) (hr : Room k X.A) (hb : Binds X.K fd ps ds) (hd : Vals dvs ds) (hx : Passes CX X E)
    (I : Inv X pins σ H s) (r : Vals vs us) (h : sp (vs ++ dvs) H Q E) : wpAny (model X.prog X.w) X.A (call (.ref f) us) (EP X pins σ Q) X.xe s := by
  have r2 : Vals (vs ++ dvs) (us ++ ds) := r.append hd
  have hl : (us ++ ds).length = ps.length := by rw [← r2.length]; exact F.len _ _ _ _ h
  refine wpAny_call (codeAny_mono (F.run X.A X.stack s H ⟨us, []⟩ (us ++ ds) (vs ++ dvs) Q E hr I.env0 (hb s us I.kIn hl) r2 h) fun r s' hq => ?_)
  cases r with
  | error e => exact hx pins σ H s e s' I hq
  | ok fl =>
    cases fl with
    | ret u => exact I.after hq
    | next => exact False.elim hq
    | brk => exact False.elim hq
    | cont => exact False.elim hq

theorem pe_call (F : FnOk X.prog X.w X.K X.mg X.base CX k f fd ps sp) (hr : Room k X.A) (hg : Gl X x) (hm : X.mg x = some (.ref f)) (hk : PySem.W.keepIn X.K (.ref f) = true) (hb : Binds X.K fd ps ds) (hd : Vals dvs ds) (hx : Passes CX X E)
    (ha : PA X (e :: es) t) (hdb : (x == ("__debug__" : Str)) = false := by decide) (he : starEach (e :: es) X.env = (false, eval e X.env) :: starEach es X.env := by rfl) (hpl : (backTo pos (starEach es X.env)).any (·.1) = false := by rfl) :
    PE X (.Call (.Name x p) (e :: es) [] pos) (tCall sp dvs E t) := by
  intro pins s σ H Q I h
  refine wpAny_Call_Name_kw (ld_glob I hg hm ?_ hdb)
  refine PySem.W.callWith_K (h₀ := X.base) I.ok.mod.kin hk (thn (ha pos pins s σ H _ I h) fun us s1 ⟨vs, H1, I1, r, q⟩ => ⟨I1.kIn, ?_⟩) he hpl
  exact run_fn F hr hb hd hx I1 r q
theorem pe_call0 (F : FnOk X.prog X.w X.K X.mg X.base CX k f fd ps sp) (hr : Room k X.A) (hg : Gl X x) (hm : X.mg x = some (.ref f)) (hk : PySem.W.keepIn X.K (.ref f) = true) (hb : Binds X.K fd ps ds) (hd : Vals dvs ds) (hx : Passes CX X E)
    (hdb : (x == ("__debug__" : Str)) = false := by decide) : PE X (.Call (.Name x p) [] [] pos) (tCall sp dvs E tNil) := by
  intro pins s σ H Q I h
  refine wpAny_Call_Name_kw (ld_glob I hg hm ?_ hdb)
  exact PySem.W.callWith_K0 I.kIn hk (run_fn (us := []) F hr hb hd hx I .nil h)

/-- o.m(e, ..) -/
theorem pe_meth {pl : Sem Bool} (he : PE X o ta) (c : Cls X.K C) (hm : Meth X.K C m f) (F : FnOk X.prog X.w X.K X.mg X.base CX k f fd ps sp) (hr : Room k X.A) (hb : Binds X.K fd ps ds) (hd : Vals dvs ds) (hx : Passes CX X E) (ha : PA X (e :: es) t)
    (hst : starEach (e :: es) X.env = (false, eval e X.env) :: starEach es X.env := by rfl) (hpl : (backTo pos (starEach es X.env)).any (·.1) = false := by rfl)
    (ht : eval (.Call (.Attribute o m apos) (e :: es) [] pos) X.env = (do
      let ov ← eval o X.env
      standAt apos.atName
      let (f, first) ← holding [ov] (getMethod ov m pl)
      callWith pos f first (backTo pos (starEach (e :: es) X.env)) (backToKw pos (keywordEach [] X.env))) := by rfl) :
    PE X (.Call (.Attribute o m apos) (e :: es) [] pos) (tMeth C m sp dvs E ta t) := by
  intro pins s σ H Q I h
  refine PySem.W.methodCall_KW (pl := pl) (thn (he pins s σ H _ I h) fun u s1 ⟨x, H1, I1, rx, a, dx, fs, ex, ea, l, q⟩ => ?_) ht
  subst ex
  obtain rfl : u = Value.ref a := rx
  refine getmeth_ok I1 ea c hm l ?_
  refine PySem.W.callWith_K (first := [.ref a]) (h₀ := X.base) I.ok.mod.kin hm.kp (thn (ha pos pins s1 σ H1 _ I1 q) fun us s2 ⟨vs, H2, I2, r, q2⟩ => ⟨I2.kIn, ?_⟩) hst hpl
  exact run_fn (us := .ref a :: us) (vs := .ref a :: vs) F hr hb hd hx I2 (.cons rfl r) q2
/-- o.m() -/
theorem pe_meth0 {pl : Sem Bool} (he : PE X o ta) (c : Cls X.K C) (hm : Meth X.K C m f) (F : FnOk X.prog X.w X.K X.mg X.base CX k f fd ps sp) (hr : Room k X.A) (hb : Binds X.K fd ps ds) (hd : Vals dvs ds) (hx : Passes CX X E)
    (ht : eval (.Call (.Attribute o m apos) [] [] pos) X.env = (do
      let ov ← eval o X.env
      standAt apos.atName
      let (f, first) ← holding [ov] (getMethod ov m pl)
      callWith pos f first (backTo pos (starEach [] X.env)) (backToKw pos (keywordEach [] X.env))) := by rfl) :
    PE X (.Call (.Attribute o m apos) [] [] pos) (tMeth C m sp dvs E ta tNil) := by
  intro pins s σ H Q I h
  refine PySem.W.methodCall_KW (pl := pl) (thn (he pins s σ H _ I h) fun u s1 ⟨x, H1, I1, rx, a, dx, fs, ex, ea, l, q⟩ => ?_) ht
  subst ex
  obtain rfl : u = Value.ref a := rx
  refine getmeth_ok I1 ea c hm l ?_
  exact PySem.W.callWith_K0 (first := [.ref a]) I1.kIn hm.kp (run_fn (us := [.ref a]) (vs := [.ref a]) F hr hb hd hx I1 (.cons rfl .nil) q)

/-- what a class must have to be made -/
structure Mk (K : PySem.W.Frag) (C f : Addr) : Prop where
  makes : PySem.W.makesIn K C = true
  init : PySem.W.findIn K (.ref C) "__init__" = some (some (.ref f))
  fn : PySem.W.isFn K (.ref f) = true
  kp : PySem.W.keepIn K (.ref C) = true

theorem run_make {pins : List (Addr × Obj)} {σ : St} {H : Hp} {s : Shared} {Q : VK} {us : List Value} {vs : List V} (M : Mk X.K C f) (F : FnOk X.prog X.w X.K X.mg X.base CX k f fd ps sp) (hr : Room (k + 1) X.A) (hb : Binds X.K fd ps ds) (hd : Vals dvs ds)
    (hx : Passes CX X E) (I : Inv X pins σ H s) (r : Vals vs us)
    (h : ∀ x dx, H x = none → H dx = none → dx ≠ x → sp (.ref x :: (vs ++ dvs)) (upd (upd H dx (.own x)) x (.ins C dx [])) (fun v H2 => v = .non ∧ Q (.ref x) H2) E) :
    wpAny (model X.prog X.w) X.A (call (.ref C) us) (EP X pins σ Q) X.xe s := by
  have hq := h (s.heap.objs.size + 1) s.heap.objs.size (I.hok.fresh (Nat.le_succ _)) (I.hok.fresh (Nat.le_refl _)) (Nat.ne_of_lt (Nat.lt_succ_self _))
  have I2 := Inv.made (C := C) I
  have r2 : Vals (V.ref (s.heap.objs.size + 1) :: (vs ++ dvs)) (Value.ref (s.heap.objs.size + 1) :: (us ++ ds)) := .cons rfl (r.append hd)
  have hl : (Value.ref (s.heap.objs.size + 1) :: us ++ ds).length = ps.length := by
    have e := r2.length
    rw [F.len _ _ _ _ hq] at e
    exact e.symm
  refine wpAny_call (make_map (f := f) I.kIn M.makes M.init (beq_iff_eq.mp M.fn) (codeAny_mono (F.run _ X.stack _ _ ⟨Value.ref (s.heap.objs.size + 1) :: us, []⟩ (Value.ref (s.heap.objs.size + 1) :: (us ++ ds)) _ _ E (hr.make C us [])
    (I2.env0.make C us []) (hb _ (Value.ref (s.heap.objs.size + 1) :: us) I2.kIn hl) r2 hq) fun r s' hq' => ?_))
  cases r with
  | error e => exact hx pins σ _ _ e s' I2 hq'
  | ok fl =>
    cases fl with
    | ret u =>
      obtain ⟨v, H', I3, rv, ev, q3⟩ := I2.after hq'
      subst ev
      exact ⟨rv, ⟨V.ref (s.heap.objs.size + 1), H', I3, rfl, q3⟩⟩
    | next => exact False.elim hq'
    | brk => exact False.elim hq'
    | cont => exact False.elim hq'
theorem pe_make (M : Mk X.K C f) (F : FnOk X.prog X.w X.K X.mg X.base CX k f fd ps sp) (hr : Room (k + 1) X.A) (hg : Gl X x) (hm : X.mg x = some (.ref C)) (hb : Binds X.K fd ps ds) (hd : Vals dvs ds) (hx : Passes CX X E)
    (ha : PA X (e :: es) t) (hdb : (x == ("__debug__" : Str)) = false := by decide) (he : starEach (e :: es) X.env = (false, eval e X.env) :: starEach es X.env := by rfl) (hpl : (backTo pos (starEach es X.env)).any (·.1) = false := by rfl) :
    PE X (.Call (.Name x p) (e :: es) [] pos) (tMake C sp dvs E t) := by
  intro pins s σ H Q I h
  refine wpAny_Call_Name_kw (ld_glob I hg hm ?_ hdb)
  refine PySem.W.callWith_K (h₀ := X.base) I.ok.mod.kin M.kp (thn (ha pos pins s σ H _ I h) fun us s1 ⟨vs, H1, I1, r, q⟩ => ⟨I1.kIn, ?_⟩) he hpl
  exact run_make M F hr hb hd hx I1 r q
theorem pe_make0 (M : Mk X.K C f) (F : FnOk X.prog X.w X.K X.mg X.base CX k f fd ps sp) (hr : Room (k + 1) X.A) (hg : Gl X x) (hm : X.mg x = some (.ref C)) (hb : Binds X.K fd ps ds) (hd : Vals dvs ds) (hx : Passes CX X E)
    (hdb : (x == ("__debug__" : Str)) = false := by decide) : PE X (.Call (.Name x p) [] [] pos) (tMake C sp dvs E tNil) := by
  intro pins s σ H Q I h
  refine wpAny_Call_Name_kw (ld_glob I hg hm ?_ hdb)
  exact PySem.W.callWith_K0 I.kIn M.kp (run_make (us := []) M F hr hb hd hx I .nil h)
end

/-! ### keywords -/
/-- the values of the keywords, from the left -/
def PK (X : Cx) (kws : List Keyword) (t : TA) : Prop :=
  ∀ (pos : Pos) (pins : List (Addr × Obj)) (s : Shared) (σ : St) (H : Hp) (Q : List V → Hp → Prop), Inv X pins σ H s → t σ H Q → wpAny (model X.prog X.w) X.A (evalAll ((backToKw pos (keywordEach kws X.env)).map (·.2))) (AP X pins σ Q) X.xe s
section
variable {X : Cx} {CX : CXT} {k : Nat} {f C : Addr} {fd : FuncData} {ps ks : List Str} {sp : Sp} {E : XK} {x m : Str} {p pos apos kpos : Pos} {e o : Expr} {es : List Expr} {kws : List Keyword} {te ta : TE} {t tk : TA} {nm : Option Str}
theorem pk_nil : PK X [] tNil := fun _ _ _ _ H Q I h => wpAny_evalAll_nil ⟨[], H, I, .nil, h⟩
theorem pk_cons (ha : PE X e te) (hr : PK X kws t) : PK X (⟨nm, e, kpos⟩ :: kws) (tCons te t) := by
  intro pos pins s σ H Q I h
  show wpAny _ _ (evalAll ((do let v ← eval e X.env; standAt pos; pure v) :: (backToKw pos (keywordEach kws X.env)).map (·.2))) _ _ s
  refine wpAny_evalAll_cons (wpAny_bind (thn (ha pins s σ H _ I h) fun u s1 ⟨x, H1, I1, r1, q1⟩ => wpAny_bind (wpAny_standAt (wpAny_pure ?_))))
  exact thn (hr pos pins s1 σ H1 _ I1 q1) fun us s2 ⟨xs, H2, I2, r2, q2⟩ => ⟨x :: xs, H2, I2, .cons r1 r2, q2⟩

/-- how a call with keywords binds: g puts the positional values us and the keywords' values ws (names ks) in the parameters' order, defaults among them -/
structure KBinds (K : PySem.W.Frag) (fd : FuncData) (ps ks : List Str) (g : List Value → List Value → List Value) (gV : List V → List V → List V) : Prop where
  to : ∀ (s : Shared) (us ws : List Value), K.In s.heap → (g us ws).length = ps.length → BindsTo s fd ⟨us, ks.zip ws⟩ (ps.zip (g us ws))
  rel : ∀ {vs : List V} {us : List Value} {zs : List V} {ws : List Value}, Vals vs us → Vals zs ws → Vals (gV vs zs) (g us ws)
def tCallK (sp : Sp) (gV : List V → List V → List V) (E : XK) (t tk : TA) : TE := fun σ H Q => t σ H fun vs H1 => tk σ H1 fun zs H2 => sp (gV vs zs) H2 Q E
variable {g : List Value → List Value → List Value} {gV : List V → List V → List V}
theorem run_fnk {pins : List (Addr × Obj)} {σ : St} {H : Hp} {s : Shared} {Q : VK} {us ws : List Value} {vs zs : List V} (F : FnOk X.prog X.w X.K X.mg X.base CX k f fd ps sp) (hr : Room k X.A) (hb : KBinds X.K fd ps ks g gV) (hx : Passes CX X E)
    (I : Inv X pins σ H s) (r : Vals vs us) (rz : Vals zs ws) (h : sp (gV vs zs) H Q E) : wpAny (model X.prog X.w) X.A (call (.ref f) us (ks.zip ws)) (EP X pins σ Q) X.xe s := by
  have r2 := hb.rel r rz
  have hl : (g us ws).length = ps.length := by rw [← r2.length]; exact F.len _ _ _ _ h
  refine wpAny_call (codeAny_mono (F.run X.A X.stack s H ⟨us, ks.zip ws⟩ (g us ws) (gV vs zs) Q E hr I.env0 (hb.to s us ws I.kIn hl) r2 h) fun r s' hq => ?_)
  cases r with
  | error e => exact hx pins σ H s e s' I hq
  | ok fl =>
    cases fl with
    | ret u => exact I.after hq
    | next => exact False.elim hq
    | brk => exact False.elim hq
    | cont => exact False.elim hq
/-- f(e, .., k = v, ..) -/
theorem pe_callK (F : FnOk X.prog X.w X.K X.mg X.base CX k f fd ps sp) (hr : Room k X.A) (hg : Gl X x) (hm : X.mg x = some (.ref f)) (hk : PySem.W.keepIn X.K (.ref f) = true) (hb : KBinds X.K fd ps ks g gV) (hx : Passes CX X E)
    (ha : PA X (e :: es) t) (hkw : PK X kws tk) (hall : (backToKw pos (keywordEach kws X.env)).all (·.1.isSome) = true := by rfl) (hks : (backToKw pos (keywordEach kws X.env)).filterMap (·.1) = ks := by rfl)
    (hdb : (x == ("__debug__" : Str)) = false := by decide) (he : starEach (e :: es) X.env = (false, eval e X.env) :: starEach es X.env := by rfl)
    (hpl : ((backTo pos (starEach (e :: es) X.env)).any (·.1) || (backToKw pos (keywordEach kws X.env)).any (·.1.isNone)) = false := by rfl) :
    PE X (.Call (.Name x p) (e :: es) kws pos) (tCallK sp gV E t tk) := by
  intro pins s σ H Q I h
  refine wpAny_Call_Name_kw (ld_glob I hg hm ?_ hdb)
  refine PySem.W.callWith_KW (h₀ := X.base) I.ok.mod.kin hk hall (thn (ha pos pins s σ H _ I h) fun us s1 ⟨vs, H1, I1, r, q⟩ => ?_) hpl he
  refine thn (hkw pos pins s1 σ H1 _ I1 q) fun ws s2 ⟨zs, H2, I2, rz, q2⟩ => ⟨I2.kIn, ?_⟩
  rw [hks]
  exact run_fnk F hr hb hx I2 r rz q2
end

/-! ### a def's body keeps its promise -/
/-- names: the parameters first -/
structure FnScope (N P : List Str) (sc : Scope) : Prop where
  kind : sc.kind = .function
  co : sc.isCoroutine = false
  gen : sc.isGenerator = false
  nd : N.Nodup
  pre : N.take P.length = P
  par : ∀ x ∈ P, sc.names.lookup x = some .local ∨ sc.names.lookup x = some .cell
  nofree : ∀ y ∈ sc.names, y.2 ≠ .free

theorem bindL_out {kindOf : Str → Option NameKind} {x : Str} : ∀ {binds : List (Str × Value)} {m : Str → Option Value}, (∀ v, (x, v) ∉ binds) → bindL kindOf binds m x = m x
  | [], _, _ => rfl
  | (n, v) :: r, m, h => by
    unfold bindL
    rw [bindL_out fun w hw => h w (List.mem_cons_of_mem _ hw)]
    split
    · have : x ≠ n := by rintro rfl; exact h v List.mem_cons_self
      simp [this]
    · rfl
theorem bindC_out {kindOf : Str → Option NameKind} {x : Str} : ∀ {binds : List (Str × Value)} {m : Str → Option Value}, (∀ v, (x, v) ∉ binds) → bindC kindOf binds m x = m x
  | [], _, _ => rfl
  | (n, v) :: r, m, h => by
    unfold bindC
    rw [bindC_out fun w hw => h w (List.mem_cons_of_mem _ hw)]
    split
    · rfl
    · have : x ≠ n := by rintro rfl; exact h v List.mem_cons_self
      simp [this]
theorem bindL_get {kindOf : Str → Option NameKind} {x : Str} {v : Value} : ∀ {P : List Str} {vs : List Value} {i : Nat} {m : Str → Option Value}, P.Nodup → P[i]? = some x → vs[i]? = some v → kindOf x = some .local →
    bindL kindOf (P.zip vs) m x = some v
  | [], _, _, _, _, h, _, _ => by simp at h
  | _ :: _, [], _, _, _, _, h, _ => by simp at h
  | p :: P, w :: vs, 0, m, nd, h1, h2, hk => by
    simp at h1 h2; subst h1; subst h2
    show bindL kindOf ((p, w) :: P.zip vs) m p = _
    unfold bindL
    rw [bindL_out fun v hv => (List.nodup_cons.mp nd).1 (List.of_mem_zip hv).1, if_pos hk]
    simp
  | p :: P, w :: vs, i + 1, m, nd, h1, h2, hk => by
    show bindL kindOf ((p, w) :: P.zip vs) m x = _
    unfold bindL
    exact bindL_get (i := i) (List.nodup_cons.mp nd).2 (by simpa using h1) (by simpa using h2) hk
theorem bindC_get {kindOf : Str → Option NameKind} {x : Str} {v : Value} : ∀ {P : List Str} {vs : List Value} {i : Nat} {m : Str → Option Value}, P.Nodup → P[i]? = some x → vs[i]? = some v → kindOf x ≠ some .local →
    bindC kindOf (P.zip vs) m x = some v
  | [], _, _, _, _, h, _, _ => by simp at h
  | _ :: _, [], _, _, _, _, h, _ => by simp at h
  | p :: P, w :: vs, 0, m, nd, h1, h2, hk => by
    simp at h1 h2; subst h1; subst h2
    show bindC kindOf ((p, w) :: P.zip vs) m p = _
    unfold bindC
    rw [bindC_out fun v hv => (List.nodup_cons.mp nd).1 (List.of_mem_zip hv).1, if_neg hk]
    simp
  | p :: P, w :: vs, i + 1, m, nd, h1, h2, hk => by
    show bindC kindOf ((p, w) :: P.zip vs) m x = _
    unfold bindC
    exact bindC_get (i := i) (List.nodup_cons.mp nd).2 (by simpa using h1) (by simpa using h2) hk

/-- the names' values at the entry -/
def start (N : List Str) (vs : List V) : St := vs.map some ++ List.replicate (N.length - vs.length) none

/-- the context of a def's body, at its entry; an exception leaves the frame, then lies as CX says -/
def cxOf (CX : CXT) (P : Program) (w : World) (K : PySem.W.Frag) (mg : Str → Option Value) (base : Heap) (N : List Str) (qual : Str) (scope : Scope) (f : Addr) (cd : Value) (A : Around) (outer : List Env) (s : Shared) (H : Hp) (E : XK) : Cx where
  prog := P
  w := w
  K := K
  mg := mg
  base := base
  A := A.deeper (envOfC qual scope s.heap.objs.size f cd)
  N := N
  s₀ := s
  H₀ := H
  env := envOfC qual scope s.heap.objs.size f cd
  outer := outer
  stack := envOfC qual scope s.heap.objs.size f cd :: outer
  ex := []
  calm := true
  fn := fun _ => true
  pn := []
  xe := fun e s' => wpAny (model P w) (A.deeper (envOfC qual scope s.heap.objs.size f cd)) (leaving (envOfC qual scope s.heap.objs.size f cd) e) (fun _ s'' => CX outer H s E e s'') (fun e' s'' => CX outer H s E e' s'') s'

theorem cell_has {sc : Scope} {n : Nat} {x : Str} (h : sc.names.lookup x = some .cell) : ∃ c, (cellsFrom n sc.names []).lookup x = some c := by
  have q := PySem.W.cellsFrom_some sc.names n [] (.inl h)
  exact Option.isSome_iff_exists.mp q

theorem inv_start {CX : CXT} {P : Program} {w : World} {K : PySem.W.Frag} {mg : Str → Option Value} {base : Heap} {N ps : List Str} {qual : Str} {scope : Scope} {f : Addr} {cd : Value} {A : Around} {outer : List Env} {s s1 : Shared} {H : Hp} {E : XK} {us : List Value} {vs : List V}
    (S : FnScope N ps scope) (hd : A.handled = none) (e0 : Env0 P w K mg base A outer s H) (hl : vs.length = ps.length) (r : Vals vs us)
    (x : InCallC s s.heap.objs.size (bindL (envOfC qual scope s.heap.objs.size f cd).kindOf (ps.zip us) fun _ => none) (cellsFrom (s.heap.objs.size + 1) scope.names []) (bindC (envOfC qual scope s.heap.objs.size f cd).kindOf (ps.zip us) fun _ => none) s1) :
    Inv (cxOf CX P w K mg base N qual scope f cd A outer s H E) [] (start N vs) H s1 := by
  have hpl : ps.length ≤ N.length := by have := congrArg List.length S.pre; rw [List.length_take] at this; omega
  obtain ⟨h1, tk, rfl, hk⟩ := x.done
  have noA : ∀ b : Addr, b ∉ (cxOf CX P w K mg base N qual scope f cd A outer s H E).ex := fun b z => absurd (show b ∈ ([] : List Addr) from z) (by simp)
  refine ⟨⟨e0.mod, S.kind, rfl, rfl, Nat.le_refl _, fun y z c h1 h2 => ?_, fun y hy => ?_, fun y c _ h => ?_, fun _ => hd, Around.frames_deeper e0.frames, .inr ⟨rfl, rfl⟩, fun b z => absurd z (noA b), e0.bs, e0.bsz, fun b _ _ => noA b, fun b z => absurd z (noA b), e0.funs, e0.frf⟩,
    rfl, e0.bare, Un.kept hk, ⟨_, x.toInCall.ns, fun i y v h1 h2 h3 => ?_⟩, fun y c h => ⟨_, x.cell y c h⟩, e0.hok.fresh (Nat.le_refl _), fun y c h => ?_, fun p hp => absurd (show p ∈ ([] : List (Addr × Obj)) from hp) (by simp), e0.hok.kept hk, ?_⟩
  · exact name_of_addr x.apart (PySem.mem_of_lookup h1) (PySem.mem_of_lookup h2)
  · have hy : scope.names.lookup y = some .cell ∨ scope.names.lookup y = some .free := hy
    rcases hy with hy | hy
    · exact cell_has hy
    · exact absurd rfl (S.nofree _ (PySem.mem_of_lookup hy))
  · exact Nat.le_of_lt (x.above y c (PySem.mem_of_lookup h))
  · have hi : i < vs.length := by
      unfold start at h2
      by_cases hi : i < vs.length
      · exact hi
      · rw [List.getElem?_append_right (by simpa using hi)] at h2
        rw [List.getElem?_replicate] at h2
        split at h2 <;> cases h2
    have ha : vs[i]? = some v := by
      unfold start at h2
      rw [List.getElem?_append_left (by simpa using hi), List.getElem?_map] at h2
      cases e : vs[i]? with
      | none => rw [e] at h2; cases h2
      | some a => rw [e] at h2; cases h2; rfl
    obtain ⟨u, hu, rv⟩ := r.get ha
    have hp : ps[i]? = some y := by
      rw [← S.pre, List.getElem?_take_of_lt (by omega)]; exact h1
    have ndP : ps.Nodup := by rw [← S.pre]; exact S.nd.sublist (List.take_sublist _ _)
    refine ⟨u, rv, ?_⟩
    rcases S.par y (List.mem_of_getElem? hp) with k | k
    · exact .inl ⟨k, bindL_get ndP hp hu k⟩
    · obtain ⟨c, e⟩ := cell_has (n := s.heap.objs.size + 1) k
      refine .inr ⟨.inl k, c, e, ?_⟩
      have q := x.cell y c e
      rw [bindC_get ndP hp hu (by show scope.names.lookup y ≠ _; rw [k]; decide)] at q
      exact q
  · exact e0.hok.fresh (Nat.le_of_lt (x.above y c (PySem.mem_of_lookup h)))
  · unfold start
    show _ = N.length
    rw [List.length_append, List.length_map, List.length_replicate]
    omega

/-- THE RULE: a def (or a method) of the text, by its body. The body's reading t is chosen for each entry; it is run at the parameters' values -/
theorem fn_of {CX : CXT} {P : Program} {w : World} {K : PySem.W.Frag} {mg : Str → Option Value} {base : Heap} {k : Nat} {f : Addr} {name qual : Str} {params : Arguments} {body : List Stmt} {scope : Scope} {dV kV doc pm cdv ct oc : Value} {an od : Option Addr}
    {osl : Array (Option Value)} {N ps : List Str} {sp : Sp} (lk : K.lookup f = some ⟨oc, od, .func (PySem.W.fnOf name qual params body scope dV kV doc pm an cdv ct), osl⟩) (hcd : PySem.W.codeIn K cdv qual = true) (S : FnScope N ps scope)
    (len : ∀ vs H Q E, sp vs H Q E → vs.length = ps.length)
    (hbody : ∀ (A : Around) (outer : List Env) (s : Shared) (H : Hp) (vs : List V) (Q : VK) (E : XK), Room k (A.deeper (envOfC qual scope s.heap.objs.size f cdv)) → sp vs H Q E →
      ∃ t, PSs (cxOf CX P w K mg base N qual scope f cdv A outer s H E) body t ∧ t { nx := fun _ H' => Q .non H', rt := Q } (start N vs) H) :
    FnOk P w K mg base CX (k + 1) f (PySem.W.fnOf name qual params body scope dV kV doc pm an cdv ct) ps sp := by
  refine ⟨len, fun A outer s H args us vs Q E hr e0 hb r hsp => ?_⟩
  have hl := len _ _ _ _ hsp
  have KX : K.In s.heap := e0.mod.kin.keeps fun b o e => (e0.bs b o e).1
  have lim : s.heap.NoLimit := e0.mod.nolimit.keeps fun b o e => (e0.bs b o e).1
  have hkind : ∀ y ∈ ps.zip us, scope.names.lookup y.1 = some .local ∨ (scope.names.lookup y.1 = some .cell ∧ ((cellsFrom (s.heap.objs.size + 1) scope.names []).lookup y.1).isSome = true) := fun ⟨n, v⟩ hy => by
    rcases S.par n (List.of_mem_zip hy).1 with q | q
    · exact .inl q
    · exact .inr ⟨q, PySem.W.cellsFrom_some _ _ _ (.inl q)⟩
  refine codeAny_call_function hr.depth (KX _ _ lk) rfl S.co S.gen rfl (PySem.W.codeRec_of KX hcd) (hb _ _ _ _ ?_)
  refine wpAny_newFunctionEnv_cells S.kind hkind fun env he s1 x => ?_
  subst he
  refine ⟨lim.keeps x.toInCall.keep, codeAny_func ?_⟩
  obtain ⟨t, ht, hq⟩ := hbody A outer s H vs Q E (hr.deeper _) hsp
  have I : Inv (cxOf CX P w K mg base N qual scope f cdv A outer s H E) [] (start N vs) H s1 := inv_start S hr.hd e0 hl r x
  refine wpAny_mono (ht [] s1 (start N vs) H _ I hq) (fun fl s' hs => ?_) fun e s' hs => hs
  have fin : ∀ {σ' : St} {H' : Hp} {v : V} {u : Value}, Inv (cxOf CX P w K mg base N qual scope f cdv A outer s H E) [] σ' H' s' → RelV v u → Q v H' → CE outer P w H s Q u s' :=
    fun {σ' H' v u} J rv q => ⟨v, H', J.os, J.bare, J.base, J.hok, rv, q⟩
  cases fl with
  | ret u =>
    obtain ⟨v, σ', H', J, rv, q⟩ := hs
    exact fin J rv q
  | next =>
    obtain ⟨σ', H', J, q⟩ := hs
    exact fin (v := V.non) (u := Value.none) J rfl q
  | brk =>
    obtain ⟨_, _, _, q⟩ := hs
    exact False.elim q
  | cont =>
    obtain ⟨_, _, _, q⟩ := hs
    exact False.elim q
end L2

namespace L2
open PySem PySem.Spec PyProof.Rows
section
variable {X : Cx} {x : Str} {p pos : Pos} {e : Expr} {es : List Expr} {t : TA} {id T : String} {r : List V → Hp → VK → Prop}

def tCB (r : List V → Hp → VK → Prop) (t : TA) : TE := fun σ H Q => t σ H fun vs H1 => r vs H1 Q
/-- f(e, ..), f a built-in function -/
theorem pe_callB (hc : CallR X (.builtin id) r) (hg : Gl X x) (hm : X.mg x = none) (hv : bootBuiltins x = some (.builtin id)) (ha : PA X (e :: es) t) (hn : x ≠ "__name__" := by decide) (hdb : (x == ("__debug__" : Str)) = false := by decide)
    (he : starEach (e :: es) X.env = (false, eval e X.env) :: starEach es X.env := by rfl) (hpl : (backTo pos (starEach es X.env)).any (·.1) = false := by rfl) : PE X (.Call (.Name x p) (e :: es) [] pos) (tCB r t) := by
  intro pins s σ H Q I h
  refine wpAny_Call_Name_kw (ld_blt I hg hm hv ?_ hn hdb)
  exact PyProof.Rows.callWith_builtin1 (thn (ha pos pins s σ H _ I h) fun us s1 ⟨vs, H1, I1, r1, q1⟩ => hc pins s1 σ H1 vs us Q I1 r1 q1) he hpl
/-- T(e, ..), T a built-in type -/
theorem pe_callTy (hc : CallR X (.type T) r) (hg : Gl X x) (hm : X.mg x = none) (hv : bootBuiltins x = some (.type T)) (ha : PA X (e :: es) t) (hn : x ≠ "__name__" := by decide) (hdb : (x == ("__debug__" : Str)) = false := by decide)
    (he : starEach (e :: es) X.env = (false, eval e X.env) :: starEach es X.env := by rfl) (hpl : (backTo pos (starEach es X.env)).any (·.1) = false := by rfl) : PE X (.Call (.Name x p) (e :: es) [] pos) (tCB r t) := by
  intro pins s σ H Q I h
  refine wpAny_Call_Name_kw (ld_blt I hg hm hv ?_ hn hdb)
  exact PyProof.Rows.callWith_type1 (thn (ha pos pins s σ H _ I h) fun us s1 ⟨vs, H1, I1, r1, q1⟩ => hc pins s1 σ H1 vs us Q I1 r1 q1) he hpl
/-- T() -/
theorem pe_callTy0 (hc : CallR X (.type T) r) (hg : Gl X x) (hm : X.mg x = none) (hv : bootBuiltins x = some (.type T)) (hn : x ≠ "__name__" := by decide) (hdb : (x == ("__debug__" : Str)) = false := by decide) :
    PE X (.Call (.Name x p) [] [] pos) (tCB r tNil) := by
  intro pins s σ H Q I h
  refine wpAny_Call_Name_kw (ld_blt I hg hm hv ?_ hn hdb)
  exact PyProof.Rows.callWith_type0 (hc pins s σ H [] [] Q I .nil h)
end
end L2

namespace HT
open PySem PyProof.Rows

/-- t < u of tuples of ints -/
def lexLt : List Int → List Int → Bool
  | [], [] => false
  | [], _ :: _ => true
  | _ :: _, [] => false
  | x :: xs, y :: ys => if x = y then lexLt xs ys else decide (x < y)
theorem lexLt_cons (x y : Int) (xs ys : List Int) : lexLt (x :: xs) (y :: ys) = if x = y then lexLt xs ys else decide (x < y) := rfl
theorem lexLt_nil_nil : lexLt [] [] = false := rfl
theorem lexLt_nil_cons (y : Int) (ys : List Int) : lexLt [] (y :: ys) = true := rfl
theorem lexLt_cons_nil (x : Int) (xs : List Int) : lexLt (x :: xs) [] = false := rfl

theorem eqAt_int (A : Around) (s : Shared) (a : Int) (t : Tok) (c : Int) (u : Tok) : ∃ e, SeqAt.EqAt A s (.int a t) (.int c u) e ∧ (e = true ↔ a = c) :=
  ⟨(a == c), SeqAt.EqAt.int_int a t c u, by simp⟩
theorem rcLt_int (A : Around) (s : Shared) (a : Int) (t : Tok) (c : Int) (u : Tok) (prog : Program) (w : World) (E : Value → Shared → Prop) (Q : Value → Shared → Prop) (h : Q (.bool (decide (a < c))) s) :
    wpAny (model prog w) A (richCompare .Lt (.int a t) (.int c u)) Q E s :=
  (PyProof.Rows.lt_int h : wpAny (model prog w) A (compareOp .Lt (.int a t) (.int c u)) Q E s)

section
open PySem.SeqAt
open PySem.AutoSeq1 (wpAny_loadPart')
open PySem.MeetsSeq PySem.MeetsSeq2 PySem.MeetsSeq3

theorem tuple_lt_ints (l b : Addr) (items items2 : Array Value) (n n2 : Nat) (dd dd2 : Option Addr) (sl sl2 : Array (Option Value)) (ns ms : List Int) (hi : IntsAre items.toList ns) (hj : IntsAre items2.toList ms) :
    Meets (Builtin.«tuple.__lt__» ⟨[.ref l, .ref b], []⟩)
      (fun _ R s => s.heap.get? l = some { cls := .type "tuple", dict := dd, data := .seq items n, slots := sl } ∧ s.heap.get? b = some { cls := .type "tuple", dict := dd2, data := .seq items2 n2, slots := sl2 } ∧
        R (.ok (.ret (.bool (lexLt ns ms)))) s) :=
  .of_wp fun prog w A R s h => by
    obtain ⟨hp, g, d, tk, os⟩ := s; obtain ⟨hl, hb, h⟩ := h
    have f2 := AutoSeq1.sub_tuple_tuple
    have z1 : items.size = ns.length := by rw [← hi.length]; simp
    have z2 : items2.size = ms.length := by rw [← hj.length]; simp
    wp_walk using wpAny_loadPart' hl, wpAny_loadPart' hb, wpAny_forIn_list _ (fun rest b s' => b.1 = none ∧ s' = ⟨hp, g, d, tk, os⟩ ∧ ∃ (vs ws : List Value) (ns' ms' : List Int), rest = vs.zip ws ∧
      IntsAre vs ns' ∧ IntsAre ws ms' ∧ ns'.length + items2.size = ms'.length + items.size ∧ R (.ok (.ret (.bool (lexLt ns' ms')))) ⟨hp, g, d, tk, os⟩) _
    case turn =>
      rintro ⟨y, x⟩ rest b s' ⟨hb', rfl, vs, ws, ns', ms', hz, hvi, hwi, hlen, hR⟩
      cases hvi with
      | nil => rw [List.zip_nil_left] at hz; cases hz
      | cons a t hvi' =>
        cases hwi with
        | nil => rw [List.zip_nil_right] at hz; cases hz
        | cons c u hwi' =>
          rw [List.zip_cons_cons] at hz
          injection hz with hyx hrest
          injection hyx with hy hx
          subst hy hx
          rw [lexLt_cons] at hR
          simp only [List.length_cons] at hlen
          obtain ⟨e, he, hiff⟩ := eqAt_int A.in1 ⟨hp, g, d, tk, os⟩ a t c u
          refine wpAny_bind (he prog w _ _ ?_)
          cases e with
          | true =>
            rw [if_pos (hiff.mp rfl)] at hR
            wp_walk
            exact ⟨rfl, rfl, _, _, _, _, hrest, hvi', hwi', by omega, hR⟩
          | false =>
            rw [if_neg (fun q => absurd (hiff.mpr q) Bool.false_ne_true)] at hR
            have hri := rcLt_int A.in1 ⟨hp, g, d, tk, os⟩ a t c u prog w
            wp_walk using hri
            exact ⟨_, rfl, by simpa using hR⟩
    case fin =>
      rintro ⟨b1, b2⟩ s' ⟨hb', rfl, vs, ws, ns', ms', hz, hvi, hwi, hlen, hR⟩
      simp only at hb'
      subst hb'
      have hv : lexLt ns' ms' = decide (items.size < items2.size) := by
        cases hvi with
        | nil =>
          cases hwi with
          | nil =>
            simp only [List.length_nil] at hlen
            rw [lexLt_nil_nil]
            exact (decide_eq_false (by omega)).symm
          | cons c u hw =>
            simp only [List.length_nil, List.length_cons] at hlen
            rw [lexLt_nil_cons]
            exact (decide_eq_true (by omega)).symm
        | cons a t hv =>
          cases hwi with
          | nil =>
            simp only [List.length_nil, List.length_cons] at hlen
            rw [lexLt_cons_nil]
            exact (decide_eq_false (by omega)).symm
          | cons c u hw =>
            rw [List.zip_cons_cons] at hz
            cases hz
      rw [hv] at hR
      wp_walk
      exact ⟨_, rfl, by simpa [Builtin.Tuple.tupleCompareSizes] using hR⟩
    case h =>
      exact ⟨rfl, rfl, items.toList, items2.toList, ns, ms, rfl, hi, hj, by omega, h⟩
end

section
variable {prog : Program} {w : World} {A : Around} {E : Value → Shared → Prop} {s : Shared}

theorem lt_tupInts {l b : Addr} {items items2 : Array Value} {ns ms : List Int} {Q : Value → Shared → Prop} (hl : IsTup s.heap l items) (hb : IsTup s.heap b items2) (hi : IntsAre items.toList ns) (hj : IntsAre items2.toList ms)
    (hu : A.units < cLine) (h : Q (.bool (lexLt ns ms)) s) : wpAny (model prog w) A (compareOp .Lt (.ref l) (.ref b)) Q E s := by
  obtain ⟨⟨cls, dd, data, sl⟩, ho, hc, n, hd⟩ := id hl
  obtain ⟨⟨cls2, dd2, data2, sl2⟩, ho2, hc2, n2, hd2⟩ := id hb
  simp only at hc hd hc2 hd2
  subst hc hd hc2 hd2
  exact richCompare_meets_room (op := .Lt) ⟨_, ho, rfl⟩ ⟨_, ho2, rfl⟩ PySem.F.slot_tuple_lt PySem.F.entry_tuple_lt (PySem.F.args_tuple_lt_2 _ _) (tuple_lt_ints l b items items2 n n2 dd dd2 sl sl2 ns ms hi hj)
    ⟨ho, ho2, show Value.bool (lexLt ns ms) ≠ Value.notImplemented ∧ Q (.bool (lexLt ns ms)) s from ⟨(fun x => nomatch x), h⟩⟩ hu

/-- t + u, t not empty -/
theorem cat_tup {t b : Addr} {vs ws : List Value} {Q : Value → Shared → Prop} (ht : IsTup s.heap t vs.toArray) (hb : IsTup s.heap b ws.toArray) (hv : vs ≠ [])
    (h1 : ws = [] → Q (.ref t) s) (h2 : ws ≠ [] → Q (.ref s.heap.objs.size) { s with heap := s.heap.push { cls := .type "tuple", data := .seq (vs ++ ws).toArray } })
    (hsz : vs.length + ws.length ≤ sizeLine) : wpAny (model prog w) A (binaryOp .Add (.ref t) (.ref b)) Q E s := by
  obtain ⟨⟨cls, dd, data, sl⟩, ho, hc, n, hd⟩ := id ht
  obtain ⟨⟨cls2, dd2, data2, sl2⟩, ho2, hc2, n2, hd2⟩ := id hb
  simp only at hc hd hc2 hd2
  subst hc hd hc2 hd2
  have e : vs.toArray ++ ws.toArray = (vs ++ ws).toArray := by simp
  by_cases hw : ws = []
  · exact concat_meets ⟨_, ho, rfl⟩ ⟨_, ho2, rfl⟩ noFill_tuple_add seq_tuple_add PySem.F.slot_tuple_add PySem.F.entry_tuple_add (PySem.F.args_tuple_add_2 _ _)
      (tuple_addW1 t b vs.toArray ws.toArray n n2 dd dd2 sl sl2 (by simpa using hv) (by simp [hw])) ⟨ho, ho2, h1 hw⟩
  · refine concat_meets ⟨_, ho, rfl⟩ ⟨_, ho2, rfl⟩ noFill_tuple_add seq_tuple_add PySem.F.slot_tuple_add PySem.F.entry_tuple_add (PySem.F.args_tuple_add_2 _ _)
      (tuple_addW2 t b vs.toArray ws.toArray n n2 dd dd2 sl sl2 (by simpa using hv) (by simpa using hw) (by rw [List.size_toArray, List.size_toArray]; exact hsz)) ⟨ho, ho2, ?_⟩
    rw [e]
    exact h2 hw

/-! ### t[a:b], not the whole -/
/-- a slice's bound as a place among n (d where it is left out) -/
def sIx (n d : Nat) : Option Int → Nat
  | none => d
  | some v => if v < 0 then (v + (n : Int)).toNat else min v.toNat n
theorem sIx_none (n d : Nat) : sIx n d none = d := rfl
theorem sIx_nat (n d k : Nat) : sIx n d (some (k : Int)) = min k n := by
  show (if (k : Int) < 0 then ((k : Int) + (n : Int)).toNat else min (k : Int).toNat n) = min k n
  rw [if_neg (by omega), Int.toNat_natCast]
theorem sIx_le (n d : Nat) (hd : d ≤ n) (o : Option Int) : sIx n d o ≤ n := by
  cases o with
  | none => exact hd
  | some v =>
    show (if v < 0 then (v + (n : Int)).toNat else min v.toNat n) ≤ n
    by_cases hv : v < 0
    · rw [if_pos hv]; omega
    · rw [if_neg hv]; exact Nat.min_le_right _ _
theorem clip_eq (v : Int) (n d : Nat) : (if v < 0 then max (v + (n : Int)) 0 else min v (n : Int)) = ((sIx n d (some v) : Nat) : Int) := by
  show (if v < 0 then max (v + (n : Int)) 0 else min v (n : Int)) = (((if v < 0 then (v + (n : Int)).toNat else min v.toNat n) : Nat) : Int)
  by_cases hv : v < 0
  · simp only [if_pos hv]; omega
  · simp only [if_neg hv]; omega
theorem adjust_gen (lo hi : Option Int) (n : Nat) : Builtin.Slice.sliceAdjust lo hi 1 (n : Int) = (((sIx n 0 lo : Nat) : Int), ((sIx n n hi : Nat) : Int)) := by
  have h1 : ¬ ((1 : Int) < 0) := by omega
  unfold Builtin.Slice.sliceAdjust
  simp only [h1, if_false]
  refine Prod.ext ?_ ?_
  · cases lo with
    | none => rfl
    | some v => exact clip_eq v n 0
  · cases hi with
    | none => rfl
    | some v => exact clip_eq v n n
theorem places_gen (i j : Nat) : Builtin.Slice.slicePlaces (i : Int) (j : Int) 1 = j - i := by
  unfold Builtin.Slice.slicePlaces
  have h1 : (1 : Int) > 0 := by omega
  simp only [h1, if_true, Int.ediv_one]
  split <;> omega
theorem slicePart_ {v : Value} {o : Option Int} {Q : Option Int → Shared → Prop} (p : IsPart v o) (h : Q o s) : wpAny (model prog w) A (Builtin.Slice.slicePartIndex v) Q E s := by
  cases p with
  | none => exact slicePart_none h
  | int i t => exact slicePart_int h
theorem sliceApplied_gen {sl : Addr} {vl vu : Value} {lo hi : Option Int} {n : Nat} {Q : Int × Int × Nat → Shared → Prop} (hs : s.heap.IsSliceOf sl vl vu .none) (pl : IsPart vl lo) (pu : IsPart vu hi)
    (h : Q (((sIx n 0 lo : Nat) : Int), 1, sIx n n hi - sIx n 0 lo) s) : wpAny (model prog w) A (Builtin.Slice.sliceApplied (.ref sl) (pure (n : Int))) Q E s := by
  obtain ⟨os, hos, hcs, hds⟩ := id hs
  unfold Builtin.Slice.sliceApplied Builtin.Slice.sliceFields
  refine wpAny_bind (wpAny_bind (wpAny_field hos hds (x := vl) rfl (wpAny_bind (wpAny_field hos hds (x := vu) rfl (wpAny_bind (wpAny_field hos hds (x := .none) rfl (wpAny_pure ?_)))))))
  refine wpAny_bind (slicePart_none ?_)
  show wpAny _ _ (if ((1 : Int) == 0) = true then _ else _) _ _ s
  rw [if_neg (by decide)]
  refine wpAny_bind (slicePart_ pl (wpAny_bind (slicePart_ pu (wpAny_bind (wpAny_pure ?_)))))
  show wpAny _ _ (match Builtin.Slice.sliceAdjust lo hi 1 (n : Int) with | (lo, hi) => pure (lo, (1 : Int), Builtin.Slice.slicePlaces lo hi 1)) _ _ s
  rw [adjust_gen lo hi n]
  show wpAny _ _ (pure (((sIx n 0 lo : Nat) : Int), (1 : Int), Builtin.Slice.slicePlaces ((sIx n 0 lo : Nat) : Int) ((sIx n n hi : Nat) : Int) 1)) _ _ s
  rw [places_gen]
  exact wpAny_pure h
theorem pick_gen (xs : Array Value) (i k : Nat) : ((List.range k).filterMap fun (m : Nat) => xs[((i : Int) + (m : Int) * 1).toNat]?).toArray = ((xs.toList.drop i).take k).toArray := by
  have e : (fun (m : Nat) => xs[((i : Int) + (m : Int) * 1).toNat]?) = fun m => xs[i + m]? := by
    funext m
    have : ((i : Int) + (m : Int) * 1).toNat = i + m := by omega
    rw [this]
  rw [e]
  have := pick_run xs i k
  rw [List.filterMap_map] at this
  have e2 : ((fun x => xs[x]?) ∘ fun x => i + x) = fun m => xs[i + m]? := rfl
  rw [e2] at this
  rw [this]

theorem getItem_tuple_cut {t sl : Addr} {items : Array Value} {vl vu : Value} {lo hi : Option Int} {Q : Value → Shared → Prop} (ht : IsTup s.heap t items) (hs : s.heap.IsSliceOf sl vl vu .none) (pl : IsPart vl lo) (pu : IsPart vu hi)
    (hw : ¬ (sIx items.size 0 lo = 0 ∧ sIx items.size items.size hi = items.size))
    (h : Q (.ref s.heap.objs.size) { s with heap := s.heap.push { cls := .type "tuple", data := .seq ((items.toList.drop (sIx items.size 0 lo)).take (sIx items.size items.size hi - sIx items.size 0 lo)).toArray } })
    (hsz : items.size ≤ sizeLine) : wpAny (model prog w) A (getItem (.ref t) (.ref sl)) Q E s := by
  have htake : sizeOk (.seq ((items.toList.drop (sIx items.size 0 lo)).take (sIx items.size items.size hi - sIx items.size 0 lo)).toArray) := by
    show ((items.toList.drop (sIx items.size 0 lo)).take (sIx items.size items.size hi - sIx items.size 0 lo)).toArray.size ≤ sizeLine
    rw [List.size_toArray, List.length_take, List.length_drop, Array.length_toList]
    omega
  have hj : sIx items.size items.size hi ≤ items.size := sIx_le _ _ (Nat.le_refl _) hi
  obtain ⟨os, hos, hcs, hds⟩ := id hs
  have hTs : s.TypeIs (.ref sl) "slice" := ⟨os, hos, hcs⟩
  unfold getItem
  try with_reducible refine wpAny_holding ?_
  first | refine wpAny_bind (wpAny_pure ?_) | skip
  refine wpAny_bind (wpAny_sequenceKey ht.typeIs (by decide) ?_)
  refine wpAny_bind (wpAny_callSpecial?_slot (name := Str.ofString "__getitem__") ht.typeIs PyProof.Rows.slot_tuple_getitem
    (wpAny_call_entry PyProof.Rows.slot_tuple_getitem ht.typeIs entry_tuple_getitem ?_ (args_tuple_getitem _ _)))
  show wpAny _ _ (Builtin.Tuple.tupleItemsOf (.ref t) >>= _) _ _ s
  refine wpAny_bind (tupleItemsOf_ ht ?_)
  refine wpAny_bind (wpAny_typeOf hTs ?_)
  rw [if_pos (by decide)]
  refine wpAny_bind (sliceApplied_gen hs pl pu ?_)
  have hno : ¬ ((((sIx items.size 0 lo : Nat) : Int) == 0 && (1 : Int) == 1 && (sIx items.size items.size hi - sIx items.size 0 lo) == items.size) = true) := by
    intro q
    rw [Bool.and_eq_true, Bool.and_eq_true] at q
    have q1 : ((sIx items.size 0 lo : Nat) : Int) = 0 := eq_of_beq q.1.1
    have q2 : sIx items.size items.size hi - sIx items.size 0 lo = items.size := eq_of_beq q.2
    exact hw ⟨by omega, by omega⟩
  show wpAny _ _ (if (((sIx items.size 0 lo : Nat) : Int) == 0 && (1 : Int) == 1 && (sIx items.size items.size hi - sIx items.size 0 lo) == items.size) = true then _ else _) _ _ s
  rw [if_neg hno, pick_gen]
  first
    | exact wpAny_bind (m := Builtin.Tuple.tupleExact _) (wpAny_newObj_type (wpAny_pure ⟨_, rfl, wpAny_pure h⟩) htake)
    | exact wpAny_bind (m := Builtin.Tuple.tupleExact _) (wpAny_newObj_type (wpAny_bind (wpAny_pure (wpAny_pure ⟨_, rfl, wpAny_pure h⟩))) htake)
    | exact wpAny_bind (wpAny_bind (m := Builtin.Tuple.tupleExact _) (wpAny_newObj_type (wpAny_pure (wpAny_pure ⟨_, rfl, wpAny_pure h⟩)) htake))
    | exact wpAny_bind (wpAny_bind (m := Builtin.Tuple.tupleExact _) (wpAny_newObj_type (wpAny_pure ⟨_, rfl, wpAny_pure h⟩) htake))
end
end HT

namespace L2
open PySem PySem.Spec PyProof.Rows

/-! ### the parts of a slice -/
abbrev TO := St → Hp → (Option Int → Hp → Prop) → Prop
/-- a slice's part (left out, or an int) -/
def PO (X : Cx) (e : Option Expr) (t : TO) : Prop :=
  ∀ (pins : List (Addr × Obj)) (s : Shared) (σ : St) (H : Hp) (Q : Option Int → Hp → Prop), Inv X pins σ H s → t σ H Q →
    wpAny (model X.prog X.w) X.A (evalPart e X.env) (fun u s' => ∃ o H', Inv X pins σ H' s' ∧ IsPart u o ∧ Q o H') X.xe s
def tNoPart : TO := fun _ H Q => Q none H
def tPart (t : TE) : TO := fun σ H Q => t σ H fun x H1 => ∃ i, x = .int i ∧ Q (some i) H1

theorem intsAre_of {ns : List Int} : ∀ {us : List Value}, Vals (ns.map V.int) us → IntsAre us ns := by
  induction ns with
  | nil => intro us r; rw [List.map_nil] at r; cases r; exact .nil
  | cons n ns ih =>
    intro us r
    rw [List.map_cons] at r
    cases r with
    | cons r1 r2 =>
      obtain ⟨t, e⟩ := r1
      subst e
      exact .cons n t (ih r2)

section
variable {X : Cx} {e : Expr} {te : TE} {lo hi : Option Expr} {tl th : TO} {pos p2 : Pos}

theorem po_none : PO X none tNoPart := by
  intro pins s σ H Q I h
  rw [evalPart_none]
  exact wpAny_pure ⟨none, H, I, .none, h⟩
theorem po_some (h : PE X e te) : PO X (some e) (tPart te) := by
  intro pins s σ H Q I hw
  rw [evalPart_some]
  refine thn (h pins s σ H _ I hw) fun u s1 ⟨x, H1, I1, r1, q1⟩ => ?_
  obtain ⟨i, rfl, q⟩ := q1
  obtain ⟨t, rfl⟩ := r1
  exact ⟨some i, H1, I1, .int i t, q⟩

/-- what a slice of a value is, by values: the slice object stands at sl -/
def SlR (X : Cx) (r : V → Option Int → Option Int → Hp → VK → Prop) : Prop :=
  ∀ (pins : List (Addr × Obj)) (s : Shared) (σ : St) (H : Hp) (x : V) (v vl vu : Value) (lo hi : Option Int) (sl : Addr) (Q : VK), Inv X pins σ H s → RelV x v → s.heap.IsSliceOf sl vl vu .none → IsPart vl lo → IsPart vu hi → r x lo hi H Q →
    ∃ T id, typeLookup (.type T) "__getitem__" = pure (some (.builtin id)) ∧ s.TypeIs v T ∧ wpAny (model X.prog X.w) X.A (getItem v (.ref sl)) (EP X pins σ Q) X.xe s
theorem SlR.or {r r' : V → Option Int → Option Int → Hp → VK → Prop} (h : SlR X r) (h' : SlR X r') : SlR X (fun x lo hi H Q => r x lo hi H Q ∨ r' x lo hi H Q) := by
  intro pins s σ H x v vl vu lo hi sl Q I rx hs pl pu q
  rcases q with q | q
  · exact h pins s σ H x v vl vu lo hi sl Q I rx hs pl pu q
  · exact h' pins s σ H x v vl vu lo hi sl Q I rx hs pl pu q
def tSl (r : V → Option Int → Option Int → Hp → VK → Prop) (te : TE) (tl th : TO) : TE := fun σ H Q => te σ H fun x H1 => tl σ H1 fun l H2 => th σ H2 fun u H3 => r x l u H3 Q
/-- a[lo:hi], any a -/
theorem pe_slice {r : V → Option Int → Option Int → Hp → VK → Prop} (hr : SlR X r) (he : PE X e te) (hl : PO X lo tl) (hu : PO X hi th) : PE X (.Subscript e (.Slice lo hi none p2) pos) (tSl r te tl th) := by
  intro pins s σ H Q I h
  refine Subscript_ (thn (he pins s σ H _ I h) fun v s1 ⟨x, H1, I1, r1, q1⟩ => ?_)
  refine wpAny_Slice (thn (hl pins s1 σ H1 _ I1 q1) fun vl s2 ⟨l, H2, I2, pl, q2⟩ => thn (hu pins s2 σ H2 _ I2 q2) fun vu s3 ⟨u, H3, I3, pu, q3⟩ => ?_)
  rw [evalPart_none]
  refine wpAny_pure ?_
  have I4 : Inv X pins σ H3 { s3 with heap := s3.heap.push { cls := .type "slice", data := .fields #[vl, vu, .none] } } := I3.kept (t' := s3.toks) fun b ob q => Heap.get?_push_of_some _ q
  obtain ⟨T, id, hT, ht, hg⟩ := hr pins { s3 with heap := s3.heap.push { cls := .type "slice", data := .fields #[vl, vu, .none] } } σ H3 x v vl vu l u s3.heap.objs.size Q I4 r1 (Heap.IsSliceOf.new ..) pl pu q3
  show wpAny (model X.prog X.w) X.A (subscriptTail e (.Slice lo hi none p2) v (.ref s3.heap.objs.size)) (EP X pins σ Q) X.xe { s3 with heap := s3.heap.push { cls := .type "slice", data := .fields #[vl, vu, .none] } }
  exact tail_any (ops := [.ref s3.heap.objs.size, v]) ht hT hg (by with_unfolding_all rfl)

/-- the items of xs[lo:hi] -/
def cutV (xs : List V) (lo hi : Option Int) : List V := (xs.drop (HT.sIx xs.length 0 lo)).take (HT.sIx xs.length xs.length hi - HT.sIx xs.length 0 lo)
theorem cutV_length (xs : List V) (lo hi : Option Int) : (cutV xs lo hi).length ≤ xs.length := by
  unfold cutV
  rw [List.length_take, List.length_drop]
  omega
/-- t[lo:hi], not the whole of it (the whole would be t itself) -/
def rSlT (K : PySem.W.Frag) : V → Option Int → Option Int → Hp → VK → Prop := fun x lo hi H Q => ∃ a xs, x = .ref a ∧ SqT K H a xs ∧
  ¬ (HT.sIx xs.length 0 lo = 0 ∧ HT.sIx xs.length xs.length hi = xs.length) ∧ ∀ p, H p = none → Q (.ref p) (upd H p (.tup (cutV xs lo hi)))
theorem sl_tup : SlR X (rSlT X.K) := by
  intro pins s σ H x v vl vu lo hi sl Q I rx hs pl pu h
  obtain ⟨a, xs, rfl, hx, hw, q⟩ := h
  cases rx
  obtain ⟨its, r, ht, hz⟩ := I.tuple hx
  have hlen : its.toArray.size = xs.length := by rw [List.size_toArray]; exact r.length.symm
  refine ⟨"tuple", _, PyProof.Rows.slot_tuple_getitem.lookup, ht.typeIs, ?_⟩
  refine HT.getItem_tuple_cut ht hs pl pu (by rw [hlen]; exact hw) ?_ (by rw [hlen]; exact hz)
  rw [hlen]
  refine ⟨.ref s.heap.objs.size, _, I.laid (t' := s.toks) (o := .tup (cutV xs lo hi)) (fun b ob q => Heap.get?_push_of_some _ q) (Nat.le_refl _) ?_, rfl, q _ (I.hok.fresh (Nat.le_refl _))⟩
  exact ⟨Nat.le_trans (cutV_length xs lo hi) hz, _, (r.drop (HT.sIx xs.length 0 lo)).take (HT.sIx xs.length xs.length hi - HT.sIx xs.length 0 lo), IsTup.new _ _⟩

/-! ### t < u, t + u -/
def rLtT (K : PySem.W.Frag) : R2 := fun x y H Q => ∃ a b ns ms, x = .ref a ∧ y = .ref b ∧ SqT K H a (ns.map V.int) ∧ SqT K H b (ms.map V.int) ∧ Q (.bl (HT.lexLt ns ms)) H
theorem op_ltT (hu : X.A.units < cLine) : OpR X (compareOp .Lt) (rLtT X.K) := by
  intro pins s σ H x y v u Q I rx ry h
  obtain ⟨a, b, ns, ms, rfl, rfl, ha, hb, q⟩ := h
  cases rx
  cases ry
  obtain ⟨its, r1, p1, _⟩ := I.tuple ha
  obtain ⟨its2, r2, p2, _⟩ := I.tuple hb
  have i1 : IntsAre its.toArray.toList ns := intsAre_of r1
  have i2 : IntsAre its2.toArray.toList ms := intsAre_of r2
  exact HT.lt_tupInts p1 p2 i1 i2 hu ⟨.bl (HT.lexLt ns ms), H, I, rfl, q⟩
/-- t + u, t not empty: u empty gives t itself -/
def rCatT (K : PySem.W.Frag) : R2 := fun x y H Q => ∃ a b xs ys, x = .ref a ∧ y = .ref b ∧ SqT K H a xs ∧ SqT K H b ys ∧ xs ≠ [] ∧ xs.length + ys.length ≤ sizeLine ∧
  (ys = [] → Q (.ref a) H) ∧ (ys ≠ [] → ∀ p, H p = none → Q (.ref p) (upd H p (.tup (xs ++ ys))))
theorem Vals.nil_iff {xs : List V} {us : List Value} (r : Vals xs us) : us = [] ↔ xs = [] := by
  cases r with
  | nil => simp
  | cons _ _ => simp
theorem op_catT : OpR X (binaryOp .Add) (rCatT X.K) := by
  intro pins s σ H x y v u Q I rx ry h
  obtain ⟨a, b, xs, ys, rfl, rfl, ha, hb, hx, hz, q1, q2⟩ := h
  cases rx
  cases ry
  obtain ⟨its, r1, p1, _⟩ := I.tuple ha
  obtain ⟨its2, r2, p2, _⟩ := I.tuple hb
  refine HT.cat_tup p1 p2 (fun z => hx (r1.nil_iff.mp z)) (fun z => ⟨.ref a, H, I, rfl, q1 (r2.nil_iff.mp z)⟩) (fun z => ?_) (by rw [← r1.length, ← r2.length]; exact hz)
  refine ⟨.ref s.heap.objs.size, _, I.laid (t' := s.toks) (o := .tup (xs ++ ys)) (fun b ob q => Heap.get?_push_of_some _ q) (Nat.le_refl _) ?_, rfl, q2 (fun w => z (r2.nil_iff.mpr w)) _ (I.hok.fresh (Nat.le_refl _))⟩
  exact ⟨by rw [List.length_append]; exact hz, _, r1.append r2, IsTup.new _ _⟩
/-- tuple(t) -/
theorem call_tupleT : CallR X (.type "tuple") (fun xs H Q => ∃ a ys, xs = [.ref a] ∧ SqT X.K H a ys ∧ Q (.ref a) H) := by
  intro pins s σ H xs us Q I r h
  obtain ⟨a, ys, rfl, ha, q⟩ := h
  obtain ⟨u, rfl, ru⟩ := vals1 r
  cases ru
  obtain ⟨its, _, p1, _⟩ := I.tuple ha
  exact call_tuple_same (items := its.toArray) p1 ⟨.ref a, H, I, rfl, q⟩
end
end L2

namespace L2
open PySem PySem.Spec PyProof.Rows

/-! ### places -/
/-- the place that an index of any sign means -/
def ixN (n : Nat) (i : Int) : Option Nat := if 0 ≤ i then (if i < n then some i.toNat else none) else if -(n : Int) ≤ i then some (i + n).toNat else none
def atI {α : Type} (xs : List α) (i : Int) : Option α := (ixN xs.length i).bind fun j => xs[j]?
theorem ixN_seq {n : Nat} {i : Int} {j : Nat} (h : ixN n i = some j) : seqIndex? i n = some j ∧ j < n ∧ -(n : Int) ≤ i ∧ i < n := by
  unfold ixN at h
  by_cases h0 : 0 ≤ i
  · rw [if_pos h0] at h
    by_cases h1 : i < n
    · rw [if_pos h1] at h
      have e : i.toNat = j := Option.some.inj h
      exact ⟨by rw [seqIndex_of h0 h1, e], by omega, by omega, h1⟩
    · rw [if_neg h1] at h; cases h
  · rw [if_neg h0] at h
    by_cases h1 : -(n : Int) ≤ i
    · rw [if_pos h1] at h
      have e : (i + n).toNat = j := Option.some.inj h
      exact ⟨by rw [seqIndex_neg (by omega) h1, e], by omega, h1, by omega⟩
    · rw [if_neg h1] at h; cases h
theorem atI_get {α : Type} {xs : List α} {i : Int} {v : α} (h : atI xs i = some v) : ∃ j, seqIndex? i xs.length = some j ∧ xs[j]? = some v ∧ j < xs.length ∧ -(xs.length : Int) ≤ i ∧ i < xs.length := by
  unfold atI at h
  cases e : ixN xs.length i with
  | none => rw [e] at h; cases h
  | some j =>
    rw [e] at h
    obtain ⟨h1, h2, h3, h4⟩ := ixN_seq e
    exact ⟨j, h1, h, h2, h3, h4⟩
theorem atI_nat {α : Type} {xs : List α} {j : Nat} {v : α} (h : xs[j]? = some v) : atI xs (j : Int) = some v := by
  have hj : j < xs.length := (List.getElem?_eq_some_iff.mp h).1
  have e : ixN xs.length (j : Int) = some j := by
    unfold ixN
    rw [if_pos (by omega), if_pos (by omega)]; simp
  unfold atI; rw [e]; exact h
theorem atI_last {α : Type} (xs : List α) (v : α) : atI (xs ++ [v]) (-1) = some v := by
  have hl : (xs ++ [v]).length = xs.length + 1 := by simp
  have e : ixN (xs ++ [v]).length (-1) = some xs.length := by
    unfold ixN
    rw [hl, if_neg (by decide), if_pos (by omega)]
    congr 1
    omega
  unfold atI
  rw [e]
  show (xs ++ [v])[xs.length]? = some v
  simp

/-! ### what may be subscripted -/
/-- what stands as an index of a plain subscript -/
def PlainIx (b : Expr) : Prop := ∀ o i, subscripted b false o i = operate [o, i] (getItem o i)
/-- a subscript by values -/
def IxR (X : Cx) (r : R2) : Prop :=
  ∀ (value slice : Expr) (pins : List (Addr × Obj)) (s : Shared) (σ : St) (H : Hp) (x y : V) (v u : Value) (Q : VK), Inv X pins σ H s → RelV x v → RelV y u → r x y H Q →
    subscripted slice false v u = operate [v, u] (getItem v u) → wpAny (model X.prog X.w) X.A (subscriptTail value slice v u) (EP X pins σ Q) X.xe s
/-- a call of a builtin's method by values: the receiver, the arguments -/
def MtR (X : Cx) (id : String) (r : V → List V → Hp → VK → Prop) : Prop :=
  ∀ (pins : List (Addr × Obj)) (s : Shared) (σ : St) (H : Hp) (x : V) (xs : List V) (v : Value) (us : List Value) (Q : VK), Inv X pins σ H s → RelV x v → Vals xs us → r x xs H Q →
    wpAny (model X.prog X.w) X.A (call (.builtin id) (v :: us)) (EP X pins σ Q) X.xe s
section
variable {X : Cx} {a b : Expr} {ta tb : TE} {pos : Pos}
theorem IxR.or {r r' : R2} (h : IxR X r) (h' : IxR X r') : IxR X (fun x y H Q => r x y H Q ∨ r' x y H Q) := by
  intro value slice pins s σ H x y v u Q I rx ry q hs
  rcases q with q | q
  · exact h value slice pins s σ H x y v u Q I rx ry q hs
  · exact h' value slice pins s σ H x y v u Q I rx ry q hs
theorem MtR.or {id : String} {r r' : V → List V → Hp → VK → Prop} (h : MtR X id r) (h' : MtR X id r') : MtR X id (fun x xs H Q => r x xs H Q ∨ r' x xs H Q) := by
  intro pins s σ H x xs v us Q I rx rs q
  rcases q with q | q
  · exact h pins s σ H x xs v us Q I rx rs q
  · exact h' pins s σ H x xs v us Q I rx rs q
/-- a[b] -/
theorem pe_ix {r : R2} (hr : IxR X r) (ha : PE X a ta) (hb : PE X b tb) (hs : PlainIx b) : PE X (.Subscript a b pos) (tOp r ta tb) := by
  intro pins s σ H Q I h
  exact Subscript_ (binT ha hb I h fun v u s2 x y H2 I2 rx ry q => hr a b pins s2 σ H2 x y v u Q I2 rx ry q (hs _ _))

def rIxL (K : PySem.W.Frag) : R2 := fun x y H Q => ∃ p xs i v, x = .ref p ∧ y = .int i ∧ SqL K H p xs ∧ atI xs i = some v ∧ Q v H
def rIxT (K : PySem.W.Frag) : R2 := fun x y H Q => ∃ p xs i v, x = .ref p ∧ y = .int i ∧ SqT K H p xs ∧ atI xs i = some v ∧ Q v H
def rIxS : R2 := fun x y H Q => ∃ z i c, x = .str z ∧ y = .int i ∧ z.length ≤ sizeLine ∧ atI z.cps.toList i = some c ∧ Q (.str ⟨#[c]⟩) H
theorem ix_list : IxR X (rIxL X.K) := by
  intro value slice pins s σ H x y v u Q I rx ry h hs
  obtain ⟨p, xs, i, z, rfl, rfl, hq, he, q⟩ := h
  cases rx
  obtain ⟨t, rfl⟩ := ry
  obtain ⟨its, r, pl, hz⟩ := I.list hq
  obtain ⟨j, h1, h2, h3, h4, h5⟩ := atI_get he
  obtain ⟨w, ew, rw'⟩ := r.get h2
  have hl := r.length
  have hn := line63
  have fin : EP X pins σ Q w s := ⟨z, H, I, rw', q⟩
  by_cases h0 : 0 ≤ i
  · have hj : i.toNat = j := by
      rw [seqIndex_of h0 h5] at h1
      exact Option.some.inj h1
    exact item_listR pl.isList h0 (by omega) (by rw [hj]; simpa using ew) fin hs
  · have hj : (i + (its.toArray.size : Int)).toNat = j := by
      rw [seqIndex_neg (by omega) h4] at h1
      rw [List.size_toArray, ← hl]
      exact Option.some.inj h1
    exact subscriptTail_builtinR (x := w) pl.isList.typeIs slot_list_getitem.lookup
      (wpAny_getItem_list_neg (Q := fun r s' => r = w ∧ EP X pins σ Q r s') pl.isList (by omega) (by rw [List.size_toArray] <;> omega) (by omega) (by rw [hj]; simpa using ew) ⟨rfl, fin⟩) hs
theorem ix_tup : IxR X (rIxT X.K) := by
  intro value slice pins s σ H x y v u Q I rx ry h hs
  obtain ⟨p, xs, i, z, rfl, rfl, hq, he, q⟩ := h
  cases rx
  obtain ⟨t, rfl⟩ := ry
  obtain ⟨its, r, pl, hz⟩ := I.tuple hq
  obtain ⟨j, h1, h2, h3, h4, h5⟩ := atI_get he
  obtain ⟨w, ew, rw'⟩ := r.get h2
  have hl := r.length
  have hn := line63
  have fin : EP X pins σ Q w s := ⟨z, H, I, rw', q⟩
  exact subscriptTail_builtinR (x := w) pl.typeIs slot_tuple_getitem.lookup
    (getItem_tuple (j := j) (Q := fun r s' => r = w ∧ EP X pins σ Q r s') pl (by omega) (by omega) (by rw [List.size_toArray, ← hl]; exact h1) (by simpa using ew) ⟨rfl, fin⟩) hs
theorem ix_str : IxR X rIxS := by
  intro value slice pins s σ H x y v u Q I rx ry h hs
  obtain ⟨z, i, c, rfl, rfl, hz, he, q⟩ := h
  obtain ⟨t, rfl⟩ := rx
  obtain ⟨t', rfl⟩ := ry
  obtain ⟨j, h1, h2, h3, h4, h5⟩ := atI_get he
  have hl : z.cps.toList.length = z.length := by simp [Str.length]
  rw [hl] at h1 h4 h5
  have hn := line63
  exact tail_any (typeIs_str s z t) slot_str_getitem.lookup (getItem_str (c := c) (by
    have e1 : decide (i < -(2 ^ 63 : Int)) = false := decide_eq_false (by omega)
    have e2 : decide (i ≥ 2 ^ 63) = false := decide_eq_false (by omega)
    rw [e1, e2, Bool.or_false]) (by rw [h1]; simpa using h2) ⟨.str ⟨#[c]⟩, H, I.tok _, ⟨_, rfl⟩, q⟩) hs
/-- list, tuple or str -/
def rIx (K : PySem.W.Frag) : R2 := fun x y H Q => rIxL K x y H Q ∨ rIxT K x y H Q ∨ rIxS x y H Q
theorem ix_seq : IxR X (rIx X.K) := ix_list.or (ix_tup.or ix_str)

/-! ### xs[i] = v, any sign -/
/-- the list's object behind a store -/
theorem mapSeq_set (its : List Value) (n j : Nat) (u : Value) : Obj.mapSeq (·.setIfInBounds j u) { cls := .type "list", data := .seq its.toArray n } = { cls := .type "list", data := .seq (its.set j u).toArray n } := by
  simp [Obj.mapSeq]
theorem Inv.lst {pins : List (Addr × Obj)} {σ : St} {H : Hp} {s : Shared} {p : Addr} {xs : List V} (I : Inv X pins σ H s) (h : H p = some (.lst xs)) :
    ∃ (its : List Value) (n : Nat), Vals xs its ∧ s.heap.get? p = some { cls := .type "list", data := .seq its.toArray n } ∧ xs.length ≤ sizeLine := by
  obtain ⟨z, its, n, r, e⟩ := I.hok p _ h
  exact ⟨its, n, r, e, z⟩
/-- the list at p is written by an update of its object -/
theorem Inv.lstUpd {pins : List (Addr × Obj)} {σ : St} {H : Hp} {s : Shared} {p : Addr} {xs ys : List V} {its its' : List Value} {n n' : Nat} {f : Obj → Obj} (I : Inv X pins σ H s) (h : H p = some (.lst xs))
    (ho : s.heap.get? p = some { cls := .type "list", data := .seq its.toArray n }) (hf : f { cls := .type "list", data := .seq its.toArray n } = { cls := .type "list", data := .seq its'.toArray n' }) (r : Vals ys its') (hz : ys.length ≤ sizeLine) (t : Nat) :
    Inv X pins σ (upd H p (.lst ys)) { s with heap := s.heap.update p f, toks := t } := by
  have e : (s.heap.update p f).get? p = some { cls := .type "list", data := .seq its'.toArray n' } := by
    rw [Heap.get?_update_self f ho (by rw [hf] <;> rfl), hf]
  refine I.write (x := p) (e := p) (by rw [h]; trivial) (.inl rfl) (fun b u hb q => (Heap.get?_update_other _ _ (Ne.symm hb)).trans q) ⟨_, e⟩ ?_
  exact ⟨hz, its', n', r, e⟩
def rSetL : V → V → V → Hp → (Hp → Prop) → Prop := fun o i v H Q => ∃ p xs k j, o = .ref p ∧ i = .int k ∧ H p = some (.lst xs) ∧ ixN xs.length k = some j ∧ Q (upd H p (.lst (xs.set j v)))
theorem set_list : PSet X rSetL := by
  intro pins s σ H o i v ov iv u Q I ro ri rv h
  obtain ⟨p, xs, k, j, rfl, rfl, hp, hj, q⟩ := h
  cases ro
  obtain ⟨t, rfl⟩ := ri
  obtain ⟨its, n, r, ho, hz⟩ := I.lst hp
  obtain ⟨h1, h2, h3, h4⟩ := ixN_seq hj
  have hl := r.length
  have hn := line63
  have I' : Inv X pins σ (upd H p (.lst (xs.set j v))) { s with heap := s.heap.update p (Obj.mapSeq (·.setIfInBounds j u)) } :=
    I.lstUpd hp ho (mapSeq_set its n j u) (r.set rv j) (by rw [List.length_set]; exact hz) s.toks
  by_cases h0 : 0 ≤ k
  · have hk : k.toNat = j := by
      rw [seqIndex_of h0 h4] at h1
      exact Option.some.inj h1
    exact PySem.W.ki_setAt ho h0 (by omega) (by rw [List.size_toArray, ← hl]; exact h4) (by rw [hk]; exact ⟨_, I', q⟩)
  · have hk : (k + (its.toArray.size : Int)).toNat = j := by
      rw [seqIndex_neg (by omega) h3] at h1
      rw [List.size_toArray, ← hl]
      exact Option.some.inj h1
    exact PySem.W.ki_setBack ho (by omega) (by rw [List.size_toArray, ← hl]; exact h3) (by omega) (by rw [hk]; exact ⟨_, I', q⟩)

/-! ### slices -/
theorem slice_bounds (lo hi : Option Int) (n : Nat) : (sliceBounds lo hi none n).1 = ((HT.sIx n 0 lo : Nat) : Int) ∧ (sliceBounds lo hi none n).2.1 = ((HT.sIx n n hi : Nat) : Int) ∧ (sliceBounds lo hi none n).2.2 = 1 := by
  refine ⟨?_, ?_, rfl⟩
  · cases lo with
    | none => simp [sliceBounds, HT.sIx]
    | some i =>
      simp only [sliceBounds, HT.sIx, Option.getD_none, show (1 : Int) > 0 by decide, if_true]
      by_cases h : i < 0
      · simp only [h, if_true] <;> omega
      · simp only [h, if_false] <;> omega
  · cases hi with
    | none => simp [sliceBounds, HT.sIx]
    | some i =>
      simp only [sliceBounds, HT.sIx, Option.getD_none, show (1 : Int) > 0 by decide, if_true]
      by_cases h : i < 0
      · simp only [h, if_true] <;> omega
      · simp only [h, if_false] <;> omega
theorem slicePick_cut (its : List Value) (lo hi : Option Int) : slicePick its.toArray lo hi none = ((its.drop (HT.sIx its.length 0 lo)).take (HT.sIx its.length its.length hi - HT.sIx its.length 0 lo)).toArray := by
  obtain ⟨h1, h2, h3⟩ := slice_bounds lo hi its.toArray.size
  unfold slicePick
  rw [h1, h2, h3]
  simp only [sliceRange_one, pick_run, List.size_toArray] <;> rfl
/-- xs[lo:hi] of a list: a new list -/
def rSlL (K : PySem.W.Frag) : V → Option Int → Option Int → Hp → VK → Prop := fun x lo hi H Q => ∃ a xs, x = .ref a ∧ SqL K H a xs ∧ ∀ p, H p = none → Q (.ref p) (upd H p (.lst (cutV xs lo hi)))
theorem sl_list : SlR X (rSlL X.K) := by
  intro pins s σ H x v vl vu lo hi sl Q I rx hs pl pu h
  obtain ⟨a, xs, rfl, hx, q⟩ := h
  cases rx
  obtain ⟨its, r, ht, hz⟩ := I.list hx
  have hlen := r.length
  refine ⟨"list", _, slot_list_getitem.lookup, ht.isList.typeIs, ?_⟩
  refine wpAny_getItem_list_slice ht.isList hs pl pu .none (by simp) ?_ (by rw [List.size_toArray] <;> omega)
  rw [slicePick_cut, ← hlen]
  refine ⟨.ref s.heap.objs.size, _, I.laid (t' := s.toks) (o := .lst (cutV xs lo hi)) (fun b ob q => Heap.get?_push_of_some _ q) (Nat.le_refl _) ?_, rfl, q _ (I.hok.fresh (Nat.le_refl _))⟩
  exact ⟨Nat.le_trans (cutV_length xs lo hi) hz, _, 0, (r.drop (HT.sIx xs.length 0 lo)).take (HT.sIx xs.length xs.length hi - HT.sIx xs.length 0 lo), Heap.get?_push_size _ rfl⟩

/-! ### in, not in: flat items -/
def flatV : V → Bool
  | .non => true
  | .bl _ => true
  | .int _ => true
  | .str _ => true
  | _ => false
/-- == of flat values -/
def eqV : V → V → Bool
  | .non, .non => true
  | .bl a, .bl b => a == b
  | .bl a, .int b => (if a then 1 else 0) == b
  | .int a, .bl b => a == (if b then 1 else 0)
  | .int a, .int b => a == b
  | .str a, .str b => a == b
  | _, _ => false
theorem eqAt_V {A : Around} {s : Shared} {y x : V} {u v : Value} (ry : RelV y u) (rx : RelV x v) (fy : flatV y = true) (fx : flatV x = true) : SeqAt.EqAt A s u v (eqV y x) := by
  cases y with
  | non =>
    cases ry
    cases x with
    | non => cases rx; exact SeqAt.EqAt.same _
    | bl b => cases rx; exact SeqAt.EqAt.none_bool b
    | int b => obtain ⟨t, rfl⟩ := rx; exact SeqAt.EqAt.none_int b t
    | str b => obtain ⟨t, rfl⟩ := rx; exact SeqAt.EqAt.none_str b t
    | _ => exact absurd (show false = true from fx) Bool.false_ne_true
  | bl a =>
    cases ry
    cases x with
    | non => cases rx; exact SeqAt.EqAt.bool_none a
    | bl b => cases rx; exact SeqAt.EqAt.bool_bool a b
    | int b => obtain ⟨t, rfl⟩ := rx; exact SeqAt.EqAt.bool_int a b t
    | str b => obtain ⟨t, rfl⟩ := rx; exact SeqAt.EqAt.bool_str a b t
    | _ => exact absurd (show false = true from fx) Bool.false_ne_true
  | int a =>
    obtain ⟨t', rfl⟩ := ry
    cases x with
    | non => cases rx; exact SeqAt.EqAt.int_none a t'
    | bl b => cases rx; exact SeqAt.EqAt.int_bool a t' b
    | int b => obtain ⟨t, rfl⟩ := rx; exact SeqAt.EqAt.int_int a t' b t
    | str b => obtain ⟨t, rfl⟩ := rx; exact SeqAt.EqAt.int_str a t' b t
    | _ => exact absurd (show false = true from fx) Bool.false_ne_true
  | str a =>
    obtain ⟨t', rfl⟩ := ry
    cases x with
    | non => cases rx; exact SeqAt.EqAt.str_none a t'
    | bl b => cases rx; exact SeqAt.EqAt.str_bool a t' b
    | int b => obtain ⟨t, rfl⟩ := rx; exact SeqAt.EqAt.str_int a t' b t
    | str b => obtain ⟨t, rfl⟩ := rx; exact SeqAt.EqAt.str_str a t' b t
    | _ => exact absurd (show false = true from fx) Bool.false_ne_true
  | _ => exact absurd (show false = true from fy) Bool.false_ne_true
/-- the items' answers, read off the values (a value's own answer does not lean on its token) -/
def eqU (x : V) (u : Value) : Bool := match u with
  | .none => eqV .non x
  | .bool b => eqV (.bl b) x
  | .int i _ => eqV (.int i) x
  | .str z _ => eqV (.str z) x
  | _ => false
theorem eqU_of {x y : V} {u : Value} (r : RelV y u) (f : flatV y = true) : eqU x u = eqV y x := by
  cases y with
  | non => cases r; rfl
  | bl b => cases r; rfl
  | int i => obtain ⟨t, rfl⟩ := r; rfl
  | str z => obtain ⟨t, rfl⟩ := r; rfl
  | _ => exact absurd (show false = true from f) Bool.false_ne_true
theorem any_eqU {x : V} : ∀ {xs : List V} {us : List Value}, Vals xs us → xs.all flatV = true → us.any (eqU x) = xs.any fun y => eqV y x
  | _, _, .nil, _ => rfl
  | y :: xs, u :: us, .cons r t, f => by
    rw [List.all_cons, Bool.and_eq_true] at f
    rw [List.any_cons, List.any_cons, eqU_of r f.1, any_eqU t f.2]
theorem mem_eqAt {A : Around} {s : Shared} {x : V} {v : Value} (rx : RelV x v) (fx : flatV x = true) : ∀ {xs : List V} {us : List Value}, Vals xs us → xs.all flatV = true → ∀ u ∈ us, SeqAt.EqAt A s u v (eqU x u)
  | _, _, .nil, _ => fun u hu => by cases hu
  | y :: xs, u :: us, .cons r t, f => fun u' hu => by
    rw [List.all_cons, Bool.and_eq_true] at f
    rcases List.mem_cons.mp hu with rfl | hu
    · rw [eqU_of r f.1]; exact eqAt_V r rx f.1 fx
    · exact mem_eqAt rx fx t f.2 u' hu
def inV (x : V) (xs : List V) : Bool := xs.any fun y => eqV y x
/-- x in a list or tuple of flat items -/
def rIn (K : PySem.W.Frag) (neg : Bool) : R2 := fun x y H Q => ∃ p xs, y = .ref p ∧ (SqL K H p xs ∨ SqT K H p xs) ∧ flatV x = true ∧ xs.all flatV = true ∧ Q (.bl (if neg then !inV x xs else inV x xs)) H
theorem op_in_seq : OpR X (compareOp .In) (rIn X.K false) := by
  intro pins s σ H x y v u Q I rx ry h
  obtain ⟨p, xs, rfl, hq, fx, fs, q⟩ := h
  cases ry
  rcases hq with hq | hq
  · obtain ⟨its, r, pl, hz⟩ := I.list hq
    refine SeqAt.in_listAt (eqU x) pl.isList (fun w hw => mem_eqAt rx fx r fs w (by simpa using hw)) ⟨.bl _, H, I, rfl, ?_⟩
    rw [show its.toArray.any (eqU x) = its.any (eqU x) by simp, any_eqU r fs]
    exact q
  · obtain ⟨its, r, pl, hz⟩ := I.tuple hq
    refine SeqAt.in_tupleAt (eqU x) pl (fun w hw => mem_eqAt rx fx r fs w (by simpa using hw)) ⟨.bl _, H, I, rfl, ?_⟩
    rw [show its.toArray.any (eqU x) = its.any (eqU x) by simp, any_eqU r fs]
    exact q
theorem op_notIn_seq : OpR X (compareOp .NotIn) (rIn X.K true) := by
  intro pins s σ H x y v u Q I rx ry h
  obtain ⟨p, xs, rfl, hq, fx, fs, q⟩ := h
  cases ry
  rcases hq with hq | hq
  · obtain ⟨its, r, pl, hz⟩ := I.list hq
    refine SeqAt.notIn_listAt (eqU x) pl.isList (fun w hw => mem_eqAt rx fx r fs w (by simpa using hw)) ⟨.bl _, H, I, rfl, ?_⟩
    rw [show its.toArray.any (eqU x) = its.any (eqU x) by simp, any_eqU r fs]
    exact q
  · obtain ⟨its, r, pl, hz⟩ := I.tuple hq
    refine SeqAt.notIn_tupleAt (eqU x) pl (fun w hw => mem_eqAt rx fx r fs w (by simpa using hw)) ⟨.bl _, H, I, rfl, ?_⟩
    rw [show its.toArray.any (eqU x) = its.any (eqU x) by simp, any_eqU r fs]
    exact q
theorem op_notIn_str : OpR X (compareOp .NotIn) (fun x y H Q => ∃ i j, x = .str i ∧ y = .str j ∧ Q (.bl (!(!(Builtin.Str.occurrences j i 0 j.length 1).isEmpty))) H) := by
  intro pins s σ H x y v u Q I rx ry h
  obtain ⟨i, j, rfl, rfl, q⟩ := h
  obtain ⟨t, rfl⟩ := rx
  obtain ⟨t', rfl⟩ := ry
  exact notIn_str ⟨.bl _, H, I, rfl, q⟩

/-! ### len, list(x), tuple(x) of any list or tuple that is read -/
theorem call_len_seq : CallR X (.builtin "len") (fun xs H Q => ∃ p ys, xs = [.ref p] ∧ (SqL X.K H p ys ∨ SqT X.K H p ys) ∧ Q (.int ys.length) H) := by
  intro pins s σ H xs us Q I r h
  obtain ⟨p, ys, rfl, hq, q⟩ := h
  obtain ⟨u, rfl, rx⟩ := vals1 r
  cases rx
  have hn := line63
  rcases hq with hq | hq
  · obtain ⟨its, r', pl, hz⟩ := I.list hq
    have hlen := r'.length
    exact Calls.call_len_list pl.isList (by simp only [List.size_toArray] <;> omega) ⟨.int ys.length, H, I.tok _, ⟨s.toks + 1, by rw [List.size_toArray, hlen]⟩, q⟩
  · obtain ⟨its, r', pl, hz⟩ := I.tuple hq
    have hlen := r'.length
    exact len_tuple pl (by simp only [List.size_toArray] <;> omega) ⟨.int ys.length, H, I.tok _, ⟨s.toks + 1, by rw [List.size_toArray, hlen]⟩, q⟩
theorem call_len_str : CallR X (.builtin "len") (fun xs H Q => ∃ z, xs = [.str z] ∧ z.length ≤ sizeLine ∧ Q (.int z.length) H) := by
  intro pins s σ H xs us Q I r h
  obtain ⟨z, rfl, hz, q⟩ := h
  obtain ⟨u, rfl, t, rfl⟩ := vals1 r
  have hn := line63
  exact len_str (by omega) ⟨.int z.length, H, I.tok _, ⟨_, rfl⟩, q⟩
theorem CallR.or {f : Value} {r r' : List V → Hp → VK → Prop} (h : CallR X f r) (h' : CallR X f r') : CallR X f (fun xs H Q => r xs H Q ∨ r' xs H Q) := by
  intro pins s σ H xs us Q I rs q
  rcases q with q | q
  · exact h pins s σ H xs us Q I rs q
  · exact h' pins s σ H xs us Q I rs q
theorem call_list_of : CallR X (.type "list") (fun xs H Q => ∃ p ys, xs = [.ref p] ∧ (SqL X.K H p ys ∨ SqT X.K H p ys) ∧ ∀ l, H l = none → Q (.ref l) (upd H l (.lst ys))) := by
  intro pins s σ H xs us Q I r h
  obtain ⟨p, ys, rfl, hq, q⟩ := h
  obtain ⟨u, rfl, rx⟩ := vals1 r
  cases rx
  have fin : ∀ (its : List Value), Vals ys its → ys.length ≤ sizeLine → ∀ (h' : Heap) (c' : Nat), (∀ b o', s.heap.get? b = some o' → h'.get? b = some o') →
      h'.get? s.heap.objs.size = some { cls := .type "list", dict := none, data := .seq its.toArray c', slots := #[] } → EP X pins σ Q (.ref s.heap.objs.size) { s with heap := h' } := fun its r' hz h' c' kp e =>
    ⟨.ref s.heap.objs.size, _, I.laid (t' := s.toks) kp (Nat.le_refl _) (show ObjOk X.prog X.w _ h' _ (.lst ys) from ⟨hz, its, c', r', e⟩), rfl, q _ (I.hok.fresh (Nat.le_refl _))⟩
  rcases hq with hq | hq
  · obtain ⟨its, r', pl, hz⟩ := I.list hq
    have hlen := r'.length
    obtain ⟨o, ho, hc, n, hd⟩ := pl.isList
    exact call_list_seq p (.inl rfl) ho hc hd (fun h' c' kp e => fin its r' hz h' c' kp e) (by simp only [List.size_toArray] <;> omega)
  · obtain ⟨its, r', pl, hz⟩ := I.tuple hq
    have hlen := r'.length
    obtain ⟨o, ho, hc, n, hd⟩ := pl
    exact call_list_seq p (.inr rfl) ho hc hd (fun h' c' kp e => fin its r' hz h' c' kp e) (by simp only [List.size_toArray] <;> omega)
theorem call_tuple_of : CallR X (.type "tuple") (fun xs H Q => ∃ p ys, xs = [.ref p] ∧ ((SqL X.K H p ys ∧ ∀ l, H l = none → Q (.ref l) (upd H l (.tup ys))) ∨ (SqT X.K H p ys ∧ Q (.ref p) H))) := by
  intro pins s σ H xs us Q I r h
  obtain ⟨p, ys, rfl, h⟩ := h
  obtain ⟨u, rfl, rx⟩ := vals1 r
  cases rx
  rcases h with ⟨hq, q⟩ | ⟨hq, q⟩
  · obtain ⟨its, r', pl, hz⟩ := I.list hq
    have hlen := r'.length
    refine call_tuple_list pl.isList (fun h' kp => ?_) (by simp only [List.size_toArray] <;> omega)
    have I1 : Inv X pins σ H { s with heap := h' } := I.kept (t' := s.toks) kp
    have I2 : Inv X pins σ (upd H h'.objs.size (.tup ys)) { s with heap := h'.push { cls := .type "tuple", data := .seq its.toArray } } :=
      I1.laid (t' := s.toks) (fun b o e => Heap.get?_push_of_some _ e) (Nat.le_refl _) (show ObjOk X.prog X.w _ _ _ (.tup ys) from ⟨hz, its, r', IsTup.new _ _⟩)
    exact ⟨.ref h'.objs.size, _, I2, rfl, q _ (I1.hok.fresh (Nat.le_refl _))⟩
  · obtain ⟨its, r', pl, hz⟩ := I.tuple hq
    exact call_tuple_same pl ⟨.ref p, H, I, rfl, q⟩

/-! ### the call of a builtin's method: o.m(..) -/
/-- the value is of that builtin type -/
def tyV (K : PySem.W.Frag) (T : String) (x : V) (H : Hp) : Prop := match x with
  | .str _ => T = "str"
  | .int _ => T = "int"
  | .ref p => (T = "list" ∧ ∃ xs, SqL K H p xs) ∨ (T = "tuple" ∧ ∃ o, K.lookup p = some o ∧ o.cls = .type "tuple" ∧ o.dict = none) ∨
      (T = "dict" ∧ ((∃ kvs, H p = some (.dK kvs)) ∨ ∃ kvs, H p = some (.dT kvs))) ∨ (T = "set" ∧ ∃ S n, H p = some (.set S n))
  | _ => False
theorem tyV_is {pins : List (Addr × Obj)} {σ : St} {H : Hp} {s : Shared} {T : String} {x : V} {v : Value} (I : Inv X pins σ H s) (r : RelV x v) (ty : tyV X.K T x H) :
    s.TypeIs v T ∧ ∀ a, v = .ref a → ∃ ob, s.heap.get? a = some ob ∧ ob.dict = none := by
  cases x with
  | str z =>
    obtain ⟨t, rfl⟩ := r
    cases (show T = "str" from ty)
    exact ⟨typeIs_str s z t, fun _ e => nomatch e⟩
  | int i =>
    obtain ⟨t, rfl⟩ := r
    cases (show T = "int" from ty)
    exact ⟨typeIs_int s i t, fun _ e => nomatch e⟩
  | ref p =>
    cases r
    rcases ty with ⟨rfl, xs, hq⟩ | ⟨rfl, o, hk, hc, hd⟩ | ⟨rfl, hk⟩ | ⟨rfl, S, n, hk⟩
    · obtain ⟨its, _, pl, _⟩ := I.list hq
      refine ⟨pl.isList.typeIs, fun a e => ?_⟩
      cases e
      obtain ⟨o, n, e, c, hd, _⟩ := pl
      exact ⟨o, e, hd⟩
    · refine ⟨⟨o, I.kIn p o hk, hc⟩, fun a e => ?_⟩
      cases e
      exact ⟨o, I.kIn _ o hk, hd⟩
    · have z : ∃ o, s.heap.get? p = some o ∧ o.ExactDict := by
        rcases hk with ⟨kvs, hk⟩ | ⟨kvs, hk⟩
        · obtain ⟨_, _, _, _, o, _, _, e, ex, _⟩ := I.hok p _ hk
          exact ⟨o, e, ex⟩
        · obtain ⟨_, _, _, _, o, _, _, e, ex, _⟩ := I.hok p _ hk
          exact ⟨o, e, ex⟩
      obtain ⟨o, e, ex⟩ := z
      refine ⟨⟨o, e, ex.1⟩, fun a e2 => ?_⟩
      cases e2
      exact ⟨o, e, ex.2.1⟩
    · obtain ⟨o, _, _, _, e, ex, _⟩ := I.hok p _ hk
      refine ⟨⟨o, e, ex.1⟩, fun a e2 => ?_⟩
      cases e2
      exact ⟨o, e, ex.2.1⟩
  | _ => exact False.elim ty
def tBM0 (K : PySem.W.Frag) (T : String) (r : V → List V → Hp → VK → Prop) (to : TE) : TE := fun σ H Q => to σ H fun x H1 => tyV K T x H1 ∧ r x [] H1 Q
def tBM (K : PySem.W.Frag) (T : String) (r : V → List V → Hp → VK → Prop) (to : TE) (t : TA) : TE := fun σ H Q => to σ H fun x H1 => tyV K T x H1 ∧ t σ H1 fun xs H2 => r x xs H2 Q
variable {o e : Expr} {es : List Expr} {to : TE} {t : TA} {name : Str} {apos cpos : Pos} {T id : String} {r : V → List V → Hp → VK → Prop}
theorem pe_bm0 (pa : PlainAttrs T) (slot : Slot T name id) (hty : typeOf (.builtin id) = pure (.type "method_descriptor")) (hm : MtR X id r) (ho : PE X o to)
    (hbase : attributeBase o name X.env (eval o X.env) = eval o X.env := by rfl) (hline : (apos.endLine == cpos.line) = true := by rfl) : PE X (.Call (.Attribute o name apos) [] [] cpos) (tBM0 X.K T r to) := by
  intro pins s σ H Q I h
  refine wpAny_Call_method0_late hbase hline (thn (ho pins s σ H _ I h) fun v s1 ⟨x, H1, I1, r1, ty, q1⟩ => ?_)
  obtain ⟨h1, h2⟩ := tyV_is I1 r1 ty
  exact ⟨T, id, pa, slot, hty, h1, h2, Calls.callWith_builtin rfl (PySem.evalArgs_none (hm pins s1 σ H1 x [] v [] Q I1 r1 .nil q1))⟩
theorem pe_bm (pa : PlainAttrs T) (slot : Slot T name id) (hty : typeOf (.builtin id) = pure (.type "method_descriptor")) (hm : MtR X id r) (ho : PE X o to) (ha : PA X (e :: es) t)
    (hbase : attributeBase o name X.env (eval o X.env) = eval o X.env := by rfl)
    (hfew : ((backTo cpos (starEach (e :: es) X.env)).all (fun x => !x.1) && (backToKw cpos (keywordEach [] X.env)).all (fun x => x.1.isSome)
      && decide ((e :: es).length + ([] : List Keyword).length + (if ([] : List Keyword).isEmpty then 0 else 1) < 30)) = true := by rfl)
    (hline : (apos.endLine == cpos.line) = true := by rfl) (hs : starEach (e :: es) X.env = (false, eval e X.env) :: starEach es X.env := by rfl) (hplain : (backTo cpos (starEach es X.env)).any (·.1) = false := by rfl) :
    PE X (.Call (.Attribute o name apos) (e :: es) [] cpos) (tBM X.K T r to t) := by
  intro pins s σ H Q I h
  refine wpAny_Call_method_late hbase hfew hline rfl (thn (ho pins s σ H _ I h) fun v s1 ⟨x, H1, I1, r1, ty, q1⟩ => ?_)
  obtain ⟨h1, h2⟩ := tyV_is I1 r1 ty
  refine ⟨T, id, pa, slot, hty, h1, h2, ?_⟩
  have hA := ha cpos pins s1 σ H1 _ I1 q1
  rw [hs] at hA ⊢
  refine Calls.callWith_builtin (by show (false || (backTo cpos (starEach es X.env)).any (·.1)) = false; rw [hplain] <;> rfl) (Calls.evalArgs_plain ?_)
  exact thn hA fun us s2 ⟨vs, H2, I2, r2, q2⟩ => hm pins s2 σ H2 x vs v us Q I2 r1 r2 q2
/- xs.append(e), list.index on a module's tuple .. are MtR facts of 06m -/
end
end L2

namespace L2
open PySem PySem.Spec PyProof.Rows

def MtM (X : Cx) (id : String) (r : V → List V → Hp → VK → Prop) : Prop :=
  ∀ (pins : List (Addr × Obj)) (s : Shared) (σ : St) (H : Hp) (x : V) (xs : List V) (v : Value) (us : List Value) (Q : VK), Inv X pins σ H s → RelV x v → Vals xs us → r x xs H Q →
    wpAny (model X.prog X.w) X.A (call (.builtin id) (v :: us)) (EP X pins σ Q) X.xe s

/-! ### lists of values -/
theorem Vals.one : ∀ {x : V} {us : List Value}, Vals [x] us → ∃ u, us = [u] ∧ RelV x u
  | _, _, .cons r .nil => ⟨_, rfl, r⟩
theorem Vals.two : ∀ {x y : V} {us : List Value}, Vals [x, y] us → ∃ u v, us = [u, v] ∧ RelV x u ∧ RelV y v
  | _, _, _, .cons r (.cons q .nil) => ⟨_, _, rfl, r, q⟩
theorem Vals.zero : ∀ {us : List Value}, Vals [] us → us = []
  | _, .nil => rfl
theorem Vals.dropLast {xs : List V} {us : List Value} (h : Vals xs us) : Vals xs.dropLast us.dropLast := by
  induction h with
  | nil => exact .nil
  | cons r t ih =>
    cases t with
    | nil => exact .nil
    | cons q t' => exact .cons r ih
theorem Vals.eraseIdx : ∀ {xs : List V} {us : List Value} (i : Nat), Vals xs us → Vals (xs.eraseIdx i) (us.eraseIdx i)
  | _, _, _, .nil => .nil
  | _, _, 0, .cons _ t => t
  | _, _, i + 1, .cons r t => .cons r (Vals.eraseIdx i t)
theorem Vals.reverse {xs : List V} {us : List Value} (h : Vals xs us) : Vals xs.reverse us.reverse := by
  induction h with
  | nil => exact .nil
  | cons r t ih => rw [List.reverse_cons, List.reverse_cons]; exact Vals.append ih (.cons r .nil)
theorem Vals.rep {xs : List V} {us : List Value} (h : Vals xs us) : ∀ k : Nat, Vals (List.replicate k xs).flatten (List.replicate k us).flatten
  | 0 => .nil
  | k + 1 => by
    rw [List.replicate_succ, List.replicate_succ, List.flatten_cons, List.flatten_cons]
    exact Vals.append h (Vals.rep h k)
theorem erase_last {α : Type} (l : List α) : l.eraseIdx (l.length - 1) = l.dropLast := by
  induction l with
  | nil => rfl
  | cons a r ih =>
    cases r with
    | nil => rfl
    | cons b r =>
      have e : (a :: b :: r).length - 1 = ((b :: r).length - 1) + 1 := by
        have h1 : (a :: b :: r).length = r.length + 2 := rfl
        have h2 : (b :: r).length = r.length + 1 := rfl
        omega
      rw [e, List.eraseIdx_cons_succ, ih]
      all_goals rfl
theorem len_erase {α : Type} : ∀ (l : List α) (i : Nat), (l.eraseIdx i).length ≤ l.length
  | [], _ => Nat.le_refl _
  | _ :: _, 0 => Nat.le_succ _
  | _ :: r, i + 1 => Nat.succ_le_succ (len_erase r i)
theorem foldl_rep (its : List Value) : ∀ (k : Nat) (acc : List Value),
    List.foldl (fun x1 x2 => x1 ++ x2) acc.toArray (List.replicate k its.toArray) = (acc ++ (List.replicate k its).flatten).toArray
  | 0, acc => by simp
  | k + 1, acc => by
    have e : acc.toArray ++ its.toArray = (acc ++ its).toArray := by simp
    have e2 : (acc ++ its) ++ (List.replicate k its).flatten = acc ++ (List.replicate (k + 1) its).flatten := by
      rw [List.replicate_succ, List.flatten_cons, List.append_assoc]
    rw [← e2, ← foldl_rep its k (acc ++ its), ← e, List.replicate_succ, List.foldl_cons]

section
variable {X : Cx} {pins : List (Addr × Obj)} {σ : St} {H : Hp} {s : Shared} {l b : Addr} {xs ys zs : List V}

/-! ### the two steps: a tracked list is rewritten, a new list is laid -/
theorem Inv.lset {its its' : List Value} {n : Nat} {f : Array Value → Array Value} {t' : Nat} (I : Inv X pins σ H s) (hH : H l = some (.lst xs))
    (e : s.heap.get? l = some { cls := .type "list", data := .seq its.toArray n }) (hf : f its.toArray = its'.toArray) (hv : Vals ys its') (hz : ys.length ≤ sizeLine) :
    Inv X pins σ (upd H l (.lst ys)) { s with heap := s.heap.update l (Obj.mapSeq f), toks := t' } := by
  have q := PySem.IsL.update e f
  rw [hf] at q
  refine I.write (x := l) (e := l) (by rw [hH]; exact trivial) (.inl rfl) (fun b' u hb hu => (Heap.get?_update_other s.heap (Obj.mapSeq f) (Ne.symm hb)).trans hu) ⟨_, q⟩ ?_
  exact ⟨hz, its', _, hv, q⟩
theorem Inv.lnew {its : List Value} {t' : Nat} (I : Inv X pins σ H s) (hv : Vals ys its) (hz : ys.length ≤ sizeLine) :
    Inv X pins σ (upd H s.heap.objs.size (.lst ys)) { s with heap := s.heap.push { cls := .type "list", data := .seq its.toArray }, toks := t' } :=
  I.laid (fun _ _ q => Heap.get?_push_of_some _ q) (Nat.le_refl _) ⟨hz, its, 0, hv, Heap.get?_push_size _ rfl⟩
theorem Inv.fresh (I : Inv X pins σ H s) : H s.heap.objs.size = none := I.hok.fresh (Nat.le_refl _)
theorem Inv.lstM (I : Inv X pins σ H s) (hH : H l = some (.lst xs)) : xs.length ≤ sizeLine ∧ ∃ (its : List Value) (n : Nat), Vals xs its ∧ xs.length = its.length ∧ s.heap.get? l = some { cls := .type "list", data := .seq its.toArray n } := by
  obtain ⟨z, its, n, r, e⟩ := I.hok l _ hH
  exact ⟨z, its, n, r, r.length, e⟩

theorem notLongL {n : Nat} (h : n ≤ sizeLine) : Builtin.List.listTooLong n = false := by
  unfold Builtin.List.listTooLong
  exact decide_eq_false (by omega)
end

section
variable {X : Cx}

/-! ### methods -/
def rAppend : V → List V → Hp → VK → Prop := fun x vs H Q => ∃ l xs y, x = .ref l ∧ vs = [y] ∧ H l = some (.lst xs) ∧ xs.length < sizeLine ∧ Q .non (upd H l (.lst (xs ++ [y])))
theorem mt_append : MtM X "list.append" rAppend := by
  intro pins s σ H x vs v us Q I rx rv h
  obtain ⟨l, xs, y, rfl, rfl, hH, hz, q⟩ := h
  cases rx
  obtain ⟨u, rfl, ru⟩ := rv.one
  obtain ⟨z, its, n, r, hl, e⟩ := I.lstM hH
  refine call_meets F.slot_list_append ⟨_, e, rfl⟩ F.entry_list_append (F.args_list_append_2 _ _) (PySem.list_append l its.toArray n u (by rw [List.size_toArray]; omega)) ⟨e, ?_⟩
  refine ⟨.non, _, I.lset (its' := its ++ [u]) hH e (by simp) (r.append (.cons ru .nil)) ?_, rfl, q⟩
  rw [List.length_append, List.length_singleton]
  omega

def rExtend : V → List V → Hp → VK → Prop := fun x vs H Q => ∃ l b xs zs, x = .ref l ∧ vs = [.ref b] ∧ H l = some (.lst xs) ∧ H b = some (.lst zs) ∧ xs.length + zs.length ≤ sizeLine ∧ Q .non (upd H l (.lst (xs ++ zs)))
theorem mt_extend : MtM X "list.extend" rExtend := by
  intro pins s σ H x vs v us Q I rx rv h
  obtain ⟨l, b, xs, zs, rfl, rfl, hH, hB, hz, q⟩ := h
  cases rx
  obtain ⟨u, rfl, ru⟩ := rv.one
  cases ru
  obtain ⟨z, its, n, r, hl, e⟩ := I.lstM hH
  obtain ⟨z2, its2, n2, r2, hl2, e2⟩ := I.lstM hB
  have hsz : its.toArray.size + its2.toArray.size ≤ sizeLine := by rw [List.size_toArray, List.size_toArray]; omega
  have hlong : ¬ (!its.toArray.isEmpty && Builtin.List.listTooLong (its.toArray.size + its2.toArray.size)) = true := by
    rw [notLongL hsz, Bool.and_false]
    exact Bool.false_ne_true
  refine call_meets F.slot_list_extend ⟨_, e, rfl⟩ F.entry_list_extend (F.args_list_extend_2 _ _)
    (AutoSeq1.list_extend_list_list_0 l its.toArray n b its2.toArray n2 hlong (by rw [List.size_toArray]; omega) (by omega)) ⟨e, e2, ?_⟩
  refine ⟨.non, _, I.lset (its' := its ++ its2) hH e (by simp) (r.append r2) ?_, rfl, q⟩
  rw [List.length_append]
  omega

def rPop : V → List V → Hp → VK → Prop := fun x vs H Q => ∃ l xs y, x = .ref l ∧ vs = [] ∧ H l = some (.lst xs) ∧ xs[xs.length - 1]? = some y ∧ Q y (upd H l (.lst xs.dropLast))
theorem mt_pop : MtM X "list.pop" rPop := by
  intro pins s σ H x vs v us Q I rx rv h
  obtain ⟨l, xs, y, rfl, rfl, hH, hy, q⟩ := h
  cases rx
  have hus := rv.zero
  subst hus
  obtain ⟨z, its, n, r, hl, e⟩ := I.lstM hH
  obtain ⟨u, hu, ru⟩ := r.get hy
  have hy' : its.toArray[its.toArray.size - 1]? = some u := by
    show its.toArray[its.length - 1]? = some u
    rw [← Array.getElem?_toList, ← hl]
    exact hu
  refine call_meets F.slot_list_pop ⟨_, e, rfl⟩ F.entry_list_pop (F.args_list_pop_1 _) (MeetsSeq.list_pop_last l its.toArray n u hy' (by rw [List.size_toArray]; omega)) ⟨e, ?_⟩
  refine ⟨y, _, I.lset (its' := its.dropLast) hH e ?_ r.dropLast ?_, ru, q⟩
  · show its.toArray.eraseIdxIfInBounds (its.toArray.size - 1) = its.dropLast.toArray
    rw [List.size_toArray, List.eraseIdxIfInBounds_toArray, erase_last]
  · rw [List.length_dropLast]
    omega

def rPopAt : V → List V → Hp → VK → Prop := fun x vs H Q => ∃ l xs i k y, x = .ref l ∧ vs = [.int i] ∧ H l = some (.lst xs) ∧ -(2 ^ 63) ≤ i ∧ i < 2 ^ 63 ∧ seqIndex? i xs.length = some k ∧ xs[k]? = some y ∧ Q y (upd H l (.lst (xs.eraseIdx k)))
theorem mt_popAt : MtM X "list.pop" rPopAt := by
  intro pins s σ H x vs v us Q I rx rv h
  obtain ⟨l, xs, i, k, y, rfl, rfl, hH, h1, h2, hk, hy, q⟩ := h
  cases rx
  obtain ⟨u, rfl, ru⟩ := rv.one
  obtain ⟨t, rfl⟩ := ru
  obtain ⟨z, its, n, r, hl, e⟩ := I.lstM hH
  obtain ⟨w, hw, rw'⟩ := r.get hy
  refine call_meets F.slot_list_pop ⟨_, e, rfl⟩ F.entry_list_pop (F.args_list_pop_2 _ _)
    (MeetsSeq.list_pop_at l its.toArray n i t k w (fitsIndex_both h1 h2) (by rw [List.size_toArray, ← hl]; exact hk) (by rw [← Array.getElem?_toList]; exact hw) (by rw [List.size_toArray]; omega)) ⟨e, ?_⟩
  refine ⟨y, _, I.lset (its' := its.eraseIdx k) hH e ?_ (r.eraseIdx k) ?_, rw', q⟩
  · show its.toArray.eraseIdxIfInBounds k = (its.eraseIdx k).toArray
    rw [List.eraseIdxIfInBounds_toArray]
  · have := len_erase xs k
    omega

def rReverse : V → List V → Hp → VK → Prop := fun x vs H Q => ∃ l xs, x = .ref l ∧ vs = [] ∧ H l = some (.lst xs) ∧ Q .non (upd H l (.lst xs.reverse))
theorem mt_reverse : MtM X "list.reverse" rReverse := by
  intro pins s σ H x vs v us Q I rx rv h
  obtain ⟨l, xs, rfl, rfl, hH, q⟩ := h
  cases rx
  have hus := rv.zero
  subst hus
  obtain ⟨z, its, n, r, hl, e⟩ := I.lstM hH
  refine call_meets F.slot_list_reverse ⟨_, e, rfl⟩ F.entry_list_reverse (F.args_list_reverse_1 _) (AutoSeq1.list_reverse_list_0 l its.toArray n (by rw [List.size_toArray]; omega)) ⟨e, ?_⟩
  refine ⟨.non, _, I.lset (its' := its.reverse) hH e (by simp) r.reverse ?_, rfl, q⟩
  rw [List.length_reverse]
  omega

def rClear : V → List V → Hp → VK → Prop := fun x vs H Q => ∃ l xs, x = .ref l ∧ vs = [] ∧ H l = some (.lst xs) ∧ Q .non (upd H l (.lst []))
theorem mt_clear : MtM X "list.clear" rClear := by
  intro pins s σ H x vs v us Q I rx rv h
  obtain ⟨l, xs, rfl, rfl, hH, q⟩ := h
  cases rx
  have hus := rv.zero
  subst hus
  obtain ⟨z, its, n, r, hl, e⟩ := I.lstM hH
  refine call_meets F.slot_list_clear ⟨_, e, rfl⟩ F.entry_list_clear (F.args_list_clear_1 _) (AutoSeq1.list_clear_list_0 l its.toArray n (by rw [List.size_toArray]; omega)) ⟨e, ?_⟩
  exact ⟨.non, _, I.lset (its' := []) (ys := []) hH e rfl .nil (Nat.zero_le _), rfl, q⟩

/-! ### list + list, list += list, list * int -/
def rCat : R2 := fun x y H Q => ∃ l b xs zs, x = .ref l ∧ y = .ref b ∧ H l = some (.lst xs) ∧ H b = some (.lst zs) ∧ xs.length + zs.length ≤ sizeLine ∧ ∀ p, H p = none → Q (.ref p) (upd H p (.lst (xs ++ zs)))
theorem op_cat : OpR X (binaryOp .Add) rCat := by
  intro pins s σ H x y v u Q I rx ry h
  obtain ⟨l, b, xs, zs, rfl, rfl, hH, hB, hz, q⟩ := h
  cases rx
  cases ry
  obtain ⟨z, its, n, r, hl, e⟩ := I.lstM hH
  obtain ⟨z2, its2, n2, r2, hl2, e2⟩ := I.lstM hB
  refine PySem.P.add_list e e2 ?_ (by rw [List.size_toArray, List.size_toArray]; omega)
  have ea : its.toArray ++ its2.toArray = (its ++ its2).toArray := by simp
  rw [ea]
  exact ⟨.ref _, _, I.lnew (t' := s.toks) (r.append r2) (by rw [List.length_append]; omega), rfl, q _ I.fresh⟩
/-- a list times an int (a negative one is nothing) -/
def rRep : R2 := fun x y H Q => ∃ l k xs, x = .ref l ∧ y = .int k ∧ H l = some (.lst xs) ∧ -(2 ^ 63) ≤ k ∧ k < 2 ^ 63 ∧ xs.length * k.toNat ≤ sizeLine ∧
  ∀ p, H p = none → Q (.ref p) (upd H p (.lst (List.replicate k.toNat xs).flatten))
theorem len_rep {α : Type} (xs : List α) (k : Nat) : (List.replicate k xs).flatten.length = k * xs.length := by
  induction k with
  | zero => simp
  | succ k ih => rw [List.replicate_succ, List.flatten_cons, List.length_append, ih, Nat.succ_mul, Nat.add_comm]
theorem op_rep : OpR X (binaryOp .Mult) rRep := by
  intro pins s σ H x y v u Q I rx ry h
  obtain ⟨l, k, xs, rfl, rfl, hH, h1, h2, hz, q⟩ := h
  cases rx
  obtain ⟨t, rfl⟩ := ry
  obtain ⟨z, its, n, r, hl, e⟩ := I.lstM hH
  have hlen : its.toArray.size * k.toNat ≤ sizeLine := by rw [List.size_toArray, ← hl]; exact hz
  have hcap : ¬ its.toArray.size * k.toNat > (2 ^ 63 - 1) / 8 := by
    have : (sizeLine : Nat) ≤ (2 ^ 63 - 1) / 8 := by decide
    omega
  have hfit : ¬ (!Builtin.List.listFitsIndex k) = true := by
    rw [fitsIndex_both h1 h2]
    exact Bool.false_ne_true
  have hlong : ¬ Builtin.List.listTooLong (its.toArray.size * k.toNat) = true := by
    rw [notLongL hlen]
    exact Bool.false_ne_true
  have hnew : List.foldl (fun x1 x2 => x1 ++ x2) #[] (List.replicate (if its.toArray.isEmpty = true then 0 else k.toNat) its.toArray) = (List.replicate k.toNat its).flatten.toArray := by
    have f0 : ∀ m : Nat, List.foldl (fun x1 x2 => x1 ++ x2) #[] (List.replicate m its.toArray) = (List.replicate m its).flatten.toArray := fun m => by
      have := foldl_rep its m []
      rw [List.nil_append] at this
      exact this
    rw [f0]
    cases its with
    | nil => simp
    | cons a r' => rw [if_neg (by simp)]
  refine wpAny_binaryOp_repeat_ref (T := "list") (U := "int") (by decide) ⟨_, e, rfl⟩ (fun s' => typeIs_int s' k t) noFill_list_mul F.fills_int_mul F.slot_int_rmul repeat_list F.slot_int_index.lookup
    (call_meets F.slot_int_rmul (typeIs_int s k t) F.entry_int_rmul (F.args_int_rmul_2 _ _) (int___rmul___int_list k t l its.toArray n)
      ⟨e, rfl, ⟨_, e, rfl⟩, call_meets F.slot_list_mul ⟨_, e, rfl⟩ F.entry_list_mul (F.args_list_mul_2 _ _) (AutoListH.list___mul___list_int_3 l its.toArray n k t hfit hcap hlong) ⟨e, ?_⟩⟩)
  rw [hnew]
  exact ⟨.ref _, _, I.lnew (t' := s.toks) (r.rep k.toNat) (by rw [len_rep, Nat.mul_comm]; exact hz), rfl, q _ I.fresh⟩

/-! ### del xs[i] -/
theorem del_list {pins : List (Addr × Obj)} {s : Shared} {σ : St} {H : Hp} {l : Addr} {xs : List V} {i : Int} {t : Tok} {k : Nat} {Q : Unit → Shared → Prop} (I : Inv X pins σ H s) (hH : H l = some (.lst xs))
    (h1 : -(2 ^ 63) ≤ i) (h2 : i < 2 ^ 63) (hk : seqIndex? i xs.length = some k) (h : ∀ s', Inv X pins σ (upd H l (.lst (xs.eraseIdx k))) s' → Q () s') :
    wpAny (model X.prog X.w) X.A (delItem (.ref l) (.int i t)) Q X.xe s := by
  obtain ⟨z, its, n, r, hl, e⟩ := I.lstM hH
  refine PySem.P.delItem_list (k := k) e (fitsIndex_both h1 h2) (by rw [List.size_toArray, ← hl]; exact hk) (h _ ?_) (by rw [List.size_toArray]; omega)
  refine I.lset (its' := its.eraseIdx k) (t' := s.toks) hH e ?_ (r.eraseIdx k) ?_
  · show its.toArray.eraseIdxIfInBounds k = (its.eraseIdx k).toArray
    rw [List.eraseIdxIfInBounds_toArray]
  · have := len_erase xs k
    omega
end

/-! ### xs[a:b] = ys -/
section
variable {prog : Program} {w : World} {A : Around} {E : Value → Shared → Prop} {s : Shared}
theorem splice_eq (its its2 : List Value) (a c : Nat) : its.toArray.extract 0 a ++ its2.toArray ++ its.toArray.extract c its.toArray.size = (its.take a ++ its2 ++ its.drop c).toArray := by
  apply Array.toList_inj.mp
  first
    | (simp
       exact List.take_of_length_le (by simp))
    | simp [List.take_of_length_le]
    | simp
theorem bounds_run {a c n : Nat} (hac : a ≤ c) (hc : c ≤ n) : sliceBounds (some (a : Int)) (some (c : Int)) none n = ((a : Int), (c : Int), 1) := by
  simp only [sliceBounds, Option.getD_none]
  have h1 : ¬ ((a : Int) < 0) := by omega
  have h2 : ¬ ((c : Int) < 0) := by omega
  simp only [h1, h2, if_false, show (1 : Int) > 0 by decide, if_true]
  congr 1
  · omega
  · congr 1; omega
set_option maxRecDepth 100000 in
/-- list.__setitem__ with a slice of step one and another list -/
theorem setItem_slice {l b sl : Addr} {items new : Array Value} {n n2 : Nat} {vl vu : Value} {a c : Nat} {Q : Unit → Shared → Prop}
    (e : s.heap.get? l = some { cls := .type "list", data := .seq items n }) (e2 : s.heap.get? b = some { cls := .type "list", data := .seq new n2 }) (hne : l ≠ b)
    (hs : s.heap.IsSliceOf sl vl vu .none) (pl : IsPart vl (some (a : Int))) (pu : IsPart vu (some (c : Int))) (hac : a ≤ c) (hc : c ≤ items.size)
    (hsz : items.size + new.size ≤ sizeLine) (h : Q () { s with heap := s.heap.update l (Obj.mapSeq fun xs => xs.extract 0 a ++ new ++ xs.extract c xs.size) }) :
    wpAny (model prog w) A (setItem (.ref l) (.ref sl) (.ref b)) Q E s := by
  have hl : s.heap.IsList l items := PySem.IsL.isList e
  have hb : s.heap.IsList b new := PySem.IsL.isList e2
  obtain ⟨os, hos, hcs, hds⟩ := id hs
  have hTs : s.TypeIs (.ref sl) "slice" := ⟨os, hos, hcs⟩
  have hstep : ¬ ((rawPart none == rawInt 0) = true) := Bool.false_ne_true
  have hsame : Builtin.List.listSameRef (.ref l) (.ref b) = false := by
    unfold Builtin.List.listSameRef
    exact beq_eq_false_iff_ne.mpr hne
  have hmax : (max (a : Int) (c : Int)).toNat = c := by omega
  have hz' : ((fun xs : Array Value => xs.extract 0 a ++ new ++ xs.extract c xs.size) items).size ≤ sizeLine + 1 := by
    simp only [Array.size_append, Array.size_extract]
    omega
  unfold setItem
  try with_reducible refine wpAny_holding ?_
  first | refine wpAny_bind (wpAny_pure ?_) | skip
  refine wpAny_bind (wpAny_sequenceKey hl.typeIs (by decide) ?_)
  refine wpAny_bind (wpAny_callSpecial?_slot (name := Str.ofString "__setitem__") hl.typeIs slot_list_setitem
    (wpAny_call_entry slot_list_setitem hl.typeIs entry_list_setitem ?_ (args_list_setitem _ _ _)))
  show wpAny _ _ (Builtin.List.listSubscript? (.ref sl) >>= _) _ _ s
  refine wpAny_bind ?_
  unfold Builtin.List.listSubscript?
  refine wpAny_bind (wpAny_specialOf hTs slice_no_index ?_)
  simp only [Option.isNone_none, if_true]
  refine wpAny_pure ?_
  show wpAny _ _ (typeOf (.ref sl) >>= _) _ _ s
  refine wpAny_bind (wpAny_typeOf hTs ?_)
  first
    | rw [if_neg (by decide)]
    | refine PySem.W.KFB.if_not (by decide) ?_
  rw [listSliceParts_eq]
  refine wpAny_bind (wpAny_bind (wpAny_field hos hds (x := .none) rfl (wpAny_bind (wpAny_listPart .none ?_))))
  rw [if_neg hstep]
  refine wpAny_bind (wpAny_field hos hds (x := vl) rfl (wpAny_bind (wpAny_listPart pl ?_)))
  refine wpAny_bind (wpAny_field hos hds (x := vu) rfl (wpAny_bind (wpAny_listPart pu (wpAny_pure ?_))))
  first
    | simp only [hsame, Bool.false_eq_true, if_false]
    | refine PySem.W.KFB.if_not hsame ?_
    | (dsimp only
       rw [if_neg (by rw [hsame]; exact Bool.false_ne_true)])
  refine wpAny_bind (m := Builtin.List.listAllItems (.ref b) "must assign iterable to extended slice") ?_
  unfold Builtin.List.listAllItems
  refine wpAny_bind (wpAny_typeOf hb.typeIs ?_)
  first
    | refine PySem.W.KFB.if_so (by decide) ?_
    | rw [if_pos (by decide)]
    | simp only [beq_self_eq_true, Bool.true_or, if_true]
  unfold Builtin.List.listItems
  refine wpAny_bind (wpAny_seqItems e2 rfl (wpAny_pure ?_))
  refine wpAny_bind (wpAny_bind (wpAny_seqItems e rfl (wpAny_pure ?_)))
  refine wpAny_bind (wpAny_of_eq ((sliceIndices_raw (some (a : Int)) (some (c : Int)) none items.size (by simp)).trans (congrArg (pure : Int × Int × Int → Sem (Int × Int × Int)) (bounds_run hac hc))) ?_)
  show wpAny _ _ (if ((1 : Int) == 1) = true then _ else _) _ _ s
  rw [if_pos (by decide)]
  refine wpAny_bind (wpAny_rule ?_)
  first
    | simp only [notLongL hsz, Bool.false_eq_true, if_false]
    | refine PySem.W.KFB.if_not (notLongL hsz) ?_
  first | refine wpAny_bind (wpAny_pure ?_) | skip
  show wpAny _ _ (updateSeq l (fun xs => xs.extract 0 ((a : Int)).toNat ++ new ++ xs.extract (max (a : Int) (c : Int)).toNat xs.size) >>= _) _ _ s
  rw [hmax, Int.toNat_natCast]
  refine wpAny_bind (wpAny_updateSeq (hz := Nat.le_trans (Nat.le_add_right _ _) hsz) (_hz' := hz') e rfl ?_)
  refine wpAny_bind (wpAny_letGo ?_)
  first
    | exact wpAny_bind (wpAny_pure (wpAny_pure ⟨.none, rfl, wpAny_pure h⟩))
    | exact wpAny_pure ⟨.none, rfl, wpAny_pure h⟩
end

section
variable {X : Cx}
/-- xs[a:c] = ys of another list, at the value level: sl is the slice object that was just made -/
theorem set_slice {pins : List (Addr × Obj)} {s : Shared} {σ : St} {H : Hp} {l b sl : Addr} {xs ys : List V} {a c : Int} {vl vu : Value} {Q : Unit → Shared → Prop} (I : Inv X pins σ H s)
    (hH : H l = some (.lst xs)) (hB : H b = some (.lst ys)) (hne : l ≠ b) (hs : s.heap.IsSliceOf sl vl vu .none) (ra : RelV (.int a) vl) (rc : RelV (.int c) vu) (h0 : 0 ≤ a) (hac : a ≤ c) (hc : c ≤ xs.length)
    (hz : xs.length + ys.length ≤ sizeLine) (h : ∀ s', Inv X pins σ (upd H l (.lst (xs.take a.toNat ++ ys ++ xs.drop c.toNat))) s' → Q () s') :
    wpAny (model X.prog X.w) X.A (setItem (.ref l) (.ref sl) (.ref b)) Q X.xe s := by
  obtain ⟨ta, rfl⟩ := ra
  obtain ⟨tc, rfl⟩ := rc
  obtain ⟨z, its, n, r, hl, e⟩ := I.lstM hH
  obtain ⟨z2, its2, n2, r2, hl2, e2⟩ := I.lstM hB
  obtain ⟨a', rfl⟩ := Int.eq_ofNat_of_zero_le h0
  obtain ⟨c', rfl⟩ := Int.eq_ofNat_of_zero_le (Int.le_trans h0 hac)
  simp only [Int.toNat_natCast] at h
  refine setItem_slice (a := a') (c := c') e e2 hne hs (.int _ _) (.int _ _) (by omega) (by rw [List.size_toArray]; omega) (by rw [List.size_toArray, List.size_toArray]; omega) (h _ ?_)
  refine I.lset (its' := its.take a' ++ its2 ++ its.drop c') (t' := s.toks) hH e ?_ (Vals.append (Vals.append (r.take _) r2) (r.drop _)) ?_
  · exact splice_eq its its2 a' c'
  · rw [List.length_append, List.length_append, List.length_take, List.length_drop]
    omega
end
end L2

namespace Att
open PySem PySem.W PySem.Calls PyProof.Rows

/-! ### the script -/
theorem ints_of_wellAll {P : Params} {h : Heap} : ∀ (ns : List Int) (vs : List Value), WellAll P h vs (ns.map WData.int) → IntsAre vs ns := by
  intro ns
  induction ns with
  | nil =>
    intro vs w
    rw [List.map_nil] at w
    cases w
    exact .nil
  | cons n ns ih =>
    intro vs w
    rw [List.map_cons] at w
    cases w with
    | cons a b =>
      cases a
      exact .cons _ _ (ih _ b)

theorem script_of {l : OpenLaw} {n : Nat} (hn : l.most = some n) {P : Params} {h : Heap} {args : List WData} {vals : List Value}
    (hpre : l.row.toRowW.claim.pre args = true) (hwl : WellAll P h vals args) :
    ∃ a vs ns, vals = [Value.ref a] ∧ args = [WData.list (ns.map WData.int)] ∧ h.get? a = some { cls := .type "list", data := .seq vs.toArray } ∧ IntsAre vs ns ∧ ns.length ≤ n := by
  have hsh : WShape.hasAll [] args [.list .int] = true := (pre_splitW hpre).1
  have hc : l.pre.holds [] { args := args } = true := (pre_splitW hpre).2
  obtain ⟨d, r, rfl, h1, h2⟩ := hasAllW_cons hsh
  obtain rfl := hasAllW_nil h2
  obtain ⟨xs, rfl, h3⟩ := hasW_list h1
  obtain ⟨ns, rfl⟩ := items_int h3
  have hlen : ns.length ≤ n := by
    unfold OpenLaw.pre at hc
    have h4 : (WTm.not (.lt (.lit (.int (n : Int))) (.len (.arg 0)))).holds [] { args := [.list (ns.map .int)] } = true := by
      have h4 := (holds_andW hc).1
      rw [hn] at h4
      exact h4
    have h5 := condW_of h4 (w_not (w_lt w_lit (w_len_list (w_arg rfl))))
    rw [List.length_map] at h5
    refine Nat.le_of_not_lt fun q => ?_
    have q' : (n : Int) < ((ns.length : Nat) : Int) := by omega
    first
      | (rw [decide_eq_true q'] at h5; exact absurd h5 (by decide))
      | (simp at h5; omega)
  cases hwl with
  | cons w1 w2 =>
    cases w2
    cases w1 with
    | list ho hall => exact ⟨_, _, ns, rfl, rfl, ho, ints_of_wellAll ns _ hall, hlen⟩

theorem post_true (l : OpenLaw) (args : List WData) : l.row.toRowW.claim.post args (.bool true) args = true :=
  postW_of (r := l.row.toRowW) (X := (true == true))
    (show WShape.has [] (.bool true) .bool = true by first | rfl | decide | simp [WShape.has, WShape.arms, WShape.armsAll])
    (show (WTm.eq .res (.lit (.bool true))).value [] { args := args, res := some (.bool true), after := args } = some (.bool (true == true)) from w_eq_bool (w_res rfl) w_lit) rfl

/-! ### the attachment: holds_open's last premise (the goal 'hc' behind k_head) from a wpAny of the law's body -/
theorem attach {l : OpenLaw} {n : Nat} {q : Program} {loose : List Str} {XP : (Str → Option Value) → Heap → Prop} {YP : World → Heap → Prop} {d : DefRec} {x : Str}
    (hn : l.most = some n) (hdf : d.params.defaults = [])
    (hbind : ∀ pm cd doc v : Value, bindArgs (docDef d.name d.params d.body d.scope pm cd doc) ⟨[v], []⟩ = pure [(x, v)])
    (hx : d.scope.names.lookup x = some .local ∨ d.scope.names.lookup x = some .cell)
    (hk : d.scope.kind = .function) (hco : d.scope.isCoroutine = false) (hgen : d.scope.isGenerator = false)
    (body : ∀ (w : World) (s₀ s₁ s : Shared) (mg mb : Str → Option Value) (fa : Addr) (o : Obj) (pm cd doc : Value) (a : Addr) (vs : List Value) (ns : List Int),
      Ground q loose [] XP w s₀ mg mb s₁.heap → YP w s₁.heap →
      s₁.heap.get? fa = some o → o.data = .func (docDef d.name d.params d.body d.scope pm cd doc) → s₁.heap.CodeRec cd d.name → mg d.name = some (.ref fa) →
      s₁.heap.get? a = some { cls := .type "list", data := .seq vs.toArray } → IntsAre vs ns → ns.length ≤ n →
      s.gens = #[] → s.os = s₁.os →
      Fr s₁.heap s₁.heap.objs.size s.heap (bindL (envOfC d.name d.scope s₁.heap.objs.size fa cd).kindOf [(x, .ref a)] fun _ => none) →
      Cl s₁.heap.objs.size (cellsFrom (s₁.heap.objs.size + 1) d.scope.names []) s.heap (bindC (envOfC d.name d.scope s₁.heap.objs.size fa cd).kindOf [(x, .ref a)] fun _ => none) →
      wpAny (model l.prog w) (callerA.deeper (envOfC d.name d.scope s₁.heap.objs.size fa cd)) (execs d.body (envOfC d.name d.scope s₁.heap.objs.size fa cd))
        (fun f s' => f = .ret (.bool true) ∧ OldK s₁.heap s'.heap ∧ s'.os = s₁.os ∧ AllBare s'.gens) (fun _ _ => False) s) :
    WalkO q loose XP YP l.row.toRowW d [] (fun f vs => PySem.call f vs) := by
  intro w s₀ s₁ mg mb G Y fa o pm cd doc dV kV ho hd hcd hD hmg hg args vals as hpre hlay hrd hwl hlo
  obtain rfl : dV = .none := Dflts.none hD hdf
  obtain rfl : kV = .none := Dflts.noKw hD
  obtain ⟨a, vs, ns, rfl, rfl, hobj, hints, hlen⟩ := script_of hn hpre hwl
  refine enter_call ?_
  refine call_cells_ret (o := o) (by rw [depth_caller]; decide) ho (fd_plain hd) G.T.nolimit hcd (hbind pm cd doc (.ref a)) (fun y hy => ?_) (fun h₁ tk F X => ?_) hco hgen hk
  · obtain rfl : y = (x, Value.ref a) := List.mem_singleton.mp hy
    rcases hx with e | e
    · exact .inl e
    · exact .inr ⟨e, cellsFrom_some _ _ _ (.inl e)⟩
  · refine wpAny_mono (body w s₀ s₁ { s₁ with heap := h₁, toks := tk } mg mb fa o pm cd doc a vs ns G Y ho (fd_plain hd) hcd hmg hobj hints hlen hg rfl F X) (fun f s' hq => ?_) (fun _ _ hq => hq)
    obtain ⟨rfl, h2, h3, h4⟩ := hq
    exact ⟨.inl ⟨.bool true, .bool true, [], rfl, fun _ => rfl, .bool true, post_true l _, fun _ => ⟨List.Pairwise.nil, fun _ hm => (nomatch hm)⟩⟩, h2, h3, h4⟩

/-- the same from a codeAny of the CALL (for a layer whose function contracts speak of calls) -/
theorem attach_call {l : OpenLaw} {n : Nat} {q : Program} {loose : List Str} {XP : (Str → Option Value) → Heap → Prop} {YP : World → Heap → Prop} {d : DefRec}
    (hn : l.most = some n) (hdf : d.params.defaults = [])
    (call : ∀ (w : World) (s₀ s₁ : Shared) (mg mb : Str → Option Value) (fa : Addr) (o : Obj) (pm cd doc : Value) (a : Addr) (vs : List Value) (ns : List Int),
      Ground q loose [] XP w s₀ mg mb s₁.heap → YP w s₁.heap →
      s₁.heap.get? fa = some o → o.data = .func (docDef d.name d.params d.body d.scope pm cd doc) → s₁.heap.CodeRec cd d.name → mg d.name = some (.ref fa) →
      s₁.heap.get? a = some { cls := .type "list", data := .seq vs.toArray } → IntsAre vs ns → ns.length ≤ n → s₁.gens = #[] →
      codeAny (model l.prog w) callerA (.call (.ref fa) ⟨[.ref a], []⟩) (fun r s' => r = .ok (.ret (.bool true)) ∧ OldK s₁.heap s'.heap ∧ s'.os = s₁.os ∧ AllBare s'.gens) s₁) :
    WalkO q loose XP YP l.row.toRowW d [] (fun f vs => PySem.call f vs) := by
  intro w s₀ s₁ mg mb G Y fa o pm cd doc dV kV ho hd hcd hD hmg hg args vals as hpre hlay hrd hwl hlo
  obtain rfl : dV = .none := Dflts.none hD hdf
  obtain rfl : kV = .none := Dflts.noKw hD
  obtain ⟨a, vs, ns, rfl, rfl, hobj, hints, hlen⟩ := script_of hn hpre hwl
  refine enter_call (codeAny_mono (call w s₀ s₁ mg mb fa o pm cd doc a vs ns G Y ho (fd_plain hd) hcd hmg hobj hints hlen hg) fun r s' hq => ?_)
  obtain ⟨rfl, h2, h3, h4⟩ := hq
  exact ⟨.inl ⟨.bool true, .bool true, [], rfl, fun _ => rfl, .bool true, post_true l _, fun _ => ⟨List.Pairwise.nil, fun _ hm => (nomatch hm)⟩⟩, h2, h3, h4⟩

/-- the same where the top left finished generators (o_head chose holds_openN): nothing may have changed at all and no generator may be left -/
theorem attachN {l : OpenLaw} {n : Nat} {q : Program} {loose : List Str} {XP : (Str → Option Value) → Heap → Prop} {YP : World → Heap → Prop} {d : DefRec} {x : Str}
    (hn : l.most = some n) (hdf : d.params.defaults = [])
    (hbind : ∀ pm cd doc v : Value, bindArgs (docDef d.name d.params d.body d.scope pm cd doc) ⟨[v], []⟩ = pure [(x, v)])
    (hx : d.scope.names.lookup x = some .local ∨ d.scope.names.lookup x = some .cell)
    (hk : d.scope.kind = .function) (hco : d.scope.isCoroutine = false) (hgen : d.scope.isGenerator = false)
    (body : ∀ (w : World) (s₀ s₁ s : Shared) (mg mb : Str → Option Value) (fa : Addr) (o : Obj) (pm cd doc : Value) (a : Addr) (vs : List Value) (ns : List Int),
      Ground q loose [] XP w s₀ mg mb s₁.heap → YP w s₁.heap →
      s₁.heap.get? fa = some o → o.data = .func (docDef d.name d.params d.body d.scope pm cd doc) → s₁.heap.CodeRec cd d.name → mg d.name = some (.ref fa) →
      s₁.heap.get? a = some { cls := .type "list", data := .seq vs.toArray } → IntsAre vs ns → ns.length ≤ n →
      s.gens = #[] → s.os = s₁.os →
      Fr s₁.heap s₁.heap.objs.size s.heap (bindL (envOfC d.name d.scope s₁.heap.objs.size fa cd).kindOf [(x, .ref a)] fun _ => none) →
      Cl s₁.heap.objs.size (cellsFrom (s₁.heap.objs.size + 1) d.scope.names []) s.heap (bindC (envOfC d.name d.scope s₁.heap.objs.size fa cd).kindOf [(x, .ref a)] fun _ => none) →
      wpAny (model l.prog w) (callerA.deeper (envOfC d.name d.scope s₁.heap.objs.size fa cd)) (execs d.body (envOfC d.name d.scope s₁.heap.objs.size fa cd))
        (fun f s' => f = .ret (.bool true) ∧ (∀ b o, s₁.heap.get? b = some o → s'.heap.get? b = some o) ∧ s'.os = s₁.os ∧ s'.gens = #[]) (fun _ _ => False) s) :
    WalkN q loose XP YP l.row.toRowW d [] (fun f vs => PySem.call f vs) := by
  intro w s₀ s₁ mg mb G Y fa o pm cd doc dV kV ho hd hcd hD hmg hg args vals as hpre hlay hrd hwl hlo
  obtain rfl : dV = .none := Dflts.none hD hdf
  obtain rfl : kV = .none := Dflts.noKw hD
  obtain ⟨a, vs, ns, rfl, rfl, hobj, hints, hlen⟩ := script_of hn hpre hwl
  refine enter_callW ?_
  refine call_cells_ret (o := o) (by rw [depth_caller]; decide) ho (fd_plain hd) G.T.nolimit hcd (hbind pm cd doc (.ref a)) (fun y hy => ?_) (fun h₁ tk F X => ?_) hco hgen hk
  · obtain rfl : y = (x, Value.ref a) := List.mem_singleton.mp hy
    rcases hx with e | e
    · exact .inl e
    · exact .inr ⟨e, cellsFrom_some _ _ _ (.inl e)⟩
  · refine wpAny_mono (body w s₀ s₁ { s₁ with heap := h₁, toks := tk } mg mb fa o pm cd doc a vs ns G Y ho (fd_plain hd) hcd hmg hobj hints hlen hg rfl F X) (fun f s' hq => ?_) (fun _ _ hq => hq)
    obtain ⟨rfl, h2, h3, h4⟩ := hq
    exact ⟨.inl ⟨.bool true, .bool true, [], rfl, fun _ => rfl, .bool true, post_true l _, fun _ => ⟨List.Pairwise.nil, fun _ hm => (nomatch hm)⟩⟩, h2, h3, h4⟩

/-! ### rules over ANY heap (no ledger) from facts about the written part K: the library's own take a ledger (News) for what they write -/
section
variable {prog : Program} {w : World} {A : Around} {E : Value → Shared → Prop} {s : Shared} {K : Frag}

/-- a def of the module, or a method (qual 'C.m'), entered: the frame is the next address; cells behind it -/
theorem call_fn {R : Result → Shared → Prop} {name qual : Str} {params : Arguments} {body : List Stmt} {scope : Scope} {dV kV doc pm cdv ct oc : Value} {an od : Option Addr} {osl : Array (Option Value)} {f : Addr} {args : Args} {binds : List (Str × Value)}
    (X : K.In s.heap) (hlim : s.heap.NoLimit) (ho : K.lookup f = some ⟨oc, od, .func (fnOf name qual params body scope dV kV doc pm an cdv ct), osl⟩) (hcd : codeIn K cdv qual = true) (hroom : A.depth < recursionLimit)
    (hbind : BindsTo s (fnOf name qual params body scope dV kV doc pm an cdv ct) args binds)
    (hkind : (binds.all fun y => scope.names.lookup y.1 == some .local || scope.names.lookup y.1 == some .cell) = true)
    (h : ∀ s₁, InCallC s s.heap.objs.size (bindL (envOfC qual scope s.heap.objs.size f cdv).kindOf binds fun _ => none) (cellsFrom (s.heap.objs.size + 1) scope.names [])
        (bindC (envOfC qual scope s.heap.objs.size f cdv).kindOf binds fun _ => none) s₁ →
      wpAny (model prog w) (A.deeper (envOfC qual scope s.heap.objs.size f cdv)) (execs body (envOfC qual scope s.heap.objs.size f cdv))
        (fun fl s' => R (.ok (.ret (match fl with | .ret v => v | _ => .none))) s')
        (fun e s' => wpAny (model prog w) (A.deeper (envOfC qual scope s.heap.objs.size f cdv)) (leaving (envOfC qual scope s.heap.objs.size f cdv) e) (fun _ s'' => R (.error e) s'') (fun e' s'' => R (.error e') s'') s') s₁)
    (hco : scope.isCoroutine = false) (hgen : scope.isGenerator = false) (hk : scope.kind = .function) : codeAny (model prog w) A (.call (.ref f) args) R s := by
  refine codeAny_call_function hroom (X _ _ ho) rfl hco hgen rfl (codeRec_of X hcd) (hbind _ _ _ _ ?_)
  refine wpAny_newFunctionEnv_cells hk (kindsX hkind _) fun env he s₁ x => ?_
  subst he
  exact ⟨hlim.keeps x.toInCall.keep, codeAny_func (h s₁ x)⟩

/-- C(..): dict at size, instance at size + 1, then __init__ -/
theorem make_obj {R : Result → Shared → Prop} {C fI : Addr} {rest : List Value} {kw : List (Str × Value)}
    (X : K.In s.heap) (hm : makesIn K C = true) (hi : findIn K (.ref C) "__init__" = some (some (.ref fI))) (hf : isFn K (.ref fI) = true)
    (h : codeAny (model prog w) (A.under (.builtin "type.__call__" ⟨.ref C :: rest, kw⟩)) (.call (.ref fI) ⟨.ref (s.heap.objs.size + 1) :: rest, kw⟩) (InitBack (s.heap.objs.size + 1) R)
      { s with heap := (s.heap.push emptyDict).push (instObj C s.heap.objs.size) }) : codeAny (model prog w) A (.call (.ref C) ⟨rest, kw⟩) R s := by
  obtain ⟨hh, g, d, t, os⟩ := s
  exact make_core (makes_of X hm) (looks_findIn X hi) (fun self => bind_fn X self (beq_iff_eq.mp hf)) (.inl rfl) h

/-- x.name where the instance's dict holds the name and the class does not -/
theorem get_field {x C : Addr} {ox : Obj} {es : List DictEntry} {n : Nat} {name : Str} {expr : Bool} {v : Value} {Q : Value → Shared → Prop}
    (X : K.In s.heap) (I : PySem.W.InstAt s.heap x ox C (some (dictOf es n))) (hg : plainGet K C name = true) (hh : hasDictIn K C = true) (ha : findIn K (.ref C) name = some none)
    (hl : getL name es = some (some v)) (hv : handedIn v = true) (h : Q v { s with toks := s.toks + 1 }) : wpAny (model prog w) A (getAttr (.ref x) name expr) Q E s :=
  get_value X I (plainGet_of hg).1 (findObj_own hh ha rfl hl) hv h

/-- x.m(..): the method found in the class -/
theorem get_method {x C f : Addr} {ox : Obj} {es : List DictEntry} {n : Nat} {name : Str} {pl : Sem Bool} {Q : Value × List Value → Shared → Prop}
    (X : K.In s.heap) (I : PySem.W.InstAt s.heap x ox C (some (dictOf es n))) (hg : plainGet K C name = true) (hf : findIn K (.ref C) name = some (some (.ref f))) (ht : isFn K (.ref f) = true)
    (hl : getL name es = some none) (h : Q (.ref f, [.ref x]) s) : wpAny (model prog w) A (getMethod (.ref x) name pl) Q E s :=
  method_fn X I (plainGet_of hg).1 (plainGet_of hg).2 hf (beq_iff_eq.mp ht) (by show (lookIn name (dictOf es n)).map _ = _; rw [lookIn_dict, hl]; rfl) h

/-! the whole heap as the ledger: makes every rule that writes through a ledger a rule over any heap -/
def noObjs (h : Heap) : Heap := { h with objs := #[] }
theorem noObjs_get (h : Heap) (b : Addr) : (noObjs h).get? b = none := by
  cases e : (noObjs h).get? b with
  | none => rfl
  | some o => exact absurd (Heap.lt_size e) (Nat.not_lt_zero _)
def ledger (h : Heap) (L d : Addr) : List (Addr × Obj) := (List.range h.objs.size).filterMap fun a => if a = L ∨ a = d then none else (h.get? a).map fun o => (a, o)
theorem mem_ledger {h : Heap} {L d a : Addr} {o : Obj} : (a, o) ∈ ledger h L d ↔ a ≠ L ∧ a ≠ d ∧ h.get? a = some o := by
  unfold ledger
  rw [List.mem_filterMap]
  constructor
  · rintro ⟨b, _, e⟩
    split at e
    · cases e
    · rename_i hb
      obtain ⟨o', ho, e'⟩ := Option.map_eq_some_iff.mp e
      cases e'
      exact ⟨fun q => hb (.inl q), fun q => hb (.inr q), ho⟩
  · rintro ⟨n1, n2, ho⟩
    refine ⟨a, List.mem_range.mpr (Heap.lt_size ho), ?_⟩
    rw [if_neg (show ¬ (a = L ∨ a = d) from fun q => q.elim n1 n2), ho] <;> rfl
theorem news_ledger {h : Heap} {L d : Addr} {od : Obj} (hne : d ≠ L) (ho : h.get? d = some od) : News (noObjs h) L h ([] ++ (d, od) :: ledger h L d) := by
  rintro ⟨a, o⟩ hp
  rcases List.mem_cons.mp hp with e | hp
  · cases e
    exact ⟨ho, hne, noObjs_get _ _⟩
  · obtain ⟨n1, n2, e⟩ := mem_ledger.mp hp
    exact ⟨e, n1, noObjs_get _ _⟩
theorem fr_all {h : Heap} {L : Addr} {m : Str → Option Value} (n : h.Ns L m) : Fr (noObjs h) L h m :=
  ⟨n, fun b o e => (by rw [noObjs_get] at e; cases e), Nat.zero_le _⟩
/-- Upd of the head entry (for append_K, setItem_K ..) -/
theorem upd_ledger {h : Heap} {L d : Addr} {o o' : Obj} : Upd d o o' ((d, o) :: ledger h L d) ((d, o') :: ledger h L d) :=
  .head fun ⟨_, _⟩ hp => (mem_ledger.mp hp).2.1

/-- x.name = v over any heap: L is any namespace of the heap (the frame's, say): its map stays, its object is not told; all else but the dict stays -/
theorem set_field {x C dx L : Addr} {ox : Obj} {m : Str → Option Value} {es es' : List DictEntry} {n n' : Nat} {name : Str} {v : Value} {Q : Unit → Shared → Prop}
    (X : K.In s.heap) (I : PySem.W.InstAt s.heap x ox C (some (dictOf es n))) (hd : ox.dict = some dx) (hL : s.heap.Ns L m) (hne : dx ≠ L)
    (hs : findIn K (.ref C) "__setattr__" = some (some (.builtin "object.__setattr__"))) (hp : plainOver K C = true) (ht : takerIn K C name = some none) (hh : hasDictIn K C = true) (hl : (getL name es).isSome = true)
    (e : (putL name (PyData.keyHash w.params name) (.str name (s.toks + 1)) v es, putN name es n) = (es', n')) (hz : es'.length ≤ 1000)
    (h : ∀ h' : Heap, h'.Ns L m → h'.get? dx = some (dictOf es' n') → (∀ b o, b ≠ dx → b ≠ L → s.heap.get? b = some o → h'.get? b = some o) → Q () { s with heap := h', toks := s.toks + 2 }) :
    wpAny (model prog w) A (setAttr (.ref x) name v) Q E s := by
  obtain ⟨e1, e2⟩ := Prod.mk.inj e
  have hdx : s.heap.get? dx = some (dictOf es n) := by
    have := I.dict
    rw [hd] at this
    exact this
  refine set_plain X I hs (osa_dict (s := { s with toks := s.toks + 1 }) (h₀ := noObjs s.heap) (L := L) (m := m) (od := dictOf es n) (od' := dictOf es' n') (es := es') (n := n') (pre := []) (post := ledger s.heap L dx)
    (fr_all hL) (news_ledger hne hdx) X I hd hp ht hh hl (fun _ q => nomatch q) (fun ⟨_, _⟩ q => (mem_ledger.mp q).2.1) (by rw [putName_dict, e1, e2]) rfl hz fun h' F' N' => ?_)
  exact h h' F'.ns (N'.get (List.Mem.head _)) fun b o n1 n2 ho => N'.get (List.Mem.tail _ (mem_ledger.mpr ⟨n2, n1, ho⟩))
end
end Att

namespace L2
open PySem PySem.Spec PyProof.Rows

theorem vals_ints : ∀ {vs : List Value} {ns : List Int}, IntsAre vs ns → Vals (ns.map V.int) vs
  | _, _, .nil => .nil
  | _, _, .cons n t h => .cons ⟨t, rfl⟩ (vals_ints h)

/-- nothing is tracked but the script, known to the object (or it is an object of the module) -/
def Only (H : Hp) : Prop := ∀ b, H b = none ∨ ∃ o xs, H b = some (.frz o (.lst xs))

/-- THE HEAD: the law's promise, at the heap behind the top. F, the promise of the law's def, may use that base is part of the heap (so K.In base, base.Ns mainGlobals mg stand in Mod) -/
theorem law_call {P : Program} {w : World} {K : PySem.W.Frag} {mg mb : Str → Option Value} {CX : CXT} {k : Nat} {fa a : Addr} {fd : FuncData} {x : Str} {sp : Sp} {s₁ : Shared} {vs : List Value} {ns : List Int}
    (KX : K.In s₁.heap) (hns : s₁.heap.Ns mainGlobals mg) (hb : s₁.heap.Ns builtinsNs mb) (hbb : ∀ x : Str, x ≠ "__name__" → mb x = bootBuiltins x) (hlim : s₁.heap.NoLimit) (hg : s₁.gens = #[])
    (ha : s₁.heap.get? a = some { cls := .type "list", data := .seq vs.toArray }) (hi : IntsAre vs ns) (hl : ns.length ≤ sizeLine) (hr : Room k callerA)
    (F : ∀ base : Heap, K.In base → base.Ns mainGlobals mg → FnOk P w K mg base CX k fa fd [x] sp) (hbind : ∀ (s : Shared) (u : Value), BindsTo s fd ⟨[u], []⟩ [(x, u)])
    (hsp : ∀ H : Hp, Only H → SqL K H a (ns.map V.int) → sp [.ref a] H (fun v _ => v = .bl true) fun _ _ _ => False)
    (hCX : ∀ H e s', CX [] H s₁ (fun _ _ _ => False) e s' → False) :
    codeAny (model P w) callerA (.call (.ref fa) ⟨[.ref a], []⟩) (fun r s' => r = .ok (.ret (.bool true)) ∧ OldK s₁.heap s'.heap ∧ s'.os = s₁.os ∧ AllBare s'.gens) s₁ := by
  have rv := vals_ints hi
  have lenV := hi.length
  -- from an abstract heap in which nothing but the script may be tracked
  have core : ∀ H : Hp, Only H → SqL K H a (ns.map V.int) → HOk P w H s₁.heap → (∀ b, H b ≠ none → b = a) → (H a ≠ none → K.lookup a = none) →
      codeAny (model P w) callerA (.call (.ref fa) ⟨[.ref a], []⟩) (fun r s' => r = .ok (.ret (.bool true)) ∧ OldK s₁.heap s'.heap ∧ s'.os = s₁.os ∧ AllBare s'.gens) s₁ := by
    intro H hO hS hok hA hK
    have base_of : ∀ {b : Addr} {o : Obj}, s₁.heap.get? b = some o → H b = none → (hidT s₁.heap H).get? b = some o := fun e n => hidT_get e n
    have noA : ∀ {b : Addr} {o : Obj} {es : Array DictEntry} {ep : Nat}, s₁.heap.get? b = some o → o.data = .dict es ep → H b = none := fun {b o es ep} e d => by
      cases q : H b with
      | none => rfl
      | some u =>
        have e' : b = a := hA b (by rw [q]; simp)
        subst e'
        rw [ha] at e; cases e
        have d' : Data.seq vs.toArray _ = Data.dict es ep := d
        cases d'
    have nsK : ∀ {b : Addr} {m : Str → Option Value}, s₁.heap.Ns b m → (hidT s₁.heap H).Ns b m := fun {b m} ⟨o, es, ep, e, d, r⟩ => ⟨o, es, ep, base_of e (noA e d), d, r⟩
    have hKb : K.In (hidT s₁.heap H) := fun b o e => base_of (KX b o e) (by
      cases q : H b with
      | none => rfl
      | some u =>
        have e' : b = a := hA b (by rw [q]; simp)
        subst e'
        rw [hK (by rw [q]; simp)] at e; cases e)
    have hM : Mod K mg (hidT s₁.heap H) := ⟨hKb, nsK hns, ⟨mb, nsK hb, hbb⟩, let ⟨mc, h1, h2⟩ := hlim; ⟨mc, nsK h1, h2⟩⟩
    have e0 : Env0 P w K mg (hidT s₁.heap H) callerA [] s₁ H := ⟨rfl, hM, fun b o e => of_hidT e, Nat.le_of_eq (hidT_size _ _), trivial, fun b hb => absurd (show b ∈ ([] : List Addr) from hb) (by simp), hok, .of_eq hg⟩
    refine codeAny_mono ((F _ hKb (nsK hns)).run callerA [] s₁ H ⟨[.ref a], []⟩ [.ref a] [.ref a] _ _ hr e0 (hbind s₁ (.ref a)) (.cons rfl .nil) (hsp H hO hS)) fun r s' h => ?_
    cases r with
    | error e => exact (hCX H e s' h).elim
    | ok fl =>
      cases fl with
      | next => exact False.elim h
      | brk => exact False.elim h
      | cont => exact False.elim h
      | ret u =>
        obtain ⟨v, H', os, bare, un, hok', r', q⟩ := h
        have q' : v = .bl true := q
        subst q'
        obtain rfl : u = Value.bool true := r'
        refine ⟨rfl, OldK.of_keep fun b o e => ?_, os, bare⟩
        cases q : H b with
        | none => exact un.keep b o e q (by intro z; exact absurd (show b ∈ ([] : List Addr) from z) (by simp)) (by simp)
        | some u =>
          rcases hO b with z | ⟨ob, xs, z⟩
          · rw [q] at z; cases z
          · have z2 := un.frzs b ob _ z
            obtain ⟨e1, _⟩ := hok b _ z
            obtain ⟨e2, _⟩ := hok' b _ z2
            rw [e] at e1; cases e1
            exact e2
  cases hk : K.lookup a with
  | some o =>
    -- the script is one of the module's own objects
    have e := KX a o hk
    rw [ha] at e
    cases e
    refine core (fun _ => none) (fun _ => .inl rfl) (.inr ⟨_, vs.toArray, _, hk, rfl, rfl, rfl, by rw [List.size_toArray, lenV]; exact hl, by simpa using rv⟩) (fun b u z => by have z' : (none : Option HO) = some u := z; cases z') (fun b z => absurd rfl z) fun z => absurd rfl z
  | none =>
    refine core (fun b => if b = a then some (.frz { cls := .type "list", data := .seq vs.toArray } (.lst (ns.map V.int))) else none) (fun b => ?_) (.inl (.inr ⟨{ cls := .type "list", data := .seq vs.toArray }, if_pos rfl⟩)) (fun b u z => ?_) (fun b z => ?_) fun _ => hk
    · by_cases hb : b = a
      · exact .inr ⟨_, _, if_pos hb⟩
      · exact .inl (if_neg hb)
    · by_cases hb : b = a
      · have z' := (if_pos hb).symm.trans z
        cases z'
        subst hb
        exact ⟨ha, by rw [List.length_map]; exact hl, vs, _, rv, ha⟩
      · have z' := (if_neg hb).symm.trans z
        cases z'
    · by_cases hb : b = a
      · exact hb
      · exact absurd (if_neg hb) z
end L2

namespace L2
open PySem PySem.Spec PyProof.Rows

abbrev KOf {K : PySem.W.Frag} {h : Heap} (_ : K.In h) : PySem.W.Frag := K

/-- the goal that k_head leaves (case hc), from the law's promise. F gives the function object fd (K's own) once, then the promise over every base -/
theorem walk_of {l : PySem.W.OpenLaw} {n k : Nat} {q : Program} {loose : List Str} {XP : (Str → Option Value) → Heap → Prop} {YP : World → Heap → Prop} {d : DefRec} {K : Params → PySem.W.Frag} {CX : World → CXT} {sp : World → Sp} {x : Str}
    (hn : l.most = some n) (hn2 : n ≤ sizeLine) (hdf : d.params.defaults = []) (hr : Room k callerA)
    (hY : ∀ (w : World) (h : Heap), YP w h → (K w.params).In h)
    (F : ∀ (w : World) (mg : Str → Option Value) (fa : Addr) (h : Heap), (K w.params).In h → h.Ns mainGlobals mg → mg d.name = some (.ref fa) →
      ∃ fd : FuncData, (∀ (s : Shared) (u : Value), BindsTo s fd ⟨[u], []⟩ [(x, u)]) ∧
        ∀ base : Heap, (K w.params).In base → base.Ns mainGlobals mg → FnOk l.prog w (K w.params) mg base (CX w) k fa fd [x] (sp w))
    (hsp : ∀ (w : World) (H : Hp) (a : Addr) (ns : List Int), ns.length ≤ n → Only H → SqL (K w.params) H a (ns.map V.int) → sp w [.ref a] H (fun v _ => v = .bl true) fun _ _ _ => False)
    (hCX : ∀ (w : World) (H : Hp) (s : Shared) (e : Value) (s' : Shared), CX w [] H s (fun _ _ _ => False) e s' → False) :
    PySem.W.WalkO q loose XP YP l.row.toRowW d [] (fun f vs => PySem.call f vs) := by
  refine Att.attach_call hn hdf fun w s₀ s₁ mg mb fa o pm cd doc a vs ns G Y ho hd hcd hmg hobj hints hlen hg => ?_
  have KX := hY w _ Y
  obtain ⟨fd, hb, hF⟩ := F w mg fa _ KX G.T.g hmg
  exact law_call KX G.T.g G.T.b G.T.builtins G.T.nolimit hg hobj hints (Nat.le_trans hlen hn2) hr hF hb (fun H hO hS => hsp w H a ns hlen hO hS) fun H e s' => hCX w H s₁ e s'
/-- the same where the promise hangs on the written part alone: (sp := My.sp_law), no hole under a binder -/
theorem walk_ofK {l : PySem.W.OpenLaw} {n k : Nat} {q : Program} {loose : List Str} {XP : (Str → Option Value) → Heap → Prop} {YP : World → Heap → Prop} {d : DefRec} {K : Params → PySem.W.Frag} {CX : CXT} {sp : PySem.W.Frag → Sp} {x : Str}
    (hn : l.most = some n) (hn2 : n ≤ sizeLine) (hdf : d.params.defaults = []) (hr : Room k callerA)
    (hY : ∀ (w : World) (h : Heap), YP w h → (K w.params).In h)
    (F : ∀ (w : World) (mg : Str → Option Value) (fa : Addr) (h : Heap), (K w.params).In h → h.Ns mainGlobals mg → mg d.name = some (.ref fa) →
      ∃ fd : FuncData, (∀ (s : Shared) (u : Value), BindsTo s fd ⟨[u], []⟩ [(x, u)]) ∧
        ∀ base : Heap, (K w.params).In base → base.Ns mainGlobals mg → FnOk l.prog w (K w.params) mg base CX k fa fd [x] (sp (K w.params)))
    (hsp : ∀ (K : PySem.W.Frag) (H : Hp) (a : Addr) (ns : List Int), ns.length ≤ n → Only H → SqL K H a (ns.map V.int) → sp K [.ref a] H (fun v _ => v = .bl true) fun _ _ _ => False)
    (hCX : ∀ (H : Hp) (s : Shared) (e : Value) (s' : Shared), CX [] H s (fun _ _ _ => False) e s' → False) :
    PySem.W.WalkO q loose XP YP l.row.toRowW d [] (fun f vs => PySem.call f vs) :=
  walk_of (K := K) (CX := fun _ => CX) (sp := fun w => sp (K w.params)) hn hn2 hdf hr hY F (fun w H a ns h1 h2 h3 => hsp (K w.params) H a ns h1 h2 h3) fun _ H s e s' => hCX H s e s'
end L2

/- THE LAST THEOREM (shape; LID, My.* are yours):
   My.Adr: a structure of the addresses that your layer names (classes, functions); My.Txt K t: a structure (Prop) of the equations over K;
   My.txt_mk : {K} {implicit addresses ..} (e1 : nsIn K mainGlobals "law" = some (some (.ref f))) (e2 : K.lookup f = some ⟨oc, od, .func (fnOf "law" "law" params body scope dV kV doc pm an cdv ct), sl⟩) (e3 : codeIn K cdv "law" = true) .. : ∃ t, My.Txt K t

set_option maxRecDepth 100000 in
set_option maxHeartbeats 0 in
theorem PySem.Challenge.cw_LID_holds : PySem.Challenge.rw_LID.Holds := by
  w_on; o_law; k_head; (case hw => w_witness2)
  k_fill
  refine L2.walk_of (l := PySem.Challenge.rw_LID) (n := 63) (k := 40) (x := "script") (CX := fun w => ..) (sp := fun _ => My.sp_law) rfl (by decide) rfl ⟨rfl, by decide, by decide⟩ (fun w h Y => PySem.W.kIn_of Y) ?F ?S ?C
  case F =>
    intro w mg fa h KX G hmg
    have T : ∃ t, My.Txt (L2.KOf KX) t := by
      dsimp only [L2.KOf]                          -- K must stand as «<heap const> w.params» for k_is
      refine' My.txt_mk ?e1 ?e2 ?e3 ..
      (case e1 => PySem.W.k_is)                    -- in the order: a name -> its address -> its object -> its parts
      (case e2 => PySem.W.k_is)
      ..
    obtain ⟨t, T⟩ := T
    have e0 := hmg.symm.trans (PySem.W.mg_of KX G T.law)
    cases e0                                       -- fa is the law's own address
    exact ⟨_, fun s u => .of_eq rfl, fun base kb nb => My.law_fn T kb nb⟩     -- if «.of_eq rfl» comes too early: refine' ⟨_, ?b, fun base kb nb => My.law_fn T kb nb⟩; exact fun s u => .of_eq rfl
  case S => exact fun w H a ns hl hO hS => ..
  case C => exact ..
(the tactic k_is has no namespace: write k_is) -/

/-! SHORT WORDS over the layer: a def of the text, its body, what a loop and a test want. -/
namespace L2
open PySem PySem.Spec PyProof.Rows

/-! ### the text by places -/
/-- the j-th statement of a class's body -/
def inClass (s : Stmt) (j : Nat) : Stmt := match s with
  | .ClassDef _ _ _ body _ _ _ _ _ _ _ => body.getD j (.Pass ⟨0, 0, 0, 0⟩)
  | _ => .Pass ⟨0, 0, 0, 0⟩
def defArgs (s : Stmt) : Arguments := match s with
  | .FunctionDef _ a _ _ _ _ _ _ _ _ => a
  | _ => { posonlyargs := [], args := [], vararg := none, kwonlyargs := [], kw_defaults := [], kwarg := none, defaults := [] }
def defBody (s : Stmt) : List Stmt := match s with
  | .FunctionDef _ _ b _ _ _ _ _ _ _ => b
  | _ => []
def defScope (s : Stmt) : Scope := match s with
  | .FunctionDef _ _ _ _ _ _ sc _ _ _ => sc
  | _ => { kind := .function, names := [], isGenerator := false, isCoroutine := false }

/-! ### no exception leaves a def -/
abbrev CX0 : CXT := fun _ _ _ _ _ _ => False
abbrev E0 : XK := fun _ _ _ => False
theorem pass0 {X : Cx} : Passes CX0 X E0 := fun _ _ _ _ _ _ _ h => h.elim

/-! ### a def (or method) of the text as it stands behind the top -/
structure Fun (K : PySem.W.Frag) (x qual : Str) (st : Stmt) (f : Addr) (fd : FuncData) : Prop where
  ex : ∃ (oc : Value) (od : Option Addr) (kV doc pm : Value) (an : Option Addr) (cdv ct : Value) (osl : Array (Option Value)),
    fd = PySem.W.fnOf x qual (defArgs st) (defBody st) (defScope st) .none kV doc pm an cdv ct ∧ K.lookup f = some ⟨oc, od, .func fd, osl⟩ ∧ PySem.W.codeIn K cdv qual = true
  kp : PySem.W.keepIn K (.ref f) = true
section
variable {P : Program} {w : World} {K : PySem.W.Frag} {mg : Str → Option Value} {base : Heap}
/-- THE RULE for a def: its body as a term of rules, and the reading of that term -/
theorem Fun.ok {x qual : Str} {st : Stmt} {f : Addr} {fd : FuncData} {N ps : List Str} {k : Nat} {sp : Sp} (F : Fun K x qual st f fd) (S : FnScope N ps (defScope st)) (len : ∀ vs H Q E, sp vs H Q E → vs.length = ps.length)
    (hbody : ∀ (cdv : Value) (A : Around) (outer : List Env) (s : Shared) (H : Hp) (vs : List V) (Q : VK) (E : XK), Room k (A.deeper (envOfC qual (defScope st) s.heap.objs.size f cdv)) → sp vs H Q E →
      ∃ t, PSs (cxOf CX0 P w K mg base N qual (defScope st) f cdv A outer s H E).nox (defBody st) t ∧ t { nx := fun _ H' => Q .non H', rt := Q } (start N vs) H) : FnOk P w K mg base CX0 (k + 1) f fd ps sp := by
  obtain ⟨oc, od, kV, doc, pm, an, cdv, ct, osl, rfl, lk, hcd⟩ := F.ex
  refine fn_of lk hcd S len fun A outer s H vs Q E hr hsp => ?_
  obtain ⟨t, h, q⟩ := hbody cdv A outer s H vs Q E hr hsp
  exact ⟨t, h.nox, q⟩
/-- how its arguments bind (no defaults): h is «fun _ _ _ _ _ _ us hl => match us, hl with | [_, _], _ => rfl», one _ a parameter -/
theorem Fun.binds {x qual : Str} {st : Stmt} {f : Addr} {fd : FuncData} {ps : List Str} (F : Fun K x qual st f fd)
    (h : ∀ (kV doc pm : Value) (an : Option Addr) (cdv ct : Value) (us : List Value), us.length = ps.length → bindArgs (PySem.W.fnOf x qual (defArgs st) (defBody st) (defScope st) .none kV doc pm an cdv ct) ⟨us, []⟩ = pure (ps.zip us)) : Binds K fd ps [] := by
  obtain ⟨oc, od, kV, doc, pm, an, cdv, ct, osl, rfl, lk, hcd⟩ := F.ex
  exact .all (h kV doc pm an cdv ct)
theorem fun_mk {x qual : Str} {st : Stmt} {f : Addr} {oc : Value} {od an : Option Addr} {osl : Array (Option Value)} {kV doc pm cdv ct : Value} (l : K.lookup f = some ⟨oc, od, .func (PySem.W.fnOf x qual (defArgs st) (defBody st) (defScope st) .none kV doc pm an cdv ct), osl⟩)
    (c : PySem.W.codeIn K cdv qual = true) (k : PySem.W.keepIn K (.ref f) = true) : Fun K x qual st f (PySem.W.fnOf x qual (defArgs st) (defBody st) (defScope st) .none kV doc pm an cdv ct) := ⟨⟨oc, od, kV, doc, pm, an, cdv, ct, osl, rfl, l, c⟩, k⟩
end
theorem hu_of {A : Around} {k : Nat} (hr : Room k A) : A.units + 1 < cLine := Nat.lt_of_le_of_lt (Nat.add_le_add_left (by decide : 1 ≤ 64) _) hr.units
theorem small1000 {n : Nat} (h : n ≤ 1000) : n < sizeLine := Nat.lt_of_le_of_lt h (by decide)

/-! ### expressions in short: the name that stands in the i-th slot -/
section
variable {X : Cx}
theorem pv (i : Nat) {x : Str} {pos : Pos} (hN : X.N[i]? = some x := by rfl) (hv : Vis X.env.scope x := by first | exact Or.inl rfl | exact Or.inr (Or.inl rfl) | exact Or.inr (Or.inr rfl)) (hd : (x == ("__debug__" : Str)) = false := by decide)
    (hcd : (x == ("__classdict__" : Str)) = false := by decide) : PE X (.Name x pos) (tVar i) := pe_var hN hv hd hcd
end

/-! ### tests -/
theorem iteF {A B : Prop} (h : B) : if false = true then A else B := by
  rw [if_neg Bool.false_ne_true]
  exact h
theorem iteT {A B : Prop} (h : A) : if true = true then A else B := by
  rw [if_pos rfl]
  exact h
theorem ite2 {c A B : Prop} [Decidable c] (h1 : c → A) (h2 : ¬ c → B) : if c then A else B := by
  by_cases h : c
  · rw [if_pos h]
    exact h1 h
  · rw [if_neg h]
    exact h2 h
theorem iteNS {c A B : Prop} [Decidable c] (hc : c) (h : B) : if (!decide c) = true then A else B := by
  rw [decide_eq_true hc]
  exact iteF h

/-! ### heaps -/
/-- all that was tracked is as it was -/
def Same (H H' : Hp) : Prop := ∀ b o, H b = some o → H' b = some o
theorem Same.refl (H : Hp) : Same H H := fun _ _ h => h
theorem Same.trans {H H1 H2 : Hp} (a : Same H H1) (b : Same H1 H2) : Same H H2 := fun c o h => b c o (a c o h)
theorem Same.free {H H' : Hp} (e : Same H H') {l : Addr} (h : H' l = Option.none) : H l = Option.none := by
  cases q : H l with
  | none => rfl
  | some o =>
    rw [e l o q] at h
    cases h
theorem Same.seq {K : PySem.W.Frag} {H H' : Hp} {a : Addr} {xs : List V} (e : Same H H') (h : SqL K H a xs) : SqL K H' a xs := by
  rcases h with (h | ⟨o, h⟩) | h
  · exact .inl (.inl (e _ _ h))
  · exact .inl (.inr ⟨o, e _ _ h⟩)
  · exact .inr h

end L2

namespace L2
open PySem PySem.Spec PyProof.Rows

/-! ### lists of pairs as tables -/
section
variable {κ : Type} [DecidableEq κ]
def valV (kvs : List (κ × V)) (k : κ) : Option V := (kvs.find? fun kv => decide (kv.1 = k)).map (·.2)
/-- in its place, or at the end -/
def putK (kvs : List (κ × V)) (k : κ) (v : V) : List (κ × V) :=
  if (kvs.any fun kv => decide (kv.1 = k)) = true then kvs.map (fun kv => if kv.1 = k then (kv.1, v) else kv) else kvs ++ [(k, v)]
def dropK (kvs : List (κ × V)) (k : κ) : List (κ × V) := kvs.filter fun kv => decide (kv.1 ≠ k)

theorem valV_nil {k : κ} : valV ([] : List (κ × V)) k = none := rfl
theorem valV_pos {p : κ × V} {r : List (κ × V)} {k : κ} (e : p.1 = k) : valV (p :: r) k = some p.2 := by simp [valV, List.find?_cons, e]
theorem valV_neg {p : κ × V} {r : List (κ × V)} {k : κ} (e : ¬ p.1 = k) : valV (p :: r) k = valV r k := by simp [valV, List.find?_cons, e]
theorem valV_any (k : κ) : ∀ kvs : List (κ × V), (kvs.any fun kv => decide (kv.1 = k)) = (valV kvs k).isSome
  | [] => rfl
  | p :: r => by
    rw [List.any_cons]
    by_cases e : p.1 = k
    · simp only [valV_pos e, decide_eq_true e, Bool.true_or, Option.isSome_some]
    · rw [valV_neg e, decide_eq_false e, Bool.false_or]; exact valV_any k r
theorem valV_map (k j : κ) (y : V) : ∀ kvs : List (κ × V), valV (kvs.map fun kv => if kv.1 = k then (kv.1, y) else kv) j = (valV kvs j).map fun x => if j = k then y else x
  | [] => rfl
  | p :: r => by
    have ih := valV_map k j y r
    rw [List.map_cons]
    by_cases h : p.1 = k
    · rw [if_pos h]
      by_cases e : p.1 = j
      · rw [valV_pos (p := (p.1, y)) e, valV_pos e, Option.map_some, if_pos (e.symm.trans h)]
      · rw [valV_neg (p := (p.1, y)) e, valV_neg e, ih]
    · rw [if_neg h]
      by_cases e : p.1 = j
      · rw [valV_pos (p := p) e, valV_pos e, Option.map_some, if_neg (fun z => h (e.trans z))]
      · rw [valV_neg (p := p) e, valV_neg e, ih]
theorem valV_snoc (k j : κ) (y : V) : ∀ kvs : List (κ × V), valV kvs k = none → valV (kvs ++ [(k, y)]) j = if j = k then some y else valV kvs j
  | [], _ => by
    by_cases e : k = j
    · rw [if_pos e.symm]; exact valV_pos (p := (k, y)) e
    · rw [if_neg (fun z => e z.symm)]; exact valV_neg (p := (k, y)) e
  | p :: r, hn => by
    rw [List.cons_append]
    have hk : ¬ p.1 = k := fun z => by rw [valV_pos z] at hn; cases hn
    rw [valV_neg hk] at hn
    have ih := valV_snoc k j y r hn
    by_cases e : p.1 = j
    · rw [valV_pos e, valV_pos e, if_neg (fun z => hk (e.trans z))]
    · rw [valV_neg e, valV_neg e, ih]
theorem valV_put (kvs : List (κ × V)) (k j : κ) (y : V) : valV (putK kvs k y) j = if j = k then some y else valV kvs j := by
  unfold putK
  by_cases a : (kvs.any fun kv => decide (kv.1 = k)) = true
  · rw [if_pos a, valV_map]
    rw [valV_any] at a
    by_cases e : j = k
    · obtain ⟨x, hx⟩ := Option.isSome_iff_exists.mp a
      rw [if_pos e, e, hx, Option.map_some, if_pos rfl]
    · rw [if_neg e]
      cases valV kvs j with
      | none => rfl
      | some x => rw [Option.map_some, if_neg e]
  · rw [if_neg a]
    refine valV_snoc k j y kvs ?_
    rw [valV_any] at a
    cases q : valV kvs k with
    | none => rfl
    | some x => rw [q] at a; exact (a rfl).elim
theorem length_putK (kvs : List (κ × V)) (k : κ) (v : V) : (putK kvs k v).length ≤ kvs.length + 1 := by
  unfold putK
  split
  · rw [List.length_map]; omega
  · rw [List.length_append, List.length_cons, List.length_nil]; omega
theorem putK_new {kvs : List (κ × V)} {k : κ} (v : V) (h : valV kvs k = none) : putK kvs k v = kvs ++ [(k, v)] := by
  unfold putK
  rw [valV_any, h]
  exact if_neg (by decide)

theorem RelO.isSome_eq {o : Option V} {u : Option Value} (r : RelO o u) : o.isSome = u.isSome := by
  cases o with
  | none => cases u with
    | none => rfl
    | some _ => exact (show False from r).elim
  | some _ => cases u with
    | none => exact (show False from r).elim
    | some _ => rfl
theorem RelO.getD {o : Option V} {u : Option Value} {d : V} {d' : Value} (r : RelO o u) (rd : RelV d d') : RelV (o.getD d) (u.getD d') := by
  cases o with
  | none => cases u with
    | none => exact rd
    | some _ => exact (show False from r).elim
  | some _ => cases u with
    | none => exact (show False from r).elim
    | some _ => exact r

/-- raw tables of the same keys -/
theorem KV.val {kvs : List (κ × V)} {vs : List (κ × Value)} (r : KV kvs vs) (k : κ) : RelO (valV kvs k) (valueAt vs k) := by
  unfold KV at r
  induction r with
  | nil => exact True.intro
  | @cons p q ps qs h t ih =>
    obtain ⟨h1, h2⟩ := h
    by_cases e : p.1 = k
    · have e' : q.1 = k := h1.symm.trans e
      have b : valueAt (q :: qs) k = some q.2 := by simp [valueAt, List.find?_cons, e']
      rw [valV_pos e, b]; exact h2
    · have e' : ¬ q.1 = k := fun z => e (h1.trans z)
      have b : valueAt (q :: qs) k = valueAt qs k := by simp [valueAt, List.find?_cons, e']
      rw [valV_neg e, b]; exact ih
theorem KV.any {kvs : List (κ × V)} {vs : List (κ × Value)} (r : KV kvs vs) (k : κ) : (kvs.any fun kv => decide (kv.1 = k)) = vs.any fun kv => decide (kv.1 = k) := by
  unfold KV at r
  induction r with
  | nil => rfl
  | cons h t ih => rw [List.any_cons, List.any_cons, ih, h.1]
theorem KV.repl {kvs : List (κ × V)} {vs : List (κ × Value)} (r : KV kvs vs) (k : κ) {y : V} {u : Value} (ry : RelV y u) :
    KV (kvs.map fun kv => if kv.1 = k then (kv.1, y) else kv) (vs.map fun kv => if kv.1 = k then (kv.1, u) else kv) := by
  unfold KV at r ⊢
  induction r with
  | nil => exact .nil
  | @cons p q ps qs h t ih =>
    rw [List.map_cons, List.map_cons]
    refine .cons ?_ ih
    obtain ⟨h1, h2⟩ := h
    by_cases e : p.1 = k
    · rw [if_pos e, if_pos (h1.symm.trans e)]; exact ⟨h1, ry⟩
    · rw [if_neg e, if_neg (fun z => e (h1.trans z))]; exact ⟨h1, h2⟩
theorem KV.put {kvs : List (κ × V)} {vs : List (κ × Value)} (r : KV kvs vs) (k : κ) {y : V} {u : Value} (ry : RelV y u) : KV (putK kvs k y) (stored vs k u) := by
  unfold putK stored
  rw [r.any k]
  by_cases e : (vs.any fun kv => decide (kv.1 = k)) = true
  · rw [if_pos e, if_pos e]; exact r.repl k ry
  · rw [if_neg e, if_neg e]; exact Paired.snoc r ⟨rfl, ry⟩
theorem KV.drop {kvs : List (κ × V)} {vs : List (κ × Value)} (r : KV kvs vs) (k : κ) : KV (dropK kvs k) (without vs k) := by
  unfold KV at r ⊢
  unfold dropK without
  induction r with
  | nil => exact .nil
  | @cons p q ps qs h t ih =>
    obtain ⟨h1, h2⟩ := h
    rw [List.filter_cons, List.filter_cons]
    by_cases e : p.1 = k
    · have a : ¬ decide (p.1 ≠ k) = true := by simp [e]
      have b : ¬ decide (q.1 ≠ k) = true := by simp [h1.symm.trans e]
      rw [if_neg a, if_neg b]; exact ih
    · have e' : ¬ q.1 = k := fun z => e (h1.trans z)
      have a : decide (p.1 ≠ k) = true := by simp [e]
      have b : decide (q.1 ≠ k) = true := by simp [e']
      rw [if_pos a, if_pos b]; exact .cons ⟨h1, h2⟩ ih
theorem KV.keys {kvs : List (κ × V)} {vs : List (κ × Value)} (r : KV kvs vs) : kvs.map (·.1) = vs.map (·.1) := by
  unfold KV at r
  induction r with
  | nil => rfl
  | cons h t ih => rw [List.map_cons, List.map_cons, ih, h.1]
theorem KV.length {kvs : List (κ × V)} {vs : List (κ × Value)} (r : KV kvs vs) : kvs.length = vs.length := Paired.length r
theorem dropK_le (kvs : List (κ × V)) (k : κ) : (dropK kvs k).length ≤ kvs.length := List.length_filter_le _ _
end


/-! ### a tracked dict, its keys ints and texts or tuples of these -/
theorem kV_is {P : Program} {w : World} {k : Key} {u : Value} (r : RelV (kV k) u) : (mixKind P w).is k u = true := by
  cases k with
  | inl i => obtain ⟨t, e⟩ := (show ∃ t, u = Value.int i t from r); subst e; exact mixKind_int P w i t
  | inr x => obtain ⟨t, e⟩ := (show ∃ t, u = Value.str x t from r); subst e; exact mixKind_str P w x t
theorem kV_inj {a b : Key} (e : kV a = kV b) : a = b := by
  cases a with
  | inl i => cases b with
    | inl j => have e' : V.int i = V.int j := e; injection e' with e'; rw [e']
    | inr y => exact nomatch (show V.int i = V.str y from e)
  | inr x => cases b with
    | inl j => exact nomatch (show V.str x = V.int j from e)
    | inr y => have e' : V.str x = V.str y := e; injection e' with e'; rw [e']
theorem kVs_inj : ∀ {a b : List Key}, a.map kV = b.map kV → a = b
  | [], [], _ => rfl
  | [], _ :: _, e => by simp at e
  | _ :: _, [], e => by simp at e
  | x :: xs, y :: ys, e => by
    rw [List.map_cons, List.map_cons] at e
    injection e with e1 e2
    rw [kV_inj e1, kVs_inj e2]
theorem items_are {P : Program} {w : World} : ∀ {ks : List Key} {us : List Value}, Vals (ks.map kV) us → ItemsAre (mixKind P w) ks us
  | [], _, r => by rw [List.map_nil] at r; cases r; exact .nil
  | k :: ks, _, r => by
    rw [List.map_cons] at r
    cases r with
    | cons h t => exact .cons (kV_is h) (items_are t)

/-- raw entries of a dict with tuple keys -/
abbrev KT (H : Hp) : List (List Key × V) → List (List Key × Addr × Value) → Prop := Paired fun p q => p.1 = q.1 ∧ H q.2.1 = some (.tup (p.1.map kV)) ∧ RelV p.2 q.2.2
theorem KT.val {H : Hp} {kvs : List (List Key × V)} {xs : List (List Key × Addr × Value)} (r : KT H kvs xs) (k : List Key) : RelO (valV kvs k) ((atKey xs k).map (·.2)) := by
  induction r with
  | nil => exact True.intro
  | @cons p q ps qs h t ih =>
    obtain ⟨h1, _, h2⟩ := h
    by_cases e : p.1 = k
    · have e' : q.1 = k := h1.symm.trans e
      have b : atKey (q :: qs) k = some q.2 := by simp [atKey, List.find?_cons, e']
      rw [valV_pos e, b]; exact h2
    · have e' : ¬ q.1 = k := fun z => e (h1.trans z)
      have b : atKey (q :: qs) k = atKey qs k := by simp [atKey, List.find?_cons, e']
      rw [valV_neg e, b]; exact ih
theorem KT.repl {H : Hp} {kvs : List (List Key × V)} {xs : List (List Key × Addr × Value)} (r : KT H kvs xs) (k : List Key) {y : V} {u : Value} (ry : RelV y u) :
    KT H (kvs.map fun kv => if kv.1 = k then (kv.1, y) else kv) (xs.map (putAt k u)) := by
  induction r with
  | nil => exact .nil
  | @cons p q ps qs h t ih =>
    rw [List.map_cons, List.map_cons]
    refine .cons ?_ ih
    obtain ⟨h1, h2, h3⟩ := h
    unfold putAt
    by_cases e : p.1 = k
    · rw [if_pos e, if_pos (h1.symm.trans e)]; exact ⟨h1, h2, ry⟩
    · rw [if_neg e, if_neg (fun z => e (h1.trans z))]; exact ⟨h1, h2, h3⟩
theorem KT.put {H : Hp} {kvs : List (List Key × V)} {xs : List (List Key × Addr × Value)} (r : KT H kvs xs) (k : List Key) {b : Addr} {y : V} {u : Value} (hb : H b = some (.tup (k.map kV))) (ry : RelV y u) :
    KT H (putK kvs k y) (storedH xs k b u) := by
  have e : (kvs.any fun kv => decide (kv.1 = k)) = (atKey xs k).isSome := by
    rw [valV_any, (r.val k).isSome_eq, Option.isSome_map]
  unfold putK storedH
  rw [e]
  by_cases q : (atKey xs k).isSome = true
  · rw [if_pos q, if_pos q]; exact r.repl k ry
  · rw [if_neg q, if_neg q]; exact Paired.snoc r ⟨rfl, hb, ry⟩
theorem KT.keeps {H H' : Hp} {kvs : List (List Key × V)} {xs : List (List Key × Addr × Value)} (r : KT H kvs xs) (ht : ∀ b ys, H b = some (.tup ys) → H' b = some (.tup ys)) : KT H' kvs xs :=
  Paired.mapP r fun _ _ z => ⟨z.1, ht _ _ z.2.1, z.2.2⟩

section
variable {P : Program} {w : World} {H : Hp} {h : Heap} {a : Addr}
theorem rd_of {u : HO} (ok : HOk P w H h) (e : Rd H a u) : ObjOk P w H h a u := e.ok ok
theorem dk_rd {kvs : List (Key × V)} (ok : HOk P w H h) (e : Rd H a (.dK kvs)) : kvs.length ≤ sizeLine ∧ (a == sysModules) = false ∧ ∃ vs, KV kvs vs ∧ h.DictOf (mixKind P w) a vs :=
  show ObjOk P w H h a (.dK kvs) from rd_of ok e
theorem dk_of {kvs : List (Key × V)} (ok : HOk P w H h) (e : H a = some (.dK kvs)) : kvs.length ≤ sizeLine ∧ (a == sysModules) = false ∧ ∃ vs, KV kvs vs ∧ h.DictOf (mixKind P w) a vs := dk_rd ok (.inl e)
/-- a tracked tuple of ints and texts is a key -/
theorem key_of {ks : List Key} (ok : HOk P w H h) (e : H a = some (.tup (ks.map kV))) : (tupleKind (mixKind P w)).is h ks a := by
  obtain ⟨_, its, r, o, h1, h2, n, h3⟩ := (show ObjOk P w H h a (.tup (ks.map kV)) from ok a _ e)
  exact ⟨o, its.toArray, n, h1, h2, h3, by simpa using items_are r⟩
theorem dt_rd {kvs : List (List Key × V)} (ok : HOk P w H h) (e : Rd H a (.dT kvs)) : kvs.length ≤ sizeLine ∧ (a == sysModules) = false ∧
    ∃ xs, KT H kvs xs ∧ h.DictOfH (tupleKind (mixKind P w)) a xs := by
  obtain ⟨z, y, xs, r, o, es, ep, h1, h2, h3, h4, h5⟩ := (show ObjOk P w H h a (.dT kvs) from rd_of ok e)
  refine ⟨z, y, xs, r, o, es, ep, h1, h2, h3, h4, fun x hx => ?_, h5⟩
  have all : ∀ {l : List (List Key × V)} {m : List (List Key × Addr × Value)}, KT H l m → ∀ x ∈ m, (tupleKind (mixKind P w)).is h x.1 x.2.1 := by
    intro l m q
    induction q with
    | nil => intro x hx; exact nomatch hx
    | @cons p q ps qs hq t ih =>
      intro x hx
      rcases List.mem_cons.mp hx with e | hx
      · subst e
        exact key_of ok (by rw [← hq.1]; exact hq.2.1)
      · exact ih x hx
  exact all r x hx
theorem dt_of {kvs : List (List Key × V)} (ok : HOk P w H h) (e : H a = some (.dT kvs)) : kvs.length ≤ sizeLine ∧ (a == sysModules) = false ∧
    ∃ xs, KT H kvs xs ∧ h.DictOfH (tupleKind (mixKind P w)) a xs := dt_rd ok (.inl e)
end

/-- what the dict at a holds at the key y -/
def DGet (H : Hp) (a : Addr) (y : V) (r : Option V) : Prop :=
  (∃ kvs k, Rd H a (.dK kvs) ∧ y = kV k ∧ r = valV kvs k) ∨ ∃ kvs k b, Rd H a (.dT kvs) ∧ y = .ref b ∧ H b = some (.tup (k.map kV)) ∧ r = valV kvs k
/-- the heap behind a[y] = v -/
def DPut (H : Hp) (a : Addr) (y v : V) (H' : Hp) : Prop :=
  (∃ kvs k, H a = some (.dK kvs) ∧ y = kV k ∧ kvs.length < sizeLine ∧ H' = upd H a (.dK (putK kvs k v))) ∨
  ∃ kvs k b, H a = some (.dT kvs) ∧ y = .ref b ∧ H b = some (.tup (k.map kV)) ∧ kvs.length < sizeLine ∧ H' = upd H a (.dT (putK kvs k v))
theorem DGet.k {H : Hp} {a : Addr} {kvs : List (Key × V)} {k : Key} (e : H a = some (.dK kvs)) : DGet H a (kV k) (valV kvs k) := .inl ⟨kvs, k, .inl e, rfl, rfl⟩
theorem DGet.t {H : Hp} {a b : Addr} {kvs : List (List Key × V)} {k : List Key} (e : H a = some (.dT kvs)) (eb : H b = some (.tup (k.map kV))) : DGet H a (.ref b) (valV kvs k) := .inr ⟨kvs, k, b, .inl e, rfl, eb, rfl⟩
theorem DPut.k {H : Hp} {a : Addr} {kvs : List (Key × V)} {k : Key} {v : V} (e : H a = some (.dK kvs)) (hl : kvs.length < sizeLine) : DPut H a (kV k) v (upd H a (.dK (putK kvs k v))) := .inl ⟨kvs, k, e, rfl, hl, rfl⟩
theorem DPut.t {H : Hp} {a b : Addr} {kvs : List (List Key × V)} {k : List Key} {v : V} (e : H a = some (.dT kvs)) (eb : H b = some (.tup (k.map kV))) (hl : kvs.length < sizeLine) :
    DPut H a (.ref b) v (upd H a (.dT (putK kvs k v))) := .inr ⟨kvs, k, b, e, rfl, eb, hl, rfl⟩


section
variable {X : Cx} {pins : List (Addr × Obj)} {σ : St} {H : Hp} {s : Shared} {a : Addr} {y v : V} {u r : Value} {o : Option V} {A : Around} {E : Value → Shared → Prop}

theorem Inv.big (I : Inv X pins σ H s) : sysModules < s.heap.objs.size := by
  have h : mainGlobals < s.heap.objs.size := (I.mod.glob.keeps I.bk).lt
  exact Nat.lt_trans (by decide) h

/-- d[y], there -/
theorem d_getItem {Q : Value → Shared → Prop} (hu : A.units + 1 < cLine) (I : Inv X pins σ H s) (g : DGet H a y (some v)) (ry : RelV y u) (h : ∀ w' s', Inv X pins σ H s' → RelV v w' → Q w' s') :
    wpAny (model X.prog X.w) A (getItem (.ref a) u) Q E s := by
  rcases g with ⟨kvs, k, e, ey, l⟩ | ⟨kvs, k, b, e, ey, eb, l⟩
  · subst ey
    obtain ⟨z, hd, vs, rel, dd⟩ := dk_rd I.hok e
    obtain ⟨w', hw, rw'⟩ := RelO.some_of (v := v) (o := valueAt vs k) (by rw [l]; exact rel.val k)
    exact wpAny_getItem_of (kV_is ry) dd.mapOf hw (h w' _ (I.tok _) rw')
  · subst ey
    cases (show u = Value.ref b from ry)
    obtain ⟨z, hd, xs, rel, dd⟩ := dt_rd I.hok e
    obtain ⟨w', hw, rw'⟩ := RelO.some_of (v := v) (o := (atKey xs k).map (·.2)) (by rw [l]; exact rel.val k)
    obtain ⟨p, hp, hp2⟩ := Option.map_eq_some_iff.mp hw
    refine wpAny_getItem_heap (tupleKind_room_in1 hu) (key_of I.hok eb) dd hp ?_
    rw [hp2]
    exact h w' _ (I.tok _) rw'
/-- y in d -/
theorem d_in {Q : Value → Shared → Prop} (hu : A.units + 1 < cLine) (I : Inv X pins σ H s) (g : DGet H a y o) (ry : RelV y u) (h : ∀ s', Inv X pins σ H s' → Q (.bool o.isSome) s') :
    wpAny (model X.prog X.w) A (compareOp .In u (.ref a)) Q E s := by
  rcases g with ⟨kvs, k, e, ey, l⟩ | ⟨kvs, k, b, e, ey, eb, l⟩
  · subst ey
    obtain ⟨z, hd, vs, rel, dd⟩ := dk_rd I.hok e
    refine wpAny_in_of (kV_is ry) hd dd.mapOf ?_
    rw [← (rel.val k).isSome_eq, ← l]
    exact h _ (I.tok _)
  · subst ey
    cases (show u = Value.ref b from ry)
    obtain ⟨z, hd, xs, rel, dd⟩ := dt_rd I.hok e
    refine wpAny_in_heap (tupleKind_room_in1 hu) (key_of I.hok eb) hd dd ?_
    have q := (rel.val k).isSome_eq
    rw [Option.isSome_map] at q
    rw [← q, ← l]
    exact h _ (I.tok _)
theorem d_notIn {Q : Value → Shared → Prop} (hu : A.units + 1 < cLine) (I : Inv X pins σ H s) (g : DGet H a y o) (ry : RelV y u) (h : ∀ s', Inv X pins σ H s' → Q (.bool (!o.isSome)) s') :
    wpAny (model X.prog X.w) A (compareOp .NotIn u (.ref a)) Q E s := by
  rcases g with ⟨kvs, k, e, ey, l⟩ | ⟨kvs, k, b, e, ey, eb, l⟩
  · subst ey
    obtain ⟨z, hd, vs, rel, dd⟩ := dk_rd I.hok e
    refine wpAny_notIn_of (kV_is ry) hd dd.mapOf ?_
    rw [← (rel.val k).isSome_eq, ← l]
    exact h _ (I.tok _)
  · subst ey
    cases (show u = Value.ref b from ry)
    obtain ⟨z, hd, xs, rel, dd⟩ := dt_rd I.hok e
    refine wpAny_notIn_heap (tupleKind_room_in1 hu) (key_of I.hok eb) hd dd ?_
    have q := (rel.val k).isSome_eq
    rw [Option.isSome_map] at q
    rw [← q, ← l]
    exact h _ (I.tok _)
/-- a dict's object is replaced -/
theorem d_write {h' : Heap} {t' : Nat} {ob : HO} (I : Inv X pins σ H s) (mu : Mut (H a)) (hs : Heap.SameBut a s.heap h') (he : ∃ q, h'.get? a = some q) (new : ObjOk X.prog X.w (upd H a ob) h' a ob) :
    Inv X pins σ (upd H a ob) { s with heap := h', toks := t' } :=
  I.write (x := a) (e := a) mu (.inl rfl) (fun b q hb z => (hs.2 b hb).trans z) he new
theorem dk_new {P : Program} {w : World} {H' : Hp} {h' : Heap} {kvs : List (Key × V)} {vs : List (Key × Value)} (z : kvs.length ≤ sizeLine) (hd : (a == sysModules) = false) (rel : KV kvs vs) (dd : h'.DictOf (mixKind P w) a vs) :
    ObjOk P w H' h' a (.dK kvs) := ⟨z, hd, vs, rel, dd⟩
/-- d[y] = v -/
theorem d_setItem {H' : Hp} {Q : Unit → Shared → Prop} (hu : A.units + 1 < cLine) (I : Inv X pins σ H s) (g : DPut H a y v H') (ry : RelV y u) (rv : RelV v r) (h : ∀ s', Inv X pins σ H' s' → Q () s') :
    wpAny (model X.prog X.w) A (setItem (.ref a) u r) Q E s := by
  rcases g with ⟨kvs, k, e, ey, l, eH⟩ | ⟨kvs, k, b, e, ey, eb, l, eH⟩
  · subst ey eH
    obtain ⟨z, hd, vs, rel, dd⟩ := dk_of I.hok e
    have hz : vs.length ≤ sizeLine := by rw [← rel.length]; exact z
    have hl : (putK kvs k v).length ≤ sizeLine := by have := length_putK kvs k v; omega
    refine wpAny_setItem_pairs (hsz := hz) (kV_is ry) dd fun h' dd' hs => h _ ?_
    have he : ∃ q, h'.get? a = some q := let ⟨q, _, _, hq, _⟩ := dd'; ⟨q, hq⟩
    exact d_write I (by rw [e]; exact True.intro) hs he (dk_new hl hd (rel.put k rv) dd')
  · subst ey eH
    cases (show u = Value.ref b from ry)
    obtain ⟨z, hd, xs, rel, dd⟩ := dt_of I.hok e
    have hz : xs.length ≤ sizeLine := by rw [← Paired.length rel]; exact z
    have hl : (putK kvs k v).length ≤ sizeLine := by have := length_putK kvs k v; omega
    refine wpAny_setItem_heap (hsz := hz) (tupleKind_room_in1 hu) (key_of I.hok eb) dd fun h' dd' hs => h _ ?_
    obtain ⟨q, es, ep, hq, h2, h3, h4, _, h5⟩ := dd'
    refine d_write I (by rw [e]; exact True.intro) hs ⟨q, hq⟩ ⟨hl, hd, _, (rel.put k eb rv).keeps fun c ys ec => ?_, q, es, ep, hq, h2, h3, h4, h5⟩
    rw [upd_ne (ne_of ec e (fun z => nomatch z))]
    exact ec
end

section
variable {X : Cx} {pins : List (Addr × Obj)} {σ : St} {H : Hp} {s : Shared} {a : Addr} {kvs : List (Key × V)} {k : Key} {u : Value} {A : Around} {E : Value → Shared → Prop}
/-- del d[k] -/
theorem d_delItem {Q : Unit → Shared → Prop} (I : Inv X pins σ H s) (e : H a = some (.dK kvs)) (ry : RelV (kV k) u) (l : (valV kvs k).isSome = true) (h : ∀ s', Inv X pins σ (upd H a (.dK (dropK kvs k))) s' → Q () s') :
    wpAny (model X.prog X.w) A (delItem (.ref a) u) Q E s := by
  obtain ⟨z, hd, vs, rel, dd⟩ := dk_of I.hok e
  refine wpAny_delItem_slot dd.typeIs (by decide) PySem.F.slot_dict_delitem
    (call_meetsIn PySem.F.slot_dict_delitem dd.typeIs PySem.F.entry_dict_delitem (PySem.F.args_dict_delitem_2 _ _) (meets_dict_delitem_pairs (mixKind X.prog X.w) a (kV_is ry)) ⟨vs, dd, by rw [← rel.length]; exact z, by rw [← (rel.val k).isSome_eq]; exact l, fun h' dd' hs => h _ ?_⟩)
  have he : ∃ q, h'.get? a = some q := let ⟨q, _, _, hq, _⟩ := dd'; ⟨q, hq⟩
  exact d_write I (by rw [e]; exact True.intro) hs he (dk_new (Nat.le_trans (dropK_le kvs k) z) hd (rel.drop k) dd')
/-- d.pop(k[, x]), there -/
theorem d_pop {v : V} {more : List Value} {Q : Value → Shared → Prop} (I : Inv X pins σ H s) (e : H a = some (.dK kvs)) (ry : RelV (kV k) u) (l : valV kvs k = some v) (hm : more = [] ∨ ∃ x, more = [x])
    (h : ∀ w' s', Inv X pins σ (upd H a (.dK (dropK kvs k))) s' → RelV v w' → Q w' s') : wpAny (model X.prog X.w) A (call (.builtin "dict.pop") (.ref a :: u :: more)) Q E s := by
  obtain ⟨z, hd, vs, rel, dd⟩ := dk_of I.hok e
  obtain ⟨w', hw, rw'⟩ := RelO.some_of (v := v) (o := valueAt vs k) (by rw [← l]; exact rel.val k)
  have hp : (keyPart u).isSome = true := by
    cases k with
    | inl i => obtain ⟨t, q⟩ := (show ∃ t, u = Value.int i t from ry); subst q; rfl
    | inr x => obtain ⟨t, q⟩ := (show ∃ t, u = Value.str x t from ry); subst q; rfl
  have ha : argsOk "dict.pop" ⟨.ref a :: u :: more, []⟩ := by
    rcases hm with q | ⟨x, q⟩
    · subst q; exact PySem.F.args_dict_pop_2 _ _
    · subst q; exact PySem.F.args_dict_pop_3 _ _ _
  refine call_meetsIn PySem.F.slot_dict_pop dd.typeIs PySem.F.entry_dict_pop ha (meets_dict_pop_there (mixKind X.prog X.w) a (kV_is ry) more hm hp)
    ⟨vs, w', dd, by rw [← rel.length]; exact z, hw, fun h' dd' hs => h w' _ ?_ rw'⟩
  have he : ∃ q, h'.get? a = some q := let ⟨q, _, _, hq, _⟩ := dd'; ⟨q, hq⟩
  exact d_write I (by rw [e]; exact True.intro) hs he (dk_new (Nat.le_trans (dropK_le kvs k) z) hd (rel.drop k) dd')
/-- d.pop(k, x), not there -/
theorem d_popD {r : Value} {Q : Value → Shared → Prop} (I : Inv X pins σ H s) (e : H a = some (.dK kvs)) (ry : RelV (kV k) u) (l : valV kvs k = none) (h : ∀ s', Inv X pins σ H s' → Q r s') :
    wpAny (model X.prog X.w) A (call (.builtin "dict.pop") [.ref a, u, r]) Q E s := by
  obtain ⟨z, hd, vs, rel, dd⟩ := dk_of I.hok e
  have hn : valueAt vs k = none := RelO.none_of (by rw [← l]; exact rel.val k)
  have hp : (keyPart u).isSome = true := by
    cases k with
    | inl i => obtain ⟨t, q⟩ := (show ∃ t, u = Value.int i t from ry); subst q; rfl
    | inr x => obtain ⟨t, q⟩ := (show ∃ t, u = Value.str x t from ry); subst q; rfl
  exact call_meetsIn PySem.F.slot_dict_pop dd.typeIs PySem.F.entry_dict_pop (PySem.F.args_dict_pop_3 _ _ _) (meets_dict_pop_default (mixKind X.prog X.w) a (kV_is ry) hd hp r) ⟨vs, dd, hn, h _ (I.tok _)⟩
/-- d.clear() -/
theorem d_clear {Q : Value → Shared → Prop} (I : Inv X pins σ H s) (e : H a = some (.dK kvs)) (h : ∀ s', Inv X pins σ (upd H a (.dK [])) s' → Q .none s') : wpAny (model X.prog X.w) A (call (.builtin "dict.clear") [.ref a]) Q E s := by
  obtain ⟨z, hd, vs, rel, dd⟩ := dk_of I.hok e
  refine call_meetsIn PySem.F.slot_dict_clear dd.typeIs PySem.F.entry_dict_clear (PySem.F.args_dict_clear_1 _) (meets_dict_clear (mixKind X.prog X.w) a) ⟨vs, dd, by rw [← rel.length]; exact z, fun h' dd' hs => h _ ?_⟩
  have he : ∃ q, h'.get? a = some q := let ⟨q, _, _, hq, _⟩ := dd'; ⟨q, hq⟩
  exact d_write (t' := s.toks) I (by rw [e]; exact True.intro) hs he (dk_new (Nat.zero_le _) hd .nil dd')
/-- len(d) -/
theorem d_len {Q : Value → Shared → Prop} (I : Inv X pins σ H s) (e : Rd H a (.dK kvs)) (h : ∀ t s', Inv X pins σ H s' → Q (.int kvs.length t) s') : wpAny (model X.prog X.w) A (call (.builtin "len") [.ref a]) Q E s := by
  obtain ⟨z, hd, vs, rel, dd⟩ := dk_rd I.hok e
  refine call_len_dict hd dd (by rw [← rel.length]; rw [sizeLine_eq] at z; omega) ?_
  rw [← rel.length]
  exact h _ _ (I.tok _)
/-- if d -/
theorem d_truth {Q : Bool → Shared → Prop} (I : Inv X pins σ H s) (e : Rd H a (.dK kvs)) (h : ∀ s', Inv X pins σ H s' → Q (!kvs.isEmpty) s') : wpAny (model X.prog X.w) A (truthy (.ref a)) Q E s := by
  obtain ⟨z, hd, vs, rel, dd⟩ := dk_rd I.hok e
  refine wpAny_truthy_dict hd dd (by rw [← rel.length]; rw [sizeLine_eq] at z; omega) ?_
  have q : kvs.isEmpty = vs.isEmpty := by cases rel <;> rfl
  rw [← q]
  exact h _ (I.tok _)
end


/-! ### readings and rules -/
/-- the element of a subscription, not a slice -/
def NoSl (i : Expr) : Prop := ∀ ov iv, subscripted i false ov iv = operate [ov, iv] (getItem ov iv)
theorem subD_of {prog : Program} {w : World} {A : Around} {E : Value → Shared → Prop} {s : Shared} {env : Env} {value slice : Expr} {pos : Pos} {T id : String} {Q : Value → Shared → Prop}
    (hl : typeLookup (.type T) "__getitem__" = pure (some (.builtin id))) (hs : NoSl slice)
    (h : wpAny (model prog w) A (eval value env) (fun o s₁ => wpAny (model prog w) A (eval slice env) (fun i s₂ => s₂.TypeIs o T ∧ wpAny (model prog w) A (getItem o i) Q E s₂) E s₁) E s) :
    wpAny (model prog w) A (eval (.Subscript value slice pos) env) Q E s := by
  refine Subscript_ (wpAny_mono h (fun o s₁ h₁ => wpAny_mono h₁ (fun i s₂ h₂ => ?_) fun _ _ x => x) fun _ _ x => x)
  obtain ⟨hT, h₂⟩ := h₂
  unfold subscriptTail
  refine wpAny_bind ?_
  rw [getitemInPython_of_ne hT.not_modules]
  refine wpAny_bind (wpAny_specialOf hT hl ?_)
  have fin : wpAny (model prog w) A (subscripted slice false o i) (fun r s₃ => wpAny (model prog w) A (letTemporaryGo value o r >>= fun _ => pure r) Q E s₃) E s₂ := by
    rw [hs o i]
    exact wpAny_operating (wpAny_mono h₂ (fun r s₃ h₃ => wpAny_bind (wpAny_letTemporaryGo (wpAny_pure h₃))) fun _ _ x => x)
  first
    | exact wpAny_pure (wpAny_bind fin)
    | exact wpAny_bind (wpAny_pure (wpAny_bind fin))
    | exact wpAny_bind fin

theorem dict_typeIs {X : Cx} {pins : List (Addr × Obj)} {σ : St} {H : Hp} {s : Shared} {a : Addr} {y : V} {o : Option V} (I : Inv X pins σ H s) (g : DGet H a y o) : s.TypeIs (.ref a) "dict" := by
  rcases g with ⟨kvs, k, e, _, _⟩ | ⟨kvs, k, b, e, _, _, _⟩
  · obtain ⟨_, _, vs, _, dd⟩ := dk_rd I.hok e
    exact dd.typeIs
  · obtain ⟨_, _, xs, _, dd⟩ := dt_rd I.hok e
    exact dd.typeIs
theorem dict_noDict {X : Cx} {pins : List (Addr × Obj)} {σ : St} {H : Hp} {s : Shared} {a : Addr} {y : V} {o : Option V} (I : Inv X pins σ H s) (g : DGet H a y o) :
    ∀ b, Value.ref a = .ref b → ∃ ob, s.heap.get? b = some ob ∧ ob.dict = none := fun b q => by
  cases q
  rcases g with ⟨kvs, k, e, _, _⟩ | ⟨kvs, k, b, e, _, _, _⟩
  · obtain ⟨_, _, vs, _, ob, _, _, h1, h2, _⟩ := dk_rd I.hok e
    exact ⟨ob, h1, h2.2.1⟩
  · obtain ⟨_, _, xs, _, ob, _, _, h1, h2, _⟩ := dt_rd I.hok e
    exact ⟨ob, h1, h2.2.1⟩

/-- d[y] -/
def tDGet (td ty : TE) : TE := fun σ H Q => td σ H fun x H1 => ty σ H1 fun y H2 => ∃ a v, x = .ref a ∧ DGet H2 a y (some v) ∧ Q v H2
/-- y in d, y not in d -/
def tDIn (ty td : TE) : TE := fun σ H Q => ty σ H fun y H1 => td σ H1 fun x H2 => ∃ a o, x = .ref a ∧ DGet H2 a y o ∧ Q (.bl o.isSome) H2
def tDNotIn (ty td : TE) : TE := fun σ H Q => ty σ H fun y H1 => td σ H1 fun x H2 => ∃ a o, x = .ref a ∧ DGet H2 a y o ∧ Q (.bl (!o.isSome)) H2
/-- d[y] = v -/
def sDPut (td ty tv : TE) : TS := fun D σ H => tv σ H fun v H1 => td σ H1 fun x H2 => ty σ H2 fun y H3 => ∃ a H4, x = .ref a ∧ DPut H3 a y v H4 ∧ D.nx σ H4
/-- d[y] op= v -/
def sDAug (td ty tv : TE) (rd : V → V → Hp → VK → Prop) : TS := fun D σ H => td σ H fun x H1 => ty σ H1 fun y H2 => ∃ a v, x = .ref a ∧ DGet H2 a y (some v) ∧
  tv σ H2 fun y2 H3 => rd v y2 H3 fun z H4 => ∃ H5, DPut H4 a y z H5 ∧ D.nx σ H5
/-- del d[y] -/
def sDDel (td ty : TE) : TS := fun D σ H => td σ H fun x H1 => ty σ H1 fun y H2 => ∃ a kvs k, x = .ref a ∧ H2 a = some (.dK kvs) ∧ y = kV k ∧ (valV kvs k).isSome = true ∧ D.nx σ (upd H2 a (.dK (dropK kvs k)))

section
variable {X : Cx} {o i e value : Expr} {pos pos' tpos : Pos} {td ty tv : TE}
theorem pe_dget (hu : X.A.units + 1 < cLine) (ho : PE X o td) (hi : PE X i ty) (hs : NoSl i) : PE X (.Subscript o i pos) (tDGet td ty) := by
  intro pins s σ H Q I h
  refine subD_of PySem.F.slot_dict_getitem.lookup hs (thn (ho pins s σ H _ I h) fun u s1 ⟨x, H1, I1, rx, q1⟩ => thn (hi pins s1 σ H1 _ I1 q1) fun iv s2 ⟨y, H2, I2, ry, a, v, ex, g, q2⟩ => ?_)
  subst ex
  obtain rfl : u = Value.ref a := rx
  exact ⟨dict_typeIs I2 g, d_getItem hu I2 g ry fun w' s3 I3 rw' => ⟨v, H2, I3, rw', q2⟩⟩
theorem pc_din (hu : X.A.units + 1 < cLine) (hi : PE X i ty) (ho : PE X o td) : PC X .In i o (tDIn ty td) := by
  intro pins s σ H Q I h
  refine thn (hi pins s σ H _ I h) fun iv s1 ⟨y, H1, I1, ry, q1⟩ => thn (ho pins s1 σ H1 _ I1 q1) fun u s2 ⟨x, H2, I2, rx, a, ov, ex, g, q2⟩ => ?_
  subst ex
  obtain rfl : u = Value.ref a := rx
  exact d_in hu I2 g ry fun s3 I3 => ⟨.bl ov.isSome, H2, I3, rfl, q2⟩
theorem pc_dnotin (hu : X.A.units + 1 < cLine) (hi : PE X i ty) (ho : PE X o td) : PC X .NotIn i o (tDNotIn ty td) := by
  intro pins s σ H Q I h
  refine thn (hi pins s σ H _ I h) fun iv s1 ⟨y, H1, I1, ry, q1⟩ => thn (ho pins s1 σ H1 _ I1 q1) fun u s2 ⟨x, H2, I2, rx, a, ov, ex, g, q2⟩ => ?_
  subst ex
  obtain rfl : u = Value.ref a := rx
  exact d_notIn hu I2 g ry fun s3 I3 => ⟨.bl (!ov.isSome), H2, I3, rfl, q2⟩
theorem ps_dput (hu : X.A.units + 1 < cLine) (ho : PE X o td) (hi : PE X i ty) (hv : PE X value tv) (hs : swapsWith value (some (.Subscript o i pos')) pos.line X.env = pure false) :
    PS X (.Assign [.Subscript o i pos'] value pos) (sDPut td ty tv) := by
  intro pins s σ H D I h
  refine wpAny_Assign_Subscript (thn (hv pins s σ H _ I h) fun r s1 ⟨v, H1, I1, rv, q1⟩ => thn (ho pins s1 σ H1 _ I1 q1) fun u s2 ⟨x, H2, I2, rx, q2⟩ => thn (hi pins s2 σ H2 _ I2 q2) fun iv s3 ⟨y, H3, I3, ry, a, H4, ex, g, q3⟩ => ?_) hs
  subst ex
  obtain rfl : u = Value.ref a := rx
  exact d_setItem hu I3 g ry rv fun s4 I4 => ⟨σ, H4, I4, q3⟩
theorem ps_daug {op : Operator} {rd : V → V → Hp → VK → Prop} (hu : X.A.units + 1 < cLine) (ho : PE X o td) (hi : PE X i ty) (hv : PE X value tv) (hop : InOp X op rd)
    (ha : ∀ ov iv new, augStore i ov iv new = (do holding [new, ov, iv] (setItem ov iv new); release [new, ov, iv] []; pure .next)) : PS X (.AugAssign (.Subscript o i tpos) op value pos) (sDAug td ty tv rd) := by
  intro pins s σ H D I h
  refine wpAny_AugAssign_SubscriptAny (thn (ho pins s σ H _ I h) fun u s1 ⟨x, H1, I1, rx, q1⟩ => thn (hi pins s1 σ H1 _ I1 q1) fun iv s2 ⟨y, H2, I2, ry, a, v, ex, g, q2⟩ => ?_) ha
  subst ex
  obtain rfl : u = Value.ref a := rx
  refine d_getItem hu I2 g ry fun w' s3 I3 rw' => thn (hv pins s3 σ H2 _ I3 q2) fun w2 s4 ⟨y2, H3, I4, ry2, q3⟩ => thn (hop pins s4 σ H3 v y2 w' w2 _ I4 rw' ry2 q3) fun w3 s5 ⟨z, H4, I5, rz, H5, g5, q4⟩ => ?_
  exact d_setItem hu I5 g5 ry rz fun s6 I6 => ⟨σ, H5, I6, q4⟩
theorem ps_ddel (ho : PE X o td) (hi : PE X i ty) : PS X (.Delete [.Subscript o i tpos] pos) (sDDel td ty) := by
  intro pins s σ H D I h
  refine wpAny_Delete (wpAny_deleteEach_cons (wpAny_delete_Subscript (thn (ho pins s σ H _ I h) fun u s1 ⟨x, H1, I1, rx, q1⟩ => thn (hi pins s1 σ H1 _ I1 q1) fun iv s2 ⟨y, H2, I2, ry, a, kvs, k, ex, e, ey, l, q2⟩ => ?_)))
  subst ex ey
  obtain rfl : u = Value.ref a := rx
  exact d_delItem I2 e ry l fun s3 I3 => wpAny_deleteEach_nil ⟨σ, _, I3, q2⟩
end


/-! ### displays -/
theorem dk_empty {P : Program} {w : World} {H : Hp} (h : Heap) (hb : sysModules < h.objs.size) : ObjOk P w H (h.push { cls := .type "dict", data := .dict #[] }) h.objs.size (.dK []) :=
  ⟨Nat.zero_le _, beq_eq_false_iff_ne.mpr (Ne.symm (Nat.ne_of_lt hb)), [], .nil, Heap.DictOf.new h⟩
theorem dt_empty {P : Program} {w : World} {H : Hp} (h : Heap) (hb : sysModules < h.objs.size) : ObjOk P w H (h.push { cls := .type "dict", data := .dict #[] }) h.objs.size (.dT []) :=
  ⟨Nat.zero_le _, beq_eq_false_iff_ne.mpr (Ne.symm (Nat.ne_of_lt hb)), [], .nil, _, #[], 0, Heap.get?_push_size _ rfl, ⟨rfl, rfl, rfl⟩, rfl, rfl, List.nodup_nil⟩
/-- {}, to be a dict of the kind that is wanted -/
def tDNewK : TE := fun _ H Q => ∀ p, H p = none → Q (.ref p) (upd H p (.dK []))
def tDNewT : TE := fun _ H Q => ∀ p, H p = none → Q (.ref p) (upd H p (.dT []))
section
variable {X : Cx} {pos : Pos}
theorem pe_dnewK : PE X (.Dict [] [] pos) tDNewK := fun pins s σ H Q I h =>
  wpAny_Dict_empty ⟨.ref s.heap.objs.size, _, I.laid (a := s.heap.objs.size) (o := .dK []) (t' := s.toks) (fun _ _ q => Heap.get?_push_of_some _ q) (Nat.le_refl _) (dk_empty s.heap I.big), rfl, h _ (I.hok.fresh (Nat.le_refl _))⟩
theorem pe_dnewT : PE X (.Dict [] [] pos) tDNewT := fun pins s σ H Q I h =>
  wpAny_Dict_empty ⟨.ref s.heap.objs.size, _, I.laid (a := s.heap.objs.size) (o := .dT []) (t' := s.toks) (fun _ _ q => Heap.get?_push_of_some _ q) (Nat.le_refl _) (dt_empty s.heap I.big), rfl, h _ (I.hok.fresh (Nat.le_refl _))⟩
end

/-- the pairs of a display, from the left -/
def tPairs : List (TE × TE) → St → Hp → (List (V × V) → Hp → Prop) → Prop
  | [], _, H, Q => Q [] H
  | (tk, tv) :: r, σ, H, Q => tk σ H fun x H1 => tv σ H1 fun y H2 => tPairs r σ H2 fun ps H3 => Q ((x, y) :: ps) H3
abbrev VV : List (V × V) → List (Value × Value) → Prop := Paired fun p q => RelV p.1 q.1 ∧ RelV p.2 q.2
def PPs (X : Cx) (pos : Pos) (keys : List (Option Expr)) (values : List Expr) (trs : List (TE × TE)) : Prop :=
  ∀ (pins : List (Addr × Obj)) (s : Shared) (σ : St) (H : Hp) (Q : List (V × V) → Hp → Prop), Inv X pins σ H s → tPairs trs σ H Q →
    wpAny (model X.prog X.w) X.A (evalPairs (pairTrees keys values X.env pos)) (fun vs s' => ∃ ps H', Inv X pins σ H' s' ∧ VV ps vs ∧ Q ps H') X.xe s
theorem pps_nil {X : Cx} {pos : Pos} : PPs X pos [] [] [] := fun pins s σ H Q I h => pairTrees_nil_walk ⟨[], H, I, .nil, h⟩
theorem pps_cons {X : Cx} {pos : Pos} {k v : Expr} {ks : List (Option Expr)} {vs : List Expr} {tk tv : TE} {trs : List (TE × TE)} (hk : PE X k tk) (hv : PE X v tv) (hr : PPs X pos ks vs trs) :
    PPs X pos (some k :: ks) (v :: vs) ((tk, tv) :: trs) := fun pins s σ H Q I h =>
  pairTrees_cons_walk (thn (hk pins s σ H _ I h) fun u s1 ⟨x, H1, I1, rx, q1⟩ => thn (hv pins s1 σ H1 _ I1 q1) fun w2 s2 ⟨y, H2, I2, ry, q2⟩ =>
    thn (hr pins s2 σ H2 _ I2 q2) fun ws s3 ⟨ps, H3, I3, rel, q3⟩ => ⟨(x, y) :: ps, H3, I3, .cons ⟨rx, ry⟩ rel, q3⟩)

def mergeK (kvs more : List (Key × V)) : List (Key × V) := more.foldl (fun acc kv => putK acc kv.1 kv.2) kvs
theorem KV.merge : ∀ {more : List (Key × V)} {rs : List (Key × Value)} {kvs : List (Key × V)} {vs : List (Key × Value)}, KV more rs → KV kvs vs → KV (mergeK kvs more) (merged vs rs) := by
  intro more rs kvs vs r
  unfold KV at r
  induction r generalizing kvs vs with
  | nil => intro q; exact q
  | @cons p q ps qs h t ih =>
    intro r0
    have e : KV (putK kvs p.1 p.2) (stored vs q.1 q.2) := by
      have := r0.put p.1 h.2
      rw [← h.1]; exact this
    exact ih e
theorem length_mergeK : ∀ (more kvs : List (Key × V)), (mergeK kvs more).length ≤ kvs.length + more.length
  | [], kvs => by show kvs.length ≤ kvs.length + 0; omega
  | p :: r, kvs => by
    have h1 := length_mergeK r (putK kvs p.1 p.2)
    have h2 := length_putK kvs p.1 p.2
    show (mergeK (putK kvs p.1 p.2) r).length ≤ _
    rw [List.length_cons]; omega
theorem carries_of {P : Program} {w : World} : ∀ {kvs : List (Key × V)} {ws : List (Value × Value)}, VV (kvs.map fun kv => (kV kv.1, kv.2)) ws → ∃ rs, Carries (mixKind P w) ws rs ∧ KV kvs rs
  | [], _, r => by rw [List.map_nil] at r; cases r; exact ⟨[], True.intro, .nil⟩
  | p :: kvs, _, r => by
    rw [List.map_cons] at r
    cases r with
    | @cons a b as bs h t =>
      obtain ⟨rs, c, q⟩ := carries_of (P := P) (w := w) t
      obtain ⟨b1, b2⟩ := b
      exact ⟨(p.1, b2) :: rs, ⟨kV_is h.1, rfl, c⟩, .cons ⟨rfl, h.2⟩ q⟩
/-- {k: v, ..} with keys ints and texts; the new dict stands empty while the pairs are made -/
def tDisp (trs : List (TE × TE)) : TE := fun σ H Q => ∀ p, H p = none → tPairs trs σ (upd H p (.dK [])) fun ps H2 => H2 p = some (.dK []) ∧ ∃ kvs : List (Key × V), ps = kvs.map (fun kv => (kV kv.1, kv.2)) ∧ kvs.length ≤ 15 ∧ Q (.ref p) (upd H2 p (.dK (mergeK [] kvs)))
theorem pe_disp {X : Cx} {pos : Pos} {keys : List (Option Expr)} {values : List Expr} {trs : List (TE × TE)} (h : PPs X pos keys values trs) (hall : keys.all (·.isSome) = true) (hl : keys.length = values.length) (h0 : keys ≠ [])
    (h15 : keys.length ≤ 15) : PE X (.Dict keys values pos) (tDisp trs) := by
  intro pins s σ H Q I q
  have hn := I.hok.fresh (Nat.le_refl s.heap.objs.size)
  have I1 := I.laid (a := s.heap.objs.size) (o := .dK []) (h' := s.heap.push { cls := .type "dict", data := .dict #[] }) (t' := s.toks) (fun _ _ q => Heap.get?_push_of_some _ q) (Nat.le_refl _) (dk_empty s.heap I.big)
  refine wpAny_Dict_walk (knd := mixKind X.prog X.w) hall hl h0 h15 (thn (h pins _ σ _ _ I1 (q _ hn)) fun ws s2 ⟨ps, H2, I2, rel, e, kvs, ep, lk, q2⟩ => ?_)
  subst ep
  obtain ⟨rs, c, rk⟩ := carries_of (P := X.prog) (w := X.w) rel
  obtain ⟨z, hd, vs0, r0, dd⟩ := dk_of I2.hok e
  cases r0
  refine ⟨rs, c, dd, fun h' dd' hs => ⟨.ref s.heap.objs.size, _, ?_, rfl, q2⟩⟩
  have hz : (mergeK [] kvs).length ≤ sizeLine := by
    have h1 := length_mergeK kvs []
    rw [List.length_nil] at h1
    rw [sizeLine_eq]; omega
  have he : ∃ q, h'.get? s.heap.objs.size = some q := let ⟨q, _, _, hq, _⟩ := dd'; ⟨q, hq⟩
  exact d_write I2 (by rw [e]; exact True.intro) hs he (dk_new hz hd (rk.merge .nil) dd')


/-! ### methods -/
/-- a method call o.m(e) of a built-in, with one argument: what must be seen of the text -/
structure M1 (X : Cx) (o : Expr) (m : Str) (apos : Pos) (e : Expr) (cpos : Pos) : Prop where
  base : attributeBase o m X.env (eval o X.env) = eval o X.env
  few : ((backTo cpos (starEach [e] X.env)).all (fun x => !x.1) && (backToKw cpos (keywordEach [] X.env)).all (fun x => x.1.isSome)
    && decide (([e] : List Expr).length + ([] : List Keyword).length + (if ([] : List Keyword).isEmpty then 0 else 1) < 30)) = true
  line : (apos.endLine == cpos.line) = true
  trees : backTo cpos (starEach [e] X.env) = [(false, eval e X.env)]
structure M2 (X : Cx) (o : Expr) (m : Str) (apos : Pos) (e f : Expr) (cpos : Pos) : Prop where
  base : attributeBase o m X.env (eval o X.env) = eval o X.env
  few : ((backTo cpos (starEach [e, f] X.env)).all (fun x => !x.1) && (backToKw cpos (keywordEach [] X.env)).all (fun x => x.1.isSome)
    && decide (([e, f] : List Expr).length + ([] : List Keyword).length + (if ([] : List Keyword).isEmpty then 0 else 1) < 30)) = true
  line : (apos.endLine == cpos.line) = true
  trees : backTo cpos (starEach [e, f] X.env) = [(false, eval e X.env), (false, eval f X.env)]

/-- a is a dict, whatever its keys -/
def IsD (H : Hp) (a : Addr) : Prop := (∃ kvs, Rd H a (.dK kvs)) ∨ ∃ kvs, Rd H a (.dT kvs)
theorem isD_at {X : Cx} {pins : List (Addr × Obj)} {σ : St} {H : Hp} {s : Shared} {a : Addr} (I : Inv X pins σ H s) (d : IsD H a) :
    s.TypeIs (.ref a) "dict" ∧ (∀ b, Value.ref a = .ref b → ∃ ob, s.heap.get? b = some ob ∧ ob.dict = none) ∧ (a == sysModules) = false := by
  rcases d with ⟨kvs, e⟩ | ⟨kvs, e⟩
  · obtain ⟨_, hd, vs, _, dd⟩ := dk_rd I.hok e
    refine ⟨dd.typeIs, fun b q => ?_, hd⟩
    cases q
    obtain ⟨ob, _, _, h1, h2, _⟩ := dd
    exact ⟨ob, h1, h2.2.1⟩
  · obtain ⟨_, hd, xs, _, dd⟩ := dt_rd I.hok e
    refine ⟨dd.typeIs, fun b q => ?_, hd⟩
    cases q
    obtain ⟨ob, _, _, h1, h2, _⟩ := dd
    exact ⟨ob, h1, h2.2.1⟩

section
variable {X : Cx} {pins : List (Addr × Obj)} {σ : St} {H : Hp} {s : Shared} {a : Addr} {y d : V} {u r : Value} {o : Option V} {A : Around} {E : Value → Shared → Prop}
/-- d.get(y) -/
theorem d_get1 {Q : Value → Shared → Prop} (hu : A.units + 1 < cLine) (I : Inv X pins σ H s) (g : DGet H a y o) (ry : RelV y u) (h : ∀ w' s', Inv X pins σ H s' → RelV (o.getD .non) w' → Q w' s') :
    wpAny (model X.prog X.w) A (call (.builtin "dict.get") [.ref a, u]) Q E s := by
  rcases g with ⟨kvs, k, e, ey, l⟩ | ⟨kvs, k, b, e, ey, eb, l⟩
  · subst ey
    obtain ⟨z, hd, vs, rel, dd⟩ := dk_rd I.hok e
    refine call_meetsIn PySem.F.slot_dict_get dd.typeIs PySem.F.entry_dict_get (PySem.F.args_dict_get_2 _ _) (meets_dict_get (mixKind X.prog X.w) a (kV_is ry) hd) ⟨_, dd.mapOf, h _ _ (I.tok _) ?_⟩
    rw [l]
    exact (rel.val k).getD rfl
  · subst ey
    cases (show u = Value.ref b from ry)
    obtain ⟨z, hd, xs, rel, dd⟩ := dt_rd I.hok e
    refine call_meetsIn PySem.F.slot_dict_get dd.typeIs PySem.F.entry_dict_get (PySem.F.args_dict_get_2 _ _) (meetsH_dict_get (tupleKind (mixKind X.prog X.w)) a b hd) ⟨tupleKind_room_in1 hu, k, xs, key_of I.hok eb, dd, h _ _ (I.tok _) ?_⟩
    rw [l]
    exact (rel.val k).getD rfl
/-- d.get(y, x) -/
theorem d_get2 {Q : Value → Shared → Prop} (hu : A.units + 1 < cLine) (I : Inv X pins σ H s) (g : DGet H a y o) (ry : RelV y u) (rd : RelV d r) (h : ∀ w' s', Inv X pins σ H s' → RelV (o.getD d) w' → Q w' s') :
    wpAny (model X.prog X.w) A (call (.builtin "dict.get") [.ref a, u, r]) Q E s := by
  rcases g with ⟨kvs, k, e, ey, l⟩ | ⟨kvs, k, b, e, ey, eb, l⟩
  · subst ey
    obtain ⟨z, hd, vs, rel, dd⟩ := dk_rd I.hok e
    refine call_meetsIn PySem.F.slot_dict_get dd.typeIs PySem.F.entry_dict_get (PySem.F.args_dict_get_3 _ _ _) (meets_dict_get_default (mixKind X.prog X.w) a (kV_is ry) hd r) ⟨_, dd.mapOf, h _ _ (I.tok _) ?_⟩
    rw [l]
    exact (rel.val k).getD rd
  · subst ey
    cases (show u = Value.ref b from ry)
    obtain ⟨z, hd, xs, rel, dd⟩ := dt_rd I.hok e
    refine call_meetsIn PySem.F.slot_dict_get dd.typeIs PySem.F.entry_dict_get (PySem.F.args_dict_get_3 _ _ _) (meetsH_dict_get_default (tupleKind (mixKind X.prog X.w)) a b hd r) ⟨tupleKind_room_in1 hu, k, xs, key_of I.hok eb, dd, h _ _ (I.tok _) ?_⟩
    rw [l]
    exact (rel.val k).getD rd
end

def tDGet1 (td ty : TE) : TE := fun σ H Q => td σ H fun x H1 => ∃ a, x = .ref a ∧ IsD H1 a ∧ ty σ H1 fun y H2 => ∃ o, DGet H2 a y o ∧ Q (o.getD .non) H2
def tDGet2 (td ty tx : TE) : TE := fun σ H Q => td σ H fun x H1 => ∃ a, x = .ref a ∧ IsD H1 a ∧ ty σ H1 fun y H2 => tx σ H2 fun z H3 => ∃ o, DGet H3 a y o ∧ Q (o.getD z) H3
/-- d.pop(k): there; d.pop(k, x): there or not -/
def tDPop1 (td ty : TE) : TE := fun σ H Q => td σ H fun x H1 => ∃ a, x = .ref a ∧ IsD H1 a ∧ ty σ H1 fun y H2 => ∃ kvs k v, H2 a = some (.dK kvs) ∧ y = kV k ∧ valV kvs k = some v ∧ Q v (upd H2 a (.dK (dropK kvs k)))
def tDPop2 (td ty tx : TE) : TE := fun σ H Q => td σ H fun x H1 => ∃ a, x = .ref a ∧ IsD H1 a ∧ ty σ H1 fun y H2 => tx σ H2 fun z H3 => ∃ kvs k, H3 a = some (.dK kvs) ∧ y = kV k ∧
  (∀ v, valV kvs k = some v → Q v (upd H3 a (.dK (dropK kvs k)))) ∧ (valV kvs k = none → Q z H3)
section
variable {X : Cx} {o e f : Expr} {apos cpos : Pos} {td ty tx : TE}
theorem pe_dget1 (hu : X.A.units + 1 < cLine) (ho : PE X o td) (he : PE X e ty) (m : M1 X o "get" apos e cpos) : PE X (.Call (.Attribute o "get" apos) [e] [] cpos) (tDGet1 td ty) := by
  intro pins s σ H Q I h
  refine wpAny_Call_method m.base m.few m.line PySem.F.plainAttrs_dict PySem.F.slot_dict_get PySem.F.type_dict_get (thn (ho pins s σ H _ I h) fun u s1 ⟨x, H1, I1, rx, a, ex, d, q1⟩ => ?_)
  subst ex
  obtain rfl : u = Value.ref a := rx
  obtain ⟨t1, t2, _⟩ := isD_at I1 d
  refine ⟨t1, t2, ?_⟩
  rw [m.trees]
  refine Calls.callWith_builtin rfl (Calls.evalArgs_plain (Calls.spliced_cons (thn (he pins s1 σ H1 _ I1 q1) fun iv s2 ⟨y, H2, I2, ry, ov, g, q2⟩ => Calls.spliced_nil ?_)))
  exact d_get1 hu I2 g ry fun w' s3 I3 rw' => ⟨_, H2, I3, rw', q2⟩
theorem pe_dget2 (hu : X.A.units + 1 < cLine) (ho : PE X o td) (he : PE X e ty) (hf : PE X f tx) (m : M2 X o "get" apos e f cpos) : PE X (.Call (.Attribute o "get" apos) [e, f] [] cpos) (tDGet2 td ty tx) := by
  intro pins s σ H Q I h
  refine wpAny_Call_method m.base m.few m.line PySem.F.plainAttrs_dict PySem.F.slot_dict_get PySem.F.type_dict_get (thn (ho pins s σ H _ I h) fun u s1 ⟨x, H1, I1, rx, a, ex, d, q1⟩ => ?_)
  subst ex
  obtain rfl : u = Value.ref a := rx
  obtain ⟨t1, t2, _⟩ := isD_at I1 d
  refine ⟨t1, t2, ?_⟩
  rw [m.trees]
  refine Calls.callWith_builtin rfl (Calls.evalArgs_plain (Calls.spliced_cons (thn (he pins s1 σ H1 _ I1 q1) fun iv s2 ⟨y, H2, I2, ry, q2⟩ =>
    Calls.spliced_cons (thn (hf pins s2 σ H2 _ I2 q2) fun fv s3 ⟨z, H3, I3, rz, ov, g, q3⟩ => Calls.spliced_nil ?_))))
  exact d_get2 hu I3 g ry rz fun w' s4 I4 rw' => ⟨_, H3, I4, rw', q3⟩
theorem pe_dpop1 (ho : PE X o td) (he : PE X e ty) (m : M1 X o "pop" apos e cpos) : PE X (.Call (.Attribute o "pop" apos) [e] [] cpos) (tDPop1 td ty) := by
  intro pins s σ H Q I h
  refine wpAny_Call_method m.base m.few m.line PySem.F.plainAttrs_dict PySem.F.slot_dict_pop PySem.F.type_dict_pop (thn (ho pins s σ H _ I h) fun u s1 ⟨x, H1, I1, rx, a, ex, d, q1⟩ => ?_)
  subst ex
  obtain rfl : u = Value.ref a := rx
  obtain ⟨t1, t2, _⟩ := isD_at I1 d
  refine ⟨t1, t2, ?_⟩
  rw [m.trees]
  refine Calls.callWith_builtin rfl (Calls.evalArgs_plain (Calls.spliced_cons (thn (he pins s1 σ H1 _ I1 q1) fun iv s2 ⟨y, H2, I2, ry, kvs, k, v, ea, ey, l, q2⟩ => Calls.spliced_nil ?_)))
  subst ey
  exact d_pop I2 ea ry l (.inl rfl) fun w' s3 I3 rw' => ⟨v, _, I3, rw', q2⟩
theorem pe_dpop2 (ho : PE X o td) (he : PE X e ty) (hf : PE X f tx) (m : M2 X o "pop" apos e f cpos) : PE X (.Call (.Attribute o "pop" apos) [e, f] [] cpos) (tDPop2 td ty tx) := by
  intro pins s σ H Q I h
  refine wpAny_Call_method m.base m.few m.line PySem.F.plainAttrs_dict PySem.F.slot_dict_pop PySem.F.type_dict_pop (thn (ho pins s σ H _ I h) fun u s1 ⟨x, H1, I1, rx, a, ex, d, q1⟩ => ?_)
  subst ex
  obtain rfl : u = Value.ref a := rx
  obtain ⟨t1, t2, _⟩ := isD_at I1 d
  refine ⟨t1, t2, ?_⟩
  rw [m.trees]
  refine Calls.callWith_builtin rfl (Calls.evalArgs_plain (Calls.spliced_cons (thn (he pins s1 σ H1 _ I1 q1) fun iv s2 ⟨y, H2, I2, ry, q2⟩ =>
    Calls.spliced_cons (thn (hf pins s2 σ H2 _ I2 q2) fun fv s3 ⟨z, H3, I3, rz, kvs, k, ea, ey, q3, q4⟩ => Calls.spliced_nil ?_))))
  subst ey
  cases l : valV kvs k with
  | some v => exact d_pop I3 ea ry l (.inr ⟨fv, rfl⟩) fun w' s4 I4 rw' => ⟨v, _, I4, rw', q3 v l⟩
  | none => exact d_popD I3 ea ry l fun s4 I4 => ⟨z, H3, I4, rz, q4 l⟩
end

/-! ### dict(d): a copy -/
section
variable {X : Cx} {pins : List (Addr × Obj)} {σ : St} {H : Hp} {s : Shared} {a : Addr} {kvs : List (Key × V)} {A : Around} {E : Value → Shared → Prop}
theorem d_copyOf {Q : Value → Shared → Prop} (I : Inv X pins σ H s) (e : Rd H a (.dK kvs)) (h : ∀ p s', H p = none → Inv X pins σ (upd H p (.dK kvs)) s' → Q (.ref p) s') : wpAny (model X.prog X.w) A (call (.type "dict") [.ref a]) Q E s := by
  obtain ⟨z, hd, vs, rel, dd⟩ := dk_rd I.hok e
  refine kt_call_dict hd dd (by rw [← rel.length]; exact z) fun h' dd' hs => ?_
  refine h _ _ (I.hok.fresh (Nat.le_refl _)) (I.laid (a := s.heap.objs.size) (o := .dK kvs) (t' := s.toks) (fun b q hq => ?_) (Nat.le_refl _) (dk_new z (beq_eq_false_iff_ne.mpr (Ne.symm (Nat.ne_of_lt I.big))) rel dd'))
  exact (hs.2 b (Nat.ne_of_lt (Heap.lt_size hq))).trans (Heap.get?_push_of_some _ hq)
end


section
variable {X : Cx} {pins : List (Addr × Obj)} {σ : St} {H : Hp} {s : Shared} {a : Addr} {y : V} {u : Value} {A : Around} {E : Value → Shared → Prop}
/-- d[y], not there: a KeyError -/
theorem d_missing {Q : Value → Shared → Prop} (hu : A.units + 1 < cLine) (hh : A.handled = none) (I : Inv X pins σ H s) (g : DGet H a y none) (ry : RelV y u)
    (h : ∀ h' e t', Heap.NewExc s.heap h' e "KeyError" → E (.ref e) { s with heap := h', toks := t' }) : wpAny (model X.prog X.w) A (getItem (.ref a) u) Q E s := by
  rcases g with ⟨kvs, k, e, ey, l⟩ | ⟨kvs, k, b, e, ey, eb, l⟩
  · subst ey
    obtain ⟨z, hd, vs, rel, dd⟩ := dk_rd I.hok e
    have hn : valueAt vs k = none := RelO.none_of (by rw [l]; exact rel.val k)
    exact wpAny_getItem_missing_of (kV_is ry) hd hh dd.mapOf hn fun h' ex ne => h h' ex _ ne
  · subst ey
    cases (show u = Value.ref b from ry)
    obtain ⟨z, hd, xs, rel, dd⟩ := dt_rd I.hok e
    have hn : (atKey xs k).map (·.2) = none := RelO.none_of (by rw [l]; exact rel.val k)
    exact wpAny_getItem_missing_heap (tupleKind_room_in1 hu) (key_of I.hok eb) hd hh dd (Option.map_eq_none_iff.mp hn) fun h' ex ne => h h' ex _ ne
end
end L2

namespace L2
open PySem PySem.Spec PyProof.Rows
section
variable {X : Cx}
/-- len of a dict -/
theorem call_lenD : CallR X (.builtin "len") (fun xs H Q => ∃ a kvs, xs = [V.ref a] ∧ H a = some (.dK kvs) ∧ Q (.int kvs.length) H) := by
  intro pins s σ H xs us Q I r h
  obtain ⟨a, kvs, rfl, ha, q⟩ := h
  obtain ⟨u, rfl, ru⟩ := vals1 r
  cases ru
  exact d_len I (.inl ha) fun t s' I' => ⟨.int kvs.length, H, I', ⟨t, rfl⟩, q⟩
end
/-! ### a dict's pairs: keys that differ -/
section
variable {κ : Type} [DecidableEq κ]
theorem valV_not {kvs : List (κ × V)} {k : κ} (h : valV kvs k = none) : ¬ k ∈ kvs.map (·.1) := by
  intro m
  obtain ⟨p, hp, e⟩ := List.mem_map.mp m
  have q : (kvs.any fun kv => decide (kv.1 = k)) = true := List.any_eq_true.mpr ⟨p, hp, decide_eq_true e⟩
  rw [valV_any, h] at q
  exact absurd q (by simp)
theorem valV_in {kvs : List (κ × V)} {k : κ} {v : V} (h : valV kvs k = some v) : k ∈ kvs.map (·.1) := by
  have q : (kvs.any fun kv => decide (kv.1 = k)) = true := by
    rw [valV_any, h]
    all_goals rfl
  obtain ⟨p, hp, e⟩ := List.any_eq_true.mp q
  exact List.mem_map.mpr ⟨p, hp, of_decide_eq_true e⟩
theorem nd_snoc : ∀ {l : List κ} {k : κ}, l.Nodup → ¬ k ∈ l → (l ++ [k]).Nodup
  | [], k, _, _ => by simp
  | a :: r, k, h, hk => by
    obtain ⟨h1, h2⟩ := List.nodup_cons.mp h
    show (a :: (r ++ [k])).Nodup
    refine List.nodup_cons.mpr ⟨fun m => ?_, nd_snoc h2 fun m => hk (List.mem_cons.mpr (Or.inr m))⟩
    rcases List.mem_append.mp m with q | q
    · exact h1 q
    · exact hk (List.mem_cons.mpr (Or.inl (List.mem_singleton.mp q).symm))
theorem nd_putK {kvs : List (κ × V)} {k : κ} (v : V) (hn : (kvs.map (·.1)).Nodup) (h : valV kvs k = none) : ((putK kvs k v).map (·.1)).Nodup := by
  rw [putK_new v h, List.map_append]
  exact nd_snoc hn (valV_not h)
theorem dropK_pos {p : κ × V} {r : List (κ × V)} {k : κ} (e : p.1 = k) : dropK (p :: r) k = dropK r k := by
  unfold dropK
  rw [List.filter_cons, if_neg (by simp [e])]
theorem dropK_neg {p : κ × V} {r : List (κ × V)} {k : κ} (e : ¬ p.1 = k) : dropK (p :: r) k = p :: dropK r k := by
  unfold dropK
  rw [List.filter_cons, if_pos (by simp [e])]
theorem dropK_no : ∀ {kvs : List (κ × V)} {k : κ}, ¬ k ∈ kvs.map (·.1) → dropK kvs k = kvs
  | [], _, _ => rfl
  | p :: r, k, h => by
    have h' : ¬ k ∈ r.map (·.1) := fun m => by
      obtain ⟨q, hq, e⟩ := List.mem_map.mp m
      exact h (List.mem_map.mpr ⟨q, List.mem_cons.mpr (Or.inr hq), e⟩)
    rw [dropK_neg fun e => h (List.mem_map.mpr ⟨p, List.mem_cons.mpr (Or.inl rfl), e⟩), dropK_no h']
theorem dropK_mem {kvs : List (κ × V)} {k : κ} {p : κ × V} (h : p ∈ dropK kvs k) : p ∈ kvs := (List.mem_filter.mp h).1
theorem nd_dropK : ∀ {kvs : List (κ × V)} {k : κ}, (kvs.map (·.1)).Nodup → ((dropK kvs k).map (·.1)).Nodup
  | [], _, _ => List.nodup_nil
  | p :: r, k, h => by
    have h : (p.1 :: r.map (·.1)).Nodup := h
    obtain ⟨h1, h2⟩ := List.nodup_cons.mp h
    by_cases e : p.1 = k
    · rw [dropK_pos e]
      exact nd_dropK h2
    · rw [dropK_neg e]
      show (p.1 :: (dropK r k).map (·.1)).Nodup
      refine List.nodup_cons.mpr ⟨fun m => h1 ?_, nd_dropK h2⟩
      obtain ⟨q, hq, eq⟩ := List.mem_map.mp m
      exact List.mem_map.mpr ⟨q, dropK_mem hq, eq⟩
theorem dropK_len : ∀ {kvs : List (κ × V)} {k : κ}, (kvs.map (·.1)).Nodup → k ∈ kvs.map (·.1) → (dropK kvs k).length + 1 = kvs.length
  | [], _, _, m => by simp at m
  | p :: r, k, h, m => by
    have h : (p.1 :: r.map (·.1)).Nodup := h
    have m : k = p.1 ∨ k ∈ r.map (·.1) := List.mem_cons.mp m
    obtain ⟨h1, h2⟩ := List.nodup_cons.mp h
    by_cases e : p.1 = k
    · subst e
      rw [dropK_pos rfl, dropK_no h1]
      all_goals rfl
    · have m' : k ∈ r.map (·.1) := m.resolve_left fun z => e z.symm
      have q := dropK_len h2 m'
      rw [dropK_neg e, List.length_cons, List.length_cons]
      omega
end
end L2


namespace L2
open PySem PySem.Spec PyProof.Rows

/-! ### comprehensions: the closure -/
def closL (env : Env) : List (Str × NameKind) → List (Str × Addr) → List (Str × Addr)
  | [], cs => cs
  | (n, k) :: r, cs => closL env r (if k == .free then (match env.cells.lookup n with | some a => (n, a) :: cs | none => cs) else cs)
theorem clos_eq {env : Env} {scope : Scope} (h : ∀ p ∈ scope.names, p.2 = .free → ∃ a, env.cells.lookup p.1 = some a) : closureFor scope env = pure (closL env scope.names []) := by
  have go : ∀ (l : List (Str × NameKind)) (cs : List (Str × Addr)), (∀ p ∈ l, p.2 = .free → ∃ a, env.cells.lookup p.1 = some a) →
      (forIn l cs fun (x : Str × NameKind) (r : List (Str × Addr)) => if (x.2 == .free) = true then (do let a ← cellOf env x.1; pure (ForInStep.yield ((x.1, a) :: r))) else (pure (ForInStep.yield r) : Sem _)) = (pure (closL env l cs) : Sem _) := by
    intro l
    induction l with
    | nil => intro cs _; rfl
    | cons p r ih =>
      intro cs hp
      obtain ⟨n, k⟩ := p
      rw [List.forIn_cons]
      cases hk : k == NameKind.free with
      | false =>
        simp only [hk, Bool.false_eq_true, if_false]
        have e : closL env ((n, k) :: r) cs = closL env r cs := by simp only [closL, hk, Bool.false_eq_true, if_false]
        rw [e, ← ih cs fun q hq => hp q (List.mem_cons_of_mem _ hq)]
        rfl
      | true =>
        obtain ⟨a, ha⟩ := hp (n, k) List.mem_cons_self (by simpa using hk)
        have ha' : env.cells.lookup n = some a := ha
        have e : closL env ((n, k) :: r) cs = closL env r ((n, a) :: cs) := by simp only [closL, hk, ha', if_true]
        have ec : cellOf env n = pure a := by unfold cellOf; rw [ha']
        simp only [hk, if_true, ec]
        rw [e, ← ih ((n, a) :: cs) fun q hq => hp q (List.mem_cons_of_mem _ hq)]
        rfl
  have q := go scope.names [] h
  simp only [closureFor]
  refine Eq.trans (congrArg (fun z => z >>= fun s => pure s) q) ?_
  rfl
theorem clos_sub {env : Env} {x : Str} {c : Addr} : ∀ (l : List (Str × NameKind)) (cs : List (Str × Addr)), (cs.lookup x = some c → env.cells.lookup x = some c) → (closL env l cs).lookup x = some c → env.cells.lookup x = some c
  | [], _, h, e => h e
  | (n, k) :: r, cs, h, e => by
    unfold closL at e
    refine clos_sub r _ ?_ e
    intro q
    split at q
    · split at q
      · rename_i a ha
        rw [List.lookup_cons] at q
        split at q
        · rename_i hx
          have : x = n := by simpa using hx
          cases q
          rw [this]; exact ha
        · exact h q
      · exact h q
    · exact h q
theorem clos_has {env : Env} {x : Str} : ∀ (l : List (Str × NameKind)) (cs : List (Str × Addr)), (∀ p ∈ l, p.2 = .free → ∃ a, env.cells.lookup p.1 = some a) →
    ((∃ c, cs.lookup x = some c) ∨ (x, NameKind.free) ∈ l) → ∃ c, (closL env l cs).lookup x = some c
  | [], _, _, h => h.elim id (fun z => nomatch z)
  | (n, k) :: r, cs, hf, h => by
    unfold closL
    refine clos_has r _ (fun p hp => hf p (List.mem_cons_of_mem _ hp)) ?_
    rcases h with ⟨c, h⟩ | h
    · left
      split
      · split
        · rw [List.lookup_cons]
          split
          · exact ⟨_, rfl⟩
          · exact ⟨c, h⟩
        · exact ⟨c, h⟩
      · exact ⟨c, h⟩
    · rcases List.mem_cons.mp h with e | h
      · cases e
        left
        obtain ⟨a, ha⟩ := hf (x, .free) List.mem_cons_self rfl
        have ha' : env.cells.lookup x = some a := ha
        simp only [ha']
        refine ⟨a, ?_⟩
        show List.lookup x (if (NameKind.free == NameKind.free) = true then (x, a) :: cs else cs) = some a
        rw [if_pos (by decide), List.lookup_cons]
        simp
      · exact .inr h

/-! ### the block's context -/
def compCx (X : Cx) (N' : List Str) (scope : Scope) (cl : List (Str × Addr)) (C : Addr) (s2 : Shared) (H2 : Hp) (fp : List Addr) : Cx where
  prog := X.prog
  w := X.w
  K := X.K
  mg := X.mg
  base := X.base
  A := X.A
  N := N'
  s₀ := s2
  H₀ := H2
  env := compEnvC scope cl C X.env
  outer := X.stack
  stack := X.stack
  ex := fp
  fn := fun _ => false
  calm := X.calm
  pn := []
  xe := fun _ _ => False
/-- the slots of the block: a slot of the def's, or a target's (none yet) -/
def blk (js : List (Option Nat)) (σ : St) : St := js.map fun j => match j with | some j => (σ[j]?).join | none => none
def PTs (X : Cx) (ifs : List Expr) (tc : TT) : Prop :=
  ∀ (pins : List (Addr × Obj)) (s : Shared) (σ : St) (H : Hp) (Q : Bool → Hp → Prop), Inv X pins σ H s → tc σ H Q →
    wpAny (model X.prog X.w) X.A (forIn ifs true fun c r => if r = true then do let ok ← isTrue c X.env (eval c X.env); pure (ForInStep.yield ok) else pure (ForInStep.yield r)) (TP X pins σ Q) X.xe s
def tTT : TT := fun _ H Q => Q true H
theorem pts_nil {X : Cx} : PTs X [] tTT := fun _ _ _ H _ I h => wpAny_tests_nil ⟨H, I, h⟩
theorem pts_one {X : Cx} {c : Expr} {t : TT} (h : PT X c t) : PTs X [c] t := fun pins s σ H Q I hq => wpAny_tests_one (h pins s σ H Q I hq)
/-- what a comprehension wants, by the iterator J: W: the invariant by the turn, a measure, the items so far -/
def CompW (J : It) (g : TG) (tc : TT) (te : TE) (σ : St) (H : Hp) (Q : List V → Hp → Prop) : Prop :=
  ∃ W : Nat → Nat → List V → St → Hp → Prop, (∃ m, W 0 m [] σ H) ∧ ∀ i m ys σ H, W i m ys σ H →
    (J.stop i H ∧ ys.length ≤ sizeLine ∧ Q ys H) ∨
    (J.go i H ∧ ys.length < sizeLine ∧ ∃ N : List V → St → Hp → Prop, (∀ ys' σ' H', N ys' σ' H' → ∃ m', m' < m ∧ W (i + 1) m' ys' σ' H') ∧
      ∀ x H', J.yld i H x H' → g x σ H' fun σ2 H2 => tc σ2 H2 fun b H3 => if b = true then te σ2 H3 fun y H4 => N (ys ++ [y]) σ2 H4 else N ys σ2 H3)
def tComp (wi : TI) (js : List (Option Nat)) (g : TG) (tc : TT) (te : TE) : TE := fun σ H Q => wi σ H fun J H1 => CompW J g tc te (blk js σ) H1 fun ys H2 => ∀ p, H2 p = none → Q (.ref p) (upd H2 p (.lst ys))

theorem comp_loop {prog : Program} {w : World} {A : Around} {R : Result → Shared → Prop} {s : Shared} {elt target iter : Expr} {ifs : List Expr} {scope : Scope} {pos : Pos} {it acc : Value} {env : Env} (I : Nat → Shared → Prop)
    (turn : ∀ n s, I n s → wpAny (model prog w) A (pyNext it) (fun r s₁ => match r with
      | none => R (.ok .next) s₁
      | some v => wpAny (model prog w) A (letOwnedTupleGo target it v) (fun _ s₁ => wpAny (model prog w) A (assign target env v) (fun _ s₂ =>
          wpAny (model prog w) A (forIn ifs true fun c r => if r = true then do let ok ← isTrue c env (eval c env); pure (ForInStep.yield ok) else pure (ForInStep.yield r)) (fun ok s₃ =>
            if ok = true then wpAny (model prog w) A (eval elt env) (fun x s₄ =>
              wpAny (model prog w) A (call (.builtin "list.append") [acc, x]) (fun _ s₅ => ∃ m, m < n ∧ I m s₅) (fun _ _ => False) s₄) (fun _ _ => False) s₃
            else ∃ m, m < n ∧ I m s₃) (fun _ _ => False) s₂) (fun _ _ => False) s₁) (fun _ _ => False) s₁) (fun _ _ => False) s)
    (n : Nat) (h : I n s) : codeAny (model prog w) A (.compLoop (.ListComp elt [⟨target, iter, ifs, 0⟩] scope pos) 0 it acc env) R s := by
  refine codeAny_loop rfl I (fun n s hI => ?_) n h
  show wpAny _ A ((compTurn (.ListComp elt [⟨target, iter, ifs, 0⟩] scope pos) 0 it acc env).onRaise (fun x => do noteFrame x env; theTreesLotGoes x)) _ _ s
  refine wpAny_noted ?_
  rw [compTurn_list]
  refine wpAny_bind (wpAny_standAt (wpAny_bind (wpAny_mono (turn n s hI) (fun r s₁ h₁ => ?_) fun _ _ h' => h'.elim)))
  cases r with
  | none => exact wpAny_pure h₁
  | some v =>
    refine wpAny_bind (wpAny_mono h₁ (fun _ s₁ h₁ => ?_) fun _ _ h' => h'.elim)
    refine wpAny_bind (wpAny_mono h₁ (fun _ s₂ h₂ => wpAny_bind (wpAny_mono h₂ (fun ok s₃ h₃ => ?_) fun _ _ h' => h'.elim)) fun _ _ h' => h'.elim)
    cases ok with
    | false => exact wpAny_pure ⟨rfl, h₃⟩
    | true =>
      exact wpAny_bind (wpAny_bind (wpAny_mono h₃ (fun x s₄ h₄ => wpAny_bind (wpAny_mono h₄ (fun _ s₅ h₅ => wpAny_pure (wpAny_pure ⟨rfl, h₅⟩)) fun _ _ h' => h'.elim)) fun _ _ h' => h'.elim))
end L2

namespace L2
open PySem PySem.Spec PyProof.Rows
section
variable {X : Cx} {pins : List (Addr × Obj)} {σ : St} {H H2 : Hp} {s2 : Shared}
theorem mem_of_lookup {α : Type} {x : Str} {k : α} : ∀ {l : List (Str × α)}, l.lookup x = some k → (x, k) ∈ l
  | [], h => by simp at h
  | (n, k') :: r, h => by
    rw [List.lookup_cons] at h
    split at h
    · rename_i hx
      have : x = n := by simpa using hx
      cases h; rw [this]; exact List.mem_cons_self
    · exact List.mem_cons_of_mem _ (mem_of_lookup h)
theorem relabel_lookup {env : Env} {x : Str} {k : NameKind} : ∀ {l : List (Str × NameKind)},
    (l.map fun (n, k) => if (k == NameKind.free && env.scope.kind == .function && env.kindOf n == some .cell) then (n, NameKind.cell) else (n, k)).lookup x = some k →
    l.lookup x = some k ∨ (k = .cell ∧ l.lookup x = some .free)
  | [], h => by simp at h
  | (n, k') :: r, h => by
    have ih := @relabel_lookup env x k r
    rw [List.map_cons, List.lookup_cons] at h
    rw [List.lookup_cons]
    by_cases hc : (k' == NameKind.free && env.scope.kind == .function && env.kindOf n == some .cell) = true
    · simp only [hc, if_true] at h
      have hk : k' = .free := by
        simp only [Bool.and_eq_true] at hc
        simpa using hc.1.1
      cases hx : x == n with
      | true => rw [hx] at h; cases h; exact .inr ⟨rfl, by rw [hk]⟩
      | false => rw [hx] at h; exact ih h
    · simp only [hc, if_false, Bool.false_eq_true] at h
      cases hx : x == n with
      | true => rw [hx] at h; exact .inl h
      | false => rw [hx] at h; exact ih h
/-- what the block's scope must be, by the def's -/
structure CompOk (X : Cx) (N' : List Str) (js : List (Option Nat)) (scope : Scope) : Prop where
  kind : scope.kind = .function
  cell : ∀ y ∈ scope.names, y.2 ≠ .cell
  names : ∀ y ∈ scope.names, y.2 = .local → scope.names.lookup y.1 = some .local
  free : ∀ y ∈ scope.names, y.2 = .free → X.env.kindOf y.1 = some .cell ∨ X.env.kindOf y.1 = some .free
  len : js.length = N'.length
  ix : ∀ (i j : Nat) (x : Str), js[i]? = some (some j) → N'[i]? = some x → X.N[j]? = some x ∧ scope.names.lookup x = some .free
variable {N' : List Str} {js : List (Option Nat)} {scope : Scope} {fp : List Addr}
theorem CompOk.clos (K : CompOk X N' js scope) (I : Inv X pins σ H s2) : ∀ p ∈ scope.names, p.2 = .free → ∃ a, X.env.cells.lookup p.1 = some a := fun p hp hf => I.ok.has p.1 (K.free p hp hf)
theorem kindY {cl : List (Str × Addr)} {C : Addr} {x : Str} : (compEnvC scope cl C X.env).kindOf x = (scope.names.map fun (n, k) => if (k == NameKind.free && X.env.scope.kind == .function && X.env.kindOf n == some .cell) then (n, NameKind.cell) else (n, k)).lookup x := rfl
/-- the block's context is a context -/
theorem CompOk.ok (K : CompOk X N' js scope) (I : Inv X pins σ H2 s2) (hf : ∀ b ∈ fp, FpOk X pins H2 b) (hfp : ∀ b ∈ fp, b < s2.heap.objs.size) {C : Addr} (hC : s2.heap.objs.size ≤ C) :
    (compCx X N' scope (closL X.env scope.names []) C s2 H2 fp).Ok := by
  have sub : ∀ x c, (closL X.env scope.names []).lookup x = some c → X.env.cells.lookup x = some c := fun x c e => clos_sub scope.names [] (fun z => by simp at z) e
  refine ⟨I.mod, K.kind, I.ok.glob, I.ok.blt, hC, fun x y c a b => I.ok.inj x y c (sub x c a) (sub y c b), fun x hk => ?_, fun x c h => (nomatch h), I.ok.hd, I.ok.frames, .inl rfl, fun b hb => ⟨?_, fun x c e => ?_⟩, I.bs, ?_, fun b o e hb => ?_, fun b hb => ?_, I.stack, I.stkFree⟩
  · refine clos_has scope.names [] (K.clos I) (.inr ?_)
    have z : ∀ k, (compEnvC scope (closL X.env scope.names []) C X.env).kindOf x = some k → k = .cell ∨ k = .free → (x, NameKind.free) ∈ scope.names := fun k e hk => by
      rw [kindY] at e
      rcases relabel_lookup e with e | ⟨_, e⟩
      · rcases hk with rfl | rfl
        · exact absurd rfl (K.cell _ (mem_of_lookup e))
        · exact mem_of_lookup e
      · exact mem_of_lookup e
    rcases hk with e | e
    · exact z _ e (.inl rfl)
    · exact z _ e (.inr rfl)
  · exact Nat.ne_of_lt (Nat.lt_of_lt_of_le (hfp b hb) hC)
  · exact (hf b hb).2.2.2.2.1 x c (sub x c e)
  · exact Nat.le_trans I.ok.bsz I.sz
  · rcases (hf b hb).2.2.2.1 with z | z
    · exact I.ok.noex b o e z
    · exact absurd (Nat.lt_of_lt_of_le (Nat.lt_of_lt_of_le (Heap.lt_size e) I.ok.bsz) z) (Nat.lt_irrefl _)
  · intro hs
    rcases List.mem_cons.mp (I.stkSub b hs) with e | e
    · exact (hf b hb).2.1 e
    · exact (hf b hb).2.2.1 e
/-- .. and its first state -/
theorem CompOk.inv (K : CompOk X N' js scope) (I : Inv X pins σ H2 s2) (hf : ∀ b ∈ fp, FpOk X pins H2 b) (hfp : ∀ b ∈ fp, b < s2.heap.objs.size) {C D : Addr} {o : Obj} {h1 : Heap} {tk : Nat} {m : Str → Option Value}
    (hD : s2.heap.objs.size ≤ D) (hC : s2.heap.objs.size ≤ C) (hDC : D ≠ C) (up : ∀ b u, s2.heap.get? b = some u → h1.get? b = some u) (hn : h1.Ns C m) (ho : h1.get? D = some o) (hcell : ∀ v, o.data ≠ .cell v) :
    Inv (compCx X N' scope (closL X.env scope.names []) C s2 H2 fp) [(D, o)] (blk js σ) H2 { s2 with heap := h1, toks := tk } := by
  have ok := K.ok I hf hfp hC
  have sub : ∀ x c, (closL X.env scope.names []).lookup x = some c → X.env.cells.lookup x = some c := fun x c e => clos_sub scope.names [] (fun z => by simp at z) e
  refine ⟨ok, rfl, I.bare, Un.kept up, ⟨m, hn, fun i x v e1 e2 e3 => ?_⟩, fun x c e => ?_, I.hok.fresh hC, fun x c e => I.freeC x c (sub x c e), fun p hp => ?_, I.hok.kept up, ?_⟩
  · have e2' : (js.map fun j => match j with | some j => (σ[j]?).join | none => none)[i]? = some (some v) := e2
    rw [List.getElem?_map] at e2'
    cases hj : js[i]? with
    | none => rw [hj] at e2'; cases e2'
    | some j =>
      rw [hj] at e2'
      cases j with
      | none => cases e2'
      | some j =>
        have e4 : (σ[j]?).join = some v := Option.some.inj e2'
        have e5 : σ[j]? = some (some v) := by
          cases q : σ[j]? with
          | none => rw [q] at e4; cases e4
          | some z => rw [q] at e4; cases z with
            | none => cases e4
            | some z => cases e4; rfl
        obtain ⟨hX, hfr⟩ := K.ix i j x hj e1
        obtain ⟨mX, hnX, hl⟩ := I.loc
        have hm := mem_of_lookup hfr
        have hk := K.free _ hm rfl
        have hv : Vis X.env.scope x := hk.elim (fun z => .inr (.inl z)) fun z => .inr (.inr z)
        obtain ⟨u, r, q⟩ := hl j x v hX e5 hv
        refine ⟨u, r, ?_⟩
        rcases q with ⟨q, _⟩ | ⟨_, c, ec, z⟩
        · rcases hk with hk | hk
          · have hk' : X.env.kindOf x = some .cell := hk
            rw [q] at hk'; cases hk'
          · have hk' : X.env.kindOf x = some .free := hk
            rw [q] at hk'; cases hk'
        · obtain ⟨c', ec'⟩ := clos_has (x := x) scope.names [] (K.clos I) (.inr hm)
          have e6 := sub x c' ec'
          rw [ec] at e6; cases e6
          obtain ⟨oz, hoz, hdz⟩ := z
          refine .inr ⟨?_, c, ec', ⟨oz, up _ _ hoz, hdz⟩⟩
          rcases e3 with e3 | e3 | e3
          · rcases relabel_lookup e3 with e | ⟨z, _⟩
            · rw [hfr] at e; cases e
            · cases z
          · exact .inl e3
          · exact .inr e3
  · obtain ⟨v, oz, hoz, hdz⟩ := I.cell x c (sub x c e)
    exact ⟨v, oz, up _ _ hoz, hdz⟩
  · have e : p = (D, o) := by
      have : p ∈ ([] : List (Addr × Obj)) ++ [(D, o)] := hp
      simpa using this
    subst e
    refine ⟨ho, I.hok.fresh hD, hDC, fun z => ?_, hcell⟩
    rcases List.mem_cons.mp (I.stkSub D z) with e | e
    · exact absurd (Nat.lt_of_lt_of_le I.lt hD) (by rw [show D = X.env.locals from e]; exact Nat.lt_irrefl _)
    · exact I.nofs hD e
  · show (js.map _).length = N'.length
    rw [List.length_map]; exact K.len
/-- behind the block: the def's state, the list tracked -/
theorem comp_back (I : Inv X pins σ H2 s2) (hf : ∀ b ∈ fp, FpOk X pins H2 b) {cl : List (Str × Addr)} {C D : Addr} {o : Obj} {ys : List V} {us : List Value} {k : Nat} {σ' : St} {H4 : Hp} {s4 : Shared} {pl : List (Addr × Obj)}
    (hD : s2.heap.objs.size ≤ D) (I4 : Inv (compCx X N' scope cl C s2 H2 fp) pl σ' H4 s4) (hp : (D, o) ∈ pl) (ho : o = { cls := .type "list", data := .seq us.toArray k }) (r : Vals ys us) (hz : ys.length ≤ sizeLine) :
    Inv X pins σ (upd H4 D (.lst ys)) s4 := by
  have pD := I4.pin (D, o) (List.mem_append_right _ hp)
  have nD : H4 D = none := pD.2.1
  have eD : s4.heap.get? D = some o := pD.1
  have neD : ∀ b u, s2.heap.get? b = some u → b ≠ D := fun b u e => Nat.ne_of_lt (Nat.lt_of_lt_of_le (Heap.lt_size e) hD)
  have n2 : H2 D = none := I.hok.fresh hD
  have U := I4.base
  refine I.call' (ch := fp) I4.os ⟨fun b u e n hb hx => U.keep b u e n hb hx, fun b u e n hb hx => U.slot b u e n hb hx, fun b u e n hx => ?_, fun b u e hx => U.there b u e hx, fun b xs e => ?_, fun b u xs e => ?_, fun b ps e => ?_⟩ (fun b u e => ?_) I4.bare fun b hb => ⟨(hf b hb).2.2.2.1, (hf b hb).2.1, (hf b hb).2.2.2.2.1, (hf b hb).2.2.2.2.2⟩
  · rw [upd_ne (neD b u e)]; exact U.free b u e n hx
  · have q := U.tups b xs e
    rw [upd_ne (ne_of_none q nD)]; exact q
  · have q := U.frzs b u xs e
    rw [upd_ne (ne_of_none q nD)]; exact q
  · obtain ⟨more, q⟩ := U.tbls b ps e
    exact ⟨more, by rw [upd_ne (ne_of_none q nD)]; exact q⟩
  · by_cases hb : b = D
    · subst hb
      rw [upd_same] at e
      cases e
      exact ⟨hz, us, k, r, by rw [eD, ho]⟩
    · rw [upd_ne hb] at e
      exact (I4.hok b u e).stay (fun c v _ q => q) (fun c q => by rw [upd_ne (ne_of_none q nD)]; exact q) fun c xs q => by rw [upd_ne (ne_of_none q nD)]; exact q
end
end L2

namespace L2
open PySem PySem.Spec PyProof.Rows
section
variable {X : Cx} {pins : List (Addr × Obj)} {σ : St} {H H2 : Hp} {s2 : Shared} {N' : List Str} {js : List (Option Nat)} {scope : Scope} {fp : List Addr}
abbrev lobj (us : List Value) : Obj := { cls := .type "list", data := .seq us.toArray us.length }
theorem comp_core {tg elt iter : Expr} {ifs : List Expr} {pos : Pos} {g : TG} {tc : TT} {te : TE} {J : It} {it : Addr} {tn : Nat → Heap → Prop} {Qy : List V → Hp → Prop} {RR : Value → Addr → Result → Shared → Prop} {E : Value → Shared → Prop}
    (hc : X.calm = true) (K : CompOk X N' js scope) (I : Inv X pins σ H2 s2) (T : Turn X.prog X.w X.K tg J fp it tn) (st2 : tn 0 s2.heap) (f2 : ∀ b ∈ fp, FpOk X pins H2 b)
    (hb : ∀ C cl, PG (compCx X N' scope cl C s2 H2 fp) tg g ∧ PTs (compCx X N' scope cl C s2 H2 fp) ifs tc ∧ PE (compCx X N' scope cl C s2 H2 fp) elt te)
    (hw : CompW J g tc te (blk js σ) H2 Qy)
    (hR : ∀ D C s4 H4 ys m, Inv X pins σ (upd H4 D (.lst ys)) s4 → s4.heap.Ns C m → s2.heap.objs.size ≤ C → D ≠ C → H4 C = none → H4 D = none → Qy ys H4 → RR (.ref D) C (.ok .next) s4) :
    wpAny (model X.prog X.w) X.A (newList []) (fun acc s₃ => wpAny (model X.prog X.w) X.A (newFunctionEnv scope X.env.globals (closL X.env scope.names []) [] X.env.qual none .none (some X.env)) (fun cenv s₄ =>
      codeAny (model X.prog X.w) X.A (.compStart (.ListComp elt [⟨tg, iter, ifs, 0⟩] scope pos) 0 (.ref it) acc { cenv with scope := relabel scope X.env }) (RR acc cenv.locals) s₄) E s₃) E s2 := by
  refine wpAny_newObj_type (wpAny_newFunctionEnv K.cell (by intro y hy; simp at hy) (fun h₁ hns₁ hsb₁ => ?_) K.kind)
  dsimp only at hns₁ hsb₁ ⊢
  generalize hH2 : s2.heap.push { cls := .type "list", dict := none, data := .seq ([] : List Value).toArray } = HH at hns₁ hsb₁ ⊢
  have hC : HH.objs.size = s2.heap.objs.size + 1 := by rw [← hH2, Heap.size_push]
  have hDC : s2.heap.objs.size ≠ HH.objs.size := by rw [hC]; exact Nat.ne_of_lt (Nat.lt_succ_self _)
  have below : ∀ b, b < s2.heap.objs.size → b ≠ HH.objs.size ∧ b ≠ s2.heap.objs.size := fun b hb => ⟨by rw [hC]; exact Nat.ne_of_lt (Nat.lt_succ_of_lt hb), Nat.ne_of_lt hb⟩
  have old : ∀ b o, s2.heap.get? b = some o → h₁.get? b = some o := fun b o e => hsb₁.extBut b o (below b (Heap.lt_size e)).1 (Heap.get?_push_of_some _ (hH2 ▸ Heap.get?_push_of_some _ e))
  have hacc : h₁.get? s2.heap.objs.size = some (lobj []) := hsb₁.extBut _ _ hDC (Heap.get?_push_of_some _ (hH2 ▸ Heap.get?_push_size _ rfl))
  have hfp : ∀ b ∈ fp, b < s2.heap.objs.size := fun b hb => by obtain ⟨o, e, _⟩ := T.obj 0 _ st2 b hb; exact Heap.lt_size e
  have hCle : s2.heap.objs.size ≤ HH.objs.size := by rw [hC]; exact Nat.le_succ _
  generalize hCC : HH.objs.size = C at *
  generalize hDD : s2.heap.objs.size = D at *
  obtain ⟨W, ⟨m0, w0⟩, turn⟩ := hw
  obtain ⟨hG, hT, hE⟩ := hb C (closL X.env scope.names [])
  have st1 : tn 0 h₁ := T.keep 0 _ _ st2 fun b _ o e => old b o e
  have loop : ∀ s₃ : Shared, s₃ = { s2 with heap := h₁, toks := s2.toks + ([] : List (Str × Value)).length } →
      codeAny (model X.prog X.w) X.A (.compLoop (.ListComp elt [⟨tg, iter, ifs, 0⟩] scope pos) 0 (.ref it) (.ref D) (compEnvC scope (closL X.env scope.names []) C X.env)) (RR (.ref D) C) s₃ := by
    rintro s₃ rfl
    have I0 : Inv (compCx X N' scope (closL X.env scope.names []) C s2 H2 fp) [(D, lobj [])] (blk js σ) H2 { s2 with heap := h₁, toks := s2.toks + ([] : List (Str × Value)).length } :=
      K.inv I f2 (fun b hb => by rw [hDD]; exact hfp b hb) (by rw [hDD]; exact Nat.le_refl _) (by rw [hDD]; exact hCle) hDC old hns₁ hacc (fun v z => by cases z)
    have cfree : ∀ {σ' : St} {H' : Hp} {s' : Shared} {pl : List (Addr × Obj)}, Inv (compCx X N' scope (closL X.env scope.names []) C s2 H2 fp) pl σ' H' s' → H' C = none := fun I' => I'.free
    -- the iterator's objects in the block
    have stat : ∀ {H' : Hp} {us : List Value}, (∀ b ∈ fp, H' b = none) → ∀ b ∈ fp, FpOk (compCx X N' scope (closL X.env scope.names []) C s2 H2 fp) [(D, lobj us)] H' b := fun {H' us} hn b hb => by
      refine ⟨hn b hb, (below b (hfp b hb)).1, fun z => ?_, .inl hb, fun x c e => ?_, fun p hp => ?_⟩
      · rcases List.mem_cons.mp (I.stkSub b z) with e | e
        · exact (f2 b hb).2.1 e
        · exact (f2 b hb).2.2.1 e
      · exact (f2 b hb).2.2.2.2.1 x c (clos_sub scope.names [] (fun z => by simp at z) e)
      · have e : p = (D, lobj us) := by
          have hp' : p ∈ ([] : List (Addr × Obj)) ++ [(D, lobj us)] := hp
          simpa using hp'
        subst e
        exact Ne.symm (below b (hfp b hb)).2
    refine comp_loop (fun n s' => ∃ i ys us σ' H', Inv (compCx X N' scope (closL X.env scope.names []) C s2 H2 fp) [(D, lobj us)] σ' H' s' ∧ tn i s'.heap ∧ (∀ b ∈ fp, H' b = none) ∧ Vals ys us ∧ W i n ys σ' H') ?_ m0
      ⟨0, [], [], blk js σ, H2, I0, st1, fun b hb => (f2 b hb).1, .nil, w0⟩
    rintro n s3 ⟨i, ys, us, σ3, H3, I3, st3, fr3, rv, w3⟩
    rcases turn i n ys σ3 H3 w3 with ⟨stop, hz, q⟩ | ⟨go, hz, N, hN, step⟩
    · refine thn (T.done (compCx X N' scope (closL X.env scope.names []) C s2 H2 fp) rfl rfl rfl hc i _ s3 σ3 H3 _ I3 (stat fr3) st3 stop) fun r s4 ⟨hr, I4⟩ => ?_
      subst hr
      obtain ⟨mC, hnC, _⟩ := I4.loc
      exact hR D C s4 H3 ys mC (comp_back I f2 (by rw [hDD]; exact Nat.le_refl _) I4 List.mem_cons_self rfl rv hz) hnC (by first | exact hCle | (rw [hDD]; exact hCle)) hDC (cfree I4) (I4.pin (D, lobj us) (List.mem_append_right _ List.mem_cons_self)).2.1 q
    · refine thn (T.item (compCx X N' scope (closL X.env scope.names []) C s2 H2 fp) rfl rfl rfl hc i _ s3 σ3 H3 _ I3 (stat fr3) st3 go) fun r s4 ⟨u, hr, h4⟩ => ?_
      subst hr
      refine thn h4 fun _ s5 ⟨x, H5, I5, r5, y5, st5, fr5⟩ => ?_
      have I5' := I5.pinned (stat fr5) (T.obj _ _ st5)
      refine thn (hG _ s5 σ3 H5 x u _ I5' r5 (step x H5 y5)) fun _ s6 ⟨σ6, H6, I6, q6⟩ => ?_
      refine thn (hT _ s6 σ6 H6 _ I6 q6) fun ok s7 ⟨H7, I7, q7⟩ => ?_
      have again : ∀ {H8 : Hp} {s8 : Shared}, Inv (compCx X N' scope (closL X.env scope.names []) C s2 H2 fp) ([(D, lobj us)] ++ pinsAt fp s5.heap) σ6 H8 s8 → tn (i + 1) s8.heap ∧ ∀ b ∈ fp, H8 b = none := fun {H8 s8} I8 =>
        ⟨T.keep _ _ _ st5 fun b hb o e => (I8.pin (b, o) (List.mem_append_right _ (List.mem_append_right _ (mem_pinsAt hb e)))).1, fun b hb => by
          obtain ⟨o, e, d⟩ := T.obj _ _ st5 b hb
          exact (I8.pin (b, o) (List.mem_append_right _ (List.mem_append_right _ (mem_pinsAt hb e)))).2.1⟩
      cases ok with
      | false =>
        have q7' : N ys σ6 H7 := by simpa using q7
        obtain ⟨m', hm, w7⟩ := hN _ _ _ q7'
        obtain ⟨t7, fr7⟩ := again I7
        exact ⟨m', hm, i + 1, ys, us, σ6, H7, I7.unpinned, t7, fr7, rv, w7⟩
      | true =>
        have q7' : te σ6 H7 fun y H4 => N (ys ++ [y]) σ6 H4 := by simpa using q7
        refine thn (hE _ s7 σ6 H7 _ I7 q7') fun z s8 ⟨y, H8, I8, r8, q8⟩ => ?_
        obtain ⟨t8, fr8⟩ := again I8
        obtain ⟨eD, nD, neL, nf, _⟩ := I8.pin (D, lobj us) (List.mem_append_right _ (List.mem_append_left _ List.mem_cons_self))
        have hul : us.length < sizeLine := by rw [← rv.length]; exact hz
        refine append_at (hsz := by show us.toArray.size ≤ sizeLine; rw [List.size_toArray]; exact Nat.le_of_lt hul) eD fun h₉ hs₉ hD₉ => ?_
        obtain ⟨m', hm, w8⟩ := hN _ _ _ q8
        have I8' : Inv (compCx X N' scope (closL X.env scope.names []) C s2 H2 fp) [] σ6 H8 s8 := I8.pins_of fun p hp => (nomatch hp)
        have I9 : Inv (compCx X N' scope (closL X.env scope.names []) C s2 H2 fp) [] σ6 H8 { s8 with heap := h₉ } := I8'.turned (t' := s8.toks) (it := D) (fun b o hb e => (hs₉.2 b hb).trans e) nD neL (.inr (by show s2.heap.objs.size ≤ D; rw [hDD]; exact Nat.le_refl _)) (fun x c e z => by
            have e' : (closL X.env scope.names []).lookup x = some c := e
            obtain ⟨v, q⟩ := I.cell x c (clos_sub scope.names [] (fun z => by simp at z) e')
            have l := q.lt
            rw [hDD, z] at l; exact Nat.lt_irrefl _ l) (fun p hp => (nomatch hp))
        have eq9 : h₉.get? D = some (lobj (us ++ [z])) := hD₉.trans (congrArg some (by
          show ({ cls := .type "list", data := .seq (us.toArray.push z) (us.length + 1) } : Obj) = { cls := .type "list", data := .seq (us ++ [z]).toArray (us ++ [z]).length }
          rw [List.length_append, List.length_singleton, List.push_toArray]))
        refine ⟨m', hm, i + 1, ys ++ [y], us ++ [z], σ6, H8, I9.pins_of fun p hp => ?_, T.keep _ _ _ t8 fun b hb o e => (hs₉.2 b ((below b (hfp b hb)).2)).trans e, fr8, rv.append (.cons r8 .nil), w8⟩
        have e : p = (D, lobj (us ++ [z])) := by simpa using hp
        subst e
        exact ⟨eq9, nD, neL, nf, fun v z => by cases z⟩
  exact codeAny_compStart_list (loop _ rfl) (T.self X.A 0 _ _ _ st1 (loop _ rfl))
end
end L2

namespace L2
open PySem PySem.Spec PyProof.Rows
section
variable {X : Cx} {N' : List Str} {js : List (Option Nat)} {scope : Scope} {tg elt iter : Expr} {ifs : List Expr} {pos : Pos} {wi : TI} {g : TG} {tc : TT} {te : TE}
/-- what stands in the block: its target, its tests, its element -/
def PB (X : Cx) (N' : List Str) (scope : Scope) (tg : Expr) (ifs : List Expr) (elt : Expr) (g : TG) (tc : TT) (te : TE) : Prop :=
  ∀ s2 H2 fp C cl, PG (compCx X N' scope cl C s2 H2 fp) tg g ∧ PTs (compCx X N' scope cl C s2 H2 fp) ifs tc ∧ PE (compCx X N' scope cl C s2 H2 fp) elt te
theorem pe_comp (hc : X.calm = true) (K : CompOk X N' js scope) (hi : PI X tg iter wi) (hb : PB X N' scope tg ifs elt g tc te) (hs : ∀ x, foldedSetIterable iter X.env x = pure x := by intro _; rfl) :
    PE X (.ListComp elt [⟨tg, iter, ifs, 0⟩] scope pos) (tComp wi js g tc te) := by
  intro pins s σ H Q I h
  rw [eval_ListComp]
  refine wpAny_comprehension_free (use := none) rfl hs (clos_eq (K.clos I)) K.kind K.names (thn (hi pins s σ H _ I h) fun v s1 h1 => thn h1 fun itv s2 h2 => ?_)
  obtain ⟨it, fp, tn, J, H2, e, I2, T, st2, f2, hw⟩ := h2
  subst e
  refine comp_core hc K I2 T st2 f2 (fun C cl => hb s2 H2 fp C cl) hw fun D C s4 H4 ys m I4 hn hC hDC nC nD q => ?_
  have nC' : upd H4 D (.lst ys) C = none := by rw [upd_ne (Ne.symm hDC)]; exact nC
  obtain ⟨f0, f1, f2', f3, f4, f5⟩ := I2.fpOk (H' := upd H4 D (.lst ys)) hC nC'
  refine ⟨m, hn, fun h' hs' => ⟨.ref D, _, I4.turned (t' := s4.toks) (it := C) (fun b o hb e => (hs'.2 b hb).trans e) nC' f1 f3 f4 f5, rfl, q D nD⟩⟩
/-- name = [..], a local name -/
theorem ps_comp {i : Nat} {y : Str} {py spos : Pos} (hc : X.calm = true) (hN : X.N.Nodup) (hi' : X.N[i]? = some y) (hy : X.env.scope.names.lookup y = some .local) (K : CompOk X N' js scope) (hi : PI X tg iter wi) (hb : PB X N' scope tg ifs elt g tc te)
    (hsw : swapsWith (.ListComp elt [⟨tg, iter, ifs, 0⟩] scope pos) (some (.Name y py)) spos.line X.env = pure true) (hs : ∀ x, foldedSetIterable iter X.env x = pure x := by intro _; rfl) :
    PS X (.Assign [.Name y py] (.ListComp elt [⟨tg, iter, ifs, 0⟩] scope pos) spos) (tAsg (tComp wi js g tc te) (gName i)) := by
  intro pins s σ H Dn I h
  rw [exec_Assign_Name_used _ _ _ _ hsw]
  refine wpAny_bind (wpAny_standAt (wpAny_bind ?_))
  show wpAny _ _ (do let _ ← comprehension (.ListComp elt [⟨tg, iter, ifs, 0⟩] scope pos) scope X.env _ (newList []) false (eval iter X.env) (some (assign (.Name y py) X.env))) _ _ s
  refine wpAny_bind (wpAny_mono (wpAny_comprehension_free (use := some (assign (.Name y py) X.env)) (Q := fun _ s' => SP X pins Dn .next s') rfl hs (clos_eq (K.clos I)) K.kind K.names
    (thn (hi pins s σ H _ I h) fun v s1 h1 => thn h1 fun itv s2 h2 => ?_)) (fun _ s' hq => wpAny_pure (wpAny_pure hq)) fun _ _ e => e)
  obtain ⟨it, fp, tn, J, H2, e, I2, T, st2, f2, hw⟩ := h2
  subst e
  refine comp_core hc K I2 T st2 f2 (fun C cl => hb s2 H2 fp C cl) hw fun D C s4 H4 ys m I4 hn hC hDC nC nD q => ?_
  have nC' : upd H4 D (.lst ys) C = none := by rw [upd_ne (Ne.symm hDC)]; exact nC
  obtain ⟨f0, f1, f2', f3, f4, f5⟩ := I2.fpOk (H' := upd H4 D (.lst ys)) hC nC'
  show wpAny _ _ (assign (.Name y py) X.env (.ref D)) _ _ _
  refine wpAny_assign_Name (store_ok2 (v := .ref D) I4 hN hi' (.inl hy) rfl (fun s5 I5 ⟨a, sb, ha⟩ => ?_) (.inr hy))
  have nCa : C ≠ a := by
    rcases ha with e | e
    · rw [e]; exact f1
    · exact fun z => f4 y a e z.symm
  exact ⟨m, hn.sameBut sb nCa, fun h' hs' => ⟨_, _, I5.turned (t' := s5.toks) (it := C) (fun b o hb e => (hs'.2 b hb).trans e) nC' f1 f3 f4 f5, q D nD⟩⟩
end
/-! ### the forms one uses -/
section
variable {g : TG} {tc : TT} {te : TE} {σ : St} {H : Hp} {Q : List V → Hp → Prop}
/-- over a list that the block leaves as it is -/
theorem comp_list {K : PySem.W.Frag} {a : Addr} {xs : List V} (Pv : Nat → List V → St → Hp → Prop) (hz : xs.length ≤ sizeLine) (h0 : Pv 0 [] σ H) (hl : ∀ i ys σ H, i ≤ xs.length → Pv i ys σ H → SqL K H a xs)
    (hy : ∀ i ys σ H, Pv i ys σ H → ys.length ≤ i)
    (hs : ∀ i x ys σ H, xs[i]? = some x → Pv i ys σ H → g x σ H fun σ2 H2 => tc σ2 H2 fun b H3 => if b = true then te σ2 H3 fun y H4 => Pv (i + 1) (ys ++ [y]) σ2 H4 else Pv (i + 1) ys σ2 H3) (hd : ∀ ys σ H, Pv xs.length ys σ H → Q ys H) :
    CompW (Itl K a) g tc te σ H Q := by
  refine ⟨fun i m ys σ H => m = xs.length - i ∧ i ≤ xs.length ∧ Pv i ys σ H, ⟨xs.length, by simp, Nat.zero_le _, h0⟩, ?_⟩
  rintro i m ys σ H ⟨rfl, hi, p⟩
  have q := hl i ys σ H hi p
  have hyl := hy i ys σ H p
  by_cases hlt : i < xs.length
  · refine .inr ⟨⟨xs, xs[i], q, by simp [hlt]⟩, by omega, Pv (i + 1), fun ys' σ' H' p' => ⟨xs.length - (i + 1), by omega, rfl, hlt, p'⟩, fun x H' y => ?_⟩
    obtain ⟨e, y⟩ := y
    subst e
    exact hs i x ys σ _ (y xs q) p
  · have e : i = xs.length := by omega
    subst e
    exact .inl ⟨⟨xs, q, Nat.le_refl _⟩, by omega, hd ys σ H p⟩
theorem comp_range {lo : Int} {n : Nat} (Pv : Nat → List V → St → Hp → Prop) (hz : n ≤ sizeLine) (h0 : Pv 0 [] σ H) (hy : ∀ i ys σ H, Pv i ys σ H → ys.length ≤ i)
    (hs : ∀ i ys σ H, i < n → Pv i ys σ H → g (.int (lo + i)) σ H fun σ2 H2 => tc σ2 H2 fun b H3 => if b = true then te σ2 H3 fun y H4 => Pv (i + 1) (ys ++ [y]) σ2 H4 else Pv (i + 1) ys σ2 H3) (hd : ∀ ys σ H, Pv n ys σ H → Q ys H) :
    CompW (Itr lo n) g tc te σ H Q := by
  refine ⟨fun i m ys σ H => m = n - i ∧ i ≤ n ∧ Pv i ys σ H, ⟨n, by simp, Nat.zero_le _, h0⟩, ?_⟩
  rintro i m ys σ H ⟨rfl, hi, p⟩
  have hyl := hy i ys σ H p
  by_cases hlt : i < n
  · refine .inr ⟨hlt, by omega, Pv (i + 1), fun ys' σ' H' p' => ⟨n - (i + 1), by omega, rfl, hlt, p'⟩, fun x H' y => ?_⟩
    obtain ⟨e, y⟩ := y
    subst e y
    exact hs i ys σ _ hlt p
  · have e : i = n := by omega
    subst e
    exact .inl ⟨Nat.le_refl _, by omega, hd ys σ H p⟩
end
end L2

namespace L2
open PySem PySem.Spec PyProof.Rows
section
variable {X : Cx}
/-! ### is, is not of two truths; <= of texts -/
theorem op_is_bl : OpR X (compareOp .Is) (fun x y H Q => ∃ c d, x = .bl c ∧ y = .bl d ∧ Q (.bl (c == d)) H) := by
  intro pins s σ H x y v u Q I rx ry h
  obtain ⟨c, d, rfl, rfl, q⟩ := h
  cases rx; cases ry
  exact is_bool (fin_bl I q rfl)
theorem op_isnot_bl : OpR X (compareOp .IsNot) (fun x y H Q => ∃ c d, x = .bl c ∧ y = .bl d ∧ Q (.bl (c != d)) H) := by
  intro pins s σ H x y v u Q I rx ry h
  obtain ⟨c, d, rfl, rfl, q⟩ := h
  cases rx; cases ry
  exact isnot_bool (fin_bl I q rfl)
theorem op_le_str : OpR X (compareOp .LtE) (fun x y H Q => ∃ i j, x = .str i ∧ y = .str j ∧ Q (.bl (!(decide (j.cps.toList < i.cps.toList)))) H) := by
  intro pins s σ H x y v u Q I rx ry h
  obtain ⟨i, j, rfl, rfl, q⟩ := h
  obtain ⟨t, rfl⟩ := rx
  obtain ⟨t', rfl⟩ := ry
  exact PySem.P.le_str (fin_bl I q rfl)
/-! ### slices of a text -/
def rSlS : V → Option Int → Option Int → Hp → VK → Prop := fun x lo hi H Q => ∃ z, x = .str z ∧ z.length ≤ sizeLine ∧ Q (.str (Txt.slice z lo hi)) H
theorem sl_str : SlR X rSlS := by
  intro pins s σ H x v vl vu lo hi sl Q I rx hs pl pu h
  obtain ⟨z, rfl, hz, q⟩ := h
  obtain ⟨t, rfl⟩ := rx
  refine ⟨"str", _, PySem.F.slot_str_getitem.lookup, typeIs_str _ _ _, ?_⟩
  obtain ⟨o, ho, hc, hd⟩ := hs
  have fin : ∀ t' k, EP X pins σ Q (.str (Txt.slice z lo hi) t') { s with toks := k } := fun t' k => ⟨.str _, H, I.tok k, ⟨t', rfl⟩, q⟩
  have hl : (Txt.slice z lo hi).length ≤ sizeLine := Nat.le_trans (Txt.slice_le z _ _) hz
  cases pl with
  | none => cases pu with
    | none => exact wpAny_getItem_str_slice (l := none) (u := none) (st := none) ⟨o, ho, hc, hd⟩ rfl (post_val_or_str ⟨hl, fin⟩)
    | int j uj => exact wpAny_getItem_str_slice (l := none) (u := some (j, uj)) (st := none) ⟨o, ho, hc, hd⟩ rfl (post_val_or_str ⟨hl, fin⟩)
  | int i ui => cases pu with
    | none => exact wpAny_getItem_str_slice (l := some (i, ui)) (u := none) (st := none) ⟨o, ho, hc, hd⟩ rfl (post_val_or_str ⟨hl, fin⟩)
    | int j uj => exact wpAny_getItem_str_slice (l := some (i, ui)) (u := some (j, uj)) (st := none) ⟨o, ho, hc, hd⟩ rfl (post_val_or_str ⟨hl, fin⟩)
/-! ### join of a list of texts -/
theorem Vals.texts : ∀ {ys : List Str} {us : List Value}, Vals (ys.map V.str) us → StrsAre us ys
  | [], _, r => by cases r; exact .nil
  | y :: ys, _, r => by
    cases r with
    | cons r1 r2 =>
      obtain ⟨t, rfl⟩ := r1
      exact .cons y t (Vals.texts r2)
def rJoin (K : PySem.W.Frag) : V → List V → Hp → VK → Prop := fun x vs H Q => ∃ z a ys, x = .str z ∧ vs = [.ref a] ∧ SqL K H a (ys.map V.str) ∧ (ys.map (·.length)).sum + ys.length * z.length ≤ 16777216 ∧ Q (.str (Txt.join z ys)) H
theorem mt_join : MtR X "str.join" (rJoin X.K) := by
  intro pins s σ H x vs v us Q I rx rv h
  obtain ⟨z, a, ys, rfl, rfl, hq, hz, q⟩ := h
  obtain ⟨t, rfl⟩ := rx
  obtain ⟨u, rfl, ru⟩ := rv.one
  cases ru
  obtain ⟨its, r, pl, _⟩ := I.list hq
  exact join_list pl.isList (by simpa using Vals.texts r) hz fun t' k => ⟨.str _, H, I.tok k, ⟨t', rfl⟩, q⟩
/-! ### the signs of a text -/
def Its (x : Str) : It := ⟨fun i _ => i < x.cps.size, fun i H v H' => H' = H ∧ ∃ c, x.cps[i]? = some c ∧ v = .str ⟨#[c]⟩, fun i _ => i = x.cps.size⟩
theorem turn_str {P : Program} {w : World} {K : PySem.W.Frag} {tg : Expr} (it : Addr) (x : Str) (t : Tok) (T : String) (hT : T = "str_ascii_iterator" ∨ T = "str_iterator") : Turn P w K tg (Its x) [it] it (fun i h => h.IsStrIter it T x t i) where
  mem := by simp
  obj := fun i h st b hb => by
    have e : b = it := by simpa using hb
    subst e
    obtain ⟨o, e, c, d⟩ := st
    exact ⟨o, e, fun v z => by rw [d] at z; cases z⟩
  keep := fun i h h' st k => by obtain ⟨o, e, r⟩ := st; exact ⟨o, k it (by simp) o e, r⟩
  item := by
    intro X hP hw hK hc i pins s σ H E I hf st hg
    subst hP hw hK
    obtain ⟨f0, f1, f2, f3, f4, f5⟩ := hf it (by simp)
    have fin : ∀ v h' tk, SignAt x i v → h'.IsStrIter it T x t (i + 1) → (∀ b o, b ∉ [it] → s.heap.get? b = some o → h'.get? b = some o) → ∃ u, some v = some u ∧
        wpAny (model X.prog X.w) X.A (letOwnedTupleGo tg (.ref it) u) (fun _ s2 => ∃ y H', Inv X pins σ H' s2 ∧ RelV y u ∧ (Its x).yld i H y H' ∧ s2.heap.IsStrIter it T x t (i + 1) ∧ ∀ b ∈ [it], H' b = none) E { s with heap := h', toks := tk } := by
      intro v h' tk hv st' kk
      obtain ⟨c, u, hcu, rfl⟩ := hv
      have I1 : Inv X pins σ H { s with heap := h', toks := tk } := I.turned (fun b o hb e => kk b o (by simpa using hb) e) f0 f1 f3 f4 f5
      obtain ⟨o, e, cc, d⟩ := id st'
      refine ⟨_, rfl, go_of (s := { s with heap := h', toks := tk }) e cc d ?_ ⟨.str ⟨#[c]⟩, H, I1, ⟨u, rfl⟩, ⟨rfl, c, hcu, rfl⟩, st', fun b hb => (hf b hb).1⟩⟩
      rcases hT with rfl | rfl <;> decide
    rcases hT with rfl | rfl
    · exact (Walks.strAscii (prog := X.prog) (w := X.w) (I.ok.hd hc) it x t).item i s _ _ hg st fin
    · exact (Walks.strWide (prog := X.prog) (w := X.w) (I.ok.hd hc) it x t).item i s _ _ hg st fin
  done := by
    intro X hP hw hK hc i pins s σ H E I hf st hg
    subst hP hw hK
    obtain ⟨f0, f1, f2, f3, f4, f5⟩ := hf it (by simp)
    have hg' : i = x.cps.size := hg
    subst hg'
    have fin : ∀ (h' : Heap) (tk : Nat), (∀ b o, b ∉ [it] → s.heap.get? b = some o → h'.get? b = some o) → (none : Option Value) = none ∧ Inv X pins σ H { s with heap := h', toks := tk } := fun h' tk kk =>
      ⟨rfl, I.turned (fun b o hb e => kk b o (by simpa using hb) e) f0 f1 f3 f4 f5⟩
    rcases hT with rfl | rfl
    · exact (Walks.strAscii (prog := X.prog) (w := X.w) (I.ok.hd hc) it x t).done s _ _ st fin
    · exact (Walks.strWide (prog := X.prog) (w := X.w) (I.ok.hd hc) it x t).done s _ _ st fin
  self := fun A i s Q E st h => by
    rcases hT with rfl | rfl
    · exact wpAny_pyIter_striter_ascii st h
    · exact wpAny_pyIter_striter_wide st h
def iStr (tl : TE) : TI := fun σ H R => tl σ H fun x H1 => ∃ z, x = .str z ∧ R (Its z) H1
theorem pi_str {tg l : Expr} {tl : TE} (hl : PE X l tl) : PI X tg l (iStr tl) := by
  intro pins s σ H R I h
  refine thn (hl pins s σ H _ I h) fun v s1 ⟨x, H1, I1, r1, q1⟩ => ?_
  obtain ⟨z, e, q⟩ := q1
  subst e
  obtain ⟨t, rfl⟩ := r1
  have fin : ∀ (o : Obj) (T : String), T = "str_ascii_iterator" ∨ T = "str_iterator" → o.cls = .type T → o.data = .fields #[.str z t, .int 0 0] → PIE X pins σ tg R (.ref s1.heap.objs.size) { s1 with heap := s1.heap.push o } := fun o T hT hc hd => by
    refine ⟨s1.heap.objs.size, [s1.heap.objs.size], _, _, H1, rfl, I1.kept (t' := s1.toks) fun b o e => Heap.get?_push_of_some _ e, turn_str _ z t T hT, ⟨o, Heap.get?_push_size _ (by obtain ⟨c0, d0, dt0, sl0⟩ := o; cases hd; rfl), hc, hd⟩, fun b hb => ?_, q⟩
    have e : b = s1.heap.objs.size := by simpa using hb
    subst e
    exact I1.fpOk (Nat.le_refl _) (I1.hok.fresh (Nat.le_refl _))
  cases ha : z.cps.all (· < 128)
  · exact wpAny_pyIter_wide ha (fin _ "str_iterator" (.inr rfl) rfl rfl)
  · exact wpAny_pyIter_ascii ha (fin _ "str_ascii_iterator" (.inl rfl) rfl rfl)
theorem comp_str {g : TG} {tc : TT} {te : TE} {σ : St} {H : Hp} {Q : List V → Hp → Prop} {x : Str} (Pv : Nat → List V → St → Hp → Prop) (hz : x.cps.size ≤ sizeLine) (h0 : Pv 0 [] σ H) (hy : ∀ i ys σ H, Pv i ys σ H → ys.length ≤ i)
    (hs : ∀ i c ys σ H, x.cps[i]? = some c → Pv i ys σ H → g (.str ⟨#[c]⟩) σ H fun σ2 H2 => tc σ2 H2 fun b H3 => if b = true then te σ2 H3 fun y H4 => Pv (i + 1) (ys ++ [y]) σ2 H4 else Pv (i + 1) ys σ2 H3) (hd : ∀ ys σ H, Pv x.cps.size ys σ H → Q ys H) :
    CompW (Its x) g tc te σ H Q := by
  refine ⟨fun i m ys σ H => m = x.cps.size - i ∧ i ≤ x.cps.size ∧ Pv i ys σ H, ⟨x.cps.size, by simp, Nat.zero_le _, h0⟩, ?_⟩
  rintro i m ys σ H ⟨rfl, hi, p⟩
  have hyl := hy i ys σ H p
  by_cases hlt : i < x.cps.size
  · refine .inr ⟨hlt, by omega, Pv (i + 1), fun ys' σ' H' p' => ⟨x.cps.size - (i + 1), by omega, rfl, hlt, p'⟩, fun v H' y => ?_⟩
    obtain ⟨e, c, hc, e2⟩ := y
    subst e e2
    exact hs i c ys σ _ hc p
  · have e : i = x.cps.size := by omega
    subst e
    exact .inl ⟨rfl, by omega, hd ys σ H p⟩
/-! ### all of a list of truths -/
theorem call_all (hc : X.calm = true) : CallR X (.builtin "all") (fun xs H Q => ∃ (a : Addr) (bs : List Bool), xs = [.ref a] ∧ SqL X.K H a (bs.map V.bl) ∧ Q (.bl (bs.all id)) H) := by
  intro pins s σ H xs us Q I rv h
  obtain ⟨a, bs, rfl, hq, q⟩ := h
  obtain ⟨u, rfl, ru⟩ := rv.one
  cases ru
  obtain ⟨its, r, pl, hz⟩ := I.list hq
  have hlt : a < s.heap.objs.size := by obtain ⟨o, n, e, _⟩ := pl; exact Heap.lt_size e
  refine call_all_walk (wpAny_pyIter_list pl.isList ⟨_, _, _, _, _, _, fun i => bs.getD i true, rfl, Walks.list (by simpa using I.ok.hd hc) s.heap.objs.size a (Nat.ne_of_lt hlt) its.toArray, ⟨⟨_, Heap.get?_push_size _ rfl, rfl, rfl⟩, pl.isList.push _⟩, ?_, ?_⟩)
  · intro i v s' Q' E' hP hQ
    have hv : its[i]? = some v := by simpa using hP
    have hi : i < its.length := (List.getElem?_eq_some_iff.mp hv).1
    have hl := r.length
    rw [List.length_map] at hl
    obtain ⟨u, hu, ru⟩ := r.get (i := i) (x := .bl (bs.getD i true)) (by
      rw [List.getElem?_map, List.getElem?_eq_getElem (by omega), List.getD_eq_getElem?_getD, List.getElem?_eq_getElem (by omega)]; rfl)
    rw [hv] at hu; cases hu; cases ru
    exact wpAny_truthy_bool hQ
  · intro h' tk kk
    have hl := r.length
    rw [List.length_map] at hl
    have e : (List.range its.toArray.size).all (fun i => bs.getD i true) = bs.all id := by
      rw [List.size_toArray, ← hl]
      rw [Bool.eq_iff_iff, List.all_eq_true, List.all_eq_true]
      constructor
      · intro z b hb
        obtain ⟨i, hi, e⟩ := List.mem_iff_getElem.mp hb
        have z' := z i (List.mem_range.mpr hi)
        rw [List.getD_eq_getElem?_getD, List.getElem?_eq_getElem hi, e] at z'
        exact z'
      · intro z i hi
        have hi' := List.mem_range.mp hi
        rw [List.getD_eq_getElem?_getD, List.getElem?_eq_getElem hi']
        exact z _ (List.getElem_mem hi')
    have I1 : Inv X pins σ H { s with heap := h', toks := tk } := I.kept fun b o e => kk b o (by simp only [List.mem_singleton]; exact Nat.ne_of_lt (Heap.lt_size e)) (Heap.get?_push_of_some _ e)
    refine ⟨.bl (bs.all id), H, I1, ?_, q⟩
    rw [e]; rfl
/-! ### isinstance(x, T), T a built-in type -/
theorem call_isinst : CallR X (.builtin "isinstance") (fun xs H Q => ∃ x t c b, xs = [x, .ty c] ∧ TyOf X.K H x t ∧ PySem.W.kitOne X.K t (.type c) = some b ∧ Q (.bl b) H) := by
  intro pins s σ H xs us Q I rv h
  obtain ⟨x, t, c, b, rfl, ht, hk, q⟩ := h
  obtain ⟨u, u', rfl, ru, ru'⟩ := rv.two
  cases ru'
  exact isinst_ok I ru ht hk fun tk => ⟨.bl b, H, I.tok tk, rfl, q⟩
/-! ### == and != of lists of flat items -/
def eqLs : List V → List V → Bool
  | [], [] => true
  | x :: xs, y :: ys => eqV x y && eqLs xs ys
  | _, _ => false
theorem eqLs_len : ∀ {xs ys : List V}, xs.length ≠ ys.length → eqLs xs ys = false
  | [], [], h => absurd rfl h
  | [], _ :: _, _ => rfl
  | _ :: _, [], _ => rfl
  | _ :: xs, _ :: ys, h => by
    have h' : xs.length ≠ ys.length := fun e => h (by simp [e])
    simp only [eqLs, eqLs_len h', Bool.and_false]
theorem eqLs_range : ∀ (xs ys : List V), xs.length = ys.length → (List.range xs.length).all (fun j => eqV (xs.getD j .non) (ys.getD j .non)) = eqLs xs ys
  | [], [], _ => rfl
  | [], _ :: _, h => by simp at h
  | _ :: _, [], h => by simp at h
  | x :: xs, y :: ys, h => by
    have ih := eqLs_range xs ys (by simpa using h)
    rw [List.length_cons, List.range_succ_eq_map, List.all_cons, List.all_map]
    show (eqV x y && _) = (eqV x y && eqLs xs ys)
    rw [← ih]
    rfl
theorem items_eqAt {A : Around} {s : Shared} {xs ys : List V} {us ws : List Value} (rx : Vals xs us) (ry : Vals ys ws) (fx : xs.all flatV = true) (fy : ys.all flatV = true) (j : Nat) (h1 : j < us.toArray.size) (h2 : j < ws.toArray.size) :
    SeqAt.EqAt A s us.toArray[j] ws.toArray[j] (eqV (xs.getD j .non) (ys.getD j .non)) := by
  have l1 : j < us.length := by simpa using h1
  have l2 : j < ws.length := by simpa using h2
  have e1 := rx.length
  have e2 := ry.length
  obtain ⟨u, hu, ru⟩ := rx.get (i := j) (x := xs[j]'(by omega)) (List.getElem?_eq_getElem _)
  obtain ⟨v, hv, rv⟩ := ry.get (i := j) (x := ys[j]'(by omega)) (List.getElem?_eq_getElem _)
  have q1 : us.toArray[j] = u := by
    have : us[j]? = some us[j] := List.getElem?_eq_getElem l1
    rw [hu] at this; cases this; simp
  have q2 : ws.toArray[j] = v := by
    have : ws[j]? = some ws[j] := List.getElem?_eq_getElem l2
    rw [hv] at this; cases this; simp
  rw [q1, q2, List.getD_eq_getElem?_getD, List.getD_eq_getElem?_getD, List.getElem?_eq_getElem (show j < xs.length by omega), List.getElem?_eq_getElem (show j < ys.length by omega)]
  exact eqAt_V ru rv (List.all_eq_true.mp fx _ (List.getElem_mem _)) (List.all_eq_true.mp fy _ (List.getElem_mem _))
def rEqL (K : PySem.W.Frag) (neg : Bool) : R2 := fun x y H Q => ∃ a b xs ys, x = .ref a ∧ y = .ref b ∧ SqL K H a xs ∧ SqL K H b ys ∧ xs.all flatV = true ∧ ys.all flatV = true ∧ Q (.bl (if neg then !eqLs xs ys else eqLs xs ys)) H
theorem op_eqL (hu : X.A.units < cLine) : OpR X (compareOp .Eq) (rEqL X.K false) := by
  intro pins s σ H x y v u Q I rx ry h
  obtain ⟨a, b, xs, ys, rfl, rfl, ha, hb, fa, fb, q⟩ := h
  cases rx; cases ry
  obtain ⟨us, ra, pa, za⟩ := I.list ha
  obtain ⟨ws, rb, pb, zb⟩ := I.list hb
  have e1 := ra.length
  have e2 := rb.length
  by_cases hl : xs.length = ys.length
  · refine SeqAt.eq_listAt pa.isList pb.isList (by simp; omega) hu (items_eqAt ra rb fa fb) (fin_bl I q ?_)
    rw [List.size_toArray, ← e1, eqLs_range xs ys hl]
    rfl
  · refine SeqAt.eq_list_lengthsAt pa.isList pb.isList (by simp; omega) hu (fin_bl I q ?_)
    rw [eqLs_len hl]; rfl
theorem op_neL (hu : X.A.units < cLine) : OpR X (compareOp .NotEq) (rEqL X.K true) := by
  intro pins s σ H x y v u Q I rx ry h
  obtain ⟨a, b, xs, ys, rfl, rfl, ha, hb, fa, fb, q⟩ := h
  cases rx; cases ry
  obtain ⟨us, ra, pa, za⟩ := I.list ha
  obtain ⟨ws, rb, pb, zb⟩ := I.list hb
  have e1 := ra.length
  have e2 := rb.length
  by_cases hl : xs.length = ys.length
  · refine SeqAt.RcNeAt.lists pa.isList pb.isList (by simp; omega) hu (items_eqAt ra rb fa fb) X.prog X.w X.xe _ (fin_bl I q ?_)
    rw [List.size_toArray, ← e1, eqLs_range xs ys hl]
    rfl
  · refine SeqAt.RcNeAt.lists_lengths pa.isList pb.isList (by simp; omega) hu X.prog X.w X.xe _ (fin_bl I q ?_)
    rw [eqLs_len hl]; rfl
end
end L2

namespace L2
open PySem PySem.Spec PyProof.Rows
/-! ### set(xs) of ints and texts -/
def isIn (xs : List Key) (k : Key) : Bool := xs.any fun y => decide (y = k)
theorem isIn_iff {xs : List Key} {k : Key} : isIn xs k = true ↔ k ∈ xs := by
  unfold isIn
  rw [List.any_eq_true]
  constructor
  · rintro ⟨y, hy, e⟩; have := of_decide_eq_true e; subst this; exact hy
  · intro h; exact ⟨k, h, decide_eq_true rfl⟩
/-- how many unlike ones, behind pre -/
def unlike : List Key → List Key → Nat
  | _, [] => 0
  | pre, x :: r => (if isIn pre x then 0 else 1) + unlike (pre ++ [x]) r
theorem unlike_le : ∀ (r pre : List Key), unlike pre r ≤ r.length
  | [], _ => Nat.le_refl _
  | x :: r, pre => by
    have := unlike_le r (pre ++ [x])
    simp only [unlike, List.length_cons]
    split <;> omega
theorem unlike_all : ∀ (r pre : List Key), unlike pre r = r.length ↔ (r.Nodup ∧ ∀ x ∈ r, x ∉ pre)
  | [], pre => by simp [unlike]
  | x :: r, pre => by
    have ih := unlike_all r (pre ++ [x])
    have le := unlike_le r (pre ++ [x])
    simp only [unlike, List.length_cons, List.nodup_cons]
    by_cases hx : x ∈ pre
    · simp only [isIn_iff.mpr hx, if_true]
      constructor
      · intro h; omega
      · intro h; exact absurd hx (h.2 x List.mem_cons_self)
    · have hx' : isIn pre x = false := Bool.eq_false_iff.mpr fun z => hx (isIn_iff.mp z)
      simp only [hx', Bool.false_eq_true, if_false]
      constructor
      · intro h
        obtain ⟨h1, h2⟩ := ih.mp (by omega)
        refine ⟨⟨fun hm => h2 x hm (by simp), h1⟩, fun y hy => ?_⟩
        rcases List.mem_cons.mp hy with rfl | hy
        · exact hx
        · exact fun z => h2 y hy (by simp [z])
      · intro ⟨⟨h1, h2⟩, h3⟩
        have := ih.mpr ⟨h2, fun y hy z => by
          rcases List.mem_append.mp z with z | z
          · exact h3 y (List.mem_cons_of_mem _ hy) z
          · have e : y = x := by simpa using z
            subst e; exact h1 hy⟩
        omega
theorem key_scan {k : Key} {v : Value} (h : keyIs k v = true) : v.scannable = true := by
  rcases keyIs_shape h with ⟨i, t, rfl, rfl⟩ | ⟨x, t, rfl, rfl⟩ <;> rfl
theorem setOf_at {prog : Program} {w : World} {h h' : Heap} {a : Addr} {S : Key → Bool} {n : Nat} (hS : h.SetOf (mixKind prog w) a S n) (k : ∀ o, h.get? a = some o → h'.get? a = some o) : h'.SetOf (mixKind prog w) a S n := by
  obtain ⟨o, es, ep, t, ho, rest⟩ := hS
  exact ⟨o, es, ep, t, k _ ho, rest⟩
theorem setOf_eq {prog : Program} {w : World} {h : Heap} {a : Addr} {S S' : Key → Bool} {n n' : Nat} (hS : h.SetOf (mixKind prog w) a S n) (e : ∀ k, S k = S' k) (en : n = n') : h.SetOf (mixKind prog w) a S' n' := by
  cases (funext e : S = S'); cases en; exact hS
section
variable {prog : Program} {w : World} {A : Around} {R : Result → Shared → Prop}
theorem set_loop {I l S : Addr} {its : List Value} (hh : A.handled = none) (hne : l ≠ I) (hSI : S ≠ I) (hSl : S ≠ l) (hb : its.length + 1 < scanBound) :
    ∀ (rs : List Value) (rk pre : List Key) (us : List Value) (s : Shared) (n : Nat), its = us ++ rs → pre.length = us.length → Paired (fun k v => keyIs k v = true) rk rs → n ≤ us.length →
      s.heap.IsListIter I l us.length → s.heap.IsList l its.toArray → s.heap.SetOf (mixKind prog w) S (isIn pre) n →
      (∀ h' tk, (∀ b o, b ∉ [S, I] → s.heap.get? b = some o → h'.get? b = some o) → h'.SetOf (mixKind prog w) S (isIn (pre ++ rk)) (n + unlike pre rk) → R (.ok (.ret .none)) { s with heap := h', toks := tk }) →
      codeAny (model prog w) A (.builtin "set.update.loop" ⟨[.ref S, .ref I], []⟩) R s := by
  intro rs
  have W := Walks.list (prog := prog) (w := w) (A := A.in1) (by simpa using hh) I l hne its.toArray
  induction rs with
  | nil =>
    intro rk pre us s n e hl hp hn hit hls hS hR
    cases hp
    have eu : us.length = its.toArray.size := by rw [e]; simp
    refine codeAny_builtin PyProof.Rows.F.entry_set_update_loop ?_
    rw [Around.under_plainId PyProof.Rows.F.plain_set_update_loop _]
    show wpAny _ A.in1 (pyNext (.ref I) >>= _) _ _ s
    refine wpAny_bind (W.done s _ _ ⟨by rw [← eu]; exact hit, hls⟩ fun h' tk kk => ?_)
    refine wpAny_pure ?_
    have q := hR h' tk (fun b o hb ho => kk b o (fun z => hb (List.mem_cons_of_mem _ z)) ho) (by
      simp only [List.append_nil, unlike, Nat.add_zero]
      exact setOf_at hS fun o ho => kk S o (by simpa using hSI) ho)
    exact q
  | cons v rs ih =>
    intro rk pre us s n e hl hp hn hit hls hS hR
    cases hp with
    | @cons k _ rk _ hk hp =>
    have hi : us.length < its.toArray.size := by rw [e]; simp
    refine codeAny_builtin PyProof.Rows.F.entry_set_update_loop ?_
    rw [Around.under_plainId PyProof.Rows.F.plain_set_update_loop _]
    show wpAny _ A.in1 (pyNext (.ref I) >>= _) _ _ s
    refine wpAny_bind (W.item us.length s _ _ hi ⟨hit, hls⟩ fun v' h' tk hv' st' kk => ?_)
    have ev : v' = v := by
      have z : its[us.length]? = some v := by rw [e]; simp
      have z' : its[us.length]? = some v' := by simpa using hv'
      rw [z] at z'; cases z'; rfl
    subst ev
    have hS1 : h'.SetOf (mixKind prog w) S (isIn pre) n := setOf_at hS fun o ho => kk S o (by simpa using hSI) ho
    show wpAny _ A.in1 (holding [v'] (setAdd S v') >>= _) _ _ _
    refine wpAny_bind (wpAny_holding ?_)
    unfold setAdd
    refine wpAny_holding ?_
    refine wpAny_bind ((mixKind prog w).pyHash (k := k) hk ?_)
    have hlt : us.length < its.length := by simpa using hi
    refine wpAny_setAddHashed_of (knd := mixKind prog w) hk (key_scan hk) hS1 (by omega) fun h2 hsb hS2 => ?_
    have keep2 : ∀ b o, b ∉ [S, I] → s.heap.get? b = some o → h2.get? b = some o := fun b o hb ho =>
      (hsb.2 b (fun z => hb (by simp [z]))).trans (kk b o (fun z => hb (List.mem_cons_of_mem _ z)) ho)
    refine wpAny_pure ⟨plainId_quiet PyProof.Rows.F.plain_set_update_loop _, ih rk (pre ++ [k]) (us ++ [v']) _ (if isIn pre k then n else n + 1) (by rw [e]; simp) (by simp [hl]) hp ?_ ?_ ?_ ?_ ?_⟩
    · rw [List.length_append, List.length_singleton]; split <;> omega
    · rw [List.length_append, List.length_singleton]
      exact st'.1.at fun o ho => (hsb.2 I (Ne.symm hSI)).trans ho
    · exact st'.2.at fun o ho => (hsb.2 l (Ne.symm hSl)).trans ho
    · refine setOf_eq hS2 (fun k' => ?_) rfl
      rw [Bool.eq_iff_iff, Bool.or_eq_true, isIn_iff, isIn_iff, List.mem_append, List.mem_singleton, decide_eq_true_eq]
    · intro h3 tk3 k3 hS3
      refine hR h3 tk3 (fun b o hb ho => k3 b o hb (keep2 b o hb ho)) (setOf_eq hS3 (fun k' => by rw [List.append_assoc]; rfl) ?_)
      simp only [unlike]
      split <;> omega
end
end L2

namespace L2
open PySem PySem.Spec PyProof.Rows
section
variable {prog : Program} {w : World} {A : Around} {E : Value → Shared → Prop} {s : Shared}
abbrev newSetO (led : Bool) : Obj := { cls := .type "set", dict := none, data := .set #[] 0 (.fresh 0 0 led) }
theorem set_of_list {l : Addr} {its : List Value} {ks : List Key} {Q : Value → Shared → Prop} (hh : A.handled = none) (hl : s.heap.IsList l its.toArray) (hp : Paired (fun k v => keyIs k v = true) ks its) (hb : its.length + 1 < scanBound)
    (h : ∀ (h' : Heap) (tk : Nat), h'.SetOf (mixKind prog w) s.heap.objs.size (isIn ks) (unlike [] ks) → (∀ b o, b < s.heap.objs.size → s.heap.get? b = some o → h'.get? b = some o) → Q (.ref s.heap.objs.size) { s with heap := h', toks := tk }) :
    wpAny (model prog w) A (call (.type "set") [.ref l]) Q E s := by
  obtain ⟨c, tl, hmro⟩ := PySem.F.called_set.mro
  have hmade := PySem.F.called_set.made
  have hsub := PySem.F.called_set.sub
  refine wpAny_call (codeAny_of_tree ?_)
  show wpAny _ _ (callAny (.type "set") _) _ _ _
  refine wpAny_pure ⟨Code.quiet_builtin _ (by decide +kernel), codeAny_builtin PySem.F.entry_type_call ?_⟩
  rw [Around.under_plain (weight_type_call_type "set" [.ref l] []) rfl]
  have h1 := PySem.F.called_set.notType
  have h2 := PySem.F.called_set.canCreate
  have hct := PySem.F.typeCall_set_1 (.ref l)
  repeat (any_goals (first | assumption | wp_step))
  refine codeAny_mono (code_set_new_1 (.ref l) (E := E) (Q₁ := fun obj s₁ => ∃ led : Bool, obj = .ref s.heap.objs.size ∧ s₁ = { s with heap := s.heap.push (newSetO led) }) fun led => ⟨led, rfl, rfl⟩) fun r s₁ hr => ?_
  match r, hr with
  | .error e, hr => exact hr
  | .ok (.ret obj), hr =>
    obtain ⟨led, rfl, rfl⟩ := hr
    have hS : (s.heap.push (newSetO led)).get? s.heap.objs.size = some (newSetO led) := Heap.get?_push_size _ rfl
    have hT : Shared.TypeIs { s with heap := s.heap.push (newSetO led) } (.ref s.heap.objs.size) "set" := ⟨_, hS, rfl⟩
    have hli := PySem.F.called_set.init.lookup
    have hbi := PySem.F.called_set.init.bind (.ref s.heap.objs.size)
    repeat (any_goals (first | assumption | wp_step))
    refine codeAny_mono (codeAny_call_builtin (R := wants (fun r s₂ => r = .none ∧ ∃ h' tk, s₂ = { s with heap := h', toks := tk } ∧ h'.SetOf (mixKind prog w) s.heap.objs.size (isIn ks) (unlike [] ks) ∧
        (∀ b o, b < s.heap.objs.size → s.heap.get? b = some o → h'.get? b = some o)) E) PySem.F.called_set.init.plain PySem.F.entry_set_init (check_set_init_1 hT ?_)) fun r₂ s₂ hr₂ => ?_
    · obtain ⟨ol, hol, hcl, nl, hdl⟩ := id hl
      obtain ⟨ocls, odict, odata, oslots⟩ := ol
      simp only at hcl hdl
      subst hcl; subst hdl
      have hol' : (s.heap.push (newSetO led)).get? l = some { cls := .type "list", dict := odict, data := .seq its.toArray nl, slots := oslots } := Heap.get?_push_of_some _ hol
      have hsls := PySem.F.sub_list_set
      have hslf := PySem.F.sub_list_frozenset
      have hne : (Value.type "list" == Value.type "dict") = false := by decide
      have hl1 : (s.heap.push (newSetO led)).IsList l its.toArray := ⟨_, hol', rfl, nl, rfl⟩
      unfold Builtin.«set.__init__» noKeywords Builtin.Frozenset.updateFrom
      generalize hPI : pyIter = PI
      wp_walk
      subst hPI
      refine wpAny_pyIter_list hl1 (wpAny_bind (wpAny_runValue ?_))
      have hlS : l < s.heap.objs.size := Heap.lt_size hol
      have sz : (s.heap.push (newSetO led)).objs.size = s.heap.objs.size + 1 := Heap.size_push ..
      refine set_loop (its := its) (by simp [hh]) (by rw [sz]; exact Nat.ne_of_lt (Nat.lt_succ_of_lt hlS)) (by rw [sz]; exact Nat.ne_of_lt (Nat.lt_succ_self _)) (Nat.ne_of_gt hlS) hb its ks [] [] _ 0 rfl rfl hp (Nat.le_refl _)
        ⟨_, Heap.get?_push_size _ rfl, rfl, rfl⟩ (hl1.push _) ?_ ?_
      · refine ⟨newSetO led, #[], 0, _, Heap.get?_push_of_some _ hS, ⟨rfl, rfl, rfl⟩, rfl, fun e he => by simp at he, fun k => by simp [isIn], by decide, by rfl, rfl⟩
      · intro h' tk' kk hS'
        refine wpAny_pure ?_
        show wpAny _ _ (ret Value.none) _ _ _
        refine wpAny_pure ⟨rfl, h', tk', rfl, setOf_eq hS' (fun _ => rfl) (by simp), fun b o hb e => ?_⟩
        refine kk b o (fun z => ?_) (Heap.get?_push_of_some _ (Heap.get?_push_of_some _ e))
        rcases List.mem_cons.mp z with z | z
        · exact absurd z (Nat.ne_of_lt hb)
        · have z' : b = (s.heap.push (newSetO led)).objs.size := by simpa using z
          rw [sz] at z'
          exact absurd z' (Nat.ne_of_lt (Nat.lt_succ_of_lt hb))
    · match r₂, hr₂ with
      | .error e, hr₂ => exact hr₂
      | .ok (.ret r), hr₂ =>
        obtain ⟨rfl, h', tk, rfl, hS', hk'⟩ := hr₂
        repeat (any_goals (first | assumption | wp_step))
        exact h _ _ hS' hk'
      | .ok .next, hr₂ => exact hr₂.elim
      | .ok .brk, hr₂ => exact hr₂.elim
      | .ok .cont, hr₂ => exact hr₂.elim
  | .ok .next, hr => exact hr.elim
  | .ok .brk, hr => exact hr.elim
  | .ok .cont, hr => exact hr.elim
end
end L2

namespace L2
open PySem PySem.Spec PyProof.Rows
/-- a set of ints and texts, made of ks -/
def SetO (P : Program) (w : World) (a : Addr) (ks : List Key) : HO := .ext fun h => h.SetOf (mixKind P w) a (isIn ks) (unlike [] ks)
theorem keys_of : ∀ {ks : List Key} {us : List Value}, Vals (ks.map kV) us → Paired (fun k v => keyIs k v = true) ks us
  | [], _, r => by cases r; exact .nil
  | k :: ks, _, r => by
    cases r with
    | cons r1 r2 =>
      refine .cons ?_ (keys_of r2)
      cases k with
      | inl i => obtain ⟨t, rfl⟩ := r1; exact keyIs_int i t
      | inr x => obtain ⟨t, rfl⟩ := r1; exact keyIs_str x t
section
variable {X : Cx}
theorem call_set (hc : X.calm = true) : CallR X (.type "set") (fun xs H Q => ∃ (a : Addr) (ks : List Key), xs = [.ref a] ∧ SqL X.K H a (ks.map kV) ∧ ks.length < 1000 ∧ ∀ p, H p = none → Q (.ref p) (upd H p (SetO X.prog X.w p ks))) := by
  intro pins s σ H xs us Q I rv h
  obtain ⟨a, ks, rfl, hq, hz, q⟩ := h
  obtain ⟨u, rfl, ru⟩ := rv.one
  cases ru
  obtain ⟨its, r, pl, _⟩ := I.list hq
  have hl := r.length
  rw [List.length_map] at hl
  refine set_of_list (I.ok.hd hc) pl.isList (keys_of r) (by unfold scanBound; omega) fun h' tk hS kk => ?_
  obtain ⟨o, es, ep, t, ho, rest⟩ := id hS
  refine ⟨.ref s.heap.objs.size, upd H s.heap.objs.size (SetO X.prog X.w s.heap.objs.size ks), I.laid (fun b ob e => kk b ob (Heap.lt_size e) e) (Nat.le_refl _) ?_, rfl, q _ (I.hok.fresh (Nat.le_refl _))⟩
  exact ⟨hS, ⟨o, ho⟩, fun h1 h2 p k => setOf_at p k⟩
theorem call_len_set : CallR X (.builtin "len") (fun xs H Q => ∃ (a : Addr) (ks : List Key), xs = [.ref a] ∧ H a = some (SetO X.prog X.w a ks) ∧ Q (.int (unlike [] ks)) H) := by
  intro pins s σ H xs us Q I rv h
  obtain ⟨a, ks, rfl, hq, q⟩ := h
  obtain ⟨u, rfl, ru⟩ := rv.one
  cases ru
  obtain ⟨hS, _, _⟩ := (show ObjOk X.prog X.w H s.heap a (SetO X.prog X.w a ks) from I.hok a _ hq)
  obtain ⟨o, es, ep, t, ho, hex, hd, hel, hmem, hb, hf, hn⟩ := hS
  have hb' : (es.size : Int) < 2 ^ 63 := by unfold scanBound at hb; omega
  have q' : Q (.int es.size) H := by rw [hn]; exact q
  exact PySem.call_len_set ho hex hd hf hb' ⟨.int es.size, H, I.tok _, ⟨_, rfl⟩, q'⟩
/-! ### a dict, whatever is in it -/
def DictO (a : Addr) : HO := .ext fun h => ∃ o, h.get? a = some o ∧ o.cls = .type "dict"
inductive TyOf2 (K : PySem.W.Frag) (H : Hp) : V → Value → Prop where
  | of {x : V} {t : Value} (h : TyOf K H x t) : TyOf2 K H x t
  | dict {a : Addr} (e : H a = some (DictO a)) : TyOf2 K H (.ref a) (.type "dict")
theorem call_isinst2 : CallR X (.builtin "isinstance") (fun xs H Q => ∃ x t c b, xs = [x, .ty c] ∧ TyOf2 X.K H x t ∧ PySem.W.kitOne X.K t (.type c) = some b ∧ Q (.bl b) H) := by
  intro pins s σ H xs us Q I rv h
  obtain ⟨x, t, c, b, rfl, ht, hk, q⟩ := h
  obtain ⟨u, u', rfl, ru, ru'⟩ := rv.two
  cases ru'
  cases ht with
  | of ht => exact isinst_ok I ru ht hk fun tk => ⟨.bl b, H, I.tok tk, rfl, q⟩
  | @dict a e =>
    cases (show u = Value.ref a from ru)
    obtain ⟨⟨o, ho, hc⟩, _, _⟩ := (show ObjOk X.prog X.w H s.heap a (DictO a) from I.hok a _ e)
    exact PySem.W.kia_one PySem.W.kitx_dict I.kIn ⟨o, ho, hc⟩ hk (fun z => nomatch z) fun tk => ⟨.bl b, H, I.tok tk, rfl, q⟩
end
end L2

namespace L2
open PySem PySem.Spec PyProof.Rows
/-- what a comprehension's scope must be, by reckoning -/
def compOkB (names outer : List (Str × NameKind)) (N' N : List Str) (js : List (Option Nat)) : Bool :=
  names.all (fun y => decide (y.2 ≠ .cell) && (decide (y.2 ≠ .local) || decide (names.lookup y.1 = some .local)) && (decide (y.2 ≠ .free) || (decide (outer.lookup y.1 = some .cell) || decide (outer.lookup y.1 = some .free))))
  && decide (js.length = N'.length) && (js.zip N').all fun p => match p.1 with | none => true | some j => decide (N[j]? = some p.2) && decide (names.lookup p.2 = some .free)
theorem CompOk.of_b {X : Cx} {N' : List Str} {js : List (Option Nat)} {scope : Scope} (hk : scope.kind = .function) (h : compOkB scope.names X.env.scope.names N' X.N js = true) : CompOk X N' js scope := by
  unfold compOkB at h
  simp only [Bool.and_eq_true, List.all_eq_true, Bool.or_eq_true, decide_eq_true_eq] at h
  obtain ⟨⟨h1, h2⟩, h3⟩ := h
  refine ⟨hk, fun y hy => (h1 y hy).1.1, fun y hy e => (h1 y hy).1.2.elim (fun z => absurd e z) id, fun y hy e => (h1 y hy).2.elim (fun z => absurd e z) id, h2, fun i j x e1 e2 => ?_⟩
  have hm : (some j, x) ∈ js.zip N' := by
    refine List.mem_iff_getElem?.mpr ⟨i, ?_⟩
    rw [List.getElem?_zip_eq_some]
    exact ⟨e1, e2⟩
  have q := h3 _ hm
  simp only [Bool.and_eq_true, decide_eq_true_eq] at q
  exact q
/-- a def of the text, by its name: its promise -/
def Has (P : Program) (w : World) (K : PySem.W.Frag) (mg : Str → Option Value) (base : Heap) (x : Str) (k : Nat) (ps : List Str) (sp : Sp) : Prop :=
  ∃ f fd, FnOk P w K mg base CX0 k f fd ps sp ∧ Binds K fd ps [] ∧ PySem.W.keepIn K (.ref f) = true ∧ mg x = some (.ref f)
section
variable {X : Cx} {x : Str} {k : Nat} {ps : List Str} {sp : Sp} {p pos : Pos} {e : Expr} {es : List Expr} {t : TA}
theorem pe_callH (h : Has X.prog X.w X.K X.mg X.base x k ps sp) (hr : Room k X.A) (hg : Gl X x) (ha : PA X (e :: es) t) (hd : (x == ("__debug__" : Str)) = false := by decide)
    (hs : starEach (e :: es) X.env = (false, eval e X.env) :: starEach es X.env := by rfl) (hp : (backTo pos (starEach es X.env)).any (·.1) = false := by rfl) :
    PE X (.Call (.Name x p) (e :: es) [] pos) (tCall sp [] E0 t) := by
  obtain ⟨f, fd, G, b, kp, m⟩ := h
  exact pe_call G hr hg m kp b .nil pass0 ha hd hs hp
end
/-! ### a display of written texts -/
def constStrs : List Expr → Option (List Str)
  | [] => some []
  | .Constant (.str x) _ _ :: r => (constStrs r).map (x :: ·)
  | _ => none
def tStrs (ss : List Str) : TA := fun _ H Q => Q (ss.map V.str) H
theorem pa_strs {X : Cx} : ∀ {es : List Expr} {ss : List Str}, constStrs es = some ss → PA X es (tStrs ss)
  | [], ss, h => by
    cases h
    intro pos pins s σ H Q I hq
    exact pa_nil pos pins s σ H Q I hq
  | e :: es, ss, h => by
    cases e with
    | Constant c j p =>
      cases c with
      | str x =>
        have h' : (constStrs es).map (x :: ·) = some ss := h
        cases hr : constStrs es with
        | none => rw [hr] at h'; cases h'
        | some r =>
          rw [hr] at h'
          cases h'
          exact fun pos pins s σ H Q I hq => pa_cons pe_str (pa_strs hr) rfl pos pins s σ H Q I hq
      | _ => exact nomatch h
    | _ => exact nomatch h
end L2

namespace L2
open PySem PySem.Spec PyProof.Rows
/-! the judgements as structures: nothing unfolds them while a derivation is read -/
structure WE (X : Cx) (e : Expr) (t : TE) : Prop where
  h : PE X e t
structure WT (X : Cx) (e : Expr) (t : TT) : Prop where
  h : PT X e t
structure WW (X : Cx) (e : Expr) (t : TT) : Prop where
  h : PW X e t
structure WA (X : Cx) (e : List Expr) (t : TA) : Prop where
  h : PA X e t
structure WS (X : Cx) (e : Stmt) (t : TS) : Prop where
  h : PS X e t
structure WSs (X : Cx) (e : List Stmt) (t : TS) : Prop where
  h : PSs X e t
structure WG (X : Cx) (e : Expr) (t : TG) : Prop where
  h : PG X e t
structure WGs (X : Cx) (e : List Expr) (t : TGs) : Prop where
  h : PGs X e t
structure WO (X : Cx) (e : Option Expr) (t : TO) : Prop where
  h : PO X e t
structure WTs (X : Cx) (e : List Expr) (t : TT) : Prop where
  h : PTs X e t
structure WK (X : Cx) (e : List Keyword) (t : TA) : Prop where
  h : PK X e t
structure WI (X : Cx) (tg iter : Expr) (wi : TI) : Prop where
  h : PI X tg iter wi
structure WC (X : Cx) (op : CmpOp) (a b : Expr) (t : TE) : Prop where
  h : PC X op a b t
structure WPs (X : Cx) (pos : Pos) (keys : List (Option Expr)) (values : List Expr) (trs : List (TE × TE)) : Prop where
  h : PPs X pos keys values trs
structure WB (X : Cx) (N' : List Str) (scope : Scope) (tg : Expr) (ifs : List Expr) (elt : Expr) (g : TG) (tc : TT) (te : TE) : Prop where
  h : PB X N' scope tg ifs elt g tc te
theorem we_var {X : Cx} {i : Nat} {x : Str} {pos : Pos} (hN : X.N[i]? = some x) (hv : Vis X.env.scope x) (hd : (x == ("__debug__" : Str)) = false := by decide) (hcd : (x == ("__classdict__" : Str)) = false := by decide) : WE X (.Name x pos) (tVar i) := ⟨pe_var hN hv hd hcd⟩
theorem we_int {X : Cx} {i j pos} : WE X (.Constant (.int i) j pos) (tC (.int i)) := ⟨pe_int⟩
theorem we_bl {X : Cx} {b j pos} : WE X (.Constant (.bool b) j pos) (tC (.bl b)) := ⟨pe_bl⟩
theorem we_non {X : Cx} {j pos} : WE X (.Constant .none j pos) (tC .non) := ⟨pe_non⟩
theorem we_str {X : Cx} {x j pos} : WE X (.Constant (.str x) j pos) (tC (.str x)) := ⟨pe_str⟩
theorem we_glob {X : Cx} {x : Str} {v : V} {u : Value} {pos : Pos} (hg : Gl X x) (hm : X.mg x = some u) (r : RelV v u) (hd : (x == ("__debug__" : Str)) = false := by decide) : WE X (.Name x pos) (tC v) := ⟨pe_glob hg hm r hd⟩
theorem we_bltn {X : Cx} {x : Str} {v : V} {u : Value} {pos : Pos} (hg : Gl X x) (hm : X.mg x = none) (hv : bootBuiltins x = some u) (r : RelV v u) (hn : x ≠ "__name__" := by decide) (hd : (x == ("__debug__" : Str)) = false := by decide) : WE X (.Name x pos) (tC v) := ⟨pe_bltn hg hm hv r hn hd⟩
theorem wc_din {X : Cx} {o i : Expr} {td ty : TE} (hu : X.A.units + 1 < cLine) (hi : WE X i ty) (ho : WE X o td) : WC X .In i o (tDIn ty td) := ⟨pc_din hu hi.h ho.h⟩
theorem wc_dnotin {X : Cx} {o i : Expr} {td ty : TE} (hu : X.A.units + 1 < cLine) (hi : WE X i ty) (ho : WE X o td) : WC X .NotIn i o (tDNotIn ty td) := ⟨pc_dnotin hu hi.h ho.h⟩
theorem we_cmp {X : Cx} {a b : Expr} {pos : Pos} {op : CmpOp} {t : TE} (h : WC X op a b t) (h1 : behindInMarks op b = false := by first | exact nobehind _ (by decide) (by decide) | kernel_rfl) : WE X (.Compare a [op] [b] pos) t := ⟨pe_cmp h.h h1⟩
theorem wt_cmp {X : Cx} {a b : Expr} {pos : Pos} {op : CmpOp} {t : TE} (h : WC X op a b t) (h1 : behindInMarks op b = false := by first | exact nobehind _ (by decide) (by decide) | kernel_rfl) : WT X (.Compare a [op] [b] pos) (tB t) := ⟨pt_cmp h.h h1⟩
theorem wt_val {X : Cx} {e : Expr} {t : TE} (h : WE X e t) (he : ∀ whole, isTrue e X.env whole = (do let v ← whole; standAt e.pos; holding [v] (truthy v)) := by intro _; kernel_rfl) : WT X e (tB t) := ⟨pt_val h.h he⟩
theorem ww_and1 {X : Cx} {a : Expr} {pos : Pos} {tA : TT} (ha : WT X a tA) : WW X (.BoolOp .And [a] pos) tA := ⟨pw_and1 ha.h⟩
theorem ww_or1 {X : Cx} {a : Expr} {pos : Pos} {tA : TT} (ha : WT X a tA) : WW X (.BoolOp .Or [a] pos) tA := ⟨pw_or1 ha.h⟩
theorem ww_and {X : Cx} {a b : Expr} {pos : Pos} {tA tB' : TT} {rest : List Expr} (ha : WT X a tA) (hb : WW X (.BoolOp .And (b :: rest) pos) tB') : WW X (.BoolOp .And (a :: b :: rest) pos) (tAnd tA tB') := ⟨pw_and ha.h hb.h⟩
theorem ww_or {X : Cx} {a b : Expr} {pos : Pos} {tA tB' : TT} {rest : List Expr} (ha : WT X a tA) (hb : WW X (.BoolOp .Or (b :: rest) pos) tB') : WW X (.BoolOp .Or (a :: b :: rest) pos) (tOr tA tB') := ⟨pw_or ha.h hb.h⟩
theorem wt_not {X : Cx} {a : Expr} {pos : Pos} {tA : TT} (ha : WT X a tA) : WT X (.UnaryOp .Not a pos) (tNot tA) := ⟨pt_not ha.h⟩
theorem we_one {X : Cx} {a : Expr} {pos : Pos} {op} {t : TE} (h : WE X a t) : WE X (.BoolOp op [a] pos) t := ⟨pe_one h.h⟩
theorem we_and {X : Cx} {a b : Expr} {ta tb : TE} {pos : Pos} {rest : List Expr} (ha : WE X a ta) (hb : WE X (.BoolOp .And (b :: rest) pos) tb) : WE X (.BoolOp .And (a :: b :: rest) pos) (tAndV ta tb) := ⟨pe_and ha.h hb.h⟩
theorem we_or {X : Cx} {a b : Expr} {ta tb : TE} {pos : Pos} {rest : List Expr} (ha : WE X a ta) (hb : WE X (.BoolOp .Or (b :: rest) pos) tb) : WE X (.BoolOp .Or (a :: b :: rest) pos) (tOrV ta tb) := ⟨pe_or ha.h hb.h⟩
theorem we_not {X : Cx} {a : Expr} {ta : TE} {pos : Pos} (ha : WE X a ta) : WE X (.UnaryOp .Not a pos) (tNotV ta) := ⟨pe_not ha.h⟩
theorem we_ifExp {X : Cx} {a b : Expr} {ta tb : TE} {pos : Pos} {tA : TT} {c : Expr} (hc : WT X c tA) (ha : WE X a ta) (hb : WE X b tb) : WE X (.IfExp c a b pos) (tIf tA ta tb) := ⟨pe_ifExp hc.h ha.h hb.h⟩
theorem wss_nil {X : Cx}  : WSs X [] tNext := ⟨pss_nil⟩
theorem wss_cons {X : Cx} {st : Stmt} {rest : List Stmt} {t u : TS} (h1 : WS X st t) (h2 : WSs X rest u) : WSs X (st :: rest) (tSeq t u) := ⟨pss_cons h1.h h2.h⟩
theorem wss_one {X : Cx} {st : Stmt} {t : TS} (h1 : WS X st t) : WSs X [st] t := ⟨pss_one h1.h⟩
theorem ws_pass {X : Cx} {pos : Pos}  : WS X (.Pass pos) tNext := ⟨ps_pass⟩
theorem ws_break {X : Cx} {pos : Pos}  : WS X (.Break pos) tBreak := ⟨ps_break⟩
theorem ws_continue {X : Cx} {pos : Pos}  : WS X (.Continue pos) tCont := ⟨ps_continue⟩
theorem ws_doc {X : Cx} {pos : Pos} {x j pos pos'} : WS X (.Expr (.Constant (.str x) j pos) pos') tNext := ⟨ps_doc⟩
theorem ws_expr {X : Cx} {e : Expr} {te : TE} {pos : Pos} (he : WE X e te) (hs : swapsWith e none pos.line X.env = pure false := by kernel_rfl) : WS X (.Expr e pos) (tDrop te) := ⟨ps_expr he.h hs⟩
theorem ws_ret {X : Cx} {e : Expr} {te : TE} {pos : Pos} (he : WE X e te) : WS X (.Return (some e) pos) (tRet te) := ⟨ps_ret he.h⟩
theorem ws_retN {X : Cx} {pos : Pos}  : WS X (.Return none pos) tRetN := ⟨ps_retN⟩
theorem ws_if {X : Cx} {t u : TS} {pos : Pos} {c : Expr} {a b : List Stmt} {tc : TT} (hc : WT X c tc) (ha : WSs X a t) (hb : WSs X b u) : WS X (.If c a b pos) (tIfS tc t u) := ⟨ps_if hc.h ha.h hb.h⟩
theorem ws_never {X : Cx} {st : Stmt}  : WS X st tNever := ⟨ps_never⟩
theorem wss_never {X : Cx} {sts : List Stmt} : WSs X sts tNever := ⟨pss_never⟩
theorem wg_name {X : Cx} {pos : Pos} {i : Nat} {x : Str} (hN : X.N.Nodup) (hi : X.N[i]? = some x) (hx : Loc X.env.scope x) (hf : X.fn x = true ∨ X.env.scope.names.lookup x = some .local := by first | exact .inl rfl | exact .inr rfl | assumption) : WG X (.Name x pos) (gName i) := ⟨pg_name hN hi hx hf⟩
theorem wgs_nil {X : Cx}  : WGs X [] gNil := ⟨pgs_nil⟩
theorem wgs_cons {X : Cx} {e : Expr} {es : List Expr} {t : TG} {u : TGs} (h1 : WG X e t) (h2 : WGs X es u) (hs : (assignEach (e :: es) X.env).map (·.2) = assign e X.env :: (assignEach es X.env).map (·.2) := by kernel_rfl) : WGs X (e :: es) (gCons t u) := ⟨pgs_cons h1.h h2.h hs⟩
theorem wg_tup {X : Cx} {pos : Pos} {es : List Expr} {k : Nat} {t : TGs} {n : Nat} (hc : X.calm = true) (h : WGs X es t) (hn : (assignEach es X.env).length = n := by kernel_rfl) (hst : (assignEach es X.env).findIdx? (·.1) = none := by kernel_rfl) : WG X (.Tuple es k pos) (gTup X.K n t) := ⟨pg_tup hc h.h hn hst⟩
theorem wg_sub {X : Cx} {pos : Pos} {o i : Expr} {to ti : TE} {t : TSet} (ho : WE X o to) (hi : WE X i ti) (hs : PSet X t) (ha : ∀ v, assign (.Subscript o i pos) X.env v = (do
      let ov ← holding [v] (eval o X.env)
      let iv ← holding [v, ov] (eval i X.env)
      standAt pos
      holding [v, ov, iv] (setItem ov iv v)
      release [v, ov, iv] []) := by intro _; kernel_rfl) : WG X (.Subscript o i pos) (gSub to ti t) := ⟨pg_sub ho.h hi.h hs ha⟩
theorem ws_asg {X : Cx} {pos : Pos} {tg e : Expr} {te : TE} {g : TG} (he : WE X e te) (hg : WG X tg g) (hs : swapsWithSole [tg] e pos.line X.env = pure false := by kernel_rfl) (hw : swappedStores [tg] e X.env = pure none := by kernel_rfl) (h1 : (assignEach [tg] X.env).map (·.2) = [assign tg X.env] := by kernel_rfl) : WS X (.Assign [tg] e pos) (tAsg te g) := ⟨ps_asg he.h hg.h hs hw h1⟩
theorem ws_set {X : Cx} {pos : Pos} {i : Nat} {x : Str} {e : Expr} {te : TE} {pos' : Pos} (hN : X.N.Nodup) (hi : X.N[i]? = some x) (hx : Loc X.env.scope x) (he : WE X e te) (hs : swapsWith e (some (.Name x pos')) pos.line X.env = pure false := by kernel_rfl) (hf : X.fn x = true ∨ X.env.scope.names.lookup x = some .local := by first | exact .inl rfl | exact .inr rfl | assumption) : WS X (.Assign [.Name x pos'] e pos) (tAsg te (gName i)) := ⟨ps_set hN hi hx he.h hs hf⟩
theorem ws_par {X : Cx} {pos : Pos} {i j : Nat} {x y : Str} {a b : Expr} {ta : TA} {px py pt : Pos} {kt k2 pt2} (hc : X.calm = true) (hN : X.N.Nodup) (hi : X.N[i]? = some x) (hj : X.N[j]? = some y) (hij : i ≠ j) (hx : X.env.scope.names.lookup x = some .local) (hy : X.env.scope.names.lookup y = some .local) (ha : WA X [a, b] ta) (hw : swappedStores [.Tuple [.Name x px, .Name y py] kt pt] (.Tuple [a, b] k2 pt2) X.env = pure (some [x, y])) (hs : swapsWithSole [.Tuple [.Name x px, .Name y py] kt pt] (.Tuple [a, b] k2 pt2) pos.line X.env = pure false := by kernel_rfl) : WS X (.Assign [.Tuple [.Name x px, .Name y py] kt pt] (.Tuple [a, b] k2 pt2) pos) (tPar i j ta) := ⟨ps_par hc hN hi hj hij hx hy ha.h hw hs⟩
theorem ws_aug {X : Cx} {pos : Pos} {i : Nat} {x : Str} {e : Expr} {te : TE} {op : Operator} {ti : TIp} {pos' : Pos} (hN : X.N.Nodup) (hi : X.N[i]? = some x) (hx : Loc X.env.scope x) (he : WE X e te) (ho : PIp X op ti) (hf : X.fn x = true ∨ X.env.scope.names.lookup x = some .local := by first | exact .inl rfl | exact .inr rfl | assumption) : WS X (.AugAssign (.Name x pos') op e pos) (tAug i te ti) := ⟨ps_aug hN hi hx he.h ho hf⟩
theorem ws_while {X : Cx} {pos : Pos} {c : Expr} {body : List Stmt} {tc : TT} {tb : TS} (hp : PassesOwn (model X.prog X.w) X.A X.env X.xe) (hc : WT X c tc) (hb : WSs X body tb) : WS X (.While c body [] pos) (tWhile tc tb) := ⟨ps_while hp hc.h hb.h⟩
theorem wi_list {X : Cx} {tg : Expr} {l : Expr} {tl : TE} (hl : WE X l tl) : WI X tg l (iList X.K tl) := ⟨pi_list hl.h⟩
theorem wi_tup {X : Cx} {tg : Expr} {l : Expr} {tl : TE} (hl : WE X l tl) : WI X tg l (iTup X.K tl) := ⟨pi_tup hl.h⟩
theorem wi_range1 {X : Cx} {tg : Expr} {a : Expr} {ta : TA} {p pos : Pos} (hg : Gl X "range") (hm : X.mg "range" = none) (ha : WA X [a] ta) (hs : starEach [a] X.env = [(false, eval a X.env)] := by kernel_rfl) : WI X tg (.Call (.Name "range" p) [a] [] pos) (iRng1 ta) := ⟨pi_range1 hg hm ha.h hs⟩
theorem wi_range2 {X : Cx} {tg : Expr} {a b : Expr} {ta : TA} {p pos : Pos} (hg : Gl X "range") (hm : X.mg "range" = none) (ha : WA X [a, b] ta) (hs : starEach [a, b] X.env = [(false, eval a X.env), (false, eval b X.env)] := by kernel_rfl) (hs2 : starEach [b] X.env = [(false, eval b X.env)] := by kernel_rfl) : WI X tg (.Call (.Name "range" p) [a, b] [] pos) (iRng2 ta) := ⟨pi_range2 hg hm ha.h hs hs2⟩
theorem ws_for {X : Cx} {tg : Expr} {iter : Expr} {body : List Stmt} {wi : TI} {g : TG} {tb : TS} {pos : Pos} (hp : PassesOwn (model X.prog X.w) X.A X.env X.xe) (hc : X.calm = true) (hi : WI X tg iter wi) (hg : WG X tg g) (hb : WSs X body tb) (hs : ∀ x, foldedSetIterable iter X.env x = pure x := by intro _; kernel_rfl) : WS X (.For tg iter body [] pos) (tFor wi g tb) := ⟨ps_for hp hc hi.h hg.h hb.h hs⟩
theorem we_op {X : Cx} {a b : Expr} {ta tb : TE} {pos : Pos} {op : Operator} {r : R2} (ho : OpR X (binaryOp op) r) (ha : WE X a ta) (hb : WE X b tb) : WE X (.BinOp a op b pos) (tOp r ta tb) := ⟨pe_op ho ha.h hb.h⟩
theorem we_un {X : Cx} {a : Expr} {ta : TE} {pos : Pos} {op : UnaryOp} {r : V → Hp → VK → Prop} (ho : UnR X (unaryOp op) r) (ha : WE X a ta) : WE X (.UnaryOp op a pos) (tUn r ta) := ⟨pe_un ho ha.h⟩
theorem we_cmpR {X : Cx} {a b : Expr} {ta tb : TE} {pos : Pos} {op : CmpOp} {r : R2} (ho : OpR X (compareOp op) r) (ha : WE X a ta) (hb : WE X b tb) (hm : behindInMarks op b = false) : WE X (.Compare a [op] [b] pos) (tOp r ta tb) := ⟨pe_cmpR ho ha.h hb.h hm⟩
theorem wt_cmpR {X : Cx} {a b : Expr} {ta tb : TE} {pos : Pos} {op : CmpOp} {r : R2} (ho : OpR X (compareOp op) r) (ha : WE X a ta) (hb : WE X b tb) (hm : behindInMarks op b = false) : WT X (.Compare a [op] [b] pos) (tTest (tOp r ta tb)) := ⟨pt_cmpR ho ha.h hb.h hm⟩
theorem we_chain {X : Cx} {a b c : Expr} {ta tb tc : TE} {pos : Pos} {op op' : CmpOp} {r r' : R2} (ho : OpR X (compareOp op) r) (ho' : OpR X (compareOp op') r') (ha : WE X a ta) (hb : WE X b tb) (hc : WE X c tc) (hm : lastMarks [op, op'] [b, c] = false := by with_unfolding_all rfl) : WE X (.Compare a [op, op'] [b, c] pos) (tChain r r' ta tb tc) := ⟨pe_chain ho ho' ha.h hb.h hc.h hm⟩
theorem wt_chain {X : Cx} {a b c : Expr} {ta tb tc : TE} {pos : Pos} {op op' : CmpOp} {r r' : R2} (ho : OpR X (compareOp op) r) (ho' : OpR X (compareOp op') r') (ha : WE X a ta) (hb : WE X b tb) (hc : WE X c tc) (hm : lastMarks [op, op'] [b, c] = false := by with_unfolding_all rfl) : WT X (.Compare a [op, op'] [b, c] pos) (tTest (tChain r r' ta tb tc)) := ⟨pt_chain ho ho' ha.h hb.h hc.h hm⟩
theorem wt_truth {X : Cx} {a : Expr} {ta : TE} (ha : WE X a ta) (he : ∀ whole, isTrue a X.env whole = (do let v ← whole; standAt a.pos; holding [v] (truthy v))) : WT X a (fun σ H Q => ta σ H fun x H' => ∃ k, TruV X.K x H' k ∧ Q k H') := ⟨pt_truth ha.h he⟩
theorem we_fld {X : Cx} {e : Expr} {f : Str} {pos : Pos} {ta : TE} (he : WE X e ta) (hb : attributeBase e f X.env (eval e X.env) = eval e X.env) : WE X (.Attribute e f pos) (tFld X.K ta f) := ⟨pe_fld he.h hb⟩
theorem we_con {X : Cx} {e : Expr} {f : Str} {pos : Pos} {ta : TE} (he : WE X e ta) (hb : attributeBase e f X.env (eval e X.env) = eval e X.env) : WE X (.Attribute e f pos) (tCon X.K ta f) := ⟨pe_con he.h hb⟩
theorem ws_fld {X : Cx} {o value : Expr} {f : Str} {pos pos' : Pos} {ta tv : TE} (ha : WE X o ta) (hv : WE X value tv) (hs : swapsWith value (some (.Attribute o f pos')) pos.line X.env = pure false) : WS X (.Assign [.Attribute o f pos'] value pos) (sFld X.K ta tv f) := ⟨ps_fld ha.h hv.h hs⟩
theorem wa_nil {X : Cx}  : WA X [] tNil := ⟨pa_nil⟩
theorem wa_cons {X : Cx} {e : Expr} {es : List Expr} {te : TE} {t : TA} (ha : WE X e te) (hr : WA X es t) (hs : starEach (e :: es) X.env = (false, eval e X.env) :: starEach es X.env := by kernel_rfl) : WA X (e :: es) (tCons te t) := ⟨pa_cons ha.h hr.h hs⟩
theorem we_tup {X : Cx} {es : List Expr} {t : TA} {pos : Pos} {x1} (h : WA X es t) : WE X (.Tuple es x1 pos) (tTup t) := ⟨pe_tup h.h⟩
theorem we_lst {X : Cx} {es : List Expr} {t : TA} {pos : Pos} (h : WA X es t) : WE X (.List es pos) (tLst t) := ⟨pe_lst h.h⟩
theorem we_meth {X : Cx} {CX : CXT} {k : Nat} {f C : Addr} {fd : FuncData} {ps : List Str} {sp : Sp} {dvs : List V} {ds : List Value} {E : XK} {m : Str} {pos apos : Pos} {e o : Expr} {es : List Expr} {ta : TE} {t : TA} {pl : Sem Bool} (he : WE X o ta) (c : Cls X.K C) (hm : Meth X.K C m f) (F : FnOk X.prog X.w X.K X.mg X.base CX k f fd ps sp) (hr : Room k X.A) (hb : Binds X.K fd ps ds) (hd : Vals dvs ds) (hx : Passes CX X E) (ha : WA X (e :: es) t) (hst : starEach (e :: es) X.env = (false, eval e X.env) :: starEach es X.env := by kernel_rfl) (hpl : (backTo pos (starEach es X.env)).any (·.1) = false := by kernel_rfl) (ht : eval (.Call (.Attribute o m apos) (e :: es) [] pos) X.env = (do
      let ov ← eval o X.env
      standAt apos.atName
      let (f, first) ← holding [ov] (getMethod ov m pl)
      callWith pos f first (backTo pos (starEach (e :: es) X.env)) (backToKw pos (keywordEach [] X.env))) := by kernel_rfl) : WE X (.Call (.Attribute o m apos) (e :: es) [] pos) (tMeth C m sp dvs E ta t) := ⟨pe_meth he.h c hm F hr hb hd hx ha.h hst hpl ht⟩
theorem we_meth0 {X : Cx} {CX : CXT} {k : Nat} {f C : Addr} {fd : FuncData} {ps : List Str} {sp : Sp} {dvs : List V} {ds : List Value} {E : XK} {m : Str} {pos apos : Pos} {o : Expr} {ta : TE} {pl : Sem Bool} (he : WE X o ta) (c : Cls X.K C) (hm : Meth X.K C m f) (F : FnOk X.prog X.w X.K X.mg X.base CX k f fd ps sp) (hr : Room k X.A) (hb : Binds X.K fd ps ds) (hd : Vals dvs ds) (hx : Passes CX X E) (ht : eval (.Call (.Attribute o m apos) [] [] pos) X.env = (do
      let ov ← eval o X.env
      standAt apos.atName
      let (f, first) ← holding [ov] (getMethod ov m pl)
      callWith pos f first (backTo pos (starEach [] X.env)) (backToKw pos (keywordEach [] X.env))) := by kernel_rfl) : WE X (.Call (.Attribute o m apos) [] [] pos) (tMeth C m sp dvs E ta tNil) := ⟨pe_meth0 he.h c hm F hr hb hd hx ht⟩
theorem we_make {X : Cx} {CX : CXT} {k : Nat} {f C : Addr} {fd : FuncData} {ps : List Str} {sp : Sp} {dvs : List V} {ds : List Value} {E : XK} {x : Str} {p pos : Pos} {e : Expr} {es : List Expr} {t : TA} (M : Mk X.K C f) (F : FnOk X.prog X.w X.K X.mg X.base CX k f fd ps sp) (hr : Room (k + 1) X.A) (hg : Gl X x) (hm : X.mg x = some (.ref C)) (hb : Binds X.K fd ps ds) (hd : Vals dvs ds) (hx : Passes CX X E) (ha : WA X (e :: es) t) (hdb : (x == ("__debug__" : Str)) = false := by decide) (he : starEach (e :: es) X.env = (false, eval e X.env) :: starEach es X.env := by kernel_rfl) (hpl : (backTo pos (starEach es X.env)).any (·.1) = false := by kernel_rfl) : WE X (.Call (.Name x p) (e :: es) [] pos) (tMake C sp dvs E t) := ⟨pe_make M F hr hg hm hb hd hx ha.h hdb he hpl⟩
theorem we_make0 {X : Cx} {CX : CXT} {k : Nat} {f C : Addr} {fd : FuncData} {ps : List Str} {sp : Sp} {dvs : List V} {ds : List Value} {E : XK} {x : Str} {p pos : Pos} (M : Mk X.K C f) (F : FnOk X.prog X.w X.K X.mg X.base CX k f fd ps sp) (hr : Room (k + 1) X.A) (hg : Gl X x) (hm : X.mg x = some (.ref C)) (hb : Binds X.K fd ps ds) (hd : Vals dvs ds) (hx : Passes CX X E) (hdb : (x == ("__debug__" : Str)) = false := by decide) : WE X (.Call (.Name x p) [] [] pos) (tMake C sp dvs E tNil) := ⟨pe_make0 M F hr hg hm hb hd hx hdb⟩
theorem wk_nil {X : Cx}  : WK X [] tNil := ⟨pk_nil⟩
theorem wk_cons {X : Cx} {kpos : Pos} {e : Expr} {kws : List Keyword} {te : TE} {t : TA} {nm : Option Str} (ha : WE X e te) (hr : WK X kws t) : WK X (⟨nm, e, kpos⟩ :: kws) (tCons te t) := ⟨pk_cons ha.h hr.h⟩
theorem we_callK {X : Cx} {CX : CXT} {k : Nat} {f : Addr} {fd : FuncData} {ps ks : List Str} {sp : Sp} {E : XK} {x : Str} {p pos : Pos} {e : Expr} {es : List Expr} {kws : List Keyword} {t tk : TA} {g : List Value → List Value → List Value} {gV : List V → List V → List V} (F : FnOk X.prog X.w X.K X.mg X.base CX k f fd ps sp) (hr : Room k X.A) (hg : Gl X x) (hm : X.mg x = some (.ref f)) (hk : PySem.W.keepIn X.K (.ref f) = true) (hb : KBinds X.K fd ps ks g gV) (hx : Passes CX X E) (ha : WA X (e :: es) t) (hkw : WK X kws tk) (hall : (backToKw pos (keywordEach kws X.env)).all (·.1.isSome) = true := by kernel_rfl) (hks : (backToKw pos (keywordEach kws X.env)).filterMap (·.1) = ks := by kernel_rfl) (hdb : (x == ("__debug__" : Str)) = false := by decide) (he : starEach (e :: es) X.env = (false, eval e X.env) :: starEach es X.env := by kernel_rfl) (hpl : ((backTo pos (starEach (e :: es) X.env)).any (·.1) || (backToKw pos (keywordEach kws X.env)).any (·.1.isNone)) = false := by kernel_rfl) : WE X (.Call (.Name x p) (e :: es) kws pos) (tCallK sp gV E t tk) := ⟨pe_callK F hr hg hm hk hb hx ha.h hkw.h hall hks hdb he hpl⟩
theorem we_callB {X : Cx} {x : Str} {p pos : Pos} {e : Expr} {es : List Expr} {t : TA} {id : String} {r : List V → Hp → VK → Prop} (hc : CallR X (.builtin id) r) (hg : Gl X x) (hm : X.mg x = none) (hv : bootBuiltins x = some (.builtin id)) (ha : WA X (e :: es) t) (hn : x ≠ "__name__" := by decide) (hdb : (x == ("__debug__" : Str)) = false := by decide) (he : starEach (e :: es) X.env = (false, eval e X.env) :: starEach es X.env := by kernel_rfl) (hpl : (backTo pos (starEach es X.env)).any (·.1) = false := by kernel_rfl) : WE X (.Call (.Name x p) (e :: es) [] pos) (tCB r t) := ⟨pe_callB hc hg hm hv ha.h hn hdb he hpl⟩
theorem we_callTy {X : Cx} {x : Str} {p pos : Pos} {e : Expr} {es : List Expr} {t : TA} {T : String} {r : List V → Hp → VK → Prop} (hc : CallR X (.type T) r) (hg : Gl X x) (hm : X.mg x = none) (hv : bootBuiltins x = some (.type T)) (ha : WA X (e :: es) t) (hn : x ≠ "__name__" := by decide) (hdb : (x == ("__debug__" : Str)) = false := by decide) (he : starEach (e :: es) X.env = (false, eval e X.env) :: starEach es X.env := by kernel_rfl) (hpl : (backTo pos (starEach es X.env)).any (·.1) = false := by kernel_rfl) : WE X (.Call (.Name x p) (e :: es) [] pos) (tCB r t) := ⟨pe_callTy hc hg hm hv ha.h hn hdb he hpl⟩
theorem we_callTy0 {X : Cx} {x : Str} {p pos : Pos} {T : String} {r : List V → Hp → VK → Prop} (hc : CallR X (.type T) r) (hg : Gl X x) (hm : X.mg x = none) (hv : bootBuiltins x = some (.type T)) (hn : x ≠ "__name__" := by decide) (hdb : (x == ("__debug__" : Str)) = false := by decide) : WE X (.Call (.Name x p) [] [] pos) (tCB r tNil) := ⟨pe_callTy0 hc hg hm hv hn hdb⟩
theorem wo_none {X : Cx}  : WO X none tNoPart := ⟨po_none⟩
theorem wo_some {X : Cx} {e : Expr} {te : TE} (h : WE X e te) : WO X (some e) (tPart te) := ⟨po_some h.h⟩
theorem we_slice {X : Cx} {e : Expr} {te : TE} {lo hi : Option Expr} {tl th : TO} {pos p2 : Pos} {r : V → Option Int → Option Int → Hp → VK → Prop} (hr : SlR X r) (he : WE X e te) (hl : WO X lo tl) (hu : WO X hi th) : WE X (.Subscript e (.Slice lo hi none p2) pos) (tSl r te tl th) := ⟨pe_slice hr he.h hl.h hu.h⟩
theorem we_ix {X : Cx} {a b : Expr} {ta tb : TE} {pos : Pos} {r : R2} (hr : IxR X r) (ha : WE X a ta) (hb : WE X b tb) (hs : PlainIx b) : WE X (.Subscript a b pos) (tOp r ta tb) := ⟨pe_ix hr ha.h hb.h hs⟩
theorem we_bm0 {X : Cx} {o : Expr} {to : TE} {name : Str} {apos cpos : Pos} {T id : String} {r : V → List V → Hp → VK → Prop} (pa : PlainAttrs T) (slot : Slot T name id) (hty : typeOf (.builtin id) = pure (.type "method_descriptor")) (hm : MtR X id r) (ho : WE X o to) (hbase : attributeBase o name X.env (eval o X.env) = eval o X.env := by kernel_rfl) (hline : (apos.endLine == cpos.line) = true := by kernel_rfl) : WE X (.Call (.Attribute o name apos) [] [] cpos) (tBM0 X.K T r to) := ⟨pe_bm0 pa slot hty hm ho.h hbase hline⟩
theorem we_bm {X : Cx} {o e : Expr} {es : List Expr} {to : TE} {t : TA} {name : Str} {apos cpos : Pos} {T id : String} {r : V → List V → Hp → VK → Prop} (pa : PlainAttrs T) (slot : Slot T name id) (hty : typeOf (.builtin id) = pure (.type "method_descriptor")) (hm : MtR X id r) (ho : WE X o to) (ha : WA X (e :: es) t) (hbase : attributeBase o name X.env (eval o X.env) = eval o X.env := by kernel_rfl) (hfew : ((backTo cpos (starEach (e :: es) X.env)).all (fun x => !x.1) && (backToKw cpos (keywordEach [] X.env)).all (fun x => x.1.isSome)
      && decide ((e :: es).length + ([] : List Keyword).length + (if ([] : List Keyword).isEmpty then 0 else 1) < 30)) = true := by kernel_rfl) (hline : (apos.endLine == cpos.line) = true := by kernel_rfl) (hs : starEach (e :: es) X.env = (false, eval e X.env) :: starEach es X.env := by kernel_rfl) (hplain : (backTo cpos (starEach es X.env)).any (·.1) = false := by kernel_rfl) : WE X (.Call (.Attribute o name apos) (e :: es) [] cpos) (tBM X.K T r to t) := ⟨pe_bm pa slot hty hm ho.h ha.h hbase hfew hline hs hplain⟩
theorem we_dget {X : Cx} {o i : Expr} {pos : Pos} {td ty : TE} (hu : X.A.units + 1 < cLine) (ho : WE X o td) (hi : WE X i ty) (hs : NoSl i) : WE X (.Subscript o i pos) (tDGet td ty) := ⟨pe_dget hu ho.h hi.h hs⟩
theorem ws_dput {X : Cx} {o i value : Expr} {pos pos' : Pos} {td ty tv : TE} (hu : X.A.units + 1 < cLine) (ho : WE X o td) (hi : WE X i ty) (hv : WE X value tv) (hs : swapsWith value (some (.Subscript o i pos')) pos.line X.env = pure false) : WS X (.Assign [.Subscript o i pos'] value pos) (sDPut td ty tv) := ⟨ps_dput hu ho.h hi.h hv.h hs⟩
theorem ws_ddel {X : Cx} {o i : Expr} {pos tpos : Pos} {td ty : TE} (ho : WE X o td) (hi : WE X i ty) : WS X (.Delete [.Subscript o i tpos] pos) (sDDel td ty) := ⟨ps_ddel ho.h hi.h⟩
theorem we_dnewK {X : Cx} {pos : Pos}  : WE X (.Dict [] [] pos) tDNewK := ⟨pe_dnewK⟩
theorem we_dnewT {X : Cx} {pos : Pos}  : WE X (.Dict [] [] pos) tDNewT := ⟨pe_dnewT⟩
theorem wps_nil  {X : Cx} {pos : Pos} : WPs X pos [] [] [] := ⟨pps_nil⟩
theorem wps_cons  {X : Cx} {pos : Pos} {k v : Expr} {ks : List (Option Expr)} {vs : List Expr} {tk tv : TE} {trs : List (TE × TE)} (hk : WE X k tk) (hv : WE X v tv) (hr : WPs X pos ks vs trs) : WPs X pos (some k :: ks) (v :: vs) ((tk, tv) :: trs) := ⟨pps_cons hk.h hv.h hr.h⟩
theorem we_disp  {X : Cx} {pos : Pos} {keys : List (Option Expr)} {values : List Expr} {trs : List (TE × TE)} (h : WPs X pos keys values trs) (hall : keys.all (·.isSome) = true) (hl : keys.length = values.length) (h0 : keys ≠ []) (h15 : keys.length ≤ 15) : WE X (.Dict keys values pos) (tDisp trs) := ⟨pe_disp h.h hall hl h0 h15⟩
theorem we_dget1 {X : Cx} {o e : Expr} {apos cpos : Pos} {td ty : TE} (hu : X.A.units + 1 < cLine) (ho : WE X o td) (he : WE X e ty) (m : M1 X o "get" apos e cpos) : WE X (.Call (.Attribute o "get" apos) [e] [] cpos) (tDGet1 td ty) := ⟨pe_dget1 hu ho.h he.h m⟩
theorem we_dget2 {X : Cx} {o e f : Expr} {apos cpos : Pos} {td ty tx : TE} (hu : X.A.units + 1 < cLine) (ho : WE X o td) (he : WE X e ty) (hf : WE X f tx) (m : M2 X o "get" apos e f cpos) : WE X (.Call (.Attribute o "get" apos) [e, f] [] cpos) (tDGet2 td ty tx) := ⟨pe_dget2 hu ho.h he.h hf.h m⟩
theorem wts_nil  {X : Cx} : WTs X [] tTT := ⟨pts_nil⟩
theorem wts_one  {X : Cx} {c : Expr} {t : TT} (h : WT X c t) : WTs X [c] t := ⟨pts_one h.h⟩
theorem wi_str {X : Cx} {tg l : Expr} {tl : TE} (hl : WE X l tl) : WI X tg l (iStr tl) := ⟨pi_str hl.h⟩
theorem wa_strs  {es : List Expr} {ss : List Str} (h : constStrs es = some ss) : WA X es (tStrs ss) := ⟨pa_strs h⟩
theorem we_callH {X : Cx} {x : Str} {k : Nat} {ps : List Str} {sp : Sp} {p pos : Pos} {e : Expr} {es : List Expr} {t : TA} (h : Has X.prog X.w X.K X.mg X.base x k ps sp) (hr : Room k X.A) (hg : Gl X x) (ha : WA X (e :: es) t) (hd : (x == ("__debug__" : Str)) = false := by decide) (hs : starEach (e :: es) X.env = (false, eval e X.env) :: starEach es X.env := by kernel_rfl) (hp : (backTo pos (starEach es X.env)).any (·.1) = false := by kernel_rfl) : WE X (.Call (.Name x p) (e :: es) [] pos) (tCall sp [] E0 t) := ⟨pe_callH h hr hg ha.h hd hs hp⟩
theorem we_call0 {X : Cx} {CX : CXT} {k : Nat} {f : Addr} {fd : FuncData} {ps : List Str} {sp : Sp} {dvs : List V} {ds : List Value} {E : XK} {x : Str} {p pos : Pos} (F : FnOk X.prog X.w X.K X.mg X.base CX k f fd ps sp) (hr : Room k X.A) (hg : Gl X x) (hm : X.mg x = some (.ref f)) (hk : PySem.W.keepIn X.K (.ref f) = true) (hb : Binds X.K fd ps ds) (hd : Vals dvs ds) (hx : Passes CX X E) (hdb : (x == ("__debug__" : Str)) = false := by decide) : WE X (.Call (.Name x p) [] [] pos) (tCall sp dvs E tNil) := ⟨pe_call0 F hr hg hm hk hb hd hx hdb⟩
theorem ww_pt {X : Cx} {e : Expr} {t : TT} (h : WW X e t) : WT X e t := ⟨h.h.pt⟩
theorem wv (i : Nat) {X : Cx} {x : Str} {pos : Pos} (hN : X.N[i]? = some x := by kernel_rfl) (hv : Vis X.env.scope x := by first | exact Or.inl rfl | exact Or.inr (Or.inl rfl) | exact Or.inr (Or.inr rfl)) (hd : (x == ("__debug__" : Str)) = false := by decide)
    (hcd : (x == ("__classdict__" : Str)) = false := by decide) : WE X (.Name x pos) (tVar i) := ⟨pe_var hN hv hd hcd⟩
section
variable {X : Cx} {N' : List Str} {js : List (Option Nat)} {scope : Scope} {tg elt iter : Expr} {ifs : List Expr} {pos : Pos} {wi : TI} {g : TG} {tc : TT} {te : TE}
theorem wb_of (h1 : ∀ s2 H2 fp C cl, WG (compCx X N' scope cl C s2 H2 fp) tg g) (h2 : ∀ s2 H2 fp C cl, WTs (compCx X N' scope cl C s2 H2 fp) ifs tc) (h3 : ∀ s2 H2 fp C cl, WE (compCx X N' scope cl C s2 H2 fp) elt te) : WB X N' scope tg ifs elt g tc te :=
  ⟨fun s2 H2 fp C cl => ⟨(h1 s2 H2 fp C cl).h, (h2 s2 H2 fp C cl).h, (h3 s2 H2 fp C cl).h⟩⟩
theorem we_comp (hc : X.calm = true) (K : CompOk X N' js scope) (hi : WI X tg iter wi) (hb : WB X N' scope tg ifs elt g tc te) (hs : ∀ x, foldedSetIterable iter X.env x = pure x := by intro _; kernel_rfl) :
    WE X (.ListComp elt [⟨tg, iter, ifs, 0⟩] scope pos) (tComp wi js g tc te) := ⟨pe_comp hc K hi.h hb.h hs⟩
theorem ws_comp {i : Nat} {y : Str} {py spos : Pos} (hc : X.calm = true) (hN : X.N.Nodup) (hi' : X.N[i]? = some y) (hy : X.env.scope.names.lookup y = some .local) (K : CompOk X N' js scope) (hi : WI X tg iter wi) (hb : WB X N' scope tg ifs elt g tc te)
    (hsw : swapsWith (.ListComp elt [⟨tg, iter, ifs, 0⟩] scope pos) (some (.Name y py)) spos.line X.env = pure true := by kernel_rfl) (hs : ∀ x, foldedSetIterable iter X.env x = pure x := by intro _; kernel_rfl) :
    WS X (.Assign [.Name y py] (.ListComp elt [⟨tg, iter, ifs, 0⟩] scope pos) spos) (tAsg (tComp wi js g tc te) (gName i)) := ⟨ps_comp hc hN hi' hy K hi.h hb.h hsw hs⟩
end
/-- THE RULE for a def, by the wrapped judgements -/
theorem Fun.okW {P : Program} {w : World} {K : PySem.W.Frag} {mg : Str → Option Value} {base : Heap} {x qual : Str} {st : Stmt} {f : Addr} {fd : FuncData} {N ps : List Str} {k : Nat} {sp : Sp} (F : Fun K x qual st f fd) (S : FnScope N ps (defScope st)) (len : ∀ vs H Q E, sp vs H Q E → vs.length = ps.length)
    (hbody : ∀ (cdv : Value) (A : Around) (outer : List Env) (s : Shared) (H : Hp) (vs : List V) (Q : VK) (E : XK), Room k (A.deeper (PyProof.Rows.envOfC qual (defScope st) s.heap.objs.size f cdv)) → sp vs H Q E →
      ∃ t, WSs (cxOf CX0 P w K mg base N qual (defScope st) f cdv A outer s H E).nox (defBody st) t ∧ t { nx := fun _ H' => Q .non H', rt := Q } (start N vs) H) : FnOk P w K mg base CX0 (k + 1) f fd ps sp :=
  F.ok S len fun cdv A outer s H vs Q E hr h => let ⟨t, a, b⟩ := hbody cdv A outer s H vs Q E hr h; ⟨t, a.h, b⟩
end L2

namespace L2
open PySem PySem.Spec PyProof.Rows
section
variable {prog : Program} {w : World} {A : Around} {E : Value → Shared → Prop}
theorem no_keys {s : Shared} {a : Addr} {o : Obj} {xs : Array Value} {k : Nat} {Q : Option Value → Shared → Prop} (hx : s.heap.get? a = some o) (hc : o.cls = .type "list") (hdat : o.data = .seq xs k) (hd : o.dict = none) (hA : A.handled = none)
    (h : ∀ h' tk, (∀ b ob, s.heap.get? b = some ob → h'.get? b = some ob) → Q none { s with heap := h', toks := tk }) : wpAny (model prog w) A (getAttr? (.ref a) "keys") Q E s := by
  obtain ⟨c, dct, dat, sl⟩ := o
  simp only at hc hdat hd
  subst hc hdat hd
  obtain ⟨hp, g, d, tk, os⟩ := s
  have hT : ∀ tk', (⟨hp, g, d, tk', os⟩ : Shared).TypeIs (.ref a) "list" := fun _ => ⟨_, hx, rfl⟩
  have f1 := sub_AttributeError
  have f3 := PySem.F.slot_list_getattribute.lookup
  have f4 := PySem.F.slot_list_getattribute.bind (.ref a)
  have f5 := am_list_getattr_none
  have hmiss : typeLookup (.type "list") "keys" = pure none := am_miss_of_fast (by kernel_rfl)
  unfold getAttr? getAttrBy? getAttrBy
  repeat (any_goals (first | assumption | exact hT _ | ((with_reducible show wpAny _ _ (call (Value.builtin "list.__getattribute__") _ _) _ _ _); refine call_meets PySem.F.slot_list_getattribute (hT _) am_entry_list_getattribute (PySem.F.args_list_getattribute_2 _ _) (meets_getattribute_miss_list a xs k sl "keys" _ hmiss (by decide +kernel) (by decide +kernel)) ⟨hx, by first | exact hA | simpa using hA, fun h' tk' e hx' => ?_⟩) | wp_step))
  obtain ⟨t', u', he⟩ := hx'.there
  show wpAny _ _ (getattributeRaised _ _ _ _ _ _ _) _ _ _
  unfold getattributeRaised
  repeat (any_goals (first | assumption | wp_step))
  exact h _ _ (fun b ob hb => hx'.keeps b ob hb)
theorem entry_dloop : entryFor table "dict.update.loop" = some Builtin.«dict.update.loop» := entryFor_of_tree (by kernel_rfl)
theorem plain_dloop : plainId "dict.update.loop" = true := by decide +kernel
/-- a pair: a tuple of a text and something -/
def PairAt (h : Heap) (v : Value) : Prop := ∃ p x t u, v = .ref p ∧ IsTup h p #[.str x t, u]
theorem dict_loop {R : Result → Shared → Prop} {I l D : Addr} {its : List Value} (hh : A.handled = none) (hne : l ≠ I) (hDI : D ≠ I) (hDl : D ≠ l) (hb : its.length ≤ 100) :
    ∀ (rs : List Value) (us : List Value) (s : Shared) (n : Nat) (tk0 : Tok) (j : Int) (kvs : List (Str × Value)), its = us ++ rs → kvs.length ≤ us.length → s.heap.IsListIter I l us.length → s.heap.IsList l its.toArray → s.heap.DictOf (strKind prog w) D kvs →
      (∀ v ∈ rs, ∃ p x t u, v = .ref p ∧ p ≠ I ∧ p ≠ D ∧ IsTup s.heap p #[.str x t, u]) →
      (∀ h' tk, (∀ b o, b ∉ [D, I] → s.heap.get? b = some o → h'.get? b = some o) → (∃ kvs, h'.DictOf (strKind prog w) D kvs) → R (.ok (.ret .none)) { s with heap := h', toks := tk }) →
      codeAny (model prog w) A (.builtin "dict.update.loop" ⟨[.ref D, .ref I, .int j tk0, .none], []⟩) R s := by
  intro rs
  have W := Walks.list (prog := prog) (w := w) (A := A.in1) (by simpa using hh) I l hne its.toArray
  induction rs with
  | nil =>
    intro us s n tk0 j kvs e hl hit hls hD hp hR
    have eu : us.length = its.toArray.size := by rw [e]; simp
    refine codeAny_builtin entry_dloop ?_
    rw [Around.under_plainId plain_dloop _]
    show wpAny _ A.in1 (pyNext (.ref I) >>= _) _ _ s
    refine wpAny_bind (W.done s _ _ ⟨by rw [← eu]; exact hit, hls⟩ fun h' tk kk => ?_)
    show wpAny _ _ (Builtin.Dict.addKeywords D [] >>= _) _ _ _
    refine wpAny_bind (wpAny_pure (wpAny_pure ?_))
    obtain ⟨o, es, ep, ho, r⟩ := hD
    exact hR h' tk (fun b o hb ho => kk b o (fun z => hb (List.mem_cons_of_mem _ z)) ho) ⟨kvs, o, es, ep, kk D o (by simpa using hDI) ho, r⟩
  | cons v rs ih =>
    intro us s n tk0 j kvs e hl hit hls hD hp hR
    have hi : us.length < its.toArray.size := by rw [e]; simp
    have hi' : us.length < its.length := by simpa using hi
    obtain ⟨p, x, t, u, rfl, npI, npD, hpt⟩ := hp v List.mem_cons_self
    refine codeAny_builtin entry_dloop ?_
    rw [Around.under_plainId plain_dloop _]
    show wpAny _ A.in1 (pyNext (.ref I) >>= _) _ _ s
    refine wpAny_bind (W.item us.length s _ _ hi ⟨hit, hls⟩ fun v' h' tk hv' st' kk => ?_)
    have ev : v' = .ref p := by
      have z : its[us.length]? = some (.ref p) := by rw [e]; simp
      have z' : its[us.length]? = some v' := by simpa using hv'
      rw [z] at z'; cases z'; rfl
    subst ev
    obtain ⟨o, es, ep, ho, hr⟩ := id hD
    have hD1 : h'.DictOf (strKind prog w) D kvs := ⟨o, es, ep, kk D o (by simpa using hDI) ho, hr⟩
    obtain ⟨op, hop, hoc, nn, hod⟩ := id hpt
    have hop' : h'.get? p = some op := kk p op (by simpa using npI) hop
    have hT : Shared.TypeIs { s with heap := h', toks := tk } (.ref p) "tuple" := ⟨op, hop', hoc⟩
    show wpAny _ A.in1 (holding [Value.ref p] _ >>= _) _ _ _
    refine wpAny_bind (wpAny_holding ?_)
    refine wpAny_bind (wpAny_tryCatch ?_)
    unfold Builtin.Dict.pairItems
    refine wpAny_bind (wpAny_typeOf hT ?_)
    rw [if_pos (by decide)]
    refine wpAny_bind (wpAny_seqItems hop' hod (wpAny_pure ?_))
    show wpAny _ _ (holding [Value.str x t, u] (dictSet D (.str x t) u)) _ _ _
    refine wpAny_holding (wpAny_dictSet_pairs (knd := strKind prog w) (k := x) (by first | exact strKind_is _ _ _ _ | simp [strKind, Value.isStrOf]) hD1 (fun h2 hD2 hsb => ?_) (Nat.le_trans (show kvs.length ≤ 100 by omega) (by decide)))
    have keep2 : ∀ b o, b ∉ [D, I] → s.heap.get? b = some o → h2.get? b = some o := fun b o hb ho =>
      (hsb.2 b (fun z => hb (by simp [z]))).trans (kk b o (fun z => hb (List.mem_cons_of_mem _ z)) ho)
    refine wpAny_pure ⟨plainId_quiet plain_dloop _, ih (us ++ [.ref p]) _ n _ _ _ (by rw [e]; simp) ?_ ?_ ?_ hD2 ?_ ?_⟩
    · have : (stored kvs x u).length ≤ kvs.length + 1 := by
        unfold stored
        split <;> simp
      rw [List.length_append, List.length_singleton]; omega
    · rw [List.length_append, List.length_singleton]
      exact st'.1.at fun o ho => (hsb.2 I (Ne.symm hDI)).trans ho
    · exact st'.2.at fun o ho => (hsb.2 l (Ne.symm hDl)).trans ho
    · intro v hv
      obtain ⟨p2, x2, t2, u2, rfl, n1, n2, op2, hop2, r2⟩ := hp v (List.mem_cons_of_mem _ hv)
      exact ⟨p2, x2, t2, u2, rfl, n1, n2, op2, keep2 p2 op2 (by simp [n1, n2]) hop2, r2⟩
    · intro h3 tk3 k3 hD3
      exact hR h3 tk3 (fun b o hb ho => k3 b o hb (keep2 b o hb ho)) hD3
end
section
variable {X : Cx}
/-- dict(..) of a list of pairs, each a text and an int -/
theorem call_dict_pairs (hc : X.calm = true := by rfl) : CallR X (.type "dict") (fun xs H Q => ∃ (a : Addr) (ps : List (Addr × Str × Int)), xs = [.ref a] ∧ SqL X.K H a (ps.map fun p => .ref p.1) ∧ (∀ p ∈ ps, H p.1 = some (.tup [.str p.2.1, .int p.2.2])) ∧ ps.length ≤ 100 ∧ ∀ p, H p = none → Q (.ref p) (upd H p (DictO p))) := by
  intro pins s σ H xs us Q I rv h
  obtain ⟨a, ps, rfl, hq, hps, hz, q⟩ := h
  obtain ⟨u, rfl, ru⟩ := rv.one
  cases ru
  obtain ⟨its, r, pl, _⟩ := I.list hq
  obtain ⟨ol, nl, hol, hcl, hdl, hsl⟩ := id pl
  have hh := I.ok.hd hc
  have hal : a < s.heap.objs.size := Heap.lt_size hol
  have pairs : ∀ v ∈ its, ∃ p x t u, v = .ref p ∧ p < s.heap.objs.size ∧ IsTup s.heap p #[.str x t, u] := by
    intro v hv
    obtain ⟨j, hj⟩ := List.mem_iff_getElem?.mp hv
    have hjl : j < its.length := (List.getElem?_eq_some_iff.mp hj).1
    have hl := r.length
    rw [List.length_map] at hl
    obtain ⟨w', hw, rw'⟩ := r.get (i := j) (x := .ref (ps[j]'(by omega)).1) (by rw [List.getElem?_map, List.getElem?_eq_getElem (by omega)]; rfl)
    rw [hj] at hw; cases hw; cases rw'
    have hp := hps _ (List.getElem_mem (l := ps) (n := j) (by omega))
    obtain ⟨_, ys, ry, ht⟩ := (show ObjOk X.prog X.w H s.heap _ (.tup _) from I.hok _ _ hp)
    cases ry with
    | cons r1 r2 =>
      cases r2 with
      | cons r2 r3 =>
        cases r3
        obtain ⟨t, rfl⟩ := r1
        obtain ⟨t', rfl⟩ := r2
        exact ⟨_, _, t, _, rfl, ht.lt, ht⟩
  refine callType_codes (Q₁ := fun obj s₁ => obj = .ref s.heap.objs.size ∧ s₁ = { s with heap := s.heap.push { cls := .type "dict", data := .dict #[] } }) PySem.F.kt_called_dict (PySem.F.kt_typeCall_dict_1 _) PySem.F.entry_dict_init (kt_code_dict_new _ ⟨rfl, rfl⟩) ?_
  rintro obj s₁ ⟨rfl, rfl⟩
  have hnew : (s.heap.push { cls := .type "dict", data := .dict #[] }).DictOf (strKind X.prog X.w) s.heap.objs.size [] := Heap.DictOf.new s.heap
  have hol1 : (s.heap.push { cls := .type "dict", data := .dict #[] }).get? a = some ol := Heap.get?_push_of_some _ hol
  refine ⟨hnew.typeIs, PySem.F.args_dict_init_2 _ _, ?_⟩
  unfold Builtin.«dict.__init__»
  refine wpAny_bind ?_
  unfold Builtin.Dict.selfAndRest
  refine wpAny_bind (wpAny_notOrdered_dict hnew.typeIs ?_)
  show wpAny _ _ (pure (s.heap.objs.size, [Value.ref a])) _ _ _
  refine wpAny_pure ?_
  show wpAny _ _ (Builtin.Dict.updateFrom "dict.__init__" s.heap.objs.size (.ref a) [] .none) _ _ _
  unfold Builtin.Dict.updateFrom
  refine wpAny_bind (wpAny_typeOf (T := "list") ⟨ol, hol1, hcl⟩ ?_)
  rw [if_pos (by decide)]
  refine wpAny_bind (no_keys hol1 hcl hsl hdl (by simpa using hh) fun h' tk kk => ?_)
  simp only [Option.isNone_none, if_true]
  have hl2 : h'.IsList a its.toArray := ⟨ol, kk _ _ hol1, hcl, nl, hsl⟩
  obtain ⟨od, es, ep, hod, hrest⟩ := hnew
  have hD2 : h'.DictOf (strKind X.prog X.w) s.heap.objs.size [] := ⟨od, es, ep, kk _ _ hod, hrest⟩
  have hDlt : s.heap.objs.size < h'.objs.size := Heap.lt_size (kk _ _ hod)
  refine wpAny_bind (wpAny_rule (wpAny_bind (wpAny_pyIter_list hl2 (wpAny_pure ⟨plainId_quiet plain_dloop _, ?_⟩))))
  have hal2 : a < h'.objs.size := Heap.lt_size (kk _ _ hol1)
  have hlen := r.length
  rw [List.length_map] at hlen
  refine dict_loop (its := its) (by simpa using hh) (Nat.ne_of_lt hal2) (Nat.ne_of_lt hDlt) (Nat.ne_of_gt hal) (by omega) its [] _ 0 _ _ [] rfl (Nat.le_refl _) ⟨_, Heap.get?_push_size _ rfl, rfl, rfl⟩ (hl2.push _) (hD2.push _) ?_ ?_
  · intro v hv
    obtain ⟨p, x, t, u, rfl, hp, op, hop, rp⟩ := pairs v hv
    exact ⟨p, x, t, u, rfl, Nat.ne_of_lt (Nat.lt_trans hp hDlt), Nat.ne_of_lt hp, op, Heap.get?_push_of_some _ (kk _ _ (Heap.get?_push_of_some _ hop)), rp⟩
  · rintro h3 tk3 k3 ⟨kvs, o3, es3, ep3, ho3, hex, _⟩
    refine ⟨rfl, .ref s.heap.objs.size, upd H s.heap.objs.size (DictO s.heap.objs.size), I.laid (fun b ob e => ?_) (Nat.le_refl _) ?_, rfl, q _ (I.hok.fresh (Nat.le_refl _))⟩
    · have hb := Heap.lt_size e
      refine k3 b ob (fun z => ?_) (Heap.get?_push_of_some _ (kk _ _ (Heap.get?_push_of_some _ e)))
      rcases List.mem_cons.mp z with z | z
      · exact absurd z (Nat.ne_of_lt hb)
      · have z' : b = h'.objs.size := by simpa using z
        exact absurd z' (Nat.ne_of_lt (Nat.lt_trans hb hDlt))
    · exact ⟨⟨o3, ho3, hex.1⟩, ⟨o3, ho3⟩, fun h1 h2 ⟨o, e1, e2⟩ k => ⟨o, k _ e1, e2⟩⟩
end
end L2

/-! values without a heap, and how the abstract heap bears them -/
namespace M
open PySem L2
inductive D where
  | non | bl (b : Bool) | int (i : Int) | str (x : Str) | ty (n : String)
  | lst (xs : List D) | tup (xs : List D) | fz (ns : List Int)
  | dK (kvs : List (Key × D)) | dT (kvs : List (List Key × D))
  | obj (c : Nat) (fs : List (Nat × D))
inductive Slot where
  | no | val (d : D) | own (o : D)
abbrev Env := List Slot
/-- the names of attributes, by numbers -/
def fNames : List Str := ["many", "names", "least", "pairs", "each", "houses", "wishes", "one", "other", "name", "ask", "value", "stamp", "seal", "at"]
def fnm (n : Nat) : Str := fNames.getD n ""
theorem fnm_inj (a f : Nat) (hf : f < fNames.length) (h : fnm a = fnm f) : a = f := by
  by_cases ha : a < fNames.length
  · have : ∀ a, a < 15 → ∀ f, f < 15 → fnm a = fnm f → a = f := by decide +kernel
    exact this a ha f hf h
  · have e : fnm a = "" := by
      unfold fnm
      rw [List.getD_eq_getElem?_getD, List.getElem?_eq_none (by omega)]; rfl
    have : ∀ f, f < 15 → fnm f ≠ "" := by decide +kernel
    exact absurd (h.symm.trans e) (this f hf)
/-- the classes of the text, by numbers -/
structure Cn where
  K : PySem.W.Frag
  cls : Nat → Option Addr
def KnL (K : PySem.W.Frag) (a : Addr) (xs : List V) : Prop :=
  ∃ (o : Obj) (its : Array Value) (n : Nat), K.lookup a = some o ∧ o.cls = .type "list" ∧ o.dict = none ∧ o.data = .seq its n ∧ its.size ≤ sizeLine ∧ Vals xs its.toList
def KnT (K : PySem.W.Frag) (a : Addr) (xs : List V) : Prop :=
  ∃ (o : Obj) (its : Array Value) (n : Nat), K.lookup a = some o ∧ o.cls = .type "tuple" ∧ o.data = .seq its n ∧ its.size ≤ sizeLine ∧ Vals xs its.toList
inductive Rep (Γ : Cn) (E : Addr → Prop) (H : Hp) : V → D → Prop where
  | non : Rep Γ E H .non .non
  | bl (b : Bool) : Rep Γ E H (.bl b) (.bl b)
  | int (i : Int) : Rep Γ E H (.int i) (.int i)
  | str (x : Str) : Rep Γ E H (.str x) (.str x)
  | ty (n : String) : Rep Γ E H (.ty n) (.ty n)
  | lst {a : Addr} {xs : List V} {ds : List D} (ne : ¬ E a) (h : H a = some (.lst xs)) (l : xs.length = ds.length) (r : ∀ (i : Nat) v d, xs[i]? = some v → ds[i]? = some d → Rep Γ E H v d) : Rep Γ E H (.ref a) (.lst ds)
  | fz {a : Addr} {ns : List Int} (h : (¬ E a ∧ Rd H a (.lst (ns.map V.int))) ∨ KnL Γ.K a (ns.map V.int)) : Rep Γ E H (.ref a) (.fz ns)
  | tup {a : Addr} {xs : List V} {ds : List D} (ne : ¬ E a) (h : H a = some (.tup xs)) (l : xs.length = ds.length) (r : ∀ (i : Nat) v d, xs[i]? = some v → ds[i]? = some d → Rep Γ E H v d) : Rep Γ E H (.ref a) (.tup ds)
  | dK {a : Addr} {ks : List (Key × V)} {ds : List (Key × D)} (ne : ¬ E a) (h : H a = some (.dK ks)) (l : ks.map (·.1) = ds.map (·.1)) (r : ∀ (i : Nat) v d, (ks.map (·.2))[i]? = some v → (ds.map (·.2))[i]? = some d → Rep Γ E H v d) : Rep Γ E H (.ref a) (.dK ds)
  | dT {a : Addr} {ks : List (List Key × V)} {ds : List (List Key × D)} (ne : ¬ E a) (h : H a = some (.dT ks)) (l : ks.map (·.1) = ds.map (·.1)) (r : ∀ (i : Nat) v d, (ks.map (·.2))[i]? = some v → (ds.map (·.2))[i]? = some d → Rep Γ E H v d) : Rep Γ E H (.ref a) (.dT ds)
  | obj {a C dx : Addr} {c : Nat} {gs : List (Str × V)} {fs : List (Nat × D)} (ne : ¬ E a) (hc : Γ.cls c = some C) (h : H a = some (.ins C dx gs)) (l : gs.map (·.1) = fs.map fun x => fnm x.1) (r : ∀ (i : Nat) v d, (gs.map (·.2))[i]? = some v → (fs.map (·.2))[i]? = some d → Rep Γ E H v d) : Rep Γ E H (.ref a) (.obj c fs)
def Reps (Γ : Cn) (E : Addr → Prop) (H : Hp) (xs : List V) (ds : List D) : Prop := xs.length = ds.length ∧ ∀ (i : Nat) v d, xs[i]? = some v → ds[i]? = some d → Rep Γ E H v d
section
variable {Γ : Cn} {E E' : Addr → Prop} {H H' : Hp}
theorem rd_ne {a : Addr} {u : HO} (h : Rd H a u) : H a ≠ none := by
  rcases h with h | ⟨o, h⟩ <;> rw [h] <;> simp
theorem rd_keep {a : Addr} {u : HO} (h : Rd H a u) (k : ∀ o, H a = some o → H' a = some o) : Rd H' a u := by
  rcases h with h | ⟨o, h⟩
  · exact .inl (k _ h)
  · exact .inr ⟨o, k _ h⟩
/-- what is borne stays borne: the new shut places were free or shut ahead, all that is not shut stays -/
theorem Rep.up {v : V} {d : D} (r : Rep Γ E H v d) (he : ∀ b, H b ≠ none → E' b → E b) (k : ∀ b o, ¬ E b → H b = some o → H' b = some o) : Rep Γ E' H' v d := by
  induction r with
  | non => exact .non
  | bl b => exact .bl b
  | int i => exact .int i
  | str x => exact .str x
  | ty n => exact .ty n
  | lst ne h l _ ih => exact .lst (fun z => ne (he _ (by rw [h]; simp) z)) (k _ _ ne h) l ih
  | fz h => exact .fz (h.imp (fun ⟨ne, h⟩ => ⟨fun z => ne (he _ (rd_ne h) z), rd_keep h fun o => k _ o ne⟩) id)
  | tup ne h l _ ih => exact .tup (fun z => ne (he _ (by rw [h]; simp) z)) (k _ _ ne h) l ih
  | dK ne h l _ ih => exact .dK (fun z => ne (he _ (by rw [h]; simp) z)) (k _ _ ne h) l ih
  | dT ne h l _ ih => exact .dT (fun z => ne (he _ (by rw [h]; simp) z)) (k _ _ ne h) l ih
  | obj ne hc h l _ ih => exact .obj (fun z => ne (he _ (by rw [h]; simp) z)) hc (k _ _ ne h) l ih
theorem Reps.up {xs : List V} {ds : List D} (r : Reps Γ E H xs ds) (he : ∀ b, H b ≠ none → E' b → E b) (k : ∀ b o, ¬ E b → H b = some o → H' b = some o) : Reps Γ E' H' xs ds := ⟨r.1, fun i v d h1 h2 => (r.2 i v d h1 h2).up he k⟩
theorem Reps.nil : Reps Γ E H [] [] := ⟨rfl, fun i v d h => by simp at h⟩
theorem Reps.cons {v : V} {d : D} {xs : List V} {ds : List D} (h : Rep Γ E H v d) (r : Reps Γ E H xs ds) : Reps Γ E H (v :: xs) (d :: ds) := by
  refine ⟨by simp [r.1], fun i v' d' h1 h2 => ?_⟩
  cases i with
  | zero => simp at h1 h2; subst h1 h2; exact h
  | succ i => simp at h1 h2; exact r.2 i v' d' h1 h2
theorem Reps.head {v : V} {d : D} {xs : List V} {ds : List D} (r : Reps Γ E H (v :: xs) (d :: ds)) : Rep Γ E H v d := r.2 0 v d rfl rfl
theorem Reps.tail {v : V} {d : D} {xs : List V} {ds : List D} (r : Reps Γ E H (v :: xs) (d :: ds)) : Reps Γ E H xs ds := ⟨by simpa using r.1, fun i v' d' h1 h2 => r.2 (i + 1) v' d' (by simpa using h1) (by simpa using h2)⟩
theorem Reps.append {xs ys : List V} {ds es : List D} (a : Reps Γ E H xs ds) (b : Reps Γ E H ys es) : Reps Γ E H (xs ++ ys) (ds ++ es) := by
  induction xs generalizing ds with
  | nil => have h := a.1; cases ds with | nil => exact b | cons _ _ => simp at h
  | cons x xs ih => cases ds with | nil => have h := a.1; simp at h | cons d ds => exact .cons a.head (ih a.tail)
theorem Reps.get {xs : List V} {ds : List D} {i : Nat} {d : D} (r : Reps Γ E H xs ds) (h : ds[i]? = some d) : ∃ v, xs[i]? = some v ∧ Rep Γ E H v d := by
  have hl := r.1
  have hi : i < xs.length := by rw [hl]; exact (List.getElem?_eq_some_iff.mp h).1
  exact ⟨xs[i], List.getElem?_eq_getElem hi, r.2 i _ d (List.getElem?_eq_getElem hi) h⟩
theorem Reps.sub {xs : List V} {ds : List D} {xs' : List V} {ds' : List D} (r : Reps Γ E H xs ds) (hl : xs'.length = ds'.length) (h : ∀ (i : Nat) v d, xs'[i]? = some v → ds'[i]? = some d → ∃ (j : Nat), xs[j]? = some v ∧ ds[j]? = some d) : Reps Γ E H xs' ds' :=
  ⟨hl, fun i v d h1 h2 => let ⟨j, a, b⟩ := h i v d h1 h2; r.2 j v d a b⟩
theorem Reps.drop {xs : List V} {ds : List D} (r : Reps Γ E H xs ds) (n : Nat) : Reps Γ E H (xs.drop n) (ds.drop n) :=
  r.sub (by simp [r.1]) fun i v d h1 h2 => ⟨n + i, by simpa using h1, by simpa using h2⟩
theorem Reps.take {xs : List V} {ds : List D} (r : Reps Γ E H xs ds) (n : Nat) : Reps Γ E H (xs.take n) (ds.take n) :=
  r.sub (by simp [r.1]) fun i v d h1 h2 => by
    rw [List.getElem?_take] at h1 h2
    split at h1
    · rename_i hi; rw [if_pos hi] at h2; exact ⟨i, h1, h2⟩
    · cases h1
theorem Reps.set {xs : List V} {ds : List D} {v : V} {d : D} (r : Reps Γ E H xs ds) (j : Nat) (h : Rep Γ E H v d) : Reps Γ E H (xs.set j v) (ds.set j d) := by
  refine ⟨by simp [r.1], fun i v' d' h1 h2 => ?_⟩
  rw [List.getElem?_set] at h1 h2
  by_cases e : j = i
  · subst e
    rw [if_pos rfl] at h1 h2
    split at h1
    · split at h2
      · cases h1; cases h2; exact h
      · cases h2
    · cases h1
  · rw [if_neg e] at h1 h2
    exact r.2 i v' d' h1 h2
theorem Reps.eraseIdx {xs : List V} {ds : List D} (r : Reps Γ E H xs ds) (j : Nat) : Reps Γ E H (xs.eraseIdx j) (ds.eraseIdx j) := by
  rw [List.eraseIdx_eq_take_drop_succ, List.eraseIdx_eq_take_drop_succ]
  exact (r.take j).append (r.drop (j + 1))
theorem Reps.reverse {xs : List V} {ds : List D} (r : Reps Γ E H xs ds) : Reps Γ E H xs.reverse ds.reverse := by
  induction xs generalizing ds with
  | nil => have h := r.1; cases ds with | nil => exact r | cons _ _ => simp at h
  | cons x xs ih => cases ds with
    | nil => have h := r.1; simp at h
    | cons d ds => rw [List.reverse_cons, List.reverse_cons]; exact (ih r.tail).append (.cons r.head .nil)
theorem Rep.list {ds : List D} {v : V} (r : Rep Γ E H v (.lst ds)) : ∃ a xs, v = .ref a ∧ H a = some (.lst xs) ∧ Reps Γ E H xs ds := by
  cases r with
  | lst ne h l r => exact ⟨_, _, rfl, h, l, r⟩
theorem Rep.script {ns : List Int} {v : V} (r : Rep Γ E H v (.fz ns)) : ∃ a, v = .ref a ∧ SqL Γ.K H a (ns.map V.int) := by
  cases r with
  | fz h => exact ⟨_, rfl, h.imp (fun z => z.2) id⟩
theorem Rep.tuple {ds : List D} {v : V} (r : Rep Γ E H v (.tup ds)) : ∃ a xs, v = .ref a ∧ H a = some (.tup xs) ∧ Reps Γ E H xs ds := by
  cases r with
  | tup ne h l r => exact ⟨_, _, rfl, h, l, r⟩
end
/-- an object that is changed: where it stands -/
def OwnAt (Γ : Cn) (E : Addr → Prop) (H : Hp) (p : Addr) : D → Prop
  | .lst ds => ∃ xs, H p = some (.lst xs) ∧ Reps Γ E H xs ds
  | .dK ds => ∃ ks, H p = some (.dK ks) ∧ ks.map (·.1) = ds.map (·.1) ∧ Reps Γ E H (ks.map (·.2)) (ds.map (·.2))
  | .dT ds => ∃ ks, H p = some (.dT ks) ∧ ks.map (·.1) = ds.map (·.1) ∧ Reps Γ E H (ks.map (·.2)) (ds.map (·.2))
  | .obj c fs => ∃ C dx gs, Γ.cls c = some C ∧ H p = some (.ins C dx gs) ∧ (gs.map (·.1) = fs.map fun x => fnm x.1) ∧ Reps Γ E H (gs.map (·.2)) (fs.map (·.2))
  | _ => False
section
variable {Γ : Cn} {E E' : Addr → Prop} {H H' : Hp} {p : Addr} {o : D}
theorem OwnAt.ne0 (h : OwnAt Γ E H p o) : H p ≠ none := by
  cases o with
  | lst ds => obtain ⟨_, e, _⟩ := h; rw [e]; simp
  | dK ds => obtain ⟨_, e, _⟩ := h; rw [e]; simp
  | dT ds => obtain ⟨_, e, _⟩ := h; rw [e]; simp
  | obj c fs => obtain ⟨_, _, _, _, e, _⟩ := h; rw [e]; simp
  | _ => exact False.elim h
theorem OwnAt.up (h : OwnAt Γ E H p o) (hp : ∀ u, H p = some u → H' p = some u) (he : ∀ b, H b ≠ none → E' b → E b) (k : ∀ b o, ¬ E b → H b = some o → H' b = some o) : OwnAt Γ E' H' p o := by
  cases o with
  | lst ds => obtain ⟨xs, e, r⟩ := h; exact ⟨xs, hp _ e, r.up he k⟩
  | dK ds => obtain ⟨xs, e, l, r⟩ := h; exact ⟨xs, hp _ e, l, r.up he k⟩
  | dT ds => obtain ⟨xs, e, l, r⟩ := h; exact ⟨xs, hp _ e, l, r.up he k⟩
  | obj c fs => obtain ⟨C, dx, gs, hc, e, l, r⟩ := h; exact ⟨C, dx, gs, hc, hp _ e, l, r.up he k⟩
  | _ => exact False.elim h
/-- no longer changed: a value -/
theorem OwnAt.rep (h : OwnAt Γ E H p o) (ne : ¬ E p) : Rep Γ E H (.ref p) o := by
  cases o with
  | lst ds => obtain ⟨xs, e, r⟩ := h; exact .lst ne e r.1 r.2
  | dK ds => obtain ⟨xs, e, l, r⟩ := h; exact .dK ne e l r.2
  | dT ds => obtain ⟨xs, e, l, r⟩ := h; exact .dT ne e l r.2
  | obj c fs => obtain ⟨C, dx, gs, hc, e, l, r⟩ := h; exact .obj ne hc e l r.2
  | _ => exact False.elim h
end
/-- a frame: what the callers change, the heap at the entry, the places that are changed for the caller -/
structure Fs where
  C : Addr → Prop
  H0 : Hp
  pin : Nat → Option Addr
def Fs.add (S : Fs) (p : Addr) : Fs := { S with C := fun a => S.C a ∨ a = p }
def isOwn (ρ : Env) (i : Nat) : Prop := ∃ o, ρ[i]? = some (.own o)
def exA (S : Fs) (σ : St) (ρ : Env) (a : Addr) : Prop := S.C a ∨ ∃ i, isOwn ρ i ∧ σ[i]? = some (some (.ref a))
structure Rel (Γ : Cn) (S : Fs) (H : Hp) (σ : St) (ρ : Env) (τ : List (V × D)) : Prop where
  len : σ.length = ρ.length
  val : ∀ (i : Nat) d, ρ[i]? = some (.val d) → ∃ v, σ[i]? = some (some v) ∧ Rep Γ (exA S σ ρ) H v d
  own : ∀ (i : Nat) o, ρ[i]? = some (.own o) → ∃ p, σ[i]? = some (some (.ref p)) ∧ OwnAt Γ (exA S σ ρ) H p o ∧ ¬ S.C p ∧ (S.pin i = some p ∨ (S.pin i = none ∧ S.H0 p = none))
  pin : ∀ i p, S.pin i = some p → σ[i]? = some (some (.ref p)) ∧ isOwn ρ i
  inj : ∀ i j p, isOwn ρ i → isOwn ρ j → σ[i]? = some (some (.ref p)) → σ[j]? = some (some (.ref p)) → i = j
  dom : ∀ a, S.C a → H a ≠ none
  fr : ∀ b o, S.H0 b = some o → (∀ i, S.pin i ≠ some b) → H b = some o
  tmp : ∀ x ∈ τ, Rep Γ (exA S σ ρ) H x.1 x.2
section
variable {Γ : Cn} {S : Fs} {H H' : Hp} {σ : St} {ρ : Env} {τ : List (V × D)}
/-- the heap has grown -/
theorem Rel.grow (R : Rel Γ S H σ ρ τ) (g : Same H H') : Rel Γ S H' σ ρ τ where
  len := R.len
  val := fun i d h => let ⟨v, e, r⟩ := R.val i d h; ⟨v, e, r.up (fun _ _ z => z) fun b o _ q => g b o q⟩
  own := fun i o h => let ⟨p, e, r, q⟩ := R.own i o h; ⟨p, e, r.up (fun u => g p u) (fun _ _ z => z) fun b o _ q => g b o q, q⟩
  pin := R.pin
  inj := R.inj
  dom := fun a h z => by
    cases e : H a with
    | none => exact R.dom a h e
    | some o => rw [g a o e] at z; cases z
  fr := fun b o h n => g b o (R.fr b o h n)
  tmp := fun x hx => (R.tmp x hx).up (fun _ _ z => z) fun b o _ q => g b o q
theorem Rel.push (R : Rel Γ S H σ ρ τ) {v : V} {d : D} (h : Rep Γ (exA S σ ρ) H v d) : Rel Γ S H σ ρ ((v, d) :: τ) :=
  { R with tmp := fun x hx => (List.mem_cons.mp hx).elim (fun e => by subst e; exact h) (R.tmp x) }
theorem Rel.pop {x : V × D} (R : Rel Γ S H σ ρ (x :: τ)) : Rel Γ S H σ ρ τ ∧ Rep Γ (exA S σ ρ) H x.1 x.2 :=
  ⟨{ R with tmp := fun y hy => R.tmp y (List.mem_cons_of_mem _ hy) }, R.tmp x List.mem_cons_self⟩
theorem Rel.dropTmp (R : Rel Γ S H σ ρ τ) : Rel Γ S H σ ρ [] := { R with tmp := fun _ h => nomatch h }
theorem exA_some (R : Rel Γ S H σ ρ τ) {a : Addr} (h : exA S σ ρ a) : H a ≠ none := by
  rcases h with h | ⟨i, ⟨o, ho⟩, e⟩
  · exact R.dom a h
  · obtain ⟨p, e', r, _⟩ := R.own i o ho
    rw [e] at e'; cases e'
    exact r.ne0
/-- a fresh place is shut off -/
theorem Rel.add (R : Rel Γ S H σ ρ τ) {p : Addr} {u : HO} (hp : H p = none) (h0 : S.H0 p = none) : Rel Γ (S.add p) (upd H p u) σ ρ τ := by
  have g : Same H (upd H p u) := fun b o q => by rw [upd_ne (ne_of_none q hp)]; exact q
  have he : ∀ b, H b ≠ none → exA (S.add p) σ ρ b → exA S σ ρ b := fun b hb h => by
    rcases h with (h | h) | h
    · exact .inl h
    · subst h; exact absurd hp hb
    · exact .inr h
  exact {
    len := R.len
    val := fun i d h => let ⟨v, e, r⟩ := R.val i d h; ⟨v, e, r.up he fun b o _ q => g b o q⟩
    own := fun i o h => by
      obtain ⟨q, e, r, n, pn⟩ := R.own i o h
      refine ⟨q, e, r.up (fun u => g q u) he fun b o _ q => g b o q, ?_, pn⟩
      rintro (z | z)
      · exact n z
      · subst z; exact r.ne0 hp
    pin := R.pin
    inj := R.inj
    dom := fun a h => by
      rcases h with h | h
      · have := R.dom a h
        have hne : a ≠ p := fun z => by subst z; exact this hp
        rw [upd_ne hne]; exact this
      · subst h; rw [upd_same]; simp
    fr := fun b o h n => g b o (R.fr b o h n)
    tmp := fun x hx => (R.tmp x hx).up he fun b o _ q => g b o q }
theorem Rel.unadd {p : Addr} (R : Rel Γ (S.add p) H σ ρ τ) : Rel Γ S H σ ρ τ := by
  have he : ∀ b, H b ≠ none → exA S σ ρ b → exA (S.add p) σ ρ b := fun b _ h => h.elim (fun z => .inl (.inl z)) .inr
  exact {
    len := R.len
    val := fun i d h => let ⟨v, e, r⟩ := R.val i d h; ⟨v, e, r.up he fun _ _ _ q => q⟩
    own := fun i o h => let ⟨q, e, r, n, pn⟩ := R.own i o h; ⟨q, e, r.up (fun _ q => q) he fun _ _ _ q => q, fun z => n (.inl z), pn⟩
    pin := R.pin
    inj := R.inj
    dom := fun a h => R.dom a (.inl h)
    fr := R.fr
    tmp := fun x hx => (R.tmp x hx).up he fun _ _ _ q => q }
/-- H0 is part of H but for what is pinned: a fresh place is new since the entry -/
theorem Rel.new (R : Rel Γ S H σ ρ τ) {p : Addr} (hp : H p = none) : S.H0 p = none := by
  cases e : S.H0 p with
  | none => rfl
  | some o =>
    by_cases h : ∃ i, S.pin i = some p
    · obtain ⟨i, hi⟩ := h
      obtain ⟨e1, o', ho⟩ := R.pin i p hi
      obtain ⟨q, e2, r, _⟩ := R.own i o' ho
      rw [e1] at e2; cases e2
      exact absurd hp r.ne0
    · have := R.fr p o e fun i z => h ⟨i, z⟩
      rw [hp] at this; cases this
theorem getElem?_set_ne {α : Type} {l : List α} {i j : Nat} {x : α} (h : i ≠ j) : (l.set i x)[j]? = l[j]? := by rw [List.getElem?_set, if_neg h]
theorem getElem?_set_here {α : Type} {l : List α} {i : Nat} {x y : α} (h : (l.set i x)[i]? = some y) : y = x := by
  rw [List.getElem?_set, if_pos rfl] at h
  split at h
  · cases h; rfl
  · cases h
/-- a value is put into slot i -/
theorem Rel.asg (R : Rel Γ S H σ ρ τ) {i : Nat} {v : V} {d : D} (hi : S.pin i = none) (h : Rep Γ (exA S σ ρ) H v d) : Rel Γ S H (σ.set i (some v)) (ρ.set i (.val d)) τ := by
  have own_ne : ∀ j, isOwn (ρ.set i (.val d)) j → j ≠ i ∧ isOwn ρ j := fun j ⟨o, ho⟩ => by
    by_cases e : i = j
    · subst e; cases getElem?_set_here ho
    · rw [getElem?_set_ne e] at ho; exact ⟨Ne.symm e, o, ho⟩
  have he : ∀ b, H b ≠ none → exA S (σ.set i (some v)) (ρ.set i (.val d)) b → exA S σ ρ b := fun b _ h => by
    rcases h with h | ⟨j, hj, e⟩
    · exact .inl h
    · obtain ⟨ne, oj⟩ := own_ne j hj
      rw [getElem?_set_ne (Ne.symm ne)] at e
      exact .inr ⟨j, oj, e⟩
  have keep : ∀ b o, ¬ exA S σ ρ b → H b = some o → H b = some o := fun _ _ _ q => q
  exact {
    len := by simp [R.len]
    val := fun j e hj => by
      by_cases eq : i = j
      · subst eq
        have e1 := getElem?_set_here hj
        cases e1
        have hl : i < σ.length := by
          rw [R.len]
          have := (List.getElem?_eq_some_iff.mp hj).1
          simpa using this
        exact ⟨v, by rw [List.getElem?_set, if_pos rfl, if_pos hl], h.up he keep⟩
      · rw [getElem?_set_ne eq] at hj
        obtain ⟨w, e1, r⟩ := R.val j e hj
        exact ⟨w, by rw [getElem?_set_ne eq]; exact e1, r.up he keep⟩
    own := fun j o hj => by
      have ne := (own_ne j ⟨o, hj⟩).1
      rw [getElem?_set_ne (Ne.symm ne)] at hj
      obtain ⟨p, e1, r, n, pn⟩ := R.own j o hj
      exact ⟨p, by rw [getElem?_set_ne (Ne.symm ne)]; exact e1, r.up (fun _ q => q) he keep, n, pn⟩
    pin := fun j p hj => by
      have ne : i ≠ j := fun z => by subst z; rw [hi] at hj; cases hj
      obtain ⟨a, o, b⟩ := R.pin j p hj
      exact ⟨by rw [getElem?_set_ne ne]; exact a, o, by rw [getElem?_set_ne ne]; exact b⟩
    inj := fun j k p hj hk e1 e2 => by
      obtain ⟨nj, oj⟩ := own_ne j hj
      obtain ⟨nk, ok⟩ := own_ne k hk
      rw [getElem?_set_ne (Ne.symm nj)] at e1
      rw [getElem?_set_ne (Ne.symm nk)] at e2
      exact R.inj j k p oj ok e1 e2
    dom := R.dom
    fr := R.fr
    tmp := fun x hx => (R.tmp x hx).up he keep }
/-- a fresh object is put into slot i, to be changed -/
theorem Rel.asgOwn {p : Addr} (R : Rel Γ (S.add p) H σ ρ τ) {i : Nat} {o : D} (hi : S.pin i = none) (h : OwnAt Γ (exA (S.add p) σ ρ) H p o) (h0 : S.H0 p = none) (hp : ¬ S.C p) : Rel Γ S H (σ.set i (some (.ref p))) (ρ.set i (.own o)) τ := by
  have own_ne : ∀ j, j ≠ i → isOwn (ρ.set i (.own o)) j → isOwn ρ j := fun j hj ⟨o', ho⟩ => by
    rw [getElem?_set_ne (Ne.symm hj)] at ho; exact ⟨o', ho⟩
  have notp : ∀ j q, isOwn ρ j → σ[j]? = some (some (.ref q)) → q ≠ p := fun j q ⟨o', ho⟩ e z => by
    obtain ⟨q', e1, _, n, _⟩ := R.own j o' ho
    rw [e] at e1; cases e1
    exact n (.inr z)
  have he : ∀ b, H b ≠ none → exA S (σ.set i (some (.ref p))) (ρ.set i (.own o)) b → exA (S.add p) σ ρ b := fun b _ h => by
    rcases h with h | ⟨j, hj, e⟩
    · exact .inl (.inl h)
    · by_cases ne : j = i
      · subst ne
        rw [List.getElem?_set, if_pos rfl] at e
        split at e
        · cases e; exact .inl (.inr rfl)
        · cases e
      · rw [getElem?_set_ne (Ne.symm ne)] at e
        exact .inr ⟨j, own_ne j ne hj, e⟩
  have keep : ∀ b o, ¬ exA (S.add p) σ ρ b → H b = some o → H b = some o := fun _ _ _ q => q
  exact {
    len := by simp [R.len]
    val := fun j e hj => by
      by_cases eq : i = j
      · subst eq; cases getElem?_set_here hj
      · rw [getElem?_set_ne eq] at hj
        obtain ⟨w, e1, r⟩ := R.val j e hj
        exact ⟨w, by rw [getElem?_set_ne eq]; exact e1, r.up he keep⟩
    own := fun j o' hj => by
      by_cases eq : i = j
      · subst eq
        have e1 := getElem?_set_here hj
        cases e1
        have hl : i < σ.length := by
          rw [R.len]
          have := (List.getElem?_eq_some_iff.mp hj).1
          simpa using this
        exact ⟨p, by rw [List.getElem?_set, if_pos rfl, if_pos hl], h.up (fun _ q => q) he keep, hp, .inr ⟨hi, h0⟩⟩
      · rw [getElem?_set_ne eq] at hj
        obtain ⟨q, e1, r, n, pn⟩ := R.own j o' hj
        exact ⟨q, by rw [getElem?_set_ne eq]; exact e1, r.up (fun _ q => q) he keep, fun z => n (.inl z), pn⟩
    pin := fun j q hj => by
      have ne : i ≠ j := fun z => by subst z; rw [hi] at hj; cases hj
      obtain ⟨a, o', b⟩ := R.pin j q hj
      exact ⟨by rw [getElem?_set_ne ne]; exact a, o', by rw [getElem?_set_ne ne]; exact b⟩
    inj := fun j k q hj hk e1 e2 => by
      by_cases ej : j = i
      · by_cases ek : k = i
        · rw [ej, ek]
        · subst ej
          rw [List.getElem?_set, if_pos rfl] at e1
          split at e1
          · cases e1
            rw [getElem?_set_ne (Ne.symm ek)] at e2
            exact absurd rfl (notp k _ (own_ne k ek hk) e2)
          · cases e1
      · by_cases ek : k = i
        · subst ek
          rw [List.getElem?_set, if_pos rfl] at e2
          split at e2
          · cases e2
            rw [getElem?_set_ne (Ne.symm ej)] at e1
            exact absurd rfl (notp j _ (own_ne j ej hj) e1)
          · cases e2
        · rw [getElem?_set_ne (Ne.symm ej)] at e1
          rw [getElem?_set_ne (Ne.symm ek)] at e2
          exact R.inj j k q (own_ne j ej hj) (own_ne k ek hk) e1 e2
    dom := fun a h => R.dom a (.inl h)
    fr := R.fr
    tmp := fun x hx => (R.tmp x hx).up he keep }
/-- what stands in slot i is changed no more -/
theorem Rel.freeze (R : Rel Γ S H σ ρ τ) {i : Nat} {o : D} (hi : S.pin i = none) (h : ρ[i]? = some (.own o)) : ∃ v, σ[i]? = some (some v) ∧ Rep Γ (exA S σ (ρ.set i (.val o))) H v o ∧ Rel Γ S H σ (ρ.set i (.val o)) τ := by
  obtain ⟨p, e, r, n, _⟩ := R.own i o h
  have own_ne : ∀ j, isOwn (ρ.set i (.val o)) j → j ≠ i ∧ isOwn ρ j := fun j ⟨o, ho⟩ => by
    by_cases e : i = j
    · subst e; cases getElem?_set_here ho
    · rw [getElem?_set_ne e] at ho; exact ⟨Ne.symm e, o, ho⟩
  have he : ∀ b, H b ≠ none → exA S σ (ρ.set i (.val o)) b → exA S σ ρ b := fun b _ h => by
    rcases h with h | ⟨j, hj, e⟩
    · exact .inl h
    · exact .inr ⟨j, (own_ne j hj).2, e⟩
  have keep : ∀ b o, ¬ exA S σ ρ b → H b = some o → H b = some o := fun _ _ _ q => q
  have hp : ¬ exA S σ (ρ.set i (.val o)) p := by
    rintro (z | ⟨j, hj, ej⟩)
    · exact n z
    · obtain ⟨ne, oj⟩ := own_ne j hj
      exact ne (R.inj j i p oj ⟨o, h⟩ ej e)
  have rep := (r.up (fun _ q => q) he keep).rep hp
  refine ⟨_, e, rep, ?_⟩
  exact {
    len := by simp [R.len]
    val := fun j d hj => by
      by_cases eq : i = j
      · subst eq
        have e1 := getElem?_set_here hj
        cases e1
        exact ⟨_, e, rep⟩
      · rw [getElem?_set_ne eq] at hj
        obtain ⟨w, e1, r⟩ := R.val j d hj
        exact ⟨w, e1, r.up he keep⟩
    own := fun j o' hj => by
      have ne := (own_ne j ⟨o', hj⟩).1
      rw [getElem?_set_ne (Ne.symm ne)] at hj
      obtain ⟨q, e1, r, n, pn⟩ := R.own j o' hj
      exact ⟨q, e1, r.up (fun _ q => q) he keep, n, pn⟩
    pin := fun j p hj => by
      have ne : i ≠ j := fun z => by subst z; rw [hi] at hj; cases hj
      obtain ⟨a, o', b⟩ := R.pin j p hj
      exact ⟨a, o', by rw [getElem?_set_ne ne]; exact b⟩
    inj := fun j k p hj hk e1 e2 => R.inj j k p (own_ne j hj).2 (own_ne k hk).2 e1 e2
    dom := R.dom
    fr := R.fr
    tmp := fun x hx => (R.tmp x hx).up he keep }
/-- what stands in slot i is changed -/
theorem Rel.write (R : Rel Γ S H σ ρ τ) {i : Nat} {p : Addr} {o o' : D} (h : ρ[i]? = some (.own o)) (e : σ[i]? = some (some (.ref p))) (hk : ∀ b u, b ≠ p → H b = some u → H' b = some u)
    (hn : OwnAt Γ (exA S σ ρ) H' p o') : Rel Γ S H' σ (ρ.set i (.own o')) τ := by
  have iff : ∀ j, isOwn (ρ.set i (.own o')) j → isOwn ρ j := fun j ⟨q, hq⟩ => by
    by_cases z : i = j
    · subst z; exact ⟨o, h⟩
    · rw [getElem?_set_ne z] at hq; exact ⟨q, hq⟩
  have he : ∀ b, H b ≠ none → exA S σ (ρ.set i (.own o')) b → exA S σ ρ b := fun b _ h => by
    rcases h with h | ⟨j, hj, e⟩
    · exact .inl h
    · exact .inr ⟨j, iff j hj, e⟩
  have pex : exA S σ ρ p := .inr ⟨i, ⟨o, h⟩, e⟩
  have keep : ∀ b u, ¬ exA S σ ρ b → H b = some u → H' b = some u := fun b u n q => hk b u (fun z => n (by rw [z]; exact pex)) q
  obtain ⟨p', e', _, n0, pn0⟩ := R.own i o h
  rw [e] at e'; cases e'
  exact {
    len := by simp [R.len]
    val := fun j d hj => by
      by_cases eq : i = j
      · subst eq; cases getElem?_set_here hj
      · rw [getElem?_set_ne eq] at hj
        obtain ⟨w, e1, r⟩ := R.val j d hj
        exact ⟨w, e1, r.up he keep⟩
    own := fun j q hj => by
      by_cases eq : i = j
      · subst eq
        have e1 := getElem?_set_here hj
        cases e1
        refine ⟨p, e, hn.up (fun _ q => q) (fun b _ z => ?_) (fun _ _ _ q => q), n0, pn0⟩
        rcases z with z | ⟨k, hk, ek⟩
        · exact .inl z
        · exact .inr ⟨k, iff k hk, ek⟩
      · rw [getElem?_set_ne eq] at hj
        obtain ⟨q', e1, r, n, pn⟩ := R.own j q hj
        refine ⟨q', e1, r.up (fun u hu => hk _ u (fun z => ?_) hu) he keep, n, pn⟩
        subst z
        exact eq (R.inj i j _ ⟨o, h⟩ ⟨q, hj⟩ e e1)
    pin := fun j q hj => by
      obtain ⟨a, o', b⟩ := R.pin j q hj
      refine ⟨a, ?_⟩
      by_cases eq : i = j
      · subst eq
        have hl : i < ρ.length := (List.getElem?_eq_some_iff.mp h).1
        exact ⟨_, by rw [List.getElem?_set, if_pos rfl, if_pos hl]⟩
      · exact ⟨o', by rw [getElem?_set_ne eq]; exact b⟩
    inj := fun j k p hj hk e1 e2 => R.inj j k p (iff j hj) (iff k hk) e1 e2
    dom := fun a ha => by
      have := R.dom a ha
      by_cases z : a = p
      · subst z; exact absurd ha n0
      · cases q : H a with
        | none => exact absurd q this
        | some u => rw [hk a u z q]; simp
    fr := fun b u h0 n => by
      refine hk b u (fun z => ?_) (R.fr b u h0 n)
      subst z
      rcases pn0 with q | ⟨_, q⟩
      · exact n i q
      · rw [q] at h0; cases h0
    tmp := fun x hx => (R.tmp x hx).up he keep }
end
end M

/-! readings without a heap (mirrors), and what it means that a reading over the heap follows one -/
namespace M
open PySem L2
abbrev EK := D → Env → Prop
abbrev ME := Env → EK → Prop
abbrev MT := Env → (Bool → Env → Prop) → Prop
abbrev MA := Env → (List D → Env → Prop) → Prop
structure MEnds where
  nx : Env → Prop
  rt : EK
  bk : Env → Prop
  ct : Env → Prop
abbrev MS := MEnds → Env → Prop
def PinOk (pn : List Nat) (S : Fs) : Prop := ∀ i, i ∉ pn → S.pin i = none
def JE (Γ : Cn) (pn : List Nat) (t : TE) (m : ME) : Prop :=
  ∀ (S : Fs) (σ : St) (ρ : Env) (H : Hp) (τ : List (V × D)) (Q : VK) (q : EK), PinOk pn S → Rel Γ S H σ ρ τ → m ρ q → (∀ v d H' ρ', Rel Γ S H' σ ρ' τ → Rep Γ (exA S σ ρ') H' v d → q d ρ' → Q v H') → t σ H Q
def JT (Γ : Cn) (pn : List Nat) (t : TT) (m : MT) : Prop :=
  ∀ (S : Fs) (σ : St) (ρ : Env) (H : Hp) (τ : List (V × D)) (Q : Bool → Hp → Prop) (q : Bool → Env → Prop), PinOk pn S → Rel Γ S H σ ρ τ → m ρ q → (∀ b H' ρ', Rel Γ S H' σ ρ' τ → q b ρ' → Q b H') → t σ H Q
def JA (Γ : Cn) (pn : List Nat) (t : TA) (m : MA) : Prop :=
  ∀ (S : Fs) (σ : St) (ρ : Env) (H : Hp) (τ : List (V × D)) (Q : List V → Hp → Prop) (q : List D → Env → Prop), PinOk pn S → Rel Γ S H σ ρ τ → m ρ q → (∀ vs ds H' ρ', Rel Γ S H' σ ρ' τ → Reps Γ (exA S σ ρ') H' vs ds → q ds ρ' → Q vs H') → t σ H Q
/-- an expression that makes a new object -/
def JF (Γ : Cn) (pn : List Nat) (t : TE) (m : ME) : Prop :=
  ∀ (S : Fs) (σ : St) (ρ : Env) (H : Hp) (τ : List (V × D)) (Q : VK) (q : EK), PinOk pn S → Rel Γ S H σ ρ τ → m ρ q →
    (∀ p o H' ρ', Rel Γ (S.add p) H' σ ρ' τ → OwnAt Γ (exA (S.add p) σ ρ') H' p o → S.H0 p = none → ¬ exA S σ ρ' p → q o ρ' → Q (.ref p) H') → t σ H Q
/-- what a def hands back: a value, or a new object -/
def RR (Γ : Cn) (fr : Bool) (S : Fs) (σ : St) (ρ : Env) (H : Hp) (τ : List (V × D)) (v : V) (d : D) : Prop := match fr with
  | false => Rel Γ S H σ ρ τ ∧ Rep Γ (exA S σ ρ) H v d
  | true => ∃ p, v = .ref p ∧ Rel Γ (S.add p) H σ ρ τ ∧ OwnAt Γ (exA (S.add p) σ ρ) H p d ∧ S.H0 p = none ∧ ¬ exA S σ ρ p
def JS (Γ : Cn) (pn : List Nat) (fr : Bool) (t : TS) (m : MS) : Prop :=
  ∀ (S : Fs) (σ : St) (ρ : Env) (H : Hp) (τ : List (V × D)) (D : Ends) (N : MEnds), PinOk pn S → Rel Γ S H σ ρ τ → m N ρ → (∀ σ' H' ρ', Rel Γ S H' σ' ρ' τ → N.nx ρ' → D.nx σ' H') →
    (∀ v d σ' H' ρ', RR Γ fr S σ' ρ' H' τ v d → N.rt d ρ' → D.rt v H') → (∀ σ' H' ρ', Rel Γ S H' σ' ρ' τ → N.bk ρ' → D.bk σ' H') → (∀ σ' H' ρ', Rel Γ S H' σ' ρ' τ → N.ct ρ' → D.ct σ' H') → t D σ H
/-- an operand: a value, or a name that is read when the operation is done -/
inductive Opd where
  | d (x : D) | v (i : Nat)
def slotD : Option Slot → (D → Prop) → Prop
  | some (.val d), k => k d
  | some (.own d), k => k d
  | _, _ => False
def Opd.on (r : Opd) (ρ : Env) (k : D → Prop) : Prop := match r with
  | .d x => k x
  | .v i => slotD ρ[i]? k
abbrev MO := Env → (Opd → Env → Prop) → Prop
def OpIn (σ : St) (τ : List (V × D)) (v : V) (r : Opd) : Prop := match r with
  | .d x => (v, x) ∈ τ
  | .v i => σ[i]? = some (some v)
def JO (Γ : Cn) (pn : List Nat) (t : TE) (m : MO) : Prop :=
  ∀ (S : Fs) (σ : St) (ρ : Env) (H : Hp) (τ : List (V × D)) (Q : VK) (q : Opd → Env → Prop), PinOk pn S → Rel Γ S H σ ρ τ → m ρ q → (∀ v r H' ρ' τ', Rel Γ S H' σ ρ' (τ' ++ τ) → OpIn σ (τ' ++ τ) v r → q r ρ' → Q v H') → t σ H Q
/-- borrowed: the outer object may be one that is changed -/
def RepB (Γ : Cn) (E : Addr → Prop) (H : Hp) (v : V) : D → Prop
  | .lst ds => ∃ a xs, v = .ref a ∧ H a = some (.lst xs) ∧ Reps Γ E H xs ds
  | .dK ds => ∃ a ks, v = .ref a ∧ H a = some (.dK ks) ∧ ks.map (·.1) = ds.map (·.1) ∧ Reps Γ E H (ks.map (·.2)) (ds.map (·.2))
  | .dT ds => ∃ a ks, v = .ref a ∧ H a = some (.dT ks) ∧ ks.map (·.1) = ds.map (·.1) ∧ Reps Γ E H (ks.map (·.2)) (ds.map (·.2))
  | .obj c fs => ∃ a C dx gs, v = .ref a ∧ Γ.cls c = some C ∧ H a = some (.ins C dx gs) ∧ (gs.map (·.1) = fs.map fun x => fnm x.1) ∧ Reps Γ E H (gs.map (·.2)) (fs.map (·.2))
  | d => Rep Γ E H v d
section
variable {Γ : Cn} {E E' : Addr → Prop} {H H' : Hp} {v : V} {d : D}
theorem Rep.b (r : Rep Γ E H v d) : RepB Γ E H v d := by
  cases r with
  | non => exact .non
  | bl b => exact .bl b
  | int i => exact .int i
  | str x => exact .str x
  | ty n => exact .ty n
  | lst ne h l r => exact ⟨_, _, rfl, h, l, r⟩
  | fz h => exact .fz h
  | tup ne h l r => exact .tup ne h l r
  | dK ne h l r => exact ⟨_, _, rfl, h, l, by have := congrArg List.length l; simpa using this, r⟩
  | dT ne h l r => exact ⟨_, _, rfl, h, l, by have := congrArg List.length l; simpa using this, r⟩
  | obj ne hc h l r => exact ⟨_, _, _, _, rfl, hc, h, l, by have := congrArg List.length l; simpa using this, r⟩
theorem OwnAt.b {p : Addr} (h : OwnAt Γ E H p d) : RepB Γ E H (.ref p) d := by
  cases d with
  | lst ds => obtain ⟨xs, e, r⟩ := h; exact ⟨p, xs, rfl, e, r⟩
  | dK ds => obtain ⟨xs, e, l, r⟩ := h; exact ⟨p, xs, rfl, e, l, r⟩
  | dT ds => obtain ⟨xs, e, l, r⟩ := h; exact ⟨p, xs, rfl, e, l, r⟩
  | obj c fs => obtain ⟨C, dx, gs, hc, e, l, r⟩ := h; exact ⟨p, C, dx, gs, rfl, hc, e, l, r⟩
  | _ => exact False.elim h
theorem Rel.read {S : Fs} {σ : St} {ρ : Env} {τ : List (V × D)} {r : Opd} {k : D → Prop} (R : Rel Γ S H σ ρ τ) (h : OpIn σ τ v r) (hk : r.on ρ k) : ∃ d, RepB Γ (exA S σ ρ) H v d ∧ k d := by
  cases r with
  | d x => exact ⟨x, (R.tmp _ h).b, hk⟩
  | v i =>
    have e : σ[i]? = some (some v) := h
    have hk : slotD ρ[i]? k := hk
    cases q : ρ[i]? with
    | none => rw [q] at hk; exact False.elim hk
    | some s =>
      rw [q] at hk
      cases s with
      | no => exact False.elim hk
      | val d =>
        obtain ⟨w, e', r⟩ := R.val i d q
        rw [e] at e'; cases e'
        exact ⟨d, r.b, hk⟩
      | own o =>
        obtain ⟨p, e', r, _⟩ := R.own i o q
        rw [e] at e'; cases e'
        exact ⟨o, r.b, hk⟩
end
/-! ### names and constants -/
section
variable {Γ : Cn} {pn : List Nat} {fr : Bool}
def mC (d : D) : ME := fun ρ q => q d ρ
def flatD : D → Bool
  | .non => true | .bl _ => true | .int _ => true | .str _ => true | .ty _ => true | _ => false
def vD : D → V
  | .non => .non | .bl b => .bl b | .int i => .int i | .str x => .str x | .ty n => .ty n | _ => .non
theorem rep_flat {E : Addr → Prop} {H : Hp} {d : D} (h : flatD d = true) : Rep Γ E H (vD d) d := by
  cases d with
  | non => exact .non
  | bl b => exact .bl b
  | int i => exact .int i
  | str x => exact .str x
  | ty n => exact .ty n
  | _ => cases h
theorem Rep.flat {E : Addr → Prop} {H : Hp} {v : V} {d : D} (r : Rep Γ E H v d) (h : flatD d = true) : v = vD d := by
  cases r <;> first | rfl | cases h
theorem je_c {v : V} {d : D} (h : flatD d = true) (e : v = vD d) : JE Γ pn (tC v) (mC d) := fun S σ ρ H τ Q q _ R hm hq => by
  subst e; exact hq _ _ _ _ R (rep_flat h) hm
/-- a name as a value: what was changed through it is changed no more -/
def mVar (i : Nat) : ME := fun ρ q => match ρ[i]? with
  | some (.val d) => q d ρ
  | some (.own o) => q o (ρ.set i (.val o))
  | _ => False
theorem je_var {i : Nat} (hi : i ∉ pn) : JE Γ pn (tVar i) (mVar i) := fun S σ ρ H τ Q q hp R hm hq => by
  unfold mVar at hm
  cases e : ρ[i]? with
  | none => rw [e] at hm; exact False.elim hm
  | some s =>
    rw [e] at hm
    cases s with
    | no => exact False.elim hm
    | val d =>
      obtain ⟨v, e1, r⟩ := R.val i d e
      exact ⟨v, e1, hq v d H ρ R r hm⟩
    | own o =>
      obtain ⟨v, e1, r, R'⟩ := R.freeze (hp i hi) e
      exact ⟨v, e1, hq v o H _ R' r hm⟩
/-- .. a name that is not changed -/
def mVarP (i : Nat) : ME := fun ρ q => match ρ[i]? with
  | some (.val d) => q d ρ
  | _ => False
theorem je_varP {i : Nat} : JE Γ pn (tVar i) (mVarP i) := fun S σ ρ H τ Q q hp R hm hq => by
  unfold mVarP at hm
  cases e : ρ[i]? with
  | none => rw [e] at hm; exact False.elim hm
  | some s =>
    rw [e] at hm
    cases s with
    | no => exact False.elim hm
    | val d =>
      obtain ⟨v, e1, r⟩ := R.val i d e
      exact ⟨v, e1, hq v d H ρ R r hm⟩
    | own o => exact False.elim hm
/-- operands -/
def mOv (i : Nat) : MO := fun ρ q => match ρ[i]? with
  | some (.val _) => q (.v i) ρ
  | some (.own _) => q (.v i) ρ
  | _ => False
theorem jo_var {i : Nat} : JO Γ pn (tVar i) (mOv i) := fun S σ ρ H τ Q q hp R hm hq => by
  unfold mOv at hm
  cases e : ρ[i]? with
  | none => rw [e] at hm; exact False.elim hm
  | some s =>
    rw [e] at hm
    cases s with
    | no => exact False.elim hm
    | val d =>
      obtain ⟨v, e1, r⟩ := R.val i d e
      exact ⟨v, e1, hq v (.v i) H ρ [] R e1 hm⟩
    | own o =>
      obtain ⟨p, e1, r⟩ := R.own i o e
      exact ⟨_, e1, hq _ (.v i) H ρ [] R e1 hm⟩
def mO (m : ME) : MO := fun ρ q => m ρ fun d ρ' => q (.d d) ρ'
theorem jo_of {t : TE} {m : ME} (h : JE Γ pn t m) : JO Γ pn t (mO m) := fun S σ ρ H τ Q q hp R hm hq =>
  h S σ ρ H τ Q _ hp R hm fun v d H' ρ' R' r q' => hq v (.d d) H' ρ' [(v, d)] (R'.push r) (by show (v, d) ∈ _; simp) q'
theorem je_of_fresh {t : TE} {m : ME} (h : JF Γ pn t m) : JE Γ pn t m := fun S σ ρ H τ Q q hp R hm hq =>
  h S σ ρ H τ Q q hp R hm fun p o H' ρ' R' ow _ ne q' => by
    have ow' : OwnAt Γ (exA S σ ρ') H' p o := ow.up (fun _ z => z) (fun b _ z => z.elim (fun z => .inl (.inl z)) .inr) fun _ _ _ z => z
    exact hq _ o H' ρ' R'.unadd (ow'.rep ne) q'
/-! ### argument lists, displays -/
def mNil : MA := fun ρ q => q [] ρ
def mCons (a : ME) (r : MA) : MA := fun ρ q => a ρ fun d ρ1 => r ρ1 fun ds ρ2 => q (d :: ds) ρ2
theorem ja_nil : JA Γ pn tNil mNil := fun S σ ρ H τ Q q _ R hm hq => hq [] [] H ρ R .nil hm
theorem ja_cons {t : TE} {m : ME} {u : TA} {n : MA} (h1 : JE Γ pn t m) (h2 : JA Γ pn u n) : JA Γ pn (tCons t u) (mCons m n) := fun S σ ρ H τ Q q hp R hm hq =>
  h1 S σ ρ H τ _ _ hp R hm fun v d H1 ρ1 R1 r1 q1 => h2 S σ ρ1 H1 ((v, d) :: τ) _ _ hp (R1.push r1) q1 fun vs ds H2 ρ2 R2 r2 q2 =>
    hq _ _ H2 ρ2 R2.pop.1 (.cons R2.pop.2 r2) q2
def mStrs (ss : List Str) : MA := fun ρ q => q (ss.map D.str) ρ
theorem ja_strs {ss : List Str} : JA Γ pn (tStrs ss) (mStrs ss) := fun S σ ρ H τ Q q hp R hm hq =>
  hq _ _ H ρ R ⟨by simp, fun i v d h1 h2 => by
    rw [List.getElem?_map] at h1 h2
    cases e : ss[i]? with
    | none => rw [e] at h1; cases h1
    | some x => rw [e] at h1 h2; cases h1; cases h2; exact .str x⟩ hm
/-- a new list object -/
theorem fresh_lst {S : Fs} {σ : St} {ρ : Env} {H : Hp} {τ : List (V × D)} {xs : List V} {ds : List D} {p : Addr} (R : Rel Γ S H σ ρ τ) (r : Reps Γ (exA S σ ρ) H xs ds) (hp : H p = none) :
    Rel Γ (S.add p) (upd H p (.lst xs)) σ ρ τ ∧ OwnAt Γ (exA (S.add p) σ ρ) (upd H p (.lst xs)) p (.lst ds) ∧ S.H0 p = none ∧ ¬ exA S σ ρ p := by
  have h0 := R.new hp
  refine ⟨R.add hp h0, ⟨xs, upd_same, r.up (fun b hb z => ?_) fun b o _ q => by rw [upd_ne (ne_of_none q hp)]; exact q⟩, h0, fun z => exA_some R z hp⟩
  rcases z with (z | z) | z
  · exact .inl z
  · subst z; exact absurd hp hb
  · exact .inr z
def mLst (m : MA) : ME := fun ρ q => m ρ fun ds ρ' => ds.length ≤ 1000 ∧ q (.lst ds) ρ'
theorem le_line {n : Nat} (h : n ≤ 1000) : n ≤ sizeLine := Nat.le_trans h (by decide)
theorem jf_lst {t : TA} {m : MA} (h : JA Γ pn t m) : JF Γ pn (tLst t) (mLst m) := fun S σ ρ H τ Q q hp R hm hq =>
  h S σ ρ H τ _ _ hp R hm fun vs ds H1 ρ1 R1 r1 ⟨l1, q1⟩ => ⟨by rw [r1.1]; exact le_line l1, fun p hn => by
    obtain ⟨a, b, c, d⟩ := fresh_lst R1 r1 hn
    exact hq p _ _ ρ1 a b c d q1⟩
def mTup (m : MA) : ME := fun ρ q => m ρ fun ds ρ' => ds.length ≤ 1000 ∧ q (.tup ds) ρ'
theorem same_new {H : Hp} {p : Addr} (h : H p = none) (o : HO) : Same H (upd H p o) := fun b u q => by rw [upd_ne (ne_of_none q h)]; exact q
theorem new_tup {S : Fs} {σ : St} {ρ : Env} {H : Hp} {τ : List (V × D)} {xs : List V} {ds : List D} {p : Addr} (R : Rel Γ S H σ ρ τ) (r : Reps Γ (exA S σ ρ) H xs ds) (hp : H p = none) :
    Rel Γ S (upd H p (.tup xs)) σ ρ τ ∧ Rep Γ (exA S σ ρ) (upd H p (.tup xs)) (.ref p) (.tup ds) := by
  have g := same_new hp (.tup xs)
  have r' := r.up (E' := exA S σ ρ) (H' := upd H p (.tup xs)) (fun _ _ z => z) fun b o _ q => g b o q
  exact ⟨R.grow g, .tup (fun z => exA_some R z hp) upd_same r'.1 r'.2⟩
theorem je_tup {t : TA} {m : MA} (h : JA Γ pn t m) : JE Γ pn (tTup t) (mTup m) := fun S σ ρ H τ Q q hp R hm hq =>
  h S σ ρ H τ _ _ hp R hm fun vs ds H1 ρ1 R1 r1 ⟨l1, q1⟩ => ⟨by rw [r1.1]; exact le_line l1, fun p hn => by
    obtain ⟨a, b⟩ := new_tup R1 r1 hn
    exact hq _ _ _ ρ1 a b q1⟩
/-! ### operations on two operands -/
abbrev F2 := D → D → (D → Prop) → Prop
/-- the operation r over the heap follows f -/
def OpOk (Γ : Cn) (r : R2) (f : F2) : Prop :=
  ∀ (E : Addr → Prop) (H : Hp) (x y : V) (dx dy : D) (Q : VK) (q : D → Prop), (∀ a, E a → H a ≠ none) → RepB Γ E H x dx → RepB Γ E H y dy → f dx dy q → (∀ v d H', Same H H' → Rep Γ E H' v d → q d → Q v H') → r x y H Q
def mOp (f : F2) (a b : MO) : ME := fun ρ q => a ρ fun r ρ1 => b ρ1 fun s ρ2 => r.on ρ2 fun x => s.on ρ2 fun y => f x y fun d => q d ρ2
theorem OpIn.more {σ : St} {τ τ' : List (V × D)} {v : V} {r : Opd} (h : OpIn σ τ v r) : OpIn σ (τ' ++ τ) v r := by
  cases r with
  | d x => exact List.mem_append_right _ h
  | v i => exact h
theorem Rel.cut {Γ : Cn} {S : Fs} {H : Hp} {σ : St} {ρ : Env} {τ τ' : List (V × D)} (R : Rel Γ S H σ ρ (τ' ++ τ)) : Rel Γ S H σ ρ τ := { R with tmp := fun x hx => R.tmp x (List.mem_append_right _ hx) }
theorem je_op {r : R2} {f : F2} {ta tb : TE} {a b : MO} (ho : OpOk Γ r f) (ha : JO Γ pn ta a) (hb : JO Γ pn tb b) : JE Γ pn (tOp r ta tb) (mOp f a b) := fun S σ ρ H τ Q q hp R hm hq =>
  ha S σ ρ H τ _ _ hp R hm fun v r1 H1 ρ1 τ1 R1 o1 q1 => hb S σ ρ1 H1 (τ1 ++ τ) _ _ hp R1 q1 fun w r2 H2 ρ2 τ2 R2 o2 q2 => by
    obtain ⟨dx, rx, q2⟩ := R2.read o1.more q2
    obtain ⟨dy, ry, q2⟩ := R2.read o2 q2
    exact ho _ H2 v w dx dy Q _ (fun a z => exA_some R2 z) rx ry q2 fun u d H3 g r3 q3 => hq u d H3 ρ2 ((R2.grow g).cut.cut) r3 q3
/-- .. and one -/
abbrev F1 := D → (D → Prop) → Prop
def Op1Ok (Γ : Cn) (r : V → Hp → VK → Prop) (f : F1) : Prop :=
  ∀ (E : Addr → Prop) (H : Hp) (x : V) (dx : D) (Q : VK) (q : D → Prop), (∀ a, E a → H a ≠ none) → RepB Γ E H x dx → f dx q → (∀ v d H', Same H H' → Rep Γ E H' v d → q d → Q v H') → r x H Q
def mOp1 (f : F1) (a : MO) : ME := fun ρ q => a ρ fun r ρ1 => r.on ρ1 fun x => f x fun d => q d ρ1
theorem je_un {r : V → Hp → VK → Prop} {f : F1} {ta : TE} {a : MO} (ho : Op1Ok Γ r f) (ha : JO Γ pn ta a) : JE Γ pn (tUn r ta) (mOp1 f a) := fun S σ ρ H τ Q q hp R hm hq =>
  ha S σ ρ H τ _ _ hp R hm fun v r1 H1 ρ1 τ1 R1 o1 q1 => by
    obtain ⟨dx, rx, q1⟩ := R1.read o1 q1
    exact ho _ H1 v dx Q _ (fun a z => exA_some R1 z) rx q1 fun u d H3 g r3 q3 => hq u d H3 ρ1 ((R1.grow g).cut) r3 q3
/-- a call of a built-in with one operand -/
theorem je_call1 {r : List V → Hp → VK → Prop} {f : F1} {ta : TE} {a : MO} (ho : Op1Ok Γ (fun x => r [x]) f) (ha : JO Γ pn ta a) : JE Γ pn (tCB r (tCons ta tNil)) (mOp1 f a) := fun S σ ρ H τ Q q hp R hm hq =>
  ha S σ ρ H τ _ _ hp R hm fun v r1 H1 ρ1 τ1 R1 o1 q1 => by
    obtain ⟨dx, rx, q1⟩ := R1.read o1 q1
    exact ho _ H1 v dx Q _ (fun a z => exA_some R1 z) rx q1 fun u d H3 g r3 q3 => hq u d H3 ρ1 ((R1.grow g).cut) r3 q3
theorem je_call2 {r : List V → Hp → VK → Prop} {f : F2} {ta tb : TE} {a b : MO} (ho : OpOk Γ (fun x y => r [x, y]) f) (ha : JO Γ pn ta a) (hb : JO Γ pn tb b) : JE Γ pn (tCB r (tCons ta (tCons tb tNil))) (mOp f a b) := fun S σ ρ H τ Q q hp R hm hq =>
  je_op (r := fun x y => r [x, y]) ho ha hb S σ ρ H τ Q q hp R hm hq
/-- operations that make a new list -/
abbrev FL2 := D → D → (List D → Prop) → Prop
def OpNew (Γ : Cn) (r : R2) (f : FL2) : Prop :=
  ∀ (E : Addr → Prop) (H : Hp) (x y : V) (dx dy : D) (Q : VK) (q : List D → Prop), RepB Γ E H x dx → RepB Γ E H y dy → f dx dy q → (∀ p xs ds H1, Same H H1 → H1 p = none → Reps Γ E H1 xs ds → q ds → Q (.ref p) (upd H1 p (.lst xs))) → r x y H Q
def mOpL (f : FL2) (a b : MO) : ME := fun ρ q => a ρ fun r ρ1 => b ρ1 fun s ρ2 => r.on ρ2 fun x => s.on ρ2 fun y => f x y fun ds => q (.lst ds) ρ2
theorem jf_op {r : R2} {f : FL2} {ta tb : TE} {a b : MO} (ho : OpNew Γ r f) (ha : JO Γ pn ta a) (hb : JO Γ pn tb b) : JF Γ pn (tOp r ta tb) (mOpL f a b) := fun S σ ρ H τ Q q hp R hm hq =>
  ha S σ ρ H τ _ _ hp R hm fun v r1 H1 ρ1 τ1 R1 o1 q1 => hb S σ ρ1 H1 (τ1 ++ τ) _ _ hp R1 q1 fun w r2 H2 ρ2 τ2 R2 o2 q2 => by
    obtain ⟨dx, rx, q2⟩ := R2.read o1.more q2
    obtain ⟨dy, ry, q2⟩ := R2.read o2 q2
    exact ho _ H2 v w dx dy Q _ rx ry q2 fun p xs ds H3 g hn r3 q3 => by
      obtain ⟨a, b, c, d⟩ := fresh_lst (R2.grow g) r3 hn
      exact hq p _ _ ρ2 a.cut.cut b c d q3
abbrev FL1 := D → (List D → Prop) → Prop
def Op1New (Γ : Cn) (r : V → Hp → VK → Prop) (f : FL1) : Prop :=
  ∀ (E : Addr → Prop) (H : Hp) (x : V) (dx : D) (Q : VK) (q : List D → Prop), RepB Γ E H x dx → f dx q → (∀ p xs ds H1, Same H H1 → H1 p = none → Reps Γ E H1 xs ds → q ds → Q (.ref p) (upd H1 p (.lst xs))) → r x H Q
def mOpL1 (f : FL1) (a : MO) : ME := fun ρ q => a ρ fun r ρ1 => r.on ρ1 fun x => f x fun ds => q (.lst ds) ρ1
theorem jf_call1 {r : List V → Hp → VK → Prop} {f : FL1} {ta : TE} {a : MO} (ho : Op1New Γ (fun x => r [x]) f) (ha : JO Γ pn ta a) : JF Γ pn (tCB r (tCons ta tNil)) (mOpL1 f a) := fun S σ ρ H τ Q q hp R hm hq =>
  ha S σ ρ H τ _ _ hp R hm fun v r1 H1 ρ1 τ1 R1 o1 q1 => by
    obtain ⟨dx, rx, q1⟩ := R1.read o1 q1
    exact ho _ H1 v dx Q _ rx q1 fun p xs ds H3 g hn r3 q3 => by
      obtain ⟨a, b, c, d⟩ := fresh_lst (R1.grow g) r3 hn
      exact hq p _ _ ρ1 a.cut b c d q3
/-! ### tests -/
def mB (m : ME) : MT := fun ρ q => m ρ fun d ρ' => match d with | .bl b => q b ρ' | _ => False
theorem rep_bl {E : Addr → Prop} {H : Hp} {v : V} {b : Bool} (r : Rep Γ E H v (.bl b)) : v = .bl b := by cases r; rfl
theorem rep_int {E : Addr → Prop} {H : Hp} {v : V} {b : Int} (r : Rep Γ E H v (.int b)) : v = .int b := by cases r; rfl
theorem rep_str {E : Addr → Prop} {H : Hp} {v : V} {b : Str} (r : Rep Γ E H v (.str b)) : v = .str b := by cases r; rfl
theorem jt_b {t : TE} {m : ME} (h : JE Γ pn t m) : JT Γ pn (tB t) (mB m) := fun S σ ρ H τ Q q hp R hm hq =>
  h S σ ρ H τ _ _ hp R hm fun v d H1 ρ1 R1 r1 q1 => by
    cases d with
    | bl b => exact ⟨b, rep_bl r1, hq b H1 ρ1 R1 q1⟩
    | _ => exact False.elim q1
theorem jt_test {t : TE} {m : ME} (h : JE Γ pn t m) : JT Γ pn (tTest t) (mB m) := fun S σ ρ H τ Q q hp R hm hq =>
  h S σ ρ H τ _ _ hp R hm fun v d H1 ρ1 R1 r1 q1 => by
    cases d with
    | bl b => exact ⟨b, rep_bl r1, hq b H1 ρ1 R1 q1⟩
    | _ => exact False.elim q1
def mAnd (a b : MT) : MT := fun ρ q => a ρ fun c ρ1 => if c = true then b ρ1 q else q false ρ1
def mOr (a b : MT) : MT := fun ρ q => a ρ fun c ρ1 => if c = true then q true ρ1 else b ρ1 q
def mNot (a : MT) : MT := fun ρ q => a ρ fun c ρ1 => q (!c) ρ1
theorem jt_and {t u : TT} {a b : MT} (h1 : JT Γ pn t a) (h2 : JT Γ pn u b) : JT Γ pn (tAnd t u) (mAnd a b) := fun S σ ρ H τ Q q hp R hm hq =>
  h1 S σ ρ H τ _ _ hp R hm fun c H1 ρ1 R1 q1 => by
    cases c with
    | true => rw [if_pos rfl] at q1 ⊢; exact h2 S σ ρ1 H1 τ Q q hp R1 q1 hq
    | false => rw [if_neg Bool.false_ne_true] at q1 ⊢; exact hq false H1 ρ1 R1 q1
theorem jt_or {t u : TT} {a b : MT} (h1 : JT Γ pn t a) (h2 : JT Γ pn u b) : JT Γ pn (tOr t u) (mOr a b) := fun S σ ρ H τ Q q hp R hm hq =>
  h1 S σ ρ H τ _ _ hp R hm fun c H1 ρ1 R1 q1 => by
    cases c with
    | true => rw [if_pos rfl] at q1 ⊢; exact hq true H1 ρ1 R1 q1
    | false => rw [if_neg Bool.false_ne_true] at q1 ⊢; exact h2 S σ ρ1 H1 τ Q q hp R1 q1 hq
theorem jt_not {t : TT} {a : MT} (h1 : JT Γ pn t a) : JT Γ pn (tNot t) (mNot a) := fun S σ ρ H τ Q q hp R hm hq =>
  h1 S σ ρ H τ _ _ hp R hm fun c H1 ρ1 R1 q1 => hq (!c) H1 ρ1 R1 q1
def mAndV (a b : ME) : ME := fun ρ q => a ρ fun d ρ1 => match d with | .bl c => if c = true then b ρ1 q else q (.bl false) ρ1 | _ => False
def mOrV (a b : ME) : ME := fun ρ q => a ρ fun d ρ1 => match d with | .bl c => if c = true then q (.bl true) ρ1 else b ρ1 q | _ => False
def mNotV (a : ME) : ME := fun ρ q => a ρ fun d ρ1 => match d with | .bl c => q (.bl (!c)) ρ1 | _ => False
theorem je_and {t u : TE} {a b : ME} (h1 : JE Γ pn t a) (h2 : JE Γ pn u b) : JE Γ pn (tAndV t u) (mAndV a b) := fun S σ ρ H τ Q q hp R hm hq =>
  h1 S σ ρ H τ _ _ hp R hm fun v d H1 ρ1 R1 r1 q1 => by
    cases d with
    | bl c =>
      refine ⟨c, rep_bl r1, ?_⟩
      dsimp only at q1
      cases c with
      | true => rw [if_pos rfl] at q1 ⊢; exact h2 S σ ρ1 H1 τ Q q hp R1 q1 hq
      | false => rw [if_neg Bool.false_ne_true] at q1 ⊢; exact hq _ _ H1 ρ1 R1 (.bl false) q1
    | _ => exact False.elim q1
theorem je_or {t u : TE} {a b : ME} (h1 : JE Γ pn t a) (h2 : JE Γ pn u b) : JE Γ pn (tOrV t u) (mOrV a b) := fun S σ ρ H τ Q q hp R hm hq =>
  h1 S σ ρ H τ _ _ hp R hm fun v d H1 ρ1 R1 r1 q1 => by
    cases d with
    | bl c =>
      refine ⟨c, rep_bl r1, ?_⟩
      dsimp only at q1
      cases c with
      | true => rw [if_pos rfl] at q1 ⊢; exact hq _ _ H1 ρ1 R1 (.bl true) q1
      | false => rw [if_neg Bool.false_ne_true] at q1 ⊢; exact h2 S σ ρ1 H1 τ Q q hp R1 q1 hq
    | _ => exact False.elim q1
theorem je_not {t : TE} {a : ME} (h1 : JE Γ pn t a) : JE Γ pn (tNotV t) (mNotV a) := fun S σ ρ H τ Q q hp R hm hq =>
  h1 S σ ρ H τ _ _ hp R hm fun v d H1 ρ1 R1 r1 q1 => by
    cases d with
    | bl c => exact ⟨c, rep_bl r1, hq _ _ H1 ρ1 R1 (.bl _) q1⟩
    | _ => exact False.elim q1
def mIf (c : MT) (a b : ME) : ME := fun ρ q => c ρ fun k ρ1 => if k = true then a ρ1 q else b ρ1 q
theorem je_if {t : TT} {ta tb : TE} {c : MT} {a b : ME} (hc : JT Γ pn t c) (h1 : JE Γ pn ta a) (h2 : JE Γ pn tb b) : JE Γ pn (tIf t ta tb) (mIf c a b) := fun S σ ρ H τ Q q hp R hm hq =>
  hc S σ ρ H τ _ _ hp R hm fun k H1 ρ1 R1 q1 => by
    cases k with
    | true => rw [if_pos rfl] at q1 ⊢; exact h1 S σ ρ1 H1 τ Q q hp R1 q1 hq
    | false => rw [if_neg Bool.false_ne_true] at q1 ⊢; exact h2 S σ ρ1 H1 τ Q q hp R1 q1 hq
/-! ### statements -/
def mNext : MS := fun N ρ => N.nx ρ
def mSeq (a b : MS) : MS := fun N ρ => a { N with nx := fun ρ' => b N ρ' } ρ
def mBreak : MS := fun N ρ => N.bk ρ
def mCont : MS := fun N ρ => N.ct ρ
def mDrop (m : ME) : MS := fun N ρ => m ρ fun _ ρ' => N.nx ρ'
def mRet (m : ME) : MS := fun N ρ => m ρ N.rt
def mRetN : MS := fun N ρ => N.rt .non ρ
def mIfS (c : MT) (a b : MS) : MS := fun N ρ => c ρ fun k ρ1 => if k = true then a N ρ1 else b N ρ1
def mNever : MS := fun _ _ => False
theorem js_next : JS Γ pn fr tNext mNext := fun S σ ρ H τ D N hp R hm hn hr hb hc => hn _ _ _ R hm
theorem js_break : JS Γ pn fr tBreak mBreak := fun S σ ρ H τ D N hp R hm hn hr hb hc => hb _ _ _ R hm
theorem js_cont : JS Γ pn fr tCont mCont := fun S σ ρ H τ D N hp R hm hn hr hb hc => hc _ _ _ R hm
theorem js_never {t : TS} : JS Γ pn fr t mNever := fun S σ ρ H τ D N hp R hm => False.elim hm
theorem js_seq {t u : TS} {a b : MS} (h1 : JS Γ pn fr t a) (h2 : JS Γ pn fr u b) : JS Γ pn fr (tSeq t u) (mSeq a b) := fun S σ ρ H τ D N hp R hm hn hr hb hc =>
  h1 S σ ρ H τ _ _ hp R hm (fun σ' H' ρ' R' m' => h2 S σ' ρ' H' τ D N hp R' m' hn hr hb hc) hr hb hc
theorem js_drop {t : TE} {m : ME} (h : JE Γ pn t m) : JS Γ pn fr (tDrop t) (mDrop m) := fun S σ ρ H τ D N hp R hm hn hr hb hc =>
  h S σ ρ H τ _ _ hp R hm fun v d H' ρ' R' r q => hn σ H' ρ' R' q
theorem js_ret {t : TE} {m : ME} (h : JE Γ pn t m) : JS Γ pn false (tRet t) (mRet m) := fun S σ ρ H τ D N hp R hm hn hr hb hc =>
  h S σ ρ H τ _ _ hp R hm fun v d H' ρ' R' r q => hr v d σ H' ρ' ⟨R', r⟩ q
theorem js_retF {t : TE} {m : ME} (h : JF Γ pn t m) : JS Γ pn true (tRet t) (mRet m) := fun S σ ρ H τ D N hp R hm hn hr hb hc =>
  h S σ ρ H τ _ _ hp R hm fun p o H' ρ' R' ow h0 ne q => hr _ o σ H' ρ' ⟨p, rfl, R', ow, h0, ne⟩ q
theorem js_retN : JS Γ pn false tRetN mRetN := fun S σ ρ H τ D N hp R hm hn hr hb hc => hr .non .non σ H ρ ⟨R, .non⟩ hm
theorem js_if {t : TT} {ta tb : TS} {c : MT} {a b : MS} (h0 : JT Γ pn t c) (h1 : JS Γ pn fr ta a) (h2 : JS Γ pn fr tb b) : JS Γ pn fr (tIfS t ta tb) (mIfS c a b) := fun S σ ρ H τ D N hp R hm hn hr hb hc =>
  h0 S σ ρ H τ _ _ hp R hm fun k H1 ρ1 R1 q1 => by
    cases k with
    | true => rw [if_pos rfl] at q1 ⊢; exact h1 S σ ρ1 H1 τ D N hp R1 q1 hn hr hb hc
    | false => rw [if_neg Bool.false_ne_true] at q1 ⊢; exact h2 S σ ρ1 H1 τ D N hp R1 q1 hn hr hb hc
/-- assignment to a name -/
def mSet (i : Nat) (m : ME) : MS := fun N ρ => m ρ fun d ρ' => N.nx (ρ'.set i (.val d))
def mSetOwn (i : Nat) (m : ME) : MS := fun N ρ => m ρ fun d ρ' => N.nx (ρ'.set i (.own d))
theorem js_set {i : Nat} {t : TE} {m : ME} (hi : i ∉ pn) (h : JE Γ pn t m) : JS Γ pn fr (tAsg t (gName i)) (mSet i m) := fun S σ ρ H τ D N hp R hm hn hr hb hc =>
  h S σ ρ H τ _ _ hp R hm fun v d H' ρ' R' r q => hn _ H' _ (R'.asg (hp i hi) r) q
theorem js_setOwn {i : Nat} {t : TE} {m : ME} (hi : i ∉ pn) (h : JF Γ pn t m) : JS Γ pn fr (tAsg t (gName i)) (mSetOwn i m) := fun S σ ρ H τ D N hp R hm hn hr hb hc =>
  h S σ ρ H τ _ _ hp R hm fun p o H' ρ' R' ow h0 ne q => hn _ H' _ (R'.asgOwn (hp i hi) ow h0 (fun z => ne (.inl z))) q
end
end M

namespace M
open PySem L2
section
variable {Γ : Cn} {pn : List Nat} {fr : Bool}
/-! ### targets -/
abbrev MG := D → Env → (Env → Prop) → Prop
abbrev MGs := List D → Env → (Env → Prop) → Prop
def JG (Γ : Cn) (pn : List Nat) (g : TG) (m : MG) : Prop :=
  ∀ (S : Fs) (σ : St) (ρ : Env) (H : Hp) (τ : List (V × D)) (v : V) (d : D) (Q : St → Hp → Prop) (q : Env → Prop), PinOk pn S → Rel Γ S H σ ρ τ → Rep Γ (exA S σ ρ) H v d → m d ρ q → (∀ σ' H' ρ', Rel Γ S H' σ' ρ' τ → q ρ' → Q σ' H') → g v σ H Q
def JGs (Γ : Cn) (pn : List Nat) (g : TGs) (m : MGs) : Prop :=
  ∀ (S : Fs) (σ : St) (ρ : Env) (H : Hp) (τ : List (V × D)) (vs : List V) (ds : List D) (Q : St → Hp → Prop) (q : Env → Prop), PinOk pn S → Rel Γ S H σ ρ τ → Reps Γ (exA S σ ρ) H vs ds → m ds ρ q → (∀ σ' H' ρ', Rel Γ S H' σ' ρ' τ → q ρ' → Q σ' H') → g vs σ H Q
def mgName (i : Nat) : MG := fun d ρ q => q (ρ.set i (.val d))
theorem jg_name {i : Nat} (hi : i ∉ pn) : JG Γ pn (gName i) (mgName i) := fun S σ ρ H τ v d Q q hp R r hm hq => hq _ _ _ (R.asg (hp i hi) r) hm
def mgNil : MGs := fun ds ρ q => match ds with | [] => q ρ | _ => False
def mgCons (g : MG) (r : MGs) : MGs := fun ds ρ q => match ds with | d :: ds => g d ρ fun ρ1 => r ds ρ1 q | _ => False
theorem Rel.pushs {S : Fs} {H : Hp} {σ : St} {ρ : Env} {τ : List (V × D)} : ∀ {vs : List V} {ds : List D}, Rel Γ S H σ ρ τ → Reps Γ (exA S σ ρ) H vs ds → Rel Γ S H σ ρ (vs.zip ds ++ τ)
  | [], _, R, _ => R
  | _ :: _, [], R, _ => R
  | v :: vs, d :: ds, R, r => (Rel.pushs R r.tail).push r.head
theorem Rel.pops {S : Fs} {H : Hp} {σ : St} {ρ : Env} {τ : List (V × D)} {vs : List V} {ds : List D} (R : Rel Γ S H σ ρ (vs.zip ds ++ τ)) (hl : vs.length = ds.length) : Rel Γ S H σ ρ τ ∧ Reps Γ (exA S σ ρ) H vs ds := by
  refine ⟨R.cut, hl, fun i v d h1 h2 => R.tmp (v, d) (List.mem_append_left _ (List.mem_iff_getElem?.mpr ⟨i, ?_⟩))⟩
  rw [List.getElem?_zip_eq_some]
  exact ⟨h1, h2⟩
theorem jgs_nil : JGs Γ pn gNil mgNil := fun S σ ρ H τ vs ds Q q hp R r hm hq => by
  cases ds with
  | nil => have h := r.1; cases vs with | nil => exact ⟨rfl, hq _ _ _ R hm⟩ | cons _ _ => simp at h
  | cons _ _ => exact False.elim hm
theorem jgs_cons {g : TG} {u : TGs} {m : MG} {n : MGs} (h1 : JG Γ pn g m) (h2 : JGs Γ pn u n) : JGs Γ pn (gCons g u) (mgCons m n) := fun S σ ρ H τ vs ds Q q hp R r hm hq => by
  cases ds with
  | nil => exact False.elim hm
  | cons d ds =>
    cases vs with
    | nil => have h := r.1; simp at h
    | cons v vs =>
      refine ⟨v, vs, rfl, h1 S σ ρ H (vs.zip ds ++ τ) v d _ _ hp (R.pushs r.tail) r.head hm fun σ' H' ρ' R' q' => ?_⟩
      obtain ⟨R2, r2⟩ := R'.pops r.tail.1
      exact h2 S σ' ρ' H' τ vs ds Q q hp R2 r2 q' hq
def mgTup (m : MGs) (n : Nat) : MG := fun d ρ q => match d with | .tup ds => ds.length = n ∧ m ds ρ q | _ => False
theorem jg_tup {n : Nat} {g : TGs} {m : MGs} (h : JGs Γ pn g m) : JG Γ pn (gTup Γ.K n g) (mgTup m n) := fun S σ ρ H τ v d Q q hp R r hm hq => by
  cases d with
  | tup ds =>
    obtain ⟨a, xs, rfl, hs, rs⟩ := r.tuple
    exact ⟨a, xs, rfl, SqT.of hs, rs.1.trans hm.1, h S σ ρ H τ xs ds Q q hp R rs hm.2 hq⟩
  | _ => exact False.elim hm
/-! ### what is walked -/
abbrev MI := Env → (List D → Env → Prop) → Prop
def ItOk (Γ : Cn) (J : It) (τ' : List (V × D)) (ds : List D) : Prop :=
  ∀ (E : Addr → Prop) (H : Hp) (i : Nat), (∀ a, E a → H a ≠ none) → (∀ x ∈ τ', Rep Γ E H x.1 x.2) →
    (i < ds.length → J.go i H ∧ ∀ x H', J.yld i H x H' → Same H H' ∧ ∃ d, ds[i]? = some d ∧ Rep Γ E H' x d) ∧ (i = ds.length → J.stop i H)
def JI (Γ : Cn) (pn : List Nat) (wi : TI) (m : MI) : Prop :=
  ∀ (S : Fs) (σ : St) (ρ : Env) (H : Hp) (τ : List (V × D)) (Z : It → Hp → Prop) (q : List D → Env → Prop), PinOk pn S → Rel Γ S H σ ρ τ → m ρ q →
    (∀ J ds H' ρ' τ', Rel Γ S H' σ ρ' (τ' ++ τ) → ItOk Γ J τ' ds → q ds ρ' → Z J H') → wi σ H Z
def miSeq (m : ME) : MI := fun ρ q => m ρ fun d ρ' => match d with | .lst ds => q ds ρ' | .tup ds => q ds ρ' | .fz ns => q (ns.map D.int) ρ' | .str x => q (x.cps.toList.map fun c => D.str ⟨#[c]⟩) ρ' | _ => False
def miList (m : ME) : MI := fun ρ q => m ρ fun d ρ' => match d with | .lst ds => q ds ρ' | .fz ns => q (ns.map D.int) ρ' | _ => False
theorem sqL_inj {H : Hp} {a : Addr} {xs ys : List V} (h : H a = some (.lst xs)) (h' : Rd H a (.lst ys)) : xs = ys := by
  rcases h' with z | ⟨o, z⟩ <;> rw [h] at z <;> cases z
  rfl
theorem ji_list {t : TE} {m : ME} (h : JE Γ pn t m) : JI Γ pn (iList Γ.K t) (miList m) := fun S σ ρ H τ Z q hp R hm hz =>
  h S σ ρ H τ _ _ hp R hm fun v d H1 ρ1 R1 r1 q1 => by
    cases d with
    | lst ds =>
      obtain ⟨a, xs, rfl, hs, rs⟩ := r1.list
      refine ⟨a, rfl, ⟨xs, .inl (.inl hs)⟩, hz _ ds H1 ρ1 [(.ref a, .lst ds)] (R1.push r1) ?_ q1⟩
      intro E H i hE hx
      have r := hx (.ref a, .lst ds) (by simp)
      have r' : Rep Γ E H (.ref a) (.lst ds) := r
      obtain ⟨a', xs', e, hs', rs'⟩ := r'.list
      cases e
      refine ⟨fun hi => ?_, fun hi => ⟨xs', .inl (.inl hs'), by rw [rs'.1]; omega⟩⟩
      have hi' : i < xs'.length := by rw [rs'.1]; exact hi
      refine ⟨⟨xs', xs'[i], .inl (.inl hs'), List.getElem?_eq_getElem hi'⟩, fun x H' y => ?_⟩
      obtain ⟨e, y⟩ := y
      subst e
      exact ⟨Same.refl _, ds[i], List.getElem?_eq_getElem hi, rs'.2 i x _ (y xs' (.inl (.inl hs'))) (List.getElem?_eq_getElem hi)⟩
    | fz ns =>
      obtain ⟨a, rfl, hs⟩ := r1.script
      refine ⟨a, rfl, ⟨_, hs⟩, hz _ (ns.map D.int) H1 ρ1 [(.ref a, .fz ns)] (R1.push r1) ?_ q1⟩
      intro E H i hE hx
      have r : Rep Γ E H (.ref a) (.fz ns) := hx (.ref a, .fz ns) (by simp)
      obtain ⟨a', e, hs'⟩ := r.script
      cases e
      refine ⟨fun hi => ?_, fun hi => ⟨_, hs', by simpa using Nat.le_of_eq hi.symm⟩⟩
      have hi' : i < ns.length := by simpa using hi
      refine ⟨⟨_, .int ns[i], hs', by rw [List.getElem?_map, List.getElem?_eq_getElem hi']; rfl⟩, fun x H' y => ?_⟩
      obtain ⟨e, y⟩ := y
      subst e
      have y' := y _ hs'
      rw [List.getElem?_map, List.getElem?_eq_getElem hi'] at y'
      cases y'
      exact ⟨Same.refl _, .int ns[i], by rw [List.getElem?_map, List.getElem?_eq_getElem hi']; rfl, .int _⟩
    | _ => exact False.elim q1
def miTup (m : ME) : MI := fun ρ q => m ρ fun d ρ' => match d with | .tup ds => q ds ρ' | _ => False
def miStr (m : ME) : MI := fun ρ q => m ρ fun d ρ' => match d with | .str x => q (x.cps.toList.map fun c => D.str ⟨#[c]⟩) ρ' | _ => False
theorem ji_str {t : TE} {m : ME} (h : JE Γ pn t m) : JI Γ pn (iStr t) (miStr m) := fun S σ ρ H τ Z q hp R hm hz =>
  h S σ ρ H τ _ _ hp R hm fun v d H1 ρ1 R1 r1 q1 => by
    cases d with
    | str x =>
      cases rep_str r1
      refine ⟨x, rfl, hz _ _ H1 ρ1 [] R1 ?_ q1⟩
      intro E H i hE hx
      refine ⟨fun hi => ?_, fun hi => by show i = x.cps.size; simpa using hi⟩
      have hi' : i < x.cps.size := by simpa using hi
      refine ⟨hi', fun v H' y => ?_⟩
      obtain ⟨e, c, hc, e2⟩ := y
      subst e e2
      refine ⟨Same.refl _, .str ⟨#[c]⟩, ?_, .str _⟩
      have hc' : x.cps.toList[i]? = some c := by simpa using hc
      rw [List.getElem?_map, hc']; rfl
    | _ => exact False.elim q1
def rangeD (lo : Int) (n : Nat) : List D := (List.range n).map fun (i : Nat) => D.int (lo + (i : Int))
def miRange1 (m : MA) : MI := fun ρ q => m ρ fun ds ρ' => match ds with
  | [.int j] => (-1000000 ≤ j ∧ j ≤ 1000000) ∧ q (rangeD 0 j.toNat) ρ'
  | _ => False
def miRange2 (m : MA) : MI := fun ρ q => m ρ fun ds ρ' => match ds with
  | [.int i, .int j] => (-1000000 ≤ i ∧ i ≤ 1000000 ∧ -1000000 ≤ j ∧ j ≤ 1000000) ∧ q (rangeD i (j - i).toNat) ρ'
  | _ => False
theorem it_range {lo : Int} {n : Nat} : ItOk Γ (Itr lo n) [] (rangeD lo n) := fun E H i hE hx => by
  unfold rangeD
  refine ⟨fun hi => ?_, fun hi => by show n ≤ i; simp at hi; omega⟩
  have hi' : i < n := by simpa using hi
  refine ⟨hi', fun x H' y => ?_⟩
  obtain ⟨e, y⟩ := y
  subst e y
  refine ⟨Same.refl _, .int (lo + i), ?_, .int _⟩
  rw [List.getElem?_map, List.getElem?_range hi']; rfl
theorem reps_one {E : Addr → Prop} {H : Hp} {vs : List V} {i : Int} (r : Reps Γ E H vs [.int i]) : vs = [.int i] := by
  match vs, r with
  | [], r => have h := r.1; simp at h
  | [v], r => rw [rep_int r.head]
  | _ :: _ :: _, r => have h := r.1; simp at h
theorem reps_two {E : Addr → Prop} {H : Hp} {vs : List V} {i j : Int} (r : Reps Γ E H vs [.int i, .int j]) : vs = [.int i, .int j] := by
  match vs, r with
  | [], r => have h := r.1; simp at h
  | v :: vs, r => rw [rep_int r.head, reps_one r.tail]
theorem ji_range1 {t : TA} {m : MA} (h : JA Γ pn t m) : JI Γ pn (iRng1 t) (miRange1 m) := fun S σ ρ H τ Z q hp R hm hz =>
  h S σ ρ H τ _ _ hp R hm fun vs ds H1 ρ1 R1 r1 q1 => by
    split at q1
    · exact ⟨_, reps_one r1, by have := q1.1; omega, by have := q1.1; omega, hz _ _ H1 ρ1 [] R1 it_range q1.2⟩
    · exact False.elim q1
theorem ji_range2 {t : TA} {m : MA} (h : JA Γ pn t m) : JI Γ pn (iRng2 t) (miRange2 m) := fun S σ ρ H τ Z q hp R hm hz =>
  h S σ ρ H τ _ _ hp R hm fun vs ds H1 ρ1 R1 r1 q1 => by
    split at q1
    · exact ⟨_, _, reps_two r1, by have := q1.1; omega, hz _ _ H1 ρ1 [] R1 it_range q1.2⟩
    · exact False.elim q1
/-! ### for, while -/
theorem RR.cut {S : Fs} {σ : St} {ρ : Env} {H : Hp} {τ τ' : List (V × D)} {v : V} {d : D} (h : RR Γ fr S σ ρ H (τ' ++ τ) v d) : RR Γ fr S σ ρ H τ v d := by
  cases fr with
  | false => exact ⟨h.1.cut, h.2⟩
  | true => obtain ⟨p, e, R, r⟩ := h; exact ⟨p, e, R.cut, r⟩
def forM (g : MG) (b : MS) : List D → MEnds → Env → Prop
  | [], N, ρ => N.nx ρ
  | d :: ds, N, ρ => g d ρ fun ρ1 => b { nx := fun ρ2 => forM g b ds N ρ2, rt := N.rt, bk := N.nx, ct := fun ρ2 => forM g b ds N ρ2 } ρ1
def mFor (mi : MI) (g : MG) (b : MS) : MS := fun N ρ => mi ρ fun ds ρ1 => forM g b ds N ρ1
theorem js_for {wi : TI} {g : TG} {tb : TS} {mi : MI} {mg : MG} {mb : MS} (hi : JI Γ pn wi mi) (hg : JG Γ pn g mg) (hbd : JS Γ pn fr tb mb) : JS Γ pn fr (tFor wi g tb) (mFor mi mg mb) := fun S σ ρ H τ D N hp R hm hn hr hb hc =>
  hi S σ ρ H τ _ _ hp R hm fun J ds H1 ρ1 τ' R1 ok q1 => by
    refine ⟨fun i m σ H => m = ds.length - i ∧ i ≤ ds.length ∧ ∃ ρ, Rel Γ S H σ ρ (τ' ++ τ) ∧ forM mg mb (ds.drop i) N ρ, ⟨ds.length, by simp, Nat.zero_le _, ρ1, R1, by simpa using q1⟩, ?_⟩
    rintro i m σ2 H2 ⟨rfl, hle, ρ2, R2, q2⟩
    obtain ⟨go, stop⟩ := ok (exA S σ2 ρ2) H2 i (fun a z => exA_some R2 z) fun x hx => R2.tmp x (List.mem_append_left _ hx)
    by_cases hlt : i < ds.length
    · obtain ⟨g1, g2⟩ := go hlt
      have ed : ds.drop i = ds[i] :: ds.drop (i + 1) := List.drop_eq_getElem_cons hlt
      rw [ed] at q2
      refine .inr ⟨g1, fun σ' H' => ∃ ρ', Rel Γ S H' σ' ρ' (τ' ++ τ) ∧ forM mg mb (ds.drop (i + 1)) N ρ', fun σ' H' h => ⟨ds.length - (i + 1), by omega, rfl, hlt, h⟩, fun x H' y => ?_⟩
      obtain ⟨same, d, hd, rx⟩ := g2 x H' y
      rw [List.getElem?_eq_getElem hlt] at hd
      cases hd
      refine hg S σ2 ρ2 H' (τ' ++ τ) x _ _ _ hp (R2.grow same) rx q2 fun σ3 H3 ρ3 R3 q3 => ?_
      exact hbd S σ3 ρ3 H3 (τ' ++ τ) _ _ hp R3 q3 (fun σ' H' ρ' R' q' => ⟨ρ', R', q'⟩) (fun v d σ' H' ρ' r' q' => hr v d σ' H' ρ' r'.cut q') (fun σ' H' ρ' R' q' => hn σ' H' ρ' R'.cut q') (fun σ' H' ρ' R' q' => ⟨ρ', R', q'⟩)
    · have e : i = ds.length := by omega
      subst e
      rw [List.drop_length] at q2
      exact .inl ⟨stop rfl, hn _ _ _ R2.cut q2⟩
def whileM (c : MT) (b : MS) : Nat → MEnds → Env → Prop
  | 0, _, _ => False
  | n + 1, N, ρ => c ρ fun k ρ1 => if k = true then b { nx := fun ρ2 => whileM c b n N ρ2, rt := N.rt, bk := N.nx, ct := fun ρ2 => whileM c b n N ρ2 } ρ1 else N.nx ρ1
def mWhile (c : MT) (b : MS) : MS := fun N ρ => ∃ n, whileM c b n N ρ
theorem js_while {tc : TT} {tb : TS} {mc : MT} {mb : MS} (h0 : JT Γ pn tc mc) (hbd : JS Γ pn fr tb mb) : JS Γ pn fr (tWhile tc tb) (mWhile mc mb) := fun S σ ρ H τ D N hp R hm hn hr hb hc => by
  obtain ⟨n, hm⟩ := hm
  refine ⟨fun m σ H => ∃ ρ, Rel Γ S H σ ρ τ ∧ whileM mc mb m N ρ, ⟨n, ρ, R, hm⟩, ?_⟩
  rintro m σ2 H2 ⟨ρ2, R2, q2⟩
  cases m with
  | zero => exact False.elim q2
  | succ m =>
    refine h0 S σ2 ρ2 H2 τ _ _ hp R2 q2 fun k H3 ρ3 R3 q3 => ?_
    cases k with
    | true =>
      rw [if_pos rfl] at q3 ⊢
      refine ⟨fun σ' H' => ∃ ρ', Rel Γ S H' σ' ρ' τ ∧ whileM mc mb m N ρ', fun σ' H' h => ⟨m, Nat.lt_succ_self _, h⟩, ?_⟩
      exact hbd S σ2 ρ3 H3 τ _ _ hp R3 q3 (fun σ' H' ρ' R' q' => ⟨ρ', R', q'⟩) hr (fun σ' H' ρ' R' q' => hn σ' H' ρ' R' q') (fun σ' H' ρ' R' q' => ⟨ρ', R', q'⟩)
    | false =>
      rw [if_neg Bool.false_ne_true] at q3 ⊢
      exact hn _ _ _ R3 q3
/-! ### comprehensions -/
def mblk (js : List (Option Nat)) (ρ : Env) : Env := js.map fun j => match j with | some j => (ρ[j]?).getD .no | none => .no
def setOwn (ρ : Env) (j : Nat) (o : D) : Env := match ρ[j]? with | some (.own _) => ρ.set j (.own o) | _ => ρ
def merge1 (ρ : Env) (x : Option Nat) (s : Slot) : Env := match x, s with
  | some j, .own o => setOwn ρ j o
  | _, _ => ρ
def mergeB : List (Option Nat) → Env → Env → Env
  | x :: js, s :: ρb, ρ => mergeB js ρb (merge1 ρ x s)
  | _, _, ρ => ρ
def compM (g : MG) (c : MT) (e : ME) : List D → List D → Env → (List D → Env → Prop) → Prop
  | [], acc, ρ, q => q acc ρ
  | d :: ds, acc, ρ, q => g d ρ fun ρ1 => c ρ1 fun b ρ2 => if b = true then e ρ2 fun y ρ3 => compM g c e ds (acc ++ [y]) ρ3 q else compM g c e ds acc ρ2 q
def mComp (mi : MI) (js : List (Option Nat)) (g : MG) (c : MT) (e : ME) : ME := fun ρ q => mi ρ fun ds ρ1 => ds.length ≤ 100000 ∧ compM g c e ds [] (mblk js ρ1) fun ys ρb => q (.lst ys) (mergeB js ρb ρ1)
def pnB (js : List (Option Nat)) : List Nat := (List.range js.length).filter fun k => ((js[k]?).join).isSome
def mTT : MT := fun ρ q => q true ρ
theorem jt_tt : JT Γ pn tTT mTT := fun S σ ρ H τ Q q hp R hm hq => hq true H ρ R hm
/-- the frame of a block -/
def capt (js : List (Option Nat)) (σ : St) (ρ : Env) (k : Nat) : Option Addr := match (js[k]?).join with
  | some j => match ρ[j]?, σ[j]? with
    | some (.own _), some (some (.ref p)) => some p
    | _, _ => none
  | none => none
theorem capt_some {js : List (Option Nat)} {σ : St} {ρ : Env} {k : Nat} {p : Addr} (h : capt js σ ρ k = some p) : ∃ j o, js[k]? = some (some j) ∧ ρ[j]? = some (.own o) ∧ σ[j]? = some (some (.ref p)) := by
  unfold capt at h
  cases e : js[k]? with
  | none => rw [e] at h; cases h
  | some x =>
    rw [e] at h
    cases x with
    | none => cases h
    | some j =>
      dsimp only [Option.join] at h
      refine ⟨j, ?_⟩
      have h : (match ρ[j]?, σ[j]? with
        | some (.own _), some (some (.ref p)) => some p
        | _, _ => none) = some p := h
      split at h
      · rename_i o q e1 e2
        cases h
        exact ⟨o, rfl, e1, e2⟩
      · cases h
theorem capt_of {js : List (Option Nat)} {σ : St} {ρ : Env} {k j : Nat} {p : Addr} {o : D} (h1 : js[k]? = some (some j)) (h2 : ρ[j]? = some (.own o)) (h3 : σ[j]? = some (some (.ref p))) : capt js σ ρ k = some p := by
  unfold capt
  rw [h1]
  show (match ρ[j]?, σ[j]? with
        | some (.own _), some (some (.ref p)) => some p
        | _, _ => none) = some p
  rw [h2, h3]
def Fs.blk (S : Fs) (js : List (Option Nat)) (σ : St) (ρ : Env) (H : Hp) : Fs where
  C := fun a => exA S σ ρ a ∧ ∀ k, capt js σ ρ k ≠ some a
  H0 := H
  pin := capt js σ ρ
theorem blk_get {js : List (Option Nat)} {σ : St} {k j : Nat} (h : js[k]? = some (some j)) : (blk js σ)[k]? = some ((σ[j]?).join) := by
  unfold blk; rw [List.getElem?_map, h]; rfl
theorem mblk_get {js : List (Option Nat)} {ρ : Env} {k j : Nat} (h : js[k]? = some (some j)) : (mblk js ρ)[k]? = some ((ρ[j]?).getD .no) := by
  unfold mblk; rw [List.getElem?_map, h]; rfl
theorem mblk_of {js : List (Option Nat)} {ρ : Env} {k : Nat} {s : Slot} (h : (mblk js ρ)[k]? = some s) (hs : s ≠ .no) : ∃ j, js[k]? = some (some j) ∧ ρ[j]? = some s := by
  unfold mblk at h
  rw [List.getElem?_map] at h
  cases e : js[k]? with
  | none => rw [e] at h; cases h
  | some x =>
    rw [e] at h
    cases x with
    | none => cases h; exact absurd rfl hs
    | some j =>
      refine ⟨j, rfl, ?_⟩
      simp only [Option.map_some, Option.some.injEq] at h
      cases q : ρ[j]? with
      | none => rw [q] at h; exact absurd h.symm hs
      | some u => rw [q] at h; cases h; rfl
def Once (js : List (Option Nat)) : Prop := ∀ (k k' j : Nat), js[k]? = some (some j) → js[k']? = some (some j) → k = k'
section
variable {S : Fs} {H : Hp} {σ : St} {ρ : Env} {τ : List (V × D)} {js : List (Option Nat)}
theorem Rel.blkEx (R : Rel Γ S H σ ρ τ) : ∀ a, exA (S.blk js σ ρ H) (blk js σ) (mblk js ρ) a → exA S σ ρ a := fun a h => by
  rcases h with h | ⟨k, ⟨o, ho⟩, e⟩
  · exact h.1
  · obtain ⟨j, hj, hr⟩ := mblk_of ho (by simp)
    obtain ⟨p, e1, _⟩ := R.own j o hr
    rw [blk_get hj, e1] at e
    cases e
    exact .inr ⟨j, ⟨o, hr⟩, e1⟩
theorem Rel.toBlk (R : Rel Γ S H σ ρ τ) (h1 : Once js) : Rel Γ (S.blk js σ ρ H) H (blk js σ) (mblk js ρ) τ where
  len := by simp [blk, mblk]
  val := fun k d h => by
    obtain ⟨j, hj, hr⟩ := mblk_of h (by simp)
    obtain ⟨v, e, r⟩ := R.val j d hr
    exact ⟨v, by rw [blk_get hj, e]; rfl, r.up (fun b _ => R.blkEx b) fun _ _ _ q => q⟩
  own := fun k o h => by
    obtain ⟨j, hj, hr⟩ := mblk_of h (by simp)
    obtain ⟨p, e, r, n, pn⟩ := R.own j o hr
    have hc := capt_of hj hr e
    exact ⟨p, by rw [blk_get hj, e]; rfl, r.up (fun _ q => q) (fun b _ => R.blkEx b) fun _ _ _ q => q, fun z => z.2 k hc, .inl hc⟩
  pin := fun k p h => by
    obtain ⟨j, o, hj, hr, e⟩ := capt_some h
    exact ⟨by rw [blk_get hj, e]; rfl, o, by rw [mblk_get hj, hr]; rfl⟩
  inj := fun k k' p hk hk' e1 e2 => by
    obtain ⟨o, ho⟩ := hk
    obtain ⟨o', ho'⟩ := hk'
    obtain ⟨j, hj, hr⟩ := mblk_of ho (by simp)
    obtain ⟨j', hj', hr'⟩ := mblk_of ho' (by simp)
    obtain ⟨p1, q1, _⟩ := R.own j o hr
    obtain ⟨p2, q2, _⟩ := R.own j' o' hr'
    rw [blk_get hj, q1] at e1
    rw [blk_get hj', q2] at e2
    cases e1; cases e2
    have := R.inj j j' _ ⟨o, hr⟩ ⟨o', hr'⟩ q1 q2
    subst this
    exact h1 k k' j hj hj'
  dom := fun a h => exA_some R h.1
  fr := fun b o h _ => h
  tmp := fun x hx => (R.tmp x hx).up (fun b _ => R.blkEx b) fun _ _ _ q => q
theorem setOwn_len {ρ : Env} {j : Nat} {o : D} : (setOwn ρ j o).length = ρ.length := by
  unfold setOwn; split <;> simp
theorem setOwn_ne {ρ : Env} {i j : Nat} {o : D} (h : i ≠ j) : (setOwn ρ i o)[j]? = ρ[j]? := by
  unfold setOwn; split
  · exact getElem?_set_ne h
  · rfl
theorem setOwn_at {ρ : Env} {j : Nat} {o : D} (h : isOwn ρ j) : (setOwn ρ j o)[j]? = some (.own o) := by
  obtain ⟨u, hu⟩ := h
  unfold setOwn
  rw [hu]
  dsimp only
  rw [List.getElem?_set, if_pos rfl, if_pos (List.getElem?_eq_some_iff.mp hu).1]
theorem merge1_len {ρ : Env} {x : Option Nat} {s : Slot} : (merge1 ρ x s).length = ρ.length := by
  unfold merge1; split
  · exact setOwn_len
  · rfl
theorem merge1_ne {ρ : Env} {x : Option Nat} {s : Slot} {j : Nat} (h : x = some j → ∀ o, s ≠ .own o) : (merge1 ρ x s)[j]? = ρ[j]? := by
  unfold merge1; split
  · rename_i i o
    exact setOwn_ne fun z => h (by rw [z]) o rfl
  · rfl
/-- a slot stays, or what is changed there is changed -/
theorem merge1_or {ρ : Env} {x : Option Nat} {s : Slot} {j : Nat} : (merge1 ρ x s)[j]? = ρ[j]? ∨ (isOwn ρ j ∧ isOwn (merge1 ρ x s) j) := by
  unfold merge1; split
  · rename_i i o
    by_cases e : i = j
    · subst e
      by_cases h : isOwn ρ i
      · exact .inr ⟨h, o, setOwn_at h⟩
      · refine .inl ?_
        unfold setOwn
        split
        · rename_i u hu; exact absurd ⟨u, hu⟩ h
        · rfl
    · exact .inl (setOwn_ne e)
  · exact .inl rfl
theorem mergeB_len : ∀ {js : List (Option Nat)} {ρb ρ : Env}, (mergeB js ρb ρ).length = ρ.length
  | [], _, _ => by simp [mergeB]
  | x :: js, [], _ => by simp [mergeB]
  | x :: js, s :: ρb, ρ => by rw [mergeB, mergeB_len, merge1_len]
theorem mergeB_or : ∀ {js : List (Option Nat)} {ρb ρ : Env} {j : Nat}, (mergeB js ρb ρ)[j]? = ρ[j]? ∨ (isOwn ρ j ∧ isOwn (mergeB js ρb ρ) j)
  | [], _, _, _ => .inl (by simp [mergeB])
  | x :: js, [], _, _ => .inl (by simp [mergeB])
  | x :: js, s :: ρb, ρ, j => by
    rw [mergeB]
    rcases mergeB_or (js := js) (ρb := ρb) (ρ := merge1 ρ x s) (j := j) with h | ⟨h1, h2⟩
    · rcases merge1_or (ρ := ρ) (x := x) (s := s) (j := j) with g | ⟨g1, g2⟩
      · exact .inl (h.trans g)
      · obtain ⟨o, ho⟩ := g2
        exact .inr ⟨g1, o, h.trans ho⟩
    · refine .inr ⟨?_, h2⟩
      rcases merge1_or (ρ := ρ) (x := x) (s := s) (j := j) with g | ⟨g1, g2⟩
      · obtain ⟨o, ho⟩ := h1
        exact ⟨o, g.symm.trans ho⟩
      · exact g1
theorem mergeB_other : ∀ {js : List (Option Nat)} {ρb ρ : Env} {j : Nat}, (∀ (k : Nat), js[k]? = some (some j) → ∀ o, ρb[k]? ≠ some (Slot.own o)) → (mergeB js ρb ρ)[j]? = ρ[j]?
  | [], _, _, _, _ => by simp [mergeB]
  | x :: js, [], ρ, j, _ => by simp [mergeB]
  | x :: js, s :: ρb, ρ, j, h => by
    have h' : ∀ (k : Nat), js[k]? = some (some j) → ∀ o, ρb[k]? ≠ some (Slot.own o) := fun k hk o => by
      have := h (k + 1) (by simpa using hk) o
      simpa using this
    rw [mergeB, mergeB_other h']
    exact merge1_ne fun e o z => h 0 (by simp [e]) o (by simp [z])
theorem mergeB_at : ∀ {js : List (Option Nat)} {ρb ρ : Env} {j k : Nat} {o : D}, Once js → js[k]? = some (some j) → ρb[k]? = some (Slot.own o) → isOwn ρ j → (mergeB js ρb ρ)[j]? = some (Slot.own o)
  | [], _, _, _, _, _, _, h, _, _ => by simp at h
  | x :: js, [], _, _, _, _, _, _, h, _ => by simp at h
  | x :: js, s :: ρb, ρ, j, k, o, on, h1, h2, hl => by
    have on' : Once js := fun a b i ha hb => by
      have := on (a + 1) (b + 1) i (by simpa using ha) (by simpa using hb)
      omega
    rw [mergeB]
    cases k with
    | zero =>
      simp at h1 h2
      subst h1 h2
      rw [mergeB_other (fun k hk => ?_)]
      · exact setOwn_at hl
      · have := on 0 (k + 1) j rfl (by simpa using hk)
        omega
    | succ k =>
      have h1' : js[k]? = some (some j) := by simpa using h1
      have h2' : ρb[k]? = some (Slot.own o) := by simpa using h2
      refine mergeB_at on' h1' h2' ?_
      rcases merge1_or (ρ := ρ) (x := x) (s := s) (j := j) with g | ⟨_, g2⟩
      · obtain ⟨u, hu⟩ := hl
        exact ⟨u, g.trans hu⟩
      · exact g2
/-- behind a block -/
theorem Rel.ofBlk {H2 : Hp} {σb : St} {ρb : Env} {τb : List (V × D)} (R : Rel Γ S H σ ρ τ) (h1 : Once js) (B : Rel Γ (S.blk js σ ρ H) H2 σb ρb τb) :
    Rel Γ S H2 σ (mergeB js ρb ρ) τ ∧ ∀ a, exA S σ (mergeB js ρb ρ) a → exA (S.blk js σ ρ H) σb ρb a := by
  have at_ : ∀ (j : Nat) (o : D), ρ[j]? = some (Slot.own o) → (∃ (k : Nat) (o' : D), js[k]? = some (some j) ∧ ρb[k]? = some (Slot.own o') ∧ (mergeB js ρb ρ)[j]? = some (Slot.own o')) ∨ ((∀ (k : Nat), js[k]? ≠ some (some j)) ∧ (mergeB js ρb ρ)[j]? = some (Slot.own o)) := fun j o ho => by
    by_cases h : ∃ (k : Nat), js[k]? = some (some j)
    · obtain ⟨k, hk⟩ := h
      obtain ⟨p, e, _⟩ := R.own j o ho
      obtain ⟨_, o', ho'⟩ := B.pin k p (capt_of hk ho e)
      exact .inl ⟨k, o', hk, ho', mergeB_at h1 hk ho' ⟨o, ho⟩⟩
    · have h' : ∀ (k : Nat), js[k]? ≠ some (some j) := fun k hk => h ⟨k, hk⟩
      exact .inr ⟨h', by rw [mergeB_other fun k hk => absurd hk (h' k)]; exact ho⟩
  have own_iff : ∀ j, isOwn (mergeB js ρb ρ) j → isOwn ρ j := fun j ⟨o, ho⟩ => by
    rcases mergeB_or (js := js) (ρb := ρb) (ρ := ρ) (j := j) with g | ⟨g, _⟩
    · exact ⟨o, g.symm.trans ho⟩
    · exact g
  have exE : ∀ a, exA S σ (mergeB js ρb ρ) a → exA S σ ρ a := fun a h => by
    rcases h with h | ⟨j, hj, e⟩
    · exact .inl h
    · exact .inr ⟨j, own_iff j hj, e⟩
  have exB : ∀ a, exA S σ ρ a → exA (S.blk js σ ρ H) σb ρb a := fun a h => by
    by_cases hc : ∃ k, capt js σ ρ k = some a
    · obtain ⟨k, hk⟩ := hc
      obtain ⟨e, ow⟩ := B.pin k a hk
      exact .inr ⟨k, ow, e⟩
    · exact .inl ⟨h, fun k z => hc ⟨k, z⟩⟩
  have keepc : ∀ b u, (∀ k, capt js σ ρ k ≠ some b) → H b = some u → H2 b = some u := fun b u n q => B.fr b u q n
  have captEx : ∀ k b, capt js σ ρ k = some b → exA S σ ρ b := fun k b h => by
    obtain ⟨j, o, _, hr, e⟩ := capt_some h
    exact .inr ⟨j, ⟨o, hr⟩, e⟩
  have keep : ∀ b u, ¬ exA S σ ρ b → H b = some u → H2 b = some u := fun b u n q => keepc b u (fun k z => n (captEx k b z)) q
  refine ⟨?_, fun a h => exB a (exE a h)⟩
  exact {
    len := by rw [mergeB_len]; exact R.len
    val := fun j d hj => by
      have hr : ρ[j]? = some (.val d) := by
        rcases mergeB_or (js := js) (ρb := ρb) (ρ := ρ) (j := j) with g | ⟨_, o, g⟩
        · exact g.symm.trans hj
        · rw [hj] at g; cases g
      obtain ⟨v, e, r⟩ := R.val j d hr
      exact ⟨v, e, r.up (fun b _ => exE b) keep⟩
    own := fun j o hj => by
      obtain ⟨o0, ho⟩ := own_iff j ⟨o, hj⟩
      obtain ⟨p, e, r, n, pn⟩ := R.own j o0 ho
      refine ⟨p, e, ?_, n, pn⟩
      rcases at_ j o0 ho with ⟨k, o', hk, ho', hm⟩ | ⟨hk, hm⟩
      · rw [hm] at hj; cases hj
        have hc := capt_of hk ho e
        obtain ⟨e2, _⟩ := B.pin k p hc
        obtain ⟨p', e3, r', _⟩ := B.own k o ho'
        rw [e2] at e3; cases e3
        exact r'.up (fun _ q => q) (fun b _ z => exB b (exE b z)) fun _ _ _ q => q
      · rw [hm] at hj; cases hj
        refine r.up (fun u q => keepc p u (fun k z => ?_) q) (fun b _ => exE b) keep
        obtain ⟨j', o', hk', hr', e'⟩ := capt_some z
        have := R.inj j j' p ⟨o, ho⟩ ⟨o', hr'⟩ e e'
        subst this
        exact hk k hk'
    pin := fun j p hj => by
      obtain ⟨e, o, ho⟩ := R.pin j p hj
      refine ⟨e, ?_⟩
      rcases at_ j o ho with ⟨k, o', _, _, hm⟩ | ⟨_, hm⟩
      · exact ⟨o', hm⟩
      · exact ⟨o, hm⟩
    inj := fun i j p hi hj e1 e2 => R.inj i j p (own_iff i hi) (own_iff j hj) e1 e2
    dom := fun a ha => by
      by_cases hc : ∃ k, capt js σ ρ k = some a
      · obtain ⟨k, hk⟩ := hc
        obtain ⟨e, o, ho⟩ := B.pin k a hk
        obtain ⟨p, e', r, _⟩ := B.own k o ho
        rw [e] at e'; cases e'
        exact r.ne0
      · cases q : H a with
        | none => exact absurd q (R.dom a ha)
        | some u => rw [keepc a u (fun k z => hc ⟨k, z⟩) q]; simp
    fr := fun b u h0 n => by
      refine keepc b u (fun k z => ?_) (R.fr b u h0 n)
      obtain ⟨j, o, _, hr, e⟩ := capt_some z
      obtain ⟨p, e', _, _, pn⟩ := R.own j o hr
      rw [e] at e'; cases e'
      rcases pn with q | ⟨_, q⟩
      · exact n j q
      · rw [q] at h0; cases h0
    tmp := fun x hx => (R.tmp x hx).up (fun b _ => exE b) keep }
end
end
end M

namespace M
open PySem L2
section
variable {Γ : Cn} {pn : List Nat} {fr : Bool}
theorem pinB {S : Fs} {js : List (Option Nat)} {σ : St} {ρ : Env} {H : Hp} : PinOk (pnB js) (S.blk js σ ρ H) := fun k hk => by
  show capt js σ ρ k = none
  cases e : capt js σ ρ k with
  | none => rfl
  | some p =>
    obtain ⟨j, o, hj, _⟩ := capt_some e
    refine absurd (List.mem_filter.mpr ⟨List.mem_range.mpr (List.getElem?_eq_some_iff.mp hj).1, ?_⟩) hk
    rw [hj]; rfl
theorem zip_snoc {α β : Type} {xs : List α} {ys : List β} {x : α} {y : β} (h : ys.length = xs.length) : (xs ++ [x]).zip (ys ++ [y]) = xs.zip ys ++ [(x, y)] := by
  rw [List.zip_append h.symm]; rfl
theorem jf_comp {wi : TI} {js : List (Option Nat)} {g : TG} {tc : TT} {te : TE} {mi : MI} {mg : MG} {mc : MT} {me : ME} (h1 : Once js) (hi : JI Γ pn wi mi) (hg : JG Γ (pnB js) g mg) (hc : JT Γ (pnB js) tc mc) (he : JE Γ (pnB js) te me) :
    JF Γ pn (tComp wi js g tc te) (mComp mi js mg mc me) := fun S σ ρ H τ Q q hp R hm hq =>
  hi S σ ρ H τ _ _ hp R hm fun J ds H1 ρ1 τ' R1 ok ⟨hlen, q1⟩ => by
    have line : (100000 : Nat) < sizeLine := by decide
    refine ⟨fun i m ys σ' H' => m = ds.length - i ∧ i ≤ ds.length ∧ ys.length ≤ i ∧ ∃ ρb acc, acc.length = ys.length ∧ Rel Γ (S.blk js σ ρ1 H1) H' σ' ρb (ys.zip acc ++ (τ' ++ τ)) ∧ compM mg mc me (ds.drop i) acc ρb fun ys ρb => q (.lst ys) (mergeB js ρb ρ1),
      ⟨ds.length, by simp, Nat.zero_le _, Nat.le_refl _, mblk js ρ1, [], rfl, R1.toBlk h1, by simpa using q1⟩, ?_⟩
    rintro i m ys σ2 H2 ⟨rfl, hle, hyl, ρ2, acc, hacc, R2, q2⟩
    obtain ⟨go, stop⟩ := ok (exA (S.blk js σ ρ1 H1) σ2 ρ2) H2 i (fun a z => exA_some R2 z) fun x hx => R2.tmp x (List.mem_append_right _ (List.mem_append_left _ hx))
    by_cases hlt : i < ds.length
    · obtain ⟨g1, g2⟩ := go hlt
      have ed : ds.drop i = ds[i] :: ds.drop (i + 1) := List.drop_eq_getElem_cons hlt
      rw [ed] at q2
      refine .inr ⟨g1, by omega, fun ys' σ' H' => ys'.length ≤ i + 1 ∧ ∃ ρb acc, acc.length = ys'.length ∧ Rel Γ (S.blk js σ ρ1 H1) H' σ' ρb (ys'.zip acc ++ (τ' ++ τ)) ∧ compM mg mc me (ds.drop (i + 1)) acc ρb fun ys ρb => q (.lst ys) (mergeB js ρb ρ1),
        fun ys' σ' H' h => ⟨ds.length - (i + 1), by omega, rfl, hlt, h.1, h.2⟩, fun x H' y => ?_⟩
      obtain ⟨same, d, hd, rx⟩ := g2 x H' y
      rw [List.getElem?_eq_getElem hlt] at hd
      cases hd
      refine hg _ σ2 ρ2 H' _ x _ _ _ pinB (R2.grow same) rx q2 fun σ3 H3 ρ3 R3 q3 => ?_
      refine hc _ σ3 ρ3 H3 _ _ _ pinB R3 q3 fun b H4 ρ4 R4 q4 => ?_
      cases b with
      | false =>
        rw [if_neg Bool.false_ne_true] at q4 ⊢
        exact ⟨by omega, ρ4, acc, hacc, R4, q4⟩
      | true =>
        rw [if_pos rfl] at q4 ⊢
        refine he _ σ3 ρ4 H4 _ _ _ pinB R4 q4 fun y d H5 ρ5 R5 r5 q5 => ?_
        refine ⟨by simp; omega, ρ5, acc ++ [d], by simp [hacc], { R5 with tmp := fun z hz => ?_ }, q5⟩
        rw [zip_snoc hacc] at hz
        rcases List.mem_append.mp hz with hz | hz
        · rcases List.mem_append.mp hz with hz | hz
          · exact R5.tmp z (List.mem_append_left _ hz)
          · have e : z = (y, d) := by simpa using hz
            subst e; exact r5
        · exact R5.tmp z (List.mem_append_right _ hz)
    · have e : i = ds.length := by omega
      subst e
      rw [List.drop_length] at q2
      refine .inl ⟨stop rfl, by omega, fun p hn => ?_⟩
      obtain ⟨R3, sub⟩ := R1.ofBlk h1 R2
      have rs := (R2.pops hacc.symm).2
      have rs' : Reps Γ (exA S σ (mergeB js ρ2 ρ1)) H2 ys acc := rs.up (fun b _ => sub b) fun _ _ _ z => z
      obtain ⟨a, b, c, d⟩ := fresh_lst R3 rs' hn
      exact hq p _ _ _ a.cut b c d q2
/-! ### lists that are changed, by their names -/
/-- the receiver's own fact -/
theorem own_list {S : Fs} {H : Hp} {σ : St} {ρ : Env} {τ : List (V × D)} {i : Nat} {ds : List D} (R : Rel Γ S H σ ρ τ) (h : ρ[i]? = some (.own (.lst ds))) : ∃ p xs, σ[i]? = some (some (.ref p)) ∧ H p = some (.lst xs) ∧ Reps Γ (exA S σ ρ) H xs ds := by
  obtain ⟨p, e, ⟨xs, hx, r⟩, _⟩ := R.own i _ h
  exact ⟨p, xs, e, hx, r⟩
/-- the list in slot i becomes ys -/
theorem Rel.lset {S : Fs} {H : Hp} {σ : St} {ρ : Env} {τ : List (V × D)} {i : Nat} {ds es : List D} {p : Addr} {ys : List V} (R : Rel Γ S H σ ρ τ) (h : ρ[i]? = some (.own (.lst ds))) (e : σ[i]? = some (some (.ref p))) (r : Reps Γ (exA S σ ρ) H ys es) :
    Rel Γ S (upd H p (.lst ys)) σ (ρ.set i (.own (.lst es))) τ := by
  have hk : ∀ b u, b ≠ p → H b = some u → upd H p (.lst ys) b = some u := fun b u n q => by rw [upd_ne n]; exact q
  refine R.write h e hk ⟨ys, upd_same, r.up (fun _ _ z => z) fun b o n q => hk b o (fun z => n ?_) q⟩
  rw [z]; exact .inr ⟨i, ⟨_, h⟩, e⟩
def ownL (s : Option Slot) (k : List D → Prop) : Prop := match s with | some (.own (.lst ds)) => k ds | _ => False
theorem ownL_of {s : Option Slot} {k : List D → Prop} (h : ownL s k) : ∃ ds, s = some (.own (.lst ds)) ∧ k ds := by
  unfold ownL at h
  split at h
  · exact ⟨_, rfl, h⟩
  · exact False.elim h
/-- x.m(e) of a list that is changed: f: the items and the argument make what is told and the new items -/
def mMut1 (f : List D → D → (D → List D → Prop) → Prop) (i : Nat) (a : ME) : ME := fun ρ q => ownL ρ[i]? fun _ => a ρ fun d ρ1 => ownL ρ1[i]? fun ds => f ds d fun r es => q r (ρ1.set i (.own (.lst es)))
theorem je_mut1 {r : V → List V → Hp → VK → Prop} {f : List D → D → (D → List D → Prop) → Prop} {i : Nat} {ta : TE} {a : ME} (ha : JE Γ pn ta a)
    (hr : ∀ (E : Addr → Prop) (H : Hp) (p : Addr) (xs : List V) (ds : List D) (y : V) (d : D) (Q : VK) (q : D → List D → Prop), H p = some (.lst xs) → Reps Γ E H xs ds → Rep Γ E H y d → f ds d q → (∀ v ys r es, Rep Γ E H v r → Reps Γ E H ys es → q r es → Q v (upd H p (.lst ys))) → r (.ref p) [y] H Q) :
    JE Γ pn (tBM Γ.K "list" r (tVar i) (tCons ta tNil)) (mMut1 f i a) := fun S σ ρ H τ Q q hp R hm hq => by
  obtain ⟨_, h0, hm⟩ := ownL_of hm
  obtain ⟨p, xs, e, hx, rs⟩ := own_list R h0
  refine ⟨_, e, .inl ⟨rfl, xs, .inl (.inl hx)⟩, ?_⟩
  refine ha S σ ρ H τ _ _ hp R hm fun y d H1 ρ1 R1 r1 q1 => ?_
  obtain ⟨ds, h1, q1⟩ := ownL_of q1
  obtain ⟨p', xs', e', hx', rs'⟩ := own_list R1 h1
  rw [e] at e'; cases e'
  refine hr (exA S σ ρ1) H1 p xs' ds y d Q _ hx' rs' r1 q1 fun v ys r es rv re q' => ?_
  have hk : ∀ b u, ¬ exA S σ ρ1 b → H1 b = some u → upd H1 p (.lst ys) b = some u := fun b u n z => by rw [upd_ne (fun w => n (by rw [w]; exact .inr ⟨i, ⟨_, h1⟩, e⟩))]; exact z
  refine hq v r _ _ (R1.lset h1 e re) (rv.up (fun b _ z => ?_) hk) q'
  rcases z with z | ⟨j, ⟨o, ho⟩, ej⟩
  · exact .inl z
  · by_cases ij : i = j
    · subst ij; exact .inr ⟨i, ⟨_, h1⟩, ej⟩
    · rw [getElem?_set_ne ij] at ho; exact .inr ⟨j, ⟨o, ho⟩, ej⟩
def mMut0 (f : List D → (D → List D → Prop) → Prop) (i : Nat) : ME := fun ρ q => ownL ρ[i]? fun ds => f ds fun r es => q r (ρ.set i (.own (.lst es)))
def fAppend : List D → D → (D → List D → Prop) → Prop := fun ds d q => ds.length < 100000 ∧ q .non (ds ++ [d])
theorem je_append {i : Nat} {ta : TE} {a : ME} (ha : JE Γ pn ta a) : JE Γ pn (tBM Γ.K "list" rAppend (tVar i) (tCons ta tNil)) (mMut1 fAppend i a) :=
  je_mut1 ha fun E H p xs ds y d Q q hx rs ry ⟨hl, hq⟩ k => ⟨p, xs, y, rfl, rfl, hx, by rw [rs.1]; exact Nat.lt_trans hl (by decide), k _ _ _ _ .non (rs.append (.cons ry .nil)) hq⟩
def fExtend : List D → D → (D → List D → Prop) → Prop := fun ds d q => match d with | .lst es => ds.length + es.length ≤ 100000 ∧ q .non (ds ++ es) | _ => False
theorem je_extend {i : Nat} {ta : TE} {a : ME} (ha : JE Γ pn ta a) : JE Γ pn (tBM Γ.K "list" rExtend (tVar i) (tCons ta tNil)) (mMut1 fExtend i a) :=
  je_mut1 ha fun E H p xs ds y d Q q hx rs ry hm k => by
    cases d with
    | lst es =>
      obtain ⟨b, zs, rfl, hb, rz⟩ := ry.list
      exact ⟨p, b, xs, zs, rfl, rfl, hx, hb, by rw [rs.1, rz.1]; exact Nat.le_trans hm.1 (by decide), k _ _ _ _ .non (rs.append rz) hm.2⟩
    | _ => exact False.elim hm
def fPop : List D → D → (D → List D → Prop) → Prop := fun ds d q => match d with
  | .int j => (0 ≤ j ∧ j.toNat < ds.length ∧ ds.length < 100000) ∧ q (ds.getD j.toNat .non) (ds.eraseIdx j.toNat)
  | _ => False
theorem seqIndex_nat {j : Int} {n : Nat} (h0 : 0 ≤ j) (h1 : j.toNat < n) : seqIndex? j n = some j.toNat := by
  unfold seqIndex?
  first
    | (simp; omega)
    | (split <;> first | rfl | omega | (simp; omega))
theorem je_pop {i : Nat} {ta : TE} {a : ME} (ha : JE Γ pn ta a) : JE Γ pn (tBM Γ.K "list" rPopAt (tVar i) (tCons ta tNil)) (mMut1 fPop i a) :=
  je_mut1 ha fun E H p xs ds y d Q q hx rs ry hm k => by
    cases d with
    | int j =>
      obtain ⟨⟨h0, h1, h2⟩, hq⟩ := hm
      cases rep_int ry
      have hl : j.toNat < xs.length := by rw [rs.1]; exact h1
      refine ⟨p, xs, j, j.toNat, xs[j.toNat], rfl, rfl, hx, by omega, by omega, seqIndex_nat h0 hl, List.getElem?_eq_getElem hl, k _ _ _ _ (rs.2 j.toNat _ _ (List.getElem?_eq_getElem hl) ?_) (rs.eraseIdx _) hq⟩
      rw [List.getD_eq_getElem?_getD, List.getElem?_eq_getElem h1]; rfl
    | _ => exact False.elim hm
/-- x[e] = v of a list that is changed -/
def mSetIx (i : Nat) (a v : ME) : MS := fun N ρ => v ρ fun d ρ0 => ownL ρ0[i]? fun _ => a ρ0 fun x ρ1 => ownL ρ1[i]? fun ds => match x with
  | .int j => (0 ≤ j ∧ j.toNat < ds.length) ∧ N.nx (ρ1.set i (.own (.lst (ds.set j.toNat d))))
  | _ => False
theorem js_setIx {i : Nat} {tv ta : TE} {v a : ME} (hv : JE Γ pn tv v) (ha : JE Γ pn ta a) : JS Γ pn fr (tAsg tv (gSub (tVar i) ta rSetL)) (mSetIx i a v) := fun S σ ρ H τ D N hp R hm hn hr hb hc =>
  hv S σ ρ H τ _ _ hp R hm fun w d H0 ρ0 R0 r0 q0 => by
    obtain ⟨_, h0, q0⟩ := ownL_of q0
    obtain ⟨p, xs, e, hx, rs⟩ := own_list R0 h0
    refine ⟨_, e, ?_⟩
    refine ha S σ ρ0 H0 ((w, d) :: τ) _ _ hp (R0.push r0) q0 fun y x H1 ρ1 R1 r1 q1 => ?_
    obtain ⟨ds, h1, q1⟩ := ownL_of q1
    cases x with
    | int j =>
      obtain ⟨⟨j0, j1⟩, q1⟩ := q1
      cases rep_int r1
      obtain ⟨p', xs', e', hx', rs'⟩ := own_list R1 h1
      rw [e] at e'; cases e'
      have hl : j.toNat < xs'.length := by rw [rs'.1]; exact j1
      refine ⟨p, xs', j, j.toNat, rfl, rfl, hx', ?_, hn _ _ _ (R1.pop.1.lset h1 e (rs'.set _ R1.pop.2)) q1⟩
      unfold ixN
      rw [if_pos j0, if_pos (by omega)]
    | _ => exact False.elim q1
/-! ### attributes -/
def lookF : List (Nat × D) → Nat → (D → Prop) → Prop
  | [], _, _ => False
  | (g, d) :: r, f, k => if g = f then k d else lookF r f k
def fFld (f : Nat) : F1 := fun d q => match d with | .obj _ fs => lookF fs f q | _ => False
theorem lookup_reps {E : Addr → Prop} {H : Hp} {f : Nat} {k : D → Prop} (hf : f < fNames.length) : ∀ {gs : List (Str × V)} {fs : List (Nat × D)}, (gs.map (·.1) = fs.map fun x => fnm x.1) → Reps Γ E H (gs.map (·.2)) (fs.map (·.2)) → lookF fs f k → ∃ v d, gs.lookup (fnm f) = some v ∧ Rep Γ E H v d ∧ k d
  | [], [], _, _, h => False.elim h
  | [], _ :: _, h, _, _ => by cases h
  | _ :: _, [], h, _, _ => by cases h
  | (a, v) :: gs, (b, e) :: fs, h, r, hl => by
    simp only [List.map_cons, List.cons.injEq] at h
    obtain ⟨rfl, h⟩ := h
    have r' : Reps Γ E H (v :: gs.map (·.2)) (e :: fs.map (·.2)) := r
    have hl : (if b = f then k e else lookF fs f k) := hl
    by_cases q : b = f
    · subst q
      rw [if_pos rfl] at hl
      exact ⟨v, e, by simp, r'.head, hl⟩
    · rw [if_neg q] at hl
      have hne : (fnm f == fnm b) = false := beq_eq_false_iff_ne.mpr fun z => q (fnm_inj b f hf z.symm)
      obtain ⟨w, d, h1, h2⟩ := lookup_reps hf h r'.tail hl
      exact ⟨w, d, by rw [List.lookup_cons, hne]; exact h1, h2⟩
/-- e.f -/
def NoAt (Γ : Cn) (f : Str) : Prop := ∀ c C, Γ.cls c = some C → Cls Γ.K C ∧ NoAttr Γ.K C f
theorem je_fld {f : Nat} {ta : TE} {a : MO} (hf : f < fNames.length) (hn : NoAt Γ (fnm f)) (ha : JO Γ pn ta a) : JE Γ pn (tFld Γ.K ta (fnm f)) (mOp1 (fFld f) a) := fun S σ ρ H τ Q q hp R hm hq =>
  ha S σ ρ H τ _ _ hp R hm fun v r1 H1 ρ1 τ1 R1 o1 q1 => by
    obtain ⟨dx, rx, q1⟩ := R1.read o1 q1
    cases dx with
    | obj c fs =>
      obtain ⟨x, C, dx, gs, rfl, hc, hx, hl, rs⟩ := rx
      obtain ⟨w, d, hw, rw', q1⟩ := lookup_reps hf hl rs q1
      exact ⟨x, C, dx, gs, w, rfl, hx, (hn c C hc).1, (hn c C hc).2, hw, hq w d H1 ρ1 R1.cut rw' q1⟩
    | _ => exact False.elim q1
/-- self.f = e -/
def putD (f : Nat) (d : D) : List (Nat × D) → List (Nat × D)
  | [] => [(f, d)]
  | (g, e) :: r => if g = f then (g, d) :: r else (g, e) :: putD f d r
theorem putD_rep {E : Addr → Prop} {H : Hp} {f : Nat} {v : V} {d : D} (hf : f < fNames.length) (rv : Rep Γ E H v d) : ∀ {gs : List (Str × V)} {fs : List (Nat × D)}, (gs.map (·.1) = fs.map fun x => fnm x.1) → Reps Γ E H (gs.map (·.2)) (fs.map (·.2)) →
    ((putF (fnm f) v gs).map (·.1) = (putD f d fs).map fun x => fnm x.1) ∧ Reps Γ E H ((putF (fnm f) v gs).map (·.2)) ((putD f d fs).map (·.2))
  | [], [], _, _ => ⟨rfl, .cons rv .nil⟩
  | [], _ :: _, h, _ => by cases h
  | _ :: _, [], h, _ => by cases h
  | (a, w) :: gs, (b, e) :: fs, h, r => by
    simp only [List.map_cons, List.cons.injEq] at h
    obtain ⟨rfl, h⟩ := h
    have r' : Reps Γ E H (w :: gs.map (·.2)) (e :: fs.map (·.2)) := r
    by_cases q : b = f
    · subst q
      rw [show putF (fnm b) v ((fnm b, w) :: gs) = (fnm b, v) :: gs from if_pos rfl, show putD b d ((b, e) :: fs) = (b, d) :: fs from if_pos rfl]
      exact ⟨by simp [h], .cons rv r'.tail⟩
    · have hne : ¬ fnm b = fnm f := fun z => q (fnm_inj b f hf z)
      rw [show putF (fnm f) v ((fnm b, w) :: gs) = (fnm b, w) :: putF (fnm f) v gs from if_neg hne, show putD f d ((b, e) :: fs) = (b, e) :: putD f d fs from if_neg q]
      obtain ⟨i1, i2⟩ := putD_rep hf rv h r'.tail
      exact ⟨by rw [List.map_cons, List.map_cons, i1], .cons r'.head i2⟩
def ownO (s : Option Slot) (k : Nat → List (Nat × D) → Prop) : Prop := match s with | some (.own (.obj c fs)) => k c fs | _ => False
theorem ownO_of {s : Option Slot} {k : Nat → List (Nat × D) → Prop} (h : ownO s k) : ∃ c fs, s = some (.own (.obj c fs)) ∧ k c fs := by
  unfold ownO at h
  split at h
  · exact ⟨_, _, rfl, h⟩
  · exact False.elim h
def mSetF (i : Nat) (f : Nat) (m : ME) : MS := fun N ρ => m ρ fun d ρ1 => ownO ρ1[i]? fun c fs => fs.length < 100 ∧ N.nx (ρ1.set i (.own (.obj c (putD f d fs))))
theorem js_setF {i f : Nat} {tv : TE} {m : ME} (hf : f < fNames.length) (hn : NoAt Γ (fnm f)) (hv : JE Γ pn tv m) : JS Γ pn fr (sFld Γ.K (tVar i) tv (fnm f)) (mSetF i f m) := fun S σ ρ H τ D N hp R hm hnx hr hb hc =>
  hv S σ ρ H τ _ _ hp R hm fun w d H1 ρ1 R1 r1 q1 => by
    obtain ⟨c, fs, h1, hl, q1⟩ := ownO_of q1
    obtain ⟨p, e, ⟨C, dx, gs, hc', hx, hk, rs⟩, _⟩ := R1.own i _ h1
    have hlen : gs.length = fs.length := by have := congrArg List.length hk; simpa using this
    have keep : ∀ b u, b ≠ p → H1 b = some u → upd H1 p (.ins C dx (putF (fnm f) w gs)) b = some u := fun b u n q => by rw [upd_ne n]; exact q
    obtain ⟨k1, k2⟩ := putD_rep hf r1 hk rs
    refine ⟨_, e, p, C, dx, gs, rfl, hx, (hn c C hc').1, (hn c C hc').2, by omega, hnx _ _ _ (R1.write (o' := .obj c (putD f d fs)) h1 e keep ⟨C, dx, _, hc', upd_same, k1, k2.up (fun _ _ z => z) fun b o n q => keep b o (fun z => n ?_) q⟩) q1⟩
    rw [z]; exact .inr ⟨i, ⟨_, h1⟩, e⟩
end
end M

namespace M
open PySem L2
/-- a def's promise without a heap: arguments, what is wanted of the value and of what is changed; of an exception -/
abbrev PSp := List Slot → (D → List D → Prop) → (D → List D → Prop) → Prop
def pinD : List Nat → Env → (List D → Prop) → Prop
  | [], _, k => k []
  | i :: r, ρ, k => match ρ[i]? with | some (.own o) => pinD r ρ fun os => k (o :: os) | _ => False
def Pins (pn : List Nat) (ρ : Env) (os : List D) : Prop := os.length = pn.length ∧ ∀ (k i : Nat) o, pn[k]? = some i → os[k]? = some o → ρ[i]? = some (.own o)
theorem pinD_of : ∀ {pn : List Nat} {ρ : Env} {k : List D → Prop}, pinD pn ρ k → ∃ os, Pins pn ρ os ∧ k os
  | [], ρ, k, h => ⟨[], ⟨rfl, fun k i o h => by simp at h⟩, h⟩
  | i :: r, ρ, k, h => by
    unfold pinD at h
    split at h
    · rename_i o ho
      obtain ⟨os, ⟨hl, hp⟩, hk⟩ := pinD_of h
      refine ⟨o :: os, ⟨by simp [hl], fun j x u h1 h2 => ?_⟩, hk⟩
      cases j with
      | zero => simp at h1 h2; subst h1 h2; exact ho
      | succ j => simp at h1 h2; exact hp j x u h1 h2
    · exact False.elim h
def Z0 : D → List D → Prop := fun _ _ => False
def spM (Γ : Cn) (pn : List Nat) (fr : Bool) (n : Nat) (p : PSp) : Sp := fun vs H Q _ => vs.length = n ∧ ∃ (S : Fs) (ss : List Slot) (q : D → List D → Prop), PinOk pn S ∧ S.H0 = H ∧ Rel Γ S H (vs.map some) ss [] ∧ p ss q Z0 ∧
  ∀ v d H' σ' ρ' os, RR Γ fr S σ' ρ' H' [] v d → Pins pn ρ' os → q d os → Q v H'
/-- a body's own promise -/
def mFun (pn : List Nat) (n : Nat) (b : MS) : PSp := fun ss q _ => b { nx := fun ρ => pinD pn ρ (q .non), rt := fun d ρ => pinD pn ρ (q d), bk := fun _ => False, ct := fun _ => False } (ss ++ List.replicate n .no)
section
variable {Γ : Cn} {pn : List Nat} {fr : Bool}
theorem get_more {α : Type} {l : List α} {n i : Nat} {x y : α} (h : (l ++ List.replicate n x)[i]? = some y) (hy : y ≠ x) : l[i]? = some y := by
  by_cases hi : i < l.length
  · rwa [List.getElem?_append_left hi] at h
  · rw [List.getElem?_append_right (by omega), List.getElem?_replicate] at h
    split at h
    · cases h; exact absurd rfl hy
    · cases h
theorem get_less {α : Type} {l m : List α} {i : Nat} {y : α} (h : l[i]? = some y) : (l ++ m)[i]? = some y := by
  rw [List.getElem?_append_left (List.getElem?_eq_some_iff.mp h).1]; exact h
theorem Rel.ext {S : Fs} {H : Hp} {σ : St} {ρ : Env} {τ : List (V × D)} (R : Rel Γ S H σ ρ τ) (n : Nat) : Rel Γ S H (σ ++ List.replicate n none) (ρ ++ List.replicate n .no) τ := by
  have ow : ∀ i, isOwn (ρ ++ List.replicate n .no) i → isOwn ρ i := fun i ⟨o, h⟩ => ⟨o, get_more h (by simp)⟩
  have he : ∀ b, exA S (σ ++ List.replicate n none) (ρ ++ List.replicate n .no) b → exA S σ ρ b := fun b h => by
    rcases h with h | ⟨i, hi, e⟩
    · exact .inl h
    · exact .inr ⟨i, ow i hi, get_more e (by simp)⟩
  exact {
    len := by simp [R.len]
    val := fun i d h => let ⟨v, e, r⟩ := R.val i d (get_more h (by simp)); ⟨v, get_less e, r.up (fun b _ => he b) fun _ _ _ z => z⟩
    own := fun i o h => let ⟨p, e, r, q⟩ := R.own i o (get_more h (by simp)); ⟨p, get_less e, r.up (fun _ z => z) (fun b _ => he b) fun _ _ _ z => z, q⟩
    pin := fun i p h => let ⟨e, o, q⟩ := R.pin i p h; ⟨get_less e, o, get_less q⟩
    inj := fun i j p hi hj e1 e2 => R.inj i j p (ow i hi) (ow j hj) (get_more e1 (by simp)) (get_more e2 (by simp))
    dom := R.dom
    fr := R.fr
    tmp := fun x hx => (R.tmp x hx).up (fun b _ => he b) fun _ _ _ z => z }
/-- the body's reading follows its mirror: the def keeps its promise -/
theorem fn_reads {t : TS} {b : MS} {N : List Str} {n : Nat} {p : PSp} {vs : List V} {H : Hp} {Q : VK} {E : XK} (hb : JS Γ pn fr t b) (hnx : fr = true → ∀ N ρ, b N ρ → b { N with nx := fun _ => False } ρ) (hp : ∀ ss q, ss.length = n → p ss q Z0 → mFun pn (N.length - n) b ss q Z0) (h : spM Γ pn fr n p vs H Q E) :
    t { nx := fun _ H' => Q .non H', rt := Q } (L2.start N vs) H := by
  obtain ⟨hl, S, ss, q, hpin, h0, R, hq, hQ⟩ := h
  have hsl : ss.length = n := by have := R.len; simp at this; omega
  have hm := hp ss q hsl hq
  unfold L2.start
  rw [hl]
  have rt : ∀ v d σ' H' ρ', RR Γ fr S σ' ρ' H' [] v d → pinD pn ρ' (q d) → Q v H' := fun v d σ' H' ρ' r' q' => by
    obtain ⟨os, a, b⟩ := pinD_of q'
    exact hQ _ _ _ _ _ os r' a b
  cases fr with
  | false => exact hb S _ _ H [] _ _ hpin (R.ext _) hm (fun σ' H' ρ' R' q' => rt _ _ _ _ _ ⟨R', .non⟩ q') rt (fun _ _ _ _ z => False.elim z) fun _ _ _ _ z => False.elim z
  | true => exact hb S _ _ H [] _ _ hpin (R.ext _) (hnx rfl _ _ hm) (fun _ _ _ _ z => False.elim z) rt (fun _ _ _ _ z => False.elim z) fun _ _ _ _ z => False.elim z
/-! ### calls -/
theorem rel_args {S : Fs} {H : Hp} {σ : St} {ρ : Env} {τ : List (V × D)} {vs : List V} {ds : List D} (R : Rel Γ S H σ ρ τ) (r : Reps Γ (exA S σ ρ) H vs ds) :
    Rel Γ ⟨exA S σ ρ, H, fun _ => none⟩ H (vs.map some) (ds.map .val) [] := by
  have no : ∀ i, ¬ isOwn (ds.map Slot.val) i := fun i ⟨o, h⟩ => by
    rw [List.getElem?_map] at h
    cases e : ds[i]? with
    | none => rw [e] at h; cases h
    | some d => rw [e] at h; cases h
  have he : ∀ b, exA ⟨exA S σ ρ, H, fun _ => none⟩ (vs.map some) (ds.map .val) b → exA S σ ρ b := fun b h => h.elim id fun ⟨i, hi, _⟩ => absurd hi (no i)
  exact {
    len := by simp [r.1]
    val := fun i d h => by
      rw [List.getElem?_map] at h
      cases e : ds[i]? with
      | none => rw [e] at h; cases h
      | some d' =>
        rw [e] at h; cases h
        obtain ⟨v, h1, h2⟩ := r.get e
        exact ⟨v, by rw [List.getElem?_map, h1]; rfl, h2.up (fun b _ => he b) fun _ _ _ z => z⟩
    own := fun i o h => absurd ⟨o, h⟩ (no i)
    pin := fun i p h => by cases h
    inj := fun i j p hi => absurd hi (no i)
    dom := fun a h => exA_some R h
    fr := fun b o h _ => h
    tmp := fun x h => nomatch h }
def mCall (p : PSp) (a : MA) : ME := fun ρ q => a ρ fun ds ρ1 => p (ds.map .val) (fun d _ => q d ρ1) Z0
/-- what a call of a def that changes nothing leaves -/
theorem after_pure {S : Fs} {H H' : Hp} {σ σ' : St} {ρ ρ' : Env} {τ : List (V × D)} {v : V} {d : D} (R : Rel Γ S H σ ρ τ) (R' : Rel Γ ⟨exA S σ ρ, H, fun _ => none⟩ H' σ' ρ' []) (r : Rep Γ (exA ⟨exA S σ ρ, H, fun _ => none⟩ σ' ρ') H' v d) :
    Rel Γ S H' σ ρ τ ∧ Rep Γ (exA S σ ρ) H' v d :=
  ⟨R.grow fun b o h => R'.fr b o h fun i => by simp, r.up (fun b _ z => .inl z) fun _ _ _ z => z⟩
theorem je_call {n : Nat} {p : PSp} {ta : TA} {a : MA} (ha : JA Γ pn ta a) (hn : ∀ ss q, p ss q Z0 → ss.length = n) : JE Γ pn (tCall (spM Γ [] false n p) [] E0 ta) (mCall p a) := fun S σ ρ H τ Q q hp R hm hq =>
  ha S σ ρ H τ _ _ hp R hm fun vs ds H1 ρ1 R1 r1 q1 => by
    rw [List.append_nil]
    have hl := hn _ _ q1
    refine ⟨by rw [r1.1]; simpa using hl, ⟨exA S σ ρ1, H1, fun _ => none⟩, ds.map .val, _, fun _ _ => rfl, rfl, rel_args R1 r1, q1, fun v d H' σ' ρ' os ⟨R', r'⟩ _ q' => ?_⟩
    obtain ⟨a, b⟩ := after_pure R1 R' r'
    exact hq v d H' ρ1 a b q'
/-! a call that changes its first argument, the one in slot j -/
def mCall0 (j : Nat) (p : PSp) (a : MA) : ME := fun ρ q => match ρ[j]? with
  | some (.own _) => a ρ fun ds ρ1 => match ρ1[j]? with
    | some (.own o) => p (.own o :: ds.map .val) (fun d os => match os with | [o'] => q d (ρ1.set j (.own o')) | _ => False) Z0
    | _ => False
  | _ => False
def pin0 (x : Addr) : Nat → Option Addr := fun i => if i = 0 then some x else none
theorem rel_args0 {S : Fs} {H : Hp} {σ : St} {ρ : Env} {τ : List (V × D)} {vs : List V} {ds : List D} {E : Addr → Prop} {x : Addr} {o : D} (hd : ∀ a, E a → H a ≠ none) (r : Reps Γ (fun a => E a ∨ a = x) H vs ds) (ow : OwnAt Γ (fun a => E a ∨ a = x) H x o) (nx : ¬ E x) :
    Rel Γ ⟨E, H, pin0 x⟩ H (some (.ref x) :: vs.map some) (.own o :: ds.map .val) [] := by
  have no : ∀ i, isOwn (.own o :: ds.map Slot.val) i → i = 0 := fun i ⟨u, h⟩ => by
    cases i with
    | zero => rfl
    | succ i =>
      rw [List.getElem?_cons_succ, List.getElem?_map] at h
      cases e : ds[i]? with
      | none => rw [e] at h; cases h
      | some d => rw [e] at h; cases h
  have he : ∀ b, exA ⟨E, H, pin0 x⟩ (some (.ref x) :: vs.map some) (.own o :: ds.map .val) b → E b ∨ b = x := fun b h => h.elim .inl fun ⟨i, hi, e⟩ => by
    have := no i hi
    subst this
    simp at e
    exact .inr e.symm
  exact {
    len := by simp [r.1]
    val := fun i d h => by
      cases i with
      | zero => simp at h
      | succ i =>
        rw [List.getElem?_cons_succ, List.getElem?_map] at h
        cases e : ds[i]? with
        | none => rw [e] at h; cases h
        | some d' =>
          rw [e] at h; cases h
          obtain ⟨v, h1, h2⟩ := r.get e
          exact ⟨v, by rw [List.getElem?_cons_succ, List.getElem?_map, h1]; rfl, h2.up (fun b _ => he b) fun _ _ _ z => z⟩
    own := fun i u h => by
      have := no i ⟨u, h⟩
      subst this
      simp at h
      subst h
      exact ⟨x, rfl, ow.up (fun _ z => z) (fun b _ => he b) fun _ _ _ z => z, nx, .inl rfl⟩
    pin := fun i p h => by
      unfold pin0 at h
      dsimp only at h
      split at h
      · cases h; rename_i hi; subst hi; exact ⟨rfl, o, rfl⟩
      · cases h
    inj := fun i j p hi hj _ _ => by rw [no i hi, no j hj]
    dom := hd
    fr := fun b u h _ => h
    tmp := fun y h => nomatch h }
theorem pins0 {ρ' : Env} {os : List D} (h : Pins [0] ρ' os) : ∃ o, os = [o] ∧ ρ'[0]? = some (.own o) := by
  obtain ⟨hl, hp⟩ := h
  match os, hl with
  | [o], _ => exact ⟨o, rfl, hp 0 0 o rfl rfl⟩
/-- what a call that changes x leaves -/
theorem after_own {H H' : Hp} {E : Addr → Prop} {x : Addr} {σ' : St} {ρ' : Env} {o : D} (R' : Rel Γ ⟨E, H, pin0 x⟩ H' σ' ρ' []) (ho : ρ'[0]? = some (.own o)) :
    (∀ b u, b ≠ x → H b = some u → H' b = some u) ∧ OwnAt Γ (exA ⟨E, H, pin0 x⟩ σ' ρ') H' x o ∧ ∀ b, (E b ∨ b = x) → exA ⟨E, H, pin0 x⟩ σ' ρ' b := by
  obtain ⟨e0, w0⟩ := R'.pin 0 x (by show (if (0 : Nat) = 0 then some x else none) = _; rfl)
  obtain ⟨p, e1, ow, _⟩ := R'.own 0 o ho
  rw [e0] at e1; cases e1
  refine ⟨fun b u hb h => R'.fr b u h fun i => ?_, ow, fun b hb => ?_⟩
  · show (if i = 0 then some x else none) ≠ some b
    split
    · intro z; cases z; exact hb rfl
    · intro z; cases z
  · rcases hb with hb | hb
    · exact .inl hb
    · subst hb; exact .inr ⟨0, w0, e0⟩
theorem je_call0 {n j : Nat} {p : PSp} {ta : TA} {a : MA} (ha : JA Γ pn ta a) (hn : ∀ ss q, p ss q Z0 → ss.length = n) : JE Γ pn (tCall (spM Γ [0] false n p) [] E0 (tCons (tVar j) ta)) (mCall0 j p a) := fun S σ ρ H τ Q q hp R hm hq => by
  unfold mCall0 at hm
  split at hm
  · rename_i o0 h0
    obtain ⟨x, e, _⟩ := R.own j o0 h0
    refine ⟨_, e, ?_⟩
    refine ha S σ ρ H τ _ _ hp R hm fun vs ds H1 ρ1 R1 r1 q1 => ?_
    show spM Γ [0] false n p ((V.ref x :: vs) ++ []) H1 Q E0
    rw [List.append_nil]
    split at q1
    · rename_i o h1
      obtain ⟨x', e', ow, nC, _⟩ := R1.own j o h1
      rw [e] at e'; cases e'
      have ex1 : ∀ b, (exA S σ ρ1 b ∧ b ≠ x) ∨ b = x → exA S σ ρ1 b := fun b h => h.elim And.left fun z => by rw [z]; exact .inr ⟨j, ⟨o, h1⟩, e⟩
      have ex2 : ∀ b, exA S σ ρ1 b → (exA S σ ρ1 b ∧ b ≠ x) ∨ b = x := fun b h => by
        by_cases z : b = x
        · exact .inr z
        · exact .inl ⟨h, z⟩
      have hl := hn _ _ q1
      refine ⟨by have := r1.1; simp at hl; simp; omega, ⟨fun a => exA S σ ρ1 a ∧ a ≠ x, H1, pin0 x⟩, _, _, fun i hi => ?_, rfl,
        rel_args0 (S := S) (σ := σ) (ρ := ρ1) (τ := τ) (fun a h => exA_some R1 h.1) (r1.up (fun b _ => ex1 b) fun _ _ _ z => z) (ow.up (fun _ z => z) (fun b _ => ex1 b) fun _ _ _ z => z) (fun z => z.2 rfl), q1, fun v d H' σ' ρ' os ⟨R', r'⟩ ps q' => ?_⟩
      · show (if i = 0 then some x else none) = none
        rw [if_neg (by simpa using hi)]
      · obtain ⟨o', rfl, ho'⟩ := pins0 ps
        obtain ⟨k1, k2, k3⟩ := after_own R' ho'
        have k2' : OwnAt Γ (exA S σ ρ1) H' x o' := k2.up (fun _ z => z) (fun b _ z => k3 b (ex2 b z)) fun _ _ _ z => z
        refine hq v d H' _ (R1.write h1 e k1 k2') (r'.up (fun b _ z => k3 b (ex2 b ?_)) fun _ _ _ z => z) q'
        rcases z with z | ⟨i, ⟨u, hu⟩, ei⟩
        · exact .inl z
        · by_cases ij : j = i
          · subst ij; exact .inr ⟨j, ⟨o, h1⟩, ei⟩
          · rw [getElem?_set_ne ij] at hu; exact .inr ⟨i, ⟨u, hu⟩, ei⟩
    · exact False.elim q1
  · exact False.elim hm
/-! a new instance -/
def mMake (c : Nat) (p : PSp) (a : MA) : ME := fun ρ q => a ρ fun ds ρ1 => p (.own (.obj c []) :: ds.map .val) (fun d os => match d, os with | .non, [o] => q o ρ1 | _, _ => False) Z0
theorem Rel.addS {S : Fs} {H H' : Hp} {σ : St} {ρ : Env} {τ : List (V × D)} (R : Rel Γ S H σ ρ τ) {p : Addr} (hp : H p = none) (g : Same H H') (hn : H' p ≠ none) : Rel Γ (S.add p) H' σ ρ τ := by
  have he : ∀ b, H b ≠ none → exA (S.add p) σ ρ b → exA S σ ρ b := fun b hb h => by
    rcases h with (h | h) | h
    · exact .inl h
    · subst h; exact absurd hp hb
    · exact .inr h
  exact {
    len := R.len
    val := fun i d h => let ⟨v, e, r⟩ := R.val i d h; ⟨v, e, r.up he fun b o _ q => g b o q⟩
    own := fun i o h => by
      obtain ⟨q, e, r, n, pn⟩ := R.own i o h
      refine ⟨q, e, r.up (fun u => g q u) he fun b o _ q => g b o q, ?_, pn⟩
      rintro (z | z)
      · exact n z
      · subst z; exact r.ne0 hp
    pin := R.pin
    inj := R.inj
    dom := fun a h => by
      rcases h with h | h
      · cases e : H a with
        | none => exact absurd e (R.dom a h)
        | some u => rw [g a u e]; simp
      · subst h; exact hn
    fr := fun b o h n => g b o (R.fr b o h n)
    tmp := fun x hx => (R.tmp x hx).up he fun b o _ q => g b o q }
theorem jf_call {n : Nat} {p : PSp} {ta : TA} {a : MA} (ha : JA Γ pn ta a) (hn : ∀ ss q, p ss q Z0 → ss.length = n) : JF Γ pn (tCall (spM Γ [] true n p) [] E0 ta) (mCall p a) := fun S σ ρ H τ Q q hp R hm hq =>
  ha S σ ρ H τ _ _ hp R hm fun vs ds H1 ρ1 R1 r1 q1 => by
    rw [List.append_nil]
    have hl := hn _ _ q1
    refine ⟨by rw [r1.1]; simpa using hl, ⟨exA S σ ρ1, H1, fun _ => none⟩, ds.map .val, _, fun _ _ => rfl, rfl, rel_args R1 r1, q1, fun v d H' σ' ρ' os ⟨p, e, R', ow, h0, ne⟩ _ q' => ?_⟩
    subst e
    have h0 : H1 p = none := h0
    have same : Same H1 H' := fun b o h => R'.fr b o h fun i => by show (none : Option Addr) ≠ some b; simp
    refine hq p d H' ρ1 (R1.addS h0 same ow.ne0) (ow.up (fun _ z => z) (fun b _ z => ?_) fun _ _ _ z => z) (R1.new h0) (fun z => exA_some R1 z h0) q'
    rcases z with (z | z) | z
    · exact .inl (.inl (.inl z))
    · exact .inl (.inr z)
    · exact .inl (.inl (.inr z))
theorem jf_make {n c : Nat} {C : Addr} {p : PSp} {ta : TA} {a : MA} (hC : Γ.cls c = some C) (ha : JA Γ pn ta a) (hn : ∀ ss q, p ss q Z0 → ss.length = n) : JF Γ pn (tMake C (spM Γ [0] false n p) [] E0 ta) (mMake c p a) := fun S σ ρ H τ Q q hp R hm hq =>
  ha S σ ρ H τ _ _ hp R hm fun vs ds H1 ρ1 R1 r1 q1 => by
    intro x dx hx hdx hne
    rw [List.append_nil]
    have hl := hn _ _ q1
    have g1 : Same H1 (upd (upd H1 dx (.own x)) x (.ins C dx [])) := fun b o h => by rw [upd_ne (ne_of_none h hx), upd_ne (ne_of_none h hdx)]; exact h
    have hxE : ¬ exA S σ ρ1 x := fun z => exA_some R1 z hx
    refine ⟨by have := r1.1; simp at hl; simp; omega, ⟨exA S σ ρ1, _, pin0 x⟩, _, _, fun i hi => ?_, rfl,
      rel_args0 (S := S) (σ := σ) (ρ := ρ1) (τ := τ) (o := .obj c []) (fun a h => ?_) (r1.up (fun b hb z => z.elim id fun w => by subst w; exact absurd hx hb) fun b o _ z => g1 b o z) ⟨C, dx, [], hC, upd_same, rfl, .nil⟩ hxE, q1, fun v d H' σ' ρ' os ⟨R', r'⟩ ps q' => ?_⟩
    · show (if i = 0 then some x else none) = none
      rw [if_neg (by simpa using hi)]
    · cases e : H1 a with
      | none => exact absurd e (exA_some R1 h)
      | some u => exact fun z => absurd ((g1 a u e).symm.trans z) (by simp)
    · obtain ⟨o', rfl, ho'⟩ := pins0 ps
      obtain ⟨k1, k2, k3⟩ := after_own R' ho'
      cases d with
      | non =>
        cases r'
        have same : Same H1 H' := fun b u h => k1 b u (ne_of_none h hx) (g1 b u h)
        refine ⟨rfl, hq x o' H' ρ1 (R1.addS hx same k2.ne0) (k2.up (fun _ z => z) (fun b _ z => k3 b ?_) fun _ _ _ z => z) (R1.new hx) hxE q'⟩
        rcases z with (z | z) | z
        · exact .inl (.inl z)
        · exact .inr z
        · exact .inl (.inr z)
      | _ => exact False.elim q'
/-! methods, by the class of the receiver -/
def tMethD (m : Str) (disp : Addr → Sp → Prop) (ta : TE) (t : TA) : TE := fun σ H Q => ta σ H fun x H1 => ∃ a C dx fs sp, x = .ref a ∧ H1 a = some (.ins C dx fs) ∧ fs.lookup m = none ∧ disp C sp ∧ t σ H1 fun vs H2 => sp (x :: vs) H2 Q E0
def mMeth (tbl : Nat → Option PSp) (a : ME) (r : MA) : ME := fun ρ q => a ρ fun x ρ1 => match x with
  | .obj c fs => match tbl c with
    | some p => r ρ1 fun ds ρ2 => p (.val (.obj c fs) :: ds.map .val) (fun d _ => q d ρ2) Z0
    | none => False
  | _ => False
def dispOf (Γ : Cn) (tbl : Nat → Option PSp) (n : Nat) : Addr → Sp → Prop := fun C sp => ∃ c p, Γ.cls c = some C ∧ tbl c = some p ∧ sp = spM Γ [] false n p
theorem look_none {m : Str} (hm : ∀ n, fnm n ≠ m) : ∀ {gs : List (Str × V)} {fs : List (Nat × D)}, (gs.map (·.1) = fs.map fun x => fnm x.1) → gs.lookup m = none
  | [], _, _ => rfl
  | _ :: _, [], h => by cases h
  | (a, v) :: gs, (b, e) :: fs, h => by
    simp only [List.map_cons, List.cons.injEq] at h
    obtain ⟨rfl, h⟩ := h
    rw [List.lookup_cons, beq_eq_false_iff_ne.mpr fun z => hm b z.symm]
    exact look_none hm h
theorem je_meth {n : Nat} {m : Str} {tbl : Nat → Option PSp} {ta : TE} {a : ME} {tr : TA} {r : MA} (hm : ∀ n, fnm n ≠ m) (ha : JE Γ pn ta a) (hr : JA Γ pn tr r) (hn : ∀ c p ss q, tbl c = some p → p ss q Z0 → ss.length = n) :
    JE Γ pn (tMethD m (dispOf Γ tbl n) ta tr) (mMeth tbl a r) := fun S σ ρ H τ Q q hp R hmm hq =>
  ha S σ ρ H τ _ _ hp R hmm fun v x H1 ρ1 R1 r1 q1 => by
    cases x with
    | obj c fs =>
      dsimp only at q1
      split at q1
      · rename_i p hp'
        cases id r1 with
        | obj ne hc h l rs =>
          refine ⟨_, _, _, _, _, rfl, h, look_none hm l, ⟨c, p, hc, hp', rfl⟩, ?_⟩
          refine hr S σ ρ1 H1 (_ :: τ) _ _ hp (R1.push r1) q1 fun vs ds H2 ρ2 R2 r2 q2 => ?_
          have hl := hn _ _ _ _ hp' q2
          have rr : Reps Γ (exA S σ ρ2) H2 (_ :: vs) (.obj c fs :: ds) := .cons R2.pop.2 r2
          refine ⟨by rw [rr.1]; simpa using hl, ⟨exA S σ ρ2, H2, fun _ => none⟩, _, _, fun _ _ => rfl, rfl, rel_args R2.pop.1 rr, q2, fun v d H' σ' ρ' os ⟨R', r'⟩ _ q' => ?_⟩
          obtain ⟨a, b⟩ := after_pure R2.pop.1 R' r'
          exact hq v d H' ρ2 a b q'
      · exact False.elim q1
    | _ => exact False.elim q1
end
section
variable {X : Cx} {m : Str} {disp : Addr → Sp → Prop} {pos apos : Pos} {e o : Expr} {es : List Expr} {ta : TE} {t : TA}
def DispOk (X : Cx) (m : Str) (disp : Addr → Sp → Prop) : Prop := ∀ C sp, disp C sp → Cls X.K C ∧ ∃ k f fd ps, Meth X.K C m f ∧ FnOk X.prog X.w X.K X.mg X.base CX0 k f fd ps sp ∧ Room k X.A ∧ Binds X.K fd ps []
theorem pe_methD {pl : Sem Bool} (he : PE X o ta) (hD : DispOk X m disp) (ha : PA X (e :: es) t)
    (hst : starEach (e :: es) X.env = (false, eval e X.env) :: starEach es X.env := by rfl) (hpl : (backTo pos (starEach es X.env)).any (·.1) = false := by rfl)
    (ht : eval (.Call (.Attribute o m apos) (e :: es) [] pos) X.env = (do
      let ov ← eval o X.env
      standAt apos.atName
      let (f, first) ← holding [ov] (getMethod ov m pl)
      callWith pos f first (backTo pos (starEach (e :: es) X.env)) (backToKw pos (keywordEach [] X.env))) := by rfl) :
    PE X (.Call (.Attribute o m apos) (e :: es) [] pos) (tMethD m disp ta t) := by
  intro pins s σ H Q I h
  refine PySem.W.methodCall_KW (pl := pl) (thn (he pins s σ H _ I h) fun u s1 ⟨x, H1, I1, rx, a, C, dx, fs, sp, ex, ea, l, hd, q⟩ => ?_) ht
  subst ex
  obtain rfl : u = Value.ref a := rx
  obtain ⟨c, k, f, fd, ps, hm, F, hr, hb⟩ := hD C sp hd
  refine getmeth_ok I1 ea c hm l ?_
  refine PySem.W.callWith_K (first := [.ref a]) (h₀ := X.base) I.ok.mod.kin hm.kp (thn (ha pos pins s1 σ H1 _ I1 q) fun us s2 ⟨vs, H2, I2, r, q2⟩ => ⟨I2.kIn, ?_⟩) hst hpl
  exact run_fn (us := .ref a :: us) (vs := .ref a :: vs) (dvs := []) (ds := []) F hr hb .nil pass0 I2 (.cons rfl r) (by rw [List.append_nil]; exact q2)
theorem pe_methD0 {pl : Sem Bool} (he : PE X o ta) (hD : DispOk X m disp)
    (ht : eval (.Call (.Attribute o m apos) [] [] pos) X.env = (do
      let ov ← eval o X.env
      standAt apos.atName
      let (f, first) ← holding [ov] (getMethod ov m pl)
      callWith pos f first (backTo pos (starEach [] X.env)) (backToKw pos (keywordEach [] X.env))) := by rfl) :
    PE X (.Call (.Attribute o m apos) [] [] pos) (tMethD m disp ta tNil) := by
  intro pins s σ H Q I h
  refine PySem.W.methodCall_KW (pl := pl) (thn (he pins s σ H _ I h) fun u s1 ⟨x, H1, I1, rx, a, C, dx, fs, sp, ex, ea, l, hd, q⟩ => ?_) ht
  subst ex
  obtain rfl : u = Value.ref a := rx
  obtain ⟨c, k, f, fd, ps, hm, F, hr, hb⟩ := hD C sp hd
  refine getmeth_ok I1 ea c hm l ?_
  exact PySem.W.callWith_K0 (first := [.ref a]) I1.kIn hm.kp (run_fn (us := [.ref a]) (vs := [.ref a]) (dvs := []) (ds := []) F hr hb .nil pass0 I1 (.cons rfl .nil) q)
end
end M

namespace M
open PySem L2
section
variable {Γ : Cn} {pn : List Nat}
theorem repB_flat {E : Addr → Prop} {H : Hp} {v : V} {d : D} (r : RepB Γ E H v d) (h : flatD d = true) : v = vD d := by
  cases d with
  | non => exact Rep.flat (show Rep Γ E H v .non from r) rfl
  | bl b => exact Rep.flat (show Rep Γ E H v (.bl b) from r) rfl
  | int b => exact Rep.flat (show Rep Γ E H v (.int b) from r) rfl
  | str b => exact Rep.flat (show Rep Γ E H v (.str b) from r) rfl
  | ty b => exact Rep.flat (show Rep Γ E H v (.ty b) from r) rfl
  | _ => cases h
theorem repB_int {E : Addr → Prop} {H : Hp} {v : V} {i : Int} (r : RepB Γ E H v (.int i)) : v = .int i := repB_flat r rfl
theorem repB_str {E : Addr → Prop} {H : Hp} {v : V} {i : Str} (r : RepB Γ E H v (.str i)) : v = .str i := repB_flat r rfl
theorem repB_bl {E : Addr → Prop} {H : Hp} {v : V} {i : Bool} (r : RepB Γ E H v (.bl i)) : v = .bl i := repB_flat r rfl
/-! ### ints -/
def fI0 (g : Int → Int → D) : F2 := fun x y q => match x, y with | .int i, .int j => q (g i j) | _, _ => False
def fI (C : Int → Int → Prop) (g : Int → Int → D) : F2 := fun x y q => match x, y with | .int i, .int j => C i j ∧ q (g i j) | _, _ => False
theorem ok_I0 {gv : Int → Int → V} {g : Int → Int → D} (hf : ∀ i j, flatD (g i j) = true) (hv : ∀ i j, gv i j = vD (g i j)) : OpOk Γ (rI0 gv) (fI0 g) := fun E H x y dx dy Q q _ rx ry h k => by
  unfold fI0 at h
  split at h
  · rename_i i j
    refine ⟨i, j, repB_int rx, repB_int ry, k _ _ H (Same.refl H) ?_ h⟩
    rw [hv]; exact rep_flat (hf i j)
  · exact False.elim h
theorem ok_I {C : Int → Int → Prop} {gv : Int → Int → V} {g : Int → Int → D} (hf : ∀ i j, flatD (g i j) = true) (hv : ∀ i j, gv i j = vD (g i j)) : OpOk Γ (rI C gv) (fI C g) := fun E H x y dx dy Q q _ rx ry h k => by
  unfold fI at h
  split at h
  · rename_i i j
    refine ⟨i, j, repB_int rx, repB_int ry, h.1, k _ _ H (Same.refl H) ?_ h.2⟩
    rw [hv]; exact rep_flat (hf i j)
  · exact False.elim h
def fNeg : F1 := fun x q => match x with | .int i => q (.int (-i)) | _ => False
theorem ok_neg : Op1Ok Γ (rU fun i => .int (-i)) fNeg := fun E H x dx Q q _ rx h k => by
  cases dx with
  | int i => exact ⟨i, repB_int rx, k _ _ H (Same.refl H) (.int _) h⟩
  | _ => exact False.elim h
/-! ### == and != of plain values -/
def eqS : D → D → Option Bool
  | .non, .non => some true
  | .non, .int _ => some false | .int _, .non => some false | .non, .bl _ => some false | .bl _, .non => some false | .non, .str _ => some false | .str _, .non => some false
  | .int i, .int j => some (decide (i = j))
  | .bl a, .bl b => some (decide (a = b))
  | .str a, .str b => some (decide (a = b))
  | .int _, .str _ => some false | .str _, .int _ => some false | .bl _, .str _ => some false | .str _, .bl _ => some false
  | _, _ => none
theorem dec_eq {α β : Type} [DecidableEq α] [DecidableEq β] {f : α → β} (hf : ∀ a b, f a = f b → a = b) (a b : α) : decide (f a = f b) = decide (a = b) := by
  by_cases h : a = b
  · subst h; simp
  · rw [decide_eq_false h, decide_eq_false fun z => h (hf a b z)]
theorem eqS_ok {x y : D} {b : Bool} (h : eqS x y = some b) : flatD x = true ∧ flatD y = true ∧ scal (vD x) (vD y) = true ∧ decide (vD x = vD y) = b := by
  unfold eqS at h
  split at h <;> first
    | (cases h; refine ⟨rfl, rfl, rfl, ?_⟩; first | rfl | (simp [vD]) | exact dec_eq (fun _ _ z => by injection z) _ _)
    | cases h
def fEq : F2 := fun x y q => match eqS x y with | some b => q (.bl b) | none => False
def fNe : F2 := fun x y q => match eqS x y with | some b => q (.bl (!b)) | none => False
theorem ok_eq : OpOk Γ rEq fEq := fun E H x y dx dy Q q _ rx ry h k => by
  unfold fEq at h
  split at h
  · rename_i b hb
    obtain ⟨f1, f2, s, e⟩ := eqS_ok hb
    rw [repB_flat rx f1, repB_flat ry f2]
    exact ⟨s, by rw [e]; exact k _ _ H (Same.refl H) (.bl _) h⟩
  · exact False.elim h
theorem ok_ne : OpOk Γ rNe fNe := fun E H x y dx dy Q q _ rx ry h k => by
  unfold fNe at h
  split at h
  · rename_i b hb
    obtain ⟨f1, f2, s, e⟩ := eqS_ok hb
    rw [repB_flat rx f1, repB_flat ry f2]
    exact ⟨s, by rw [e]; exact k _ _ H (Same.refl H) (.bl _) h⟩
  · exact False.elim h
/-! ### is -/
def isNon : D → Bool | .non => true | _ => false
def fIsN : F2 := fun x y q => match y with | .non => q (.bl (isNon x)) | _ => False
def fNotN : F2 := fun x y q => match y with | .non => q (.bl (!isNon x)) | _ => False
theorem isNon_ok {E : Addr → Prop} {H : Hp} {v : V} {d : D} (r : RepB Γ E H v d) : decide (v = .non) = isNon d := by
  cases d with
  | non => rw [repB_flat r rfl]; rfl
  | bl b => rw [repB_flat r rfl]; rfl
  | int b => rw [repB_flat r rfl]; rfl
  | str b => rw [repB_flat r rfl]; rfl
  | ty b => rw [repB_flat r rfl]; rfl
  | lst ds => obtain ⟨a, _, rfl, _⟩ := r; rfl
  | tup ds => obtain ⟨a, _, rfl, _⟩ := Rep.tuple r; rfl
  | fz ds => obtain ⟨a, rfl, _⟩ := Rep.script r; rfl
  | dK ds => obtain ⟨a, _, rfl, _⟩ := r; rfl
  | dT ds => obtain ⟨a, _, rfl, _⟩ := r; rfl
  | obj c fs => obtain ⟨a, _, _, _, rfl, _⟩ := r; rfl
theorem ok_isN : OpOk Γ (fun x y H Q => y = .non ∧ Q (.bl (decide (x = .non))) H) fIsN := fun E H x y dx dy Q q _ rx ry h k => by
  cases dy with
  | non => refine ⟨repB_flat ry rfl, ?_⟩; rw [isNon_ok rx]; exact k _ _ H (Same.refl H) (.bl _) h
  | _ => exact False.elim h
theorem ok_notN : OpOk Γ (fun x y H Q => y = .non ∧ Q (.bl (!decide (x = .non))) H) fNotN := fun E H x y dx dy Q q _ rx ry h k => by
  cases dy with
  | non => refine ⟨repB_flat ry rfl, ?_⟩; rw [isNon_ok rx]; exact k _ _ H (Same.refl H) (.bl _) h
  | _ => exact False.elim h
def fIsB : F2 := fun x y q => match x, y with | .bl a, .bl b => q (.bl (a == b)) | _, _ => False
def fIsNB : F2 := fun x y q => match x, y with | .bl a, .bl b => q (.bl (a != b)) | _, _ => False
theorem ok_isB : OpOk Γ (fun x y H Q => ∃ c d, x = .bl c ∧ y = .bl d ∧ Q (.bl (c == d)) H) fIsB := fun E H x y dx dy Q q _ rx ry h k => by
  unfold fIsB at h
  split at h
  · exact ⟨_, _, repB_bl rx, repB_bl ry, k _ _ H (Same.refl H) (.bl _) h⟩
  · exact False.elim h
theorem ok_isNB : OpOk Γ (fun x y H Q => ∃ c d, x = .bl c ∧ y = .bl d ∧ Q (.bl (c != d)) H) fIsNB := fun E H x y dx dy Q q _ rx ry h k => by
  unfold fIsNB at h
  split at h
  · exact ⟨_, _, repB_bl rx, repB_bl ry, k _ _ H (Same.refl H) (.bl _) h⟩
  · exact False.elim h
/-! ### texts -/
def fAddS : F2 := fun x y q => match x, y with | .str a, .str b => a.length + b.length ≤ 100000 ∧ q (.str (a ++ b)) | _, _ => False
theorem ok_addS : OpOk Γ (fun x y H Q => ∃ i j, x = .str i ∧ y = .str j ∧ i.length + j.length ≤ sizeLine ∧ Q (.str (i ++ j)) H) fAddS := fun E H x y dx dy Q q _ rx ry h k => by
  unfold fAddS at h
  split at h
  · exact ⟨_, _, repB_str rx, repB_str ry, Nat.le_trans h.1 (by decide), k _ _ H (Same.refl H) (.str _) h.2⟩
  · exact False.elim h
def fLeS : F2 := fun x y q => match x, y with | .str a, .str b => q (.bl (!decide (b.cps.toList < a.cps.toList))) | _, _ => False
theorem ok_leS : OpOk Γ (fun x y H Q => ∃ i j, x = .str i ∧ y = .str j ∧ Q (.bl (!(decide (j.cps.toList < i.cps.toList)))) H) fLeS := fun E H x y dx dy Q q _ rx ry h k => by
  unfold fLeS at h
  split at h
  · exact ⟨_, _, repB_str rx, repB_str ry, k _ _ H (Same.refl H) (.bl _) h⟩
  · exact False.elim h
/-! ### in, not in -/
def eqF : D → D → Bool
  | .non, .non => true
  | .bl a, .bl b => a == b
  | .bl a, .int b => (if a then 1 else 0) == b
  | .int a, .bl b => a == (if b then 1 else 0)
  | .int a, .int b => a == b
  | .str a, .str b => a == b
  | _, _ => false
def flat4 : D → Bool | .non => true | .bl _ => true | .int _ => true | .str _ => true | _ => false
theorem flat4_flat {d : D} (h : flat4 d = true) : flatD d = true := by cases d <;> first | rfl | cases h
theorem eqF_ok {x y : D} (h1 : flat4 x = true) (h2 : flat4 y = true) : eqV (vD x) (vD y) = eqF x y := by
  cases x <;> cases y <;> first | rfl | (exact absurd h1 Bool.false_ne_true) | (exact absurd h2 Bool.false_ne_true)
theorem flat4_V {d : D} (h : flat4 d = true) : flatV (vD d) = true := by cases d <;> first | rfl | cases h
theorem reps_flat {E : Addr → Prop} {H : Hp} : ∀ {xs : List V} {ds : List D}, Reps Γ E H xs ds → ds.all flat4 = true → xs = ds.map vD
  | [], [], _, _ => rfl
  | [], _ :: _, r, _ => by have h := r.1; simp at h
  | _ :: _, [], r, _ => by have h := r.1; simp at h
  | v :: xs, d :: ds, r, h => by
    rw [List.all_cons, Bool.and_eq_true] at h
    rw [List.map_cons, ← reps_flat r.tail h.2, ← Rep.flat r.head (flat4_flat h.1)]
def inD (x : D) (ds : List D) : Bool := ds.any fun y => eqF y x
theorem inD_ok {x : D} {ds : List D} (h1 : flat4 x = true) (h2 : ds.all flat4 = true) : inV (vD x) (ds.map vD) = inD x ds := by
  unfold inV inD
  rw [List.any_map]
  induction ds with
  | nil => rfl
  | cons d ds ih =>
    rw [List.all_cons, Bool.and_eq_true] at h2
    rw [List.any_cons, List.any_cons, ih h2.2]
    show (eqV (vD d) (vD x) || _) = _
    rw [eqF_ok h2.1 h1]
def itemsOf : D → Option (List D)
  | .lst ds => some ds
  | .tup ds => some ds
  | _ => none
def fIn (neg : Bool) : F2 := fun x y q => match itemsOf y with
  | some ds => flat4 x = true ∧ ds.all flat4 = true ∧ q (.bl (if neg then !inD x ds else inD x ds))
  | none => False
theorem ok_in {neg : Bool} : OpOk Γ (rIn Γ.K neg) (fIn neg) := fun E H x y dx dy Q q _ rx ry h k => by
  unfold fIn at h
  cases dy with
  | lst ds =>
    obtain ⟨f1, f2, h⟩ := h
    obtain ⟨a, xs, rfl, ha, rs⟩ := ry
    have e := reps_flat rs f2
    subst e
    refine ⟨a, _, rfl, .inl (.inl (.inl ha)), ?_, ?_, ?_⟩
    · rw [repB_flat rx (flat4_flat f1)]; exact flat4_V f1
    · rw [List.all_map, List.all_eq_true]; exact fun d hd => flat4_V (List.all_eq_true.mp f2 d hd)
    · rw [repB_flat rx (flat4_flat f1), inD_ok f1 f2]; exact k _ _ H (Same.refl H) (.bl _) h
  | tup ds =>
    obtain ⟨f1, f2, h⟩ := h
    obtain ⟨a, xs, rfl, ha, rs⟩ := Rep.tuple ry
    have e := reps_flat rs f2
    subst e
    refine ⟨a, _, rfl, .inr (SqT.of ha), ?_, ?_, ?_⟩
    · rw [repB_flat rx (flat4_flat f1)]; exact flat4_V f1
    · rw [List.all_map, List.all_eq_true]; exact fun d hd => flat4_V (List.all_eq_true.mp f2 d hd)
    · rw [repB_flat rx (flat4_flat f1), inD_ok f1 f2]; exact k _ _ H (Same.refl H) (.bl _) h
  | _ => exact False.elim h
/-! ### items, slices, len -/
def fIxL : F2 := fun x y q => match x, y with
  | .lst ds, .int i => match ixN ds.length i with | some j => q (ds.getD j .non) | none => False
  | .fz ns, .int i => match ixN ns.length i with | some j => q (.int (ns.getD j 0)) | none => False
  | _, _ => False
theorem ixN_lt {n : Nat} {i : Int} {j : Nat} (h : ixN n i = some j) : j < n := by
  unfold ixN at h
  split at h
  · split at h
    · cases h; omega
    · cases h
  · split at h
    · cases h; omega
    · cases h
theorem ok_ixL : OpOk Γ (rIxL Γ.K) fIxL := fun E H x y dx dy Q q _ rx ry h k => by
  unfold fIxL at h
  split at h
  · rename_i ds i
    split at h
    · rename_i j hj
      obtain ⟨a, xs, rfl, ha, rs⟩ := rx
      have hl := ixN_lt hj
      have hl' : j < xs.length := by rw [rs.1]; exact hl
      refine ⟨a, xs, i, xs[j], rfl, repB_int ry, .inl (.inl ha), ?_, k _ _ H (Same.refl H) (rs.2 j _ _ (List.getElem?_eq_getElem hl') ?_) h⟩
      · unfold atI; rw [rs.1, hj]; exact List.getElem?_eq_getElem hl'
      · rw [List.getD_eq_getElem?_getD, List.getElem?_eq_getElem hl]; rfl
    · exact False.elim h
  · rename_i ns i
    split at h
    · rename_i j hj
      obtain ⟨a, rfl, ha⟩ := Rep.script rx
      have hl := ixN_lt hj
      refine ⟨a, _, i, .int (ns.getD j 0), rfl, repB_int ry, ha, ?_, k _ _ H (Same.refl H) (.int _) h⟩
      unfold atI
      rw [List.length_map, hj]
      show (ns.map V.int)[j]? = _
      rw [List.getElem?_map, List.getD_eq_getElem?_getD, List.getElem?_eq_getElem hl]; rfl
    · exact False.elim h
  · exact False.elim h
def fIxT : F2 := fun x y q => match x, y with
  | .tup ds, .int i => match ixN ds.length i with | some j => q (ds.getD j .non) | none => False
  | _, _ => False
theorem ok_ixT : OpOk Γ (rIxT Γ.K) fIxT := fun E H x y dx dy Q q _ rx ry h k => by
  unfold fIxT at h
  split at h
  · rename_i ds i
    split at h
    · rename_i j hj
      obtain ⟨a, xs, rfl, ha, rs⟩ := Rep.tuple rx
      have hl := ixN_lt hj
      have hl' : j < xs.length := by rw [rs.1]; exact hl
      refine ⟨a, xs, i, xs[j], rfl, repB_int ry, SqT.of ha, ?_, k _ _ H (Same.refl H) (rs.2 j _ _ (List.getElem?_eq_getElem hl') ?_) h⟩
      · unfold atI; rw [rs.1, hj]; exact List.getElem?_eq_getElem hl'
      · rw [List.getD_eq_getElem?_getD, List.getElem?_eq_getElem hl]; rfl
    · exact False.elim h
  · exact False.elim h
def fIxS : F2 := fun x y q => match x, y with
  | .str z, .int i => z.length ≤ 100000 ∧ match ixN z.cps.toList.length i with | some j => q (.str ⟨#[z.cps.toList.getD j 0]⟩) | none => False
  | _, _ => False
theorem ok_ixS : OpOk Γ rIxS fIxS := fun E H x y dx dy Q q _ rx ry h k => by
  unfold fIxS at h
  split at h
  · rename_i z i
    obtain ⟨hz, h⟩ := h
    split at h
    · rename_i j hj
      refine ⟨z, i, z.cps.toList.getD j 0, repB_str rx, repB_int ry, Nat.le_trans hz (by decide), ?_, k _ _ H (Same.refl H) (.str _) h⟩
      unfold atI
      rw [hj]
      show z.cps.toList[j]? = _
      rw [List.getD_eq_getElem?_getD, List.getElem?_eq_getElem (ixN_lt hj)]; rfl
    · exact False.elim h
  · exact False.elim h
def fLen : F1 := fun x q => match x with
  | .lst ds => q (.int ds.length)
  | .tup ds => q (.int ds.length)
  | .fz ns => q (.int ns.length)
  | .str z => z.length ≤ 100000 ∧ q (.int z.length)
  | _ => False
theorem ok_len : Op1Ok Γ (fun x H Q => ∃ y n, [x] = [y] ∧ LenV Γ.K y H n ∧ Q (.int n) H) fLen := fun E H x dx Q q _ rx h k => by
  cases dx with
  | lst ds =>
    obtain ⟨a, xs, rfl, ha, rs⟩ := rx
    refine ⟨_, xs.length, rfl, .inl ⟨xs, .inl (.inl ha), rfl⟩, ?_⟩
    rw [rs.1]; exact k _ _ H (Same.refl H) (.int _) h
  | tup ds =>
    obtain ⟨a, xs, rfl, ha, rs⟩ := Rep.tuple rx
    refine ⟨_, xs.length, rfl, .inr ⟨xs, SqT.of ha, rfl⟩, ?_⟩
    rw [rs.1]; exact k _ _ H (Same.refl H) (.int _) h
  | fz ns =>
    obtain ⟨a, rfl, ha⟩ := Rep.script rx
    refine ⟨_, _, rfl, .inl ⟨_, ha, rfl⟩, ?_⟩
    rw [List.length_map]; exact k _ _ H (Same.refl H) (.int _) h
  | str z =>
    rw [repB_str rx]
    exact ⟨_, z.length, rfl, ⟨Nat.le_trans h.1 (by decide), rfl⟩, k _ _ H (Same.refl H) (.int _) h.2⟩
  | _ => exact False.elim h
def cutD {α : Type} (xs : List α) (lo hi : Option Int) : List α := (xs.drop (HT.sIx xs.length 0 lo)).take (HT.sIx xs.length xs.length hi - HT.sIx xs.length 0 lo)
theorem reps_cut {E : Addr → Prop} {H : Hp} {xs : List V} {ds : List D} {lo hi : Option Int} (r : Reps Γ E H xs ds) : Reps Γ E H (cutV xs lo hi) (cutD ds lo hi) := by
  unfold cutV cutD
  rw [r.1]
  exact (r.drop _).take _
/-- slices -/
abbrev MOI := Env → (Option Int → Env → Prop) → Prop
def JOI (Γ : Cn) (pn : List Nat) (t : TO) (m : MOI) : Prop :=
  ∀ (S : Fs) (σ : St) (ρ : Env) (H : Hp) (τ : List (V × D)) (Q : Option Int → Hp → Prop) (q : Option Int → Env → Prop), PinOk pn S → Rel Γ S H σ ρ τ → m ρ q → (∀ i H' ρ', Rel Γ S H' σ ρ' τ → q i ρ' → Q i H') → t σ H Q
def mNoPart : MOI := fun ρ q => q none ρ
def mPart (m : ME) : MOI := fun ρ q => m ρ fun d ρ' => match d with | .int i => q (some i) ρ' | _ => False
theorem jo_none : JOI Γ pn tNoPart mNoPart := fun S σ ρ H τ Q q hp R hm hq => hq none H ρ R hm
theorem jo_some {t : TE} {m : ME} (h : JE Γ pn t m) : JOI Γ pn (tPart t) (mPart m) := fun S σ ρ H τ Q q hp R hm hq =>
  h S σ ρ H τ _ _ hp R hm fun v d H1 ρ1 R1 r1 q1 => by
    cases d with
    | int i => exact ⟨i, rep_int r1, hq _ H1 ρ1 R1 q1⟩
    | _ => exact False.elim q1
def mSlL (a : MO) (l u : MOI) : ME := fun ρ q => a ρ fun r ρ1 => l ρ1 fun lo ρ2 => u ρ2 fun hi ρ3 => r.on ρ3 fun x => match x with
  | .lst ds => q (.lst (cutD ds lo hi)) ρ3
  | .fz ns => q (.lst ((cutD ns lo hi).map D.int)) ρ3
  | _ => False
theorem map_cut {α β : Type} (f : α → β) (xs : List α) (lo hi : Option Int) : cutD (xs.map f) lo hi = (cutD xs lo hi).map f := by
  unfold cutD; rw [List.length_map, List.map_take, List.map_drop]
theorem reps_ints {E : Addr → Prop} {H : Hp} (ns : List Int) : Reps Γ E H (ns.map V.int) (ns.map D.int) := ⟨by simp, fun i v d h1 h2 => by
  rw [List.getElem?_map] at h1 h2
  cases e : ns[i]? with
  | none => rw [e] at h1; cases h1
  | some n => rw [e] at h1 h2; cases h1; cases h2; exact .int n⟩
theorem jf_slL {ta : TE} {tl tu : TO} {a : MO} {l u : MOI} (ha : JO Γ pn ta a) (hl : JOI Γ pn tl l) (hu : JOI Γ pn tu u) : JF Γ pn (tSl (rSlL Γ.K) ta tl tu) (mSlL a l u) := fun S σ ρ H τ Q q hp R hm hq =>
  ha S σ ρ H τ _ _ hp R hm fun v r1 H1 ρ1 τ1 R1 o1 q1 => hl S σ ρ1 H1 (τ1 ++ τ) _ _ hp R1 q1 fun lo H2 ρ2 R2 q2 => hu S σ ρ2 H2 (τ1 ++ τ) _ _ hp R2 q2 fun hi H3 ρ3 R3 q3 => by
    obtain ⟨dx, rx, q3⟩ := R3.read o1 q3
    cases dx with
    | lst ds =>
      obtain ⟨b, xs, rfl, hb, rs⟩ := rx
      refine ⟨b, xs, rfl, .inl (.inl hb), fun p hn => ?_⟩
      obtain ⟨k1, k2, k3, k4⟩ := fresh_lst R3 (reps_cut (lo := lo) (hi := hi) rs) hn
      exact hq p _ _ ρ3 k1.cut k2 k3 k4 q3
    | fz ns =>
      obtain ⟨b, rfl, hb⟩ := Rep.script rx
      refine ⟨b, _, rfl, hb, fun p hn => ?_⟩
      have r := reps_cut (lo := lo) (hi := hi) (reps_ints (Γ := Γ) (E := exA S σ ρ3) (H := H3) ns)
      rw [map_cut] at r
      obtain ⟨k1, k2, k3, k4⟩ := fresh_lst R3 r hn
      exact hq p _ _ ρ3 k1.cut k2 k3 k4 q3
    | _ => exact False.elim q3
def mSlS (a : MO) (l u : MOI) : ME := fun ρ q => a ρ fun r ρ1 => l ρ1 fun lo ρ2 => u ρ2 fun hi ρ3 => r.on ρ3 fun x => match x with
  | .str z => z.length ≤ 100000 ∧ q (.str (Txt.slice z lo hi)) ρ3
  | _ => False
theorem je_slS {ta : TE} {tl tu : TO} {a : MO} {l u : MOI} (ha : JO Γ pn ta a) (hl : JOI Γ pn tl l) (hu : JOI Γ pn tu u) : JE Γ pn (tSl rSlS ta tl tu) (mSlS a l u) := fun S σ ρ H τ Q q hp R hm hq =>
  ha S σ ρ H τ _ _ hp R hm fun v r1 H1 ρ1 τ1 R1 o1 q1 => hl S σ ρ1 H1 (τ1 ++ τ) _ _ hp R1 q1 fun lo H2 ρ2 R2 q2 => hu S σ ρ2 H2 (τ1 ++ τ) _ _ hp R2 q2 fun hi H3 ρ3 R3 q3 => by
    obtain ⟨dx, rx, q3⟩ := R3.read o1 q3
    cases dx with
    | str z => rw [repB_str rx]; exact ⟨z, rfl, Nat.le_trans q3.1 (by decide), hq _ _ H3 ρ3 R3.cut (.str _) q3.2⟩
    | _ => exact False.elim q3
/-! ### list + list, list(x), tuple(x) -/
def fCat : FL2 := fun x y q => match x, y with | .lst a, .lst b => a.length + b.length ≤ 100000 ∧ q (a ++ b) | _, _ => False
theorem ok_cat : OpNew Γ rCat fCat := fun E H x y dx dy Q q rx ry h k => by
  unfold fCat at h
  split at h
  · obtain ⟨a, xs, rfl, ha, ra⟩ := rx
    obtain ⟨b, ys, rfl, hb, rb⟩ := ry
    exact ⟨a, b, xs, ys, rfl, rfl, ha, hb, by rw [ra.1, rb.1]; exact Nat.le_trans h.1 (by decide), fun p hp => k p _ _ H (Same.refl H) hp (ra.append rb) h.2⟩
  · exact False.elim h
def fList : FL1 := fun x q => match x with | .lst a => q a | .tup a => q a | _ => False
theorem ok_list : Op1New Γ (fun x H Q => ∃ p ys, [x] = [.ref p] ∧ (SqL Γ.K H p ys ∨ SqT Γ.K H p ys) ∧ ∀ l, H l = none → Q (.ref l) (upd H l (.lst ys))) fList := fun E H x dx Q q rx h k => by
  unfold fList at h
  split at h
  · obtain ⟨a, xs, rfl, ha, ra⟩ := rx
    exact ⟨a, xs, rfl, .inl (.inl (.inl ha)), fun p hp => k p _ _ H (Same.refl H) hp ra h⟩
  · obtain ⟨a, xs, rfl, ha, ra⟩ := Rep.tuple rx
    exact ⟨a, xs, rfl, .inr (SqT.of ha), fun p hp => k p _ _ H (Same.refl H) hp ra h⟩
  · exact False.elim h
def fTuple : F1 := fun x q => match x with | .lst a => q (.tup a) | .tup a => q (.tup a) | _ => False
theorem ok_tuple : Op1Ok Γ (fun x H Q => ∃ p ys, [x] = [.ref p] ∧ ((SqL Γ.K H p ys ∧ ∀ l, H l = none → Q (.ref l) (upd H l (.tup ys))) ∨ (SqT Γ.K H p ys ∧ Q (.ref p) H))) fTuple := fun E H x dx Q q hE rx h k => by
  unfold fTuple at h
  split at h
  · obtain ⟨a, xs, rfl, ha, ra⟩ := rx
    refine ⟨a, xs, rfl, .inl ⟨.inl (.inl ha), fun p hp => ?_⟩⟩
    have g := same_new hp (.tup xs)
    have r' := ra.up (E' := E) (H' := upd H p (.tup xs)) (fun _ _ z => z) fun b o _ q => g b o q
    exact k _ _ _ g (.tup (fun z => hE p z hp) upd_same r'.1 r'.2) h
  · obtain ⟨a, xs, rfl, ha, ra⟩ := Rep.tuple rx
    exact ⟨a, xs, rfl, .inr ⟨SqT.of ha, k _ _ H (Same.refl H) rx h⟩⟩
  · exact False.elim h
/-! ### built-ins over ints and truths -/
def fMax2 : F2 := fI0 fun i j => .int (if j > i then j else i)
def fMin2 : F2 := fI0 fun i j => .int (if j < i then j else i)
theorem ok_max2 : OpOk Γ (fun x y H Q => ∃ i j, [x, y] = [.int i, .int j] ∧ Q (.int (if j > i then j else i)) H) fMax2 := fun E H x y dx dy Q q _ rx ry h k => by
  unfold fMax2 fI0 at h
  split at h
  · exact ⟨_, _, by rw [repB_int rx, repB_int ry], k _ _ H (Same.refl H) (.int _) h⟩
  · exact False.elim h
theorem ok_min2 : OpOk Γ (fun x y H Q => ∃ i j, [x, y] = [.int i, .int j] ∧ Q (.int (if j < i then j else i)) H) fMin2 := fun E H x y dx dy Q q _ rx ry h k => by
  unfold fMin2 fI0 at h
  split at h
  · exact ⟨_, _, by rw [repB_int rx, repB_int ry], k _ _ H (Same.refl H) (.int _) h⟩
  · exact False.elim h
def fInt : F1 := fun x q => match x with | .int i => q (.int i) | .bl b => q (.int (if b then 1 else 0)) | _ => False
theorem ok_int : Op1Ok Γ (fun x H Q => (∃ i, [x] = [.int i] ∧ Q (.int i) H) ∨ ∃ k, [x] = [.bl k] ∧ Q (.int (if k then 1 else 0)) H) fInt := fun E H x dx Q q _ rx h k => by
  cases dx with
  | int i => exact .inl ⟨i, by rw [repB_int rx], k _ _ H (Same.refl H) (.int _) h⟩
  | bl i => exact .inr ⟨i, by rw [repB_bl rx], k _ _ H (Same.refl H) (.int _) h⟩
  | _ => exact False.elim h
def blD : D → Option Bool | .bl b => some b | _ => none
def blsD : List D → Option (List Bool)
  | [] => some []
  | .bl b :: r => (blsD r).map (b :: ·)
  | _ => none
theorem blsD_ok {E : Addr → Prop} {H : Hp} : ∀ {xs : List V} {ds : List D} {bs : List Bool}, Reps Γ E H xs ds → blsD ds = some bs → xs = bs.map V.bl
  | [], [], bs, _, h => by cases h; rfl
  | [], _ :: _, _, r, _ => by have h := r.1; simp at h
  | _ :: _, [], _, r, _ => by have h := r.1; simp at h
  | v :: xs, d :: ds, bs, r, h => by
    cases d with
    | bl b =>
      have h : (blsD ds).map (b :: ·) = some bs := h
      cases e : blsD ds with
      | none => rw [e] at h; cases h
      | some r' =>
        rw [e] at h; cases h
        rw [List.map_cons, ← blsD_ok r.tail e, ← rep_bl r.head]
    | _ => cases h
def fAll : F1 := fun x q => match x with | .lst ds => (match blsD ds with | some bs => q (.bl (bs.all id)) | none => False) | _ => False
theorem ok_all : Op1Ok Γ (fun x H Q => ∃ (a : Addr) (bs : List Bool), [x] = [.ref a] ∧ SqL Γ.K H a (bs.map V.bl) ∧ Q (.bl (bs.all id)) H) fAll := fun E H x dx Q q _ rx h k => by
  cases dx with
  | lst ds =>
    obtain ⟨a, xs, rfl, ha, rs⟩ := rx
    dsimp only [fAll] at h
    split at h
    · rename_i bs hb
      have e := blsD_ok rs hb
      subst e
      exact ⟨a, bs, rfl, .inl (.inl ha), k _ _ H (Same.refl H) (.bl _) h⟩
    · exact False.elim h
  | _ => exact False.elim h
/-- isinstance(x, T), T a built-in kind -/
def kindD : D → Option String
  | .non => some "NoneType" | .bl _ => some "bool" | .int _ => some "int" | .str _ => some "str" | .lst _ => some "list" | .tup _ => some "tuple" | .dK _ => some "dict" | .dT _ => some "dict" | _ => none
def isKind (a b : String) : Option Bool := if ["NoneType", "bool", "int", "str", "list", "tuple", "dict"].contains a && ["bool", "int", "str", "list", "tuple", "dict"].contains b then some (a == b || (a == "bool" && b == "int")) else none
theorem isKind_ok {K : PySem.W.Frag} {a b : String} {r : Bool} (h : isKind a b = some r) : PySem.W.kitOne K (.type a) (.type b) = some r := by
  unfold isKind at h
  split at h
  · rename_i hc
    simp only [Bool.and_eq_true, List.contains_iff_mem, List.mem_cons, List.not_mem_nil, or_false] at hc
    cases h
    obtain ⟨h1, h2⟩ := hc
    rcases h1 with rfl | rfl | rfl | rfl | rfl | rfl | rfl <;> rcases h2 with rfl | rfl | rfl | rfl | rfl | rfl <;> kernel_rfl
  · cases h
def fInst : F2 := fun x y q => match kindD x, y with
  | some a, .ty b => (match isKind a b with | some r => q (.bl r) | none => False)
  | _, _ => False
theorem kind_ok {E : Addr → Prop} {H : Hp} {v : V} {d : D} {a : String} (r : RepB Γ E H v d) (h : kindD d = some a) : TyOf2 Γ.K H v (.type a) := by
  cases d with
  | non => cases h; rw [repB_flat r rfl]; exact .of .non
  | bl b => cases h; rw [repB_flat r rfl]; exact .of (.bl b)
  | int b => cases h; rw [repB_flat r rfl]; exact .of (.int b)
  | str b => cases h; rw [repB_flat r rfl]; exact .of (.str b)
  | lst ds => cases h; obtain ⟨a, xs, rfl, ha, _⟩ := r; exact .of (.lst ha)
  | tup ds => cases h; obtain ⟨a, xs, rfl, ha, _⟩ := Rep.tuple r; exact .of (.tup ha)
  | dK ds => cases h; obtain ⟨a, xs, rfl, ha, _⟩ := r; exact .of (.dK ha)
  | dT ds => cases h; obtain ⟨a, xs, rfl, ha, _⟩ := r; exact .of (.dT ha)
  | _ => cases h
theorem ok_inst : OpOk Γ (fun x y H Q => ∃ z t c b, [x, y] = [z, .ty c] ∧ TyOf2 Γ.K H z t ∧ PySem.W.kitOne Γ.K t (.type c) = some b ∧ Q (.bl b) H) fInst := fun E H x y dx dy Q q _ rx ry h k => by
  unfold fInst at h
  split at h
  · rename_i a b ha
    split at h
    · rename_i r hr
      exact ⟨x, _, b, r, by rw [repB_flat ry rfl]; rfl, kind_ok rx ha, isKind_ok hr, k _ _ H (Same.refl H) (.bl _) h⟩
    · exact False.elim h
  · exact False.elim h
/-! ### comparisons in a row -/
def mChain (f f' : F2) (a b c : ME) : ME := fun ρ q => a ρ fun x ρ1 => b ρ1 fun y ρ2 => f x y fun d => match d with
  | .bl k => if k = true then c ρ2 fun z ρ3 => f' y z fun e => q e ρ3 else q (.bl false) ρ2
  | _ => False
theorem je_chain {r r' : R2} {f f' : F2} {ta tb tc : TE} {a b c : ME} (h1 : OpOk Γ r f) (h2 : OpOk Γ r' f') (ha : JE Γ pn ta a) (hb : JE Γ pn tb b) (hc : JE Γ pn tc c) : JE Γ pn (tChain r r' ta tb tc) (mChain f f' a b c) := fun S σ ρ H τ Q q hp R hm hq =>
  ha S σ ρ H τ _ _ hp R hm fun v x H1 ρ1 R1 r1 q1 => hb S σ ρ1 H1 ((v, x) :: τ) _ _ hp (R1.push r1) q1 fun w y H2 ρ2 R2 r2 q2 =>
    h1 _ H2 v w x y _ _ (fun a z => exA_some R2 z) R2.pop.2.b r2.b q2 fun u d H3 g r3 q3 => by
      cases d with
      | bl k =>
        refine ⟨k, rep_bl r3, ?_⟩
        have R3 := (R2.pop.1.push r2).grow g
        dsimp only at q3
        cases k with
        | false => rw [if_neg Bool.false_ne_true] at q3 ⊢; exact hq _ _ H3 ρ2 R3.pop.1 (.bl false) q3
        | true =>
          rw [if_pos rfl] at q3 ⊢
          refine hc S σ ρ2 H3 _ _ _ hp R3 q3 fun w' z H4 ρ4 R4 r4 q4 => ?_
          exact h2 _ H4 w w' y z Q _ (fun a z => exA_some R4 z) R4.pop.2.b r4.b q4 fun u' e H5 g' r5 q5 => hq u' e H5 ρ4 (R4.pop.1.grow g') r5 q5
      | _ => exact False.elim q3
/-! ### truth -/
def truD : D → Option Bool
  | .non => some false | .bl b => some b | .int i => some (i != 0) | .lst ds => some (!ds.isEmpty) | .tup ds => some (!ds.isEmpty) | .dK ds => some (!ds.isEmpty)
  | .str y => some ((y.length : Int) != 0)
  | _ => none
def mTru (a : MO) : MT := fun ρ q => a ρ fun r ρ1 => r.on ρ1 fun x => (match x with | .str y => y.length ≤ 100000 | _ => True) ∧ match truD x with | some b => q b ρ1 | none => False
theorem isEmpty_len {α β : Type} {xs : List α} {ys : List β} (h : xs.length = ys.length) : xs.isEmpty = ys.isEmpty := by
  cases xs <;> cases ys <;> first | rfl | simp at h
theorem jt_tru {ta : TE} {a : MO} (ha : JO Γ pn ta a) : JT Γ pn (fun σ H Q => ta σ H fun x H' => ∃ k, TruV Γ.K x H' k ∧ Q k H') (mTru a) := fun S σ ρ H τ Q q hp R hm hq =>
  ha S σ ρ H τ _ _ hp R hm fun v r1 H1 ρ1 τ1 R1 o1 q1 => by
    obtain ⟨dx, rx, hs, q1⟩ := R1.read o1 q1
    cases dx with
    | non => rw [repB_flat rx rfl]; exact ⟨false, rfl, hq _ H1 ρ1 R1.cut q1⟩
    | bl b => rw [repB_flat rx rfl]; exact ⟨b, rfl, hq _ H1 ρ1 R1.cut q1⟩
    | int i => rw [repB_flat rx rfl]; exact ⟨_, rfl, hq _ H1 ρ1 R1.cut q1⟩
    | str y => rw [repB_flat rx rfl]; exact ⟨_, ⟨Nat.le_trans hs (by decide), rfl⟩, hq _ H1 ρ1 R1.cut q1⟩
    | lst ds => obtain ⟨a, xs, rfl, h, rs⟩ := rx; exact ⟨_, .inl ⟨xs, .inl (.inl h), by rw [isEmpty_len rs.1]⟩, hq _ H1 ρ1 R1.cut q1⟩
    | tup ds => obtain ⟨a, xs, rfl, h, rs⟩ := Rep.tuple rx; exact ⟨_, .inr (.inl ⟨xs, SqT.of h, by rw [isEmpty_len rs.1]⟩), hq _ H1 ρ1 R1.cut q1⟩
    | dK ds => obtain ⟨a, xs, rfl, h, hk, rs⟩ := rx; exact ⟨_, .inr (.inr ⟨xs, h, by rw [isEmpty_len (show xs.length = ds.length by have := congrArg List.length hk; simpa using this)]⟩), hq _ H1 ρ1 R1.cut q1⟩
    | _ => exact False.elim q1
end
end M

namespace M
open PySem L2
/-! the judgements over the text's own terms -/
structure DE (X : Cx) (cls : Nat → Option Addr) (pn : List Nat) (e : Expr) (m : ME) : Prop where
  h : ∃ t, PE X e t ∧ JE ⟨X.K, cls⟩ pn t m
structure DF (X : Cx) (cls : Nat → Option Addr) (pn : List Nat) (e : Expr) (m : ME) : Prop where
  h : ∃ t, PE X e t ∧ JF ⟨X.K, cls⟩ pn t m
structure DO (X : Cx) (cls : Nat → Option Addr) (pn : List Nat) (e : Expr) (m : MO) : Prop where
  h : ∃ t, PE X e t ∧ JO ⟨X.K, cls⟩ pn t m
structure DT (X : Cx) (cls : Nat → Option Addr) (pn : List Nat) (e : Expr) (m : MT) : Prop where
  h : ∃ t, PT X e t ∧ JT ⟨X.K, cls⟩ pn t m
structure DW (X : Cx) (cls : Nat → Option Addr) (pn : List Nat) (e : Expr) (m : MT) : Prop where
  h : ∃ t, PW X e t ∧ JT ⟨X.K, cls⟩ pn t m
structure DTs (X : Cx) (cls : Nat → Option Addr) (pn : List Nat) (e : List Expr) (m : MT) : Prop where
  h : ∃ t, PTs X e t ∧ JT ⟨X.K, cls⟩ pn t m
structure DA (X : Cx) (cls : Nat → Option Addr) (pn : List Nat) (e : List Expr) (m : MA) : Prop where
  h : ∃ t, PA X e t ∧ JA ⟨X.K, cls⟩ pn t m
structure DS (X : Cx) (cls : Nat → Option Addr) (pn : List Nat) (fr : Bool) (e : Stmt) (m : MS) : Prop where
  h : ∃ t, PS X e t ∧ JS ⟨X.K, cls⟩ pn fr t m
structure DSs (X : Cx) (cls : Nat → Option Addr) (pn : List Nat) (fr : Bool) (e : List Stmt) (m : MS) : Prop where
  h : ∃ t, PSs X e t ∧ JS ⟨X.K, cls⟩ pn fr t m
structure DG (X : Cx) (cls : Nat → Option Addr) (pn : List Nat) (e : Expr) (m : MG) : Prop where
  h : ∃ t, PG X e t ∧ JG ⟨X.K, cls⟩ pn t m
structure DGs (X : Cx) (cls : Nat → Option Addr) (pn : List Nat) (e : List Expr) (m : MGs) : Prop where
  h : ∃ t, PGs X e t ∧ JGs ⟨X.K, cls⟩ pn t m
structure DI (X : Cx) (cls : Nat → Option Addr) (pn : List Nat) (tg e : Expr) (m : MI) : Prop where
  h : ∃ t, PI X tg e t ∧ JI ⟨X.K, cls⟩ pn t m
structure DP (X : Cx) (cls : Nat → Option Addr) (pn : List Nat) (e : Option Expr) (m : MOI) : Prop where
  h : ∃ t, PO X e t ∧ JOI ⟨X.K, cls⟩ pn t m
section
variable {X : Cx} {cls : Nat → Option Addr} {pn : List Nat} {a b c e : Expr} {es : List Expr} {pos p : Pos} {x : Str}
/-! names, constants -/
theorem de_int {i j pos} : DE X cls pn (.Constant (.int i) j pos) (mC (.int i)) := ⟨_, pe_int, je_c rfl rfl⟩
theorem de_bl {i j pos} : DE X cls pn (.Constant (.bool i) j pos) (mC (.bl i)) := ⟨_, pe_bl, je_c rfl rfl⟩
theorem de_non {j pos} : DE X cls pn (.Constant .none j pos) (mC .non) := ⟨_, pe_non, je_c rfl rfl⟩
theorem de_str {i j pos} : DE X cls pn (.Constant (.str i) j pos) (mC (.str i)) := ⟨_, pe_str, je_c rfl rfl⟩
theorem de_glob {i : Int} (hg : Gl X x) (hm : ∃ t, X.mg x = some (.int i t)) (hd : (x == ("__debug__" : Str)) = false := by decide) : DE X cls pn (.Name x pos) (mC (.int i)) := by
  obtain ⟨t, hm⟩ := hm
  exact ⟨_, pe_glob hg hm (v := .int i) ⟨t, rfl⟩ hd, je_c rfl rfl⟩
theorem de_ty {n : String} (hg : Gl X x) (hm : X.mg x = none) (hv : bootBuiltins x = some (.type n)) (hn : x ≠ "__name__" := by decide) (hd : (x == ("__debug__" : Str)) = false := by decide) : DE X cls pn (.Name x pos) (mC (.ty n)) :=
  ⟨_, pe_bltn (v := .ty n) hg hm hv rfl hn hd, je_c rfl rfl⟩
theorem dv (i : Nat) (hi : i ∉ pn) (hN : X.N[i]? = some x := by kernel_rfl) (hv : Vis X.env.scope x := by first | exact Or.inl rfl | exact Or.inr (Or.inl rfl) | exact Or.inr (Or.inr rfl)) (hd : (x == ("__debug__" : Str)) = false := by decide)
    (hcd : (x == ("__classdict__" : Str)) = false := by decide) : DE X cls pn (.Name x pos) (mVar i) := ⟨_, pe_var hN hv hd hcd, je_var hi⟩
theorem dvP (i : Nat) (hN : X.N[i]? = some x := by kernel_rfl) (hv : Vis X.env.scope x := by first | exact Or.inl rfl | exact Or.inr (Or.inl rfl) | exact Or.inr (Or.inr rfl)) (hd : (x == ("__debug__" : Str)) = false := by decide)
    (hcd : (x == ("__classdict__" : Str)) = false := by decide) : DE X cls pn (.Name x pos) (mVarP i) := ⟨_, pe_var hN hv hd hcd, je_varP⟩
theorem do_v (i : Nat) (hN : X.N[i]? = some x := by kernel_rfl) (hv : Vis X.env.scope x := by first | exact Or.inl rfl | exact Or.inr (Or.inl rfl) | exact Or.inr (Or.inr rfl)) (hd : (x == ("__debug__" : Str)) = false := by decide)
    (hcd : (x == ("__classdict__" : Str)) = false := by decide) : DO X cls pn (.Name x pos) (mOv i) := ⟨_, pe_var hN hv hd hcd, jo_var⟩
theorem do_e {m : ME} (h : DE X cls pn e m) : DO X cls pn e (mO m) := let ⟨t, a, b⟩ := h.h; ⟨t, a, jo_of b⟩
theorem de_f {m : ME} (h : DF X cls pn e m) : DE X cls pn e m := let ⟨t, a, b⟩ := h.h; ⟨t, a, je_of_fresh b⟩
/-! argument lists, displays -/
theorem da_nil : DA X cls pn [] mNil := ⟨_, pa_nil, ja_nil⟩
theorem da_cons {m : ME} {n : MA} (h : DE X cls pn e m) (r : DA X cls pn es n) (hs : starEach (e :: es) X.env = (false, eval e X.env) :: starEach es X.env := by kernel_rfl) : DA X cls pn (e :: es) (mCons m n) :=
  let ⟨_, a, b⟩ := h.h; let ⟨_, c, d⟩ := r.h; ⟨_, pa_cons a c hs, ja_cons b d⟩
theorem da_strs {ss : List Str} (h : constStrs es = some ss) : DA X cls pn es (mStrs ss) := ⟨_, pa_strs h, ja_strs⟩
theorem df_lst {m : MA} (h : DA X cls pn es m) : DF X cls pn (.List es pos) (mLst m) := let ⟨_, a, b⟩ := h.h; ⟨_, pe_lst a, jf_lst b⟩
theorem de_tup {m : MA} {x1} (h : DA X cls pn es m) : DE X cls pn (.Tuple es x1 pos) (mTup m) := let ⟨_, a, b⟩ := h.h; ⟨_, pe_tup a, je_tup b⟩
/-! operations -/
theorem de_op {op : Operator} {r : R2} {f : F2} {ma mb : MO} (ho : OpR X (binaryOp op) r) (hk : OpOk ⟨X.K, cls⟩ r f) (ha : DO X cls pn a ma) (hb : DO X cls pn b mb) : DE X cls pn (.BinOp a op b pos) (mOp f ma mb) :=
  let ⟨_, pa, ja⟩ := ha.h; let ⟨_, pb, jb⟩ := hb.h; ⟨_, pe_op ho pa pb, je_op hk ja jb⟩
theorem df_op {op : Operator} {r : R2} {f : FL2} {ma mb : MO} (ho : OpR X (binaryOp op) r) (hk : OpNew ⟨X.K, cls⟩ r f) (ha : DO X cls pn a ma) (hb : DO X cls pn b mb) : DF X cls pn (.BinOp a op b pos) (mOpL f ma mb) :=
  let ⟨_, pa, ja⟩ := ha.h; let ⟨_, pb, jb⟩ := hb.h; ⟨_, pe_op ho pa pb, jf_op hk ja jb⟩
def fAdd : F2 := fI0 fun i j => .int (i + j)
def fSub : F2 := fI0 fun i j => .int (i - j)
def fMul : F2 := fI CMul fun i j => .int (i * j)
def fFdiv : F2 := fI CDiv fun i j => .int (i / j)
def fMod : F2 := fI (fun _ j => 0 < j) fun i j => .int (i % j)
def fPow : F2 := fI CPow fun i j => .int (i ^ j.toNat)
def fShl : F2 := fI CPow fun i j => .int (i * 2 ^ j.toNat)
def fShr : F2 := fI (fun _ j => 0 ≤ j) fun i j => .int (i / 2 ^ j.toNat)
def fBand : F2 := fI0 fun i j => .int (Builtin.bitAnd i j)
variable {ma mb : MO}
theorem de_add (ha : DO X cls pn a ma) (hb : DO X cls pn b mb) : DE X cls pn (.BinOp a .Add b pos) (mOp fAdd ma mb) := de_op op_add (ok_I0 (fun _ _ => rfl) fun _ _ => rfl) ha hb
theorem de_sub (ha : DO X cls pn a ma) (hb : DO X cls pn b mb) : DE X cls pn (.BinOp a .Sub b pos) (mOp fSub ma mb) := de_op op_sub (ok_I0 (fun _ _ => rfl) fun _ _ => rfl) ha hb
theorem de_mul (ha : DO X cls pn a ma) (hb : DO X cls pn b mb) : DE X cls pn (.BinOp a .Mult b pos) (mOp fMul ma mb) := de_op op_mul (ok_I (fun _ _ => rfl) fun _ _ => rfl) ha hb
theorem de_fdiv (ha : DO X cls pn a ma) (hb : DO X cls pn b mb) : DE X cls pn (.BinOp a .FloorDiv b pos) (mOp fFdiv ma mb) := de_op op_fdiv (ok_I (fun _ _ => rfl) fun _ _ => rfl) ha hb
theorem de_mod (ha : DO X cls pn a ma) (hb : DO X cls pn b mb) : DE X cls pn (.BinOp a .Mod b pos) (mOp fMod ma mb) := de_op op_mod (ok_I (fun _ _ => rfl) fun _ _ => rfl) ha hb
theorem de_pow (ha : DO X cls pn a ma) (hb : DO X cls pn b mb) : DE X cls pn (.BinOp a .Pow b pos) (mOp fPow ma mb) := de_op op_pow (ok_I (fun _ _ => rfl) fun _ _ => rfl) ha hb
theorem de_shl (ha : DO X cls pn a ma) (hb : DO X cls pn b mb) : DE X cls pn (.BinOp a .LShift b pos) (mOp fShl ma mb) := de_op op_shl (ok_I (fun _ _ => rfl) fun _ _ => rfl) ha hb
theorem de_shr (ha : DO X cls pn a ma) (hb : DO X cls pn b mb) : DE X cls pn (.BinOp a .RShift b pos) (mOp fShr ma mb) := de_op op_shr (ok_I (fun _ _ => rfl) fun _ _ => rfl) ha hb
theorem de_band (ha : DO X cls pn a ma) (hb : DO X cls pn b mb) : DE X cls pn (.BinOp a .BitAnd b pos) (mOp fBand ma mb) := de_op op_and (ok_I0 (fun _ _ => rfl) fun _ _ => rfl) ha hb
theorem de_addS (ha : DO X cls pn a ma) (hb : DO X cls pn b mb) : DE X cls pn (.BinOp a .Add b pos) (mOp fAddS ma mb) := de_op op_add_str ok_addS ha hb
theorem df_cat (ha : DO X cls pn a ma) (hb : DO X cls pn b mb) : DF X cls pn (.BinOp a .Add b pos) (mOpL fCat ma mb) := df_op op_cat ok_cat ha hb
theorem de_neg (ha : DO X cls pn a ma) : DE X cls pn (.UnaryOp .USub a pos) (mOp1 fNeg ma) := let ⟨_, pa, ja⟩ := ha.h; ⟨_, pe_un un_neg pa, je_un ok_neg ja⟩
/-! comparisons -/
theorem de_cmp {op : CmpOp} {r : R2} {f : F2} (ho : OpR X (compareOp op) r) (hk : OpOk ⟨X.K, cls⟩ r f) (ha : DO X cls pn a ma) (hb : DO X cls pn b mb) (hm : behindInMarks op b = false) : DE X cls pn (.Compare a [op] [b] pos) (mOp f ma mb) :=
  let ⟨_, pa, ja⟩ := ha.h; let ⟨_, pb, jb⟩ := hb.h; ⟨_, pe_cmpR ho pa pb hm, je_op hk ja jb⟩
theorem dt_cmp {op : CmpOp} {r : R2} {f : F2} (ho : OpR X (compareOp op) r) (hk : OpOk ⟨X.K, cls⟩ r f) (ha : DO X cls pn a ma) (hb : DO X cls pn b mb) (hm : behindInMarks op b = false) : DT X cls pn (.Compare a [op] [b] pos) (mB (mOp f ma mb)) :=
  let ⟨_, pa, ja⟩ := ha.h; let ⟨_, pb, jb⟩ := hb.h; ⟨_, pt_cmpR ho pa pb hm, jt_test (je_op hk ja jb)⟩
def fLt : F2 := fI0 fun i j => .bl (decide (i < j))
def fLe : F2 := fI0 fun i j => .bl (decide (i ≤ j))
def fGt : F2 := fI0 fun i j => .bl (decide (j < i))
def fGe : F2 := fI0 fun i j => .bl (decide (j ≤ i))
theorem ok_lt : OpOk ⟨X.K, cls⟩ (rI0 fun i j => .bl (decide (i < j))) fLt := ok_I0 (fun _ _ => rfl) fun _ _ => rfl
theorem ok_le : OpOk ⟨X.K, cls⟩ (rI0 fun i j => .bl (decide (i ≤ j))) fLe := ok_I0 (fun _ _ => rfl) fun _ _ => rfl
theorem ok_gt : OpOk ⟨X.K, cls⟩ (rI0 fun i j => .bl (decide (j < i))) fGt := ok_I0 (fun _ _ => rfl) fun _ _ => rfl
theorem ok_ge : OpOk ⟨X.K, cls⟩ (rI0 fun i j => .bl (decide (j ≤ i))) fGe := ok_I0 (fun _ _ => rfl) fun _ _ => rfl
theorem de_chain {op op' : CmpOp} {r r' : R2} {f f' : F2} {m1 m2 m3 : ME} (ho : OpR X (compareOp op) r) (hk : OpOk ⟨X.K, cls⟩ r f) (ho' : OpR X (compareOp op') r') (hk' : OpOk ⟨X.K, cls⟩ r' f') (ha : DE X cls pn a m1) (hb : DE X cls pn b m2) (hc : DE X cls pn c m3)
    (hm : lastMarks [op, op'] [b, c] = false := by with_unfolding_all rfl) : DE X cls pn (.Compare a [op, op'] [b, c] pos) (mChain f f' m1 m2 m3) :=
  let ⟨_, pa, ja⟩ := ha.h; let ⟨_, pb, jb⟩ := hb.h; let ⟨_, pc, jc⟩ := hc.h; ⟨_, pe_chain ho ho' pa pb pc hm, je_chain hk hk' ja jb jc⟩
theorem dt_chain {op op' : CmpOp} {r r' : R2} {f f' : F2} {m1 m2 m3 : ME} (ho : OpR X (compareOp op) r) (hk : OpOk ⟨X.K, cls⟩ r f) (ho' : OpR X (compareOp op') r') (hk' : OpOk ⟨X.K, cls⟩ r' f') (ha : DE X cls pn a m1) (hb : DE X cls pn b m2) (hc : DE X cls pn c m3)
    (hm : lastMarks [op, op'] [b, c] = false := by with_unfolding_all rfl) : DT X cls pn (.Compare a [op, op'] [b, c] pos) (mB (mChain f f' m1 m2 m3)) :=
  let ⟨_, pa, ja⟩ := ha.h; let ⟨_, pb, jb⟩ := hb.h; let ⟨_, pc, jc⟩ := hc.h; ⟨_, pt_chain ho ho' pa pb pc hm, jt_test (je_chain hk hk' ja jb jc)⟩
/-! tests -/
theorem dt_val {m : ME} (h : DE X cls pn e m) (he : ∀ whole, isTrue e X.env whole = (do let v ← whole; standAt e.pos; holding [v] (truthy v)) := by intro _; kernel_rfl) : DT X cls pn e (mB m) := let ⟨_, a, b⟩ := h.h; ⟨_, pt_val a he, jt_b b⟩
theorem dt_tru {m : MO} (h : DO X cls pn e m) (he : ∀ whole, isTrue e X.env whole = (do let v ← whole; standAt e.pos; holding [v] (truthy v)) := by intro _; kernel_rfl) : DT X cls pn e (mTru m) := let ⟨_, a, b⟩ := h.h; ⟨_, pt_truth a he, jt_tru b⟩
theorem dt_not {m : MT} (h : DT X cls pn a m) : DT X cls pn (.UnaryOp .Not a pos) (mNot m) := let ⟨_, a, b⟩ := h.h; ⟨_, pt_not a, jt_not b⟩
theorem dt_w {m : MT} (h : DW X cls pn e m) : DT X cls pn e m := let ⟨_, a, b⟩ := h.h; ⟨_, a.pt, b⟩
theorem dw_and1 {m : MT} (h : DT X cls pn a m) : DW X cls pn (.BoolOp .And [a] pos) m := let ⟨_, a, b⟩ := h.h; ⟨_, pw_and1 a, b⟩
theorem dw_or1 {m : MT} (h : DT X cls pn a m) : DW X cls pn (.BoolOp .Or [a] pos) m := let ⟨_, a, b⟩ := h.h; ⟨_, pw_or1 a, b⟩
theorem dw_and {m n : MT} (h : DT X cls pn a m) (r : DW X cls pn (.BoolOp .And (b :: es) pos) n) : DW X cls pn (.BoolOp .And (a :: b :: es) pos) (mAnd m n) := let ⟨_, a, b⟩ := h.h; let ⟨_, c, d⟩ := r.h; ⟨_, pw_and a c, jt_and b d⟩
theorem dw_or {m n : MT} (h : DT X cls pn a m) (r : DW X cls pn (.BoolOp .Or (b :: es) pos) n) : DW X cls pn (.BoolOp .Or (a :: b :: es) pos) (mOr m n) := let ⟨_, a, b⟩ := h.h; let ⟨_, c, d⟩ := r.h; ⟨_, pw_or a c, jt_or b d⟩
theorem de_one {op} {m : ME} (h : DE X cls pn a m) : DE X cls pn (.BoolOp op [a] pos) m := let ⟨_, a, b⟩ := h.h; ⟨_, pe_one a, b⟩
theorem de_and {m n : ME} (h : DE X cls pn a m) (r : DE X cls pn (.BoolOp .And (b :: es) pos) n) : DE X cls pn (.BoolOp .And (a :: b :: es) pos) (mAndV m n) := let ⟨_, a, b⟩ := h.h; let ⟨_, c, d⟩ := r.h; ⟨_, pe_and a c, je_and b d⟩
theorem de_or {m n : ME} (h : DE X cls pn a m) (r : DE X cls pn (.BoolOp .Or (b :: es) pos) n) : DE X cls pn (.BoolOp .Or (a :: b :: es) pos) (mOrV m n) := let ⟨_, a, b⟩ := h.h; let ⟨_, c, d⟩ := r.h; ⟨_, pe_or a c, je_or b d⟩
theorem de_not {m : ME} (h : DE X cls pn a m) : DE X cls pn (.UnaryOp .Not a pos) (mNotV m) := let ⟨_, a, b⟩ := h.h; ⟨_, pe_not a, je_not b⟩
theorem de_if {t : MT} {m n : ME} (h : DT X cls pn c t) (h1 : DE X cls pn a m) (h2 : DE X cls pn b n) : DE X cls pn (.IfExp c a b pos) (mIf t m n) := let ⟨_, a, b⟩ := h.h; let ⟨_, c, d⟩ := h1.h; let ⟨_, e, f⟩ := h2.h; ⟨_, pe_ifExp a c e, je_if b d f⟩
/-! items, slices -/
/-- an item of a list, a tuple, a text -/
def fIx : F2 := fun x y q => match x with | .tup _ => fIxT x y q | .str _ => fIxS x y q | _ => fIxL x y q
theorem ok_ix : OpOk ⟨X.K, cls⟩ (rIx X.K) fIx := fun E H x y dx dy Q q hE rx ry h k => by
  unfold fIx at h
  split at h
  · exact .inr (.inl (ok_ixT E H x y _ dy Q q hE rx ry h k))
  · exact .inr (.inr (ok_ixS E H x y _ dy Q q hE rx ry h k))
  · exact .inl (ok_ixL E H x y _ dy Q q hE rx ry h k)
theorem de_ixA (ha : DO X cls pn a ma) (hb : DO X cls pn b mb) (hs : PlainIx b) : DE X cls pn (.Subscript a b pos) (mOp fIx ma mb) :=
  let ⟨_, pa, ja⟩ := ha.h; let ⟨_, pb, jb⟩ := hb.h; ⟨_, pe_ix ix_seq pa pb hs, je_op ok_ix ja jb⟩
theorem de_ix {r : R2} {f : F2} (hr : IxR X r) (hk : OpOk ⟨X.K, cls⟩ r f) (ha : DO X cls pn a ma) (hb : DO X cls pn b mb) (hs : PlainIx b) : DE X cls pn (.Subscript a b pos) (mOp f ma mb) :=
  let ⟨_, pa, ja⟩ := ha.h; let ⟨_, pb, jb⟩ := hb.h; ⟨_, pe_ix hr pa pb hs, je_op hk ja jb⟩
theorem dp_none : DP X cls pn none mNoPart := ⟨_, po_none, jo_none⟩
theorem dp_some {m : ME} (h : DE X cls pn e m) : DP X cls pn (some e) (mPart m) := let ⟨_, a, b⟩ := h.h; ⟨_, po_some a, jo_some b⟩
theorem df_slL {lo hi : Option Expr} {l u : MOI} {p2 : Pos} (ha : DO X cls pn a ma) (hl : DP X cls pn lo l) (hu : DP X cls pn hi u) : DF X cls pn (.Subscript a (.Slice lo hi none p2) pos) (mSlL ma l u) :=
  let ⟨_, a, b⟩ := ha.h; let ⟨_, c, d⟩ := hl.h; let ⟨_, e, f⟩ := hu.h; ⟨_, pe_slice sl_list a c e, jf_slL b d f⟩
theorem de_slS {lo hi : Option Expr} {l u : MOI} {p2 : Pos} (ha : DO X cls pn a ma) (hl : DP X cls pn lo l) (hu : DP X cls pn hi u) : DE X cls pn (.Subscript a (.Slice lo hi none p2) pos) (mSlS ma l u) :=
  let ⟨_, a, b⟩ := ha.h; let ⟨_, c, d⟩ := hl.h; let ⟨_, e, f⟩ := hu.h; ⟨_, pe_slice sl_str a c e, je_slS b d f⟩
/-! built-ins -/
theorem de_b1 {id : String} {r : List V → Hp → VK → Prop} {f : F1} (hc : CallR X (.builtin id) r) (hk : Op1Ok ⟨X.K, cls⟩ (fun y => r [y]) f) (hg : Gl X x) (hm : X.mg x = none) (hv : bootBuiltins x = some (.builtin id)) (ha : DO X cls pn a ma)
    (hs : starEach [a] X.env = [(false, eval a X.env)] := by kernel_rfl) (hn : x ≠ "__name__" := by decide) (hd : (x == ("__debug__" : Str)) = false := by decide) : DE X cls pn (.Call (.Name x p) [a] [] pos) (mOp1 f ma) :=
  let ⟨_, pa, ja⟩ := ha.h; ⟨_, pe_callB hc hg hm hv (pa_cons pa pa_nil hs) hn hd hs rfl, je_call1 hk ja⟩
theorem de_t1 {id : String} {r : List V → Hp → VK → Prop} {f : F1} (hc : CallR X (.type id) r) (hk : Op1Ok ⟨X.K, cls⟩ (fun y => r [y]) f) (hg : Gl X x) (hm : X.mg x = none) (hv : bootBuiltins x = some (.type id)) (ha : DO X cls pn a ma)
    (hs : starEach [a] X.env = [(false, eval a X.env)] := by kernel_rfl) (hn : x ≠ "__name__" := by decide) (hd : (x == ("__debug__" : Str)) = false := by decide) : DE X cls pn (.Call (.Name x p) [a] [] pos) (mOp1 f ma) :=
  let ⟨_, pa, ja⟩ := ha.h; ⟨_, pe_callTy hc hg hm hv (pa_cons pa pa_nil hs) hn hd hs rfl, je_call1 hk ja⟩
theorem df_t1 {id : String} {r : List V → Hp → VK → Prop} {f : FL1} (hc : CallR X (.type id) r) (hk : Op1New ⟨X.K, cls⟩ (fun y => r [y]) f) (hg : Gl X x) (hm : X.mg x = none) (hv : bootBuiltins x = some (.type id)) (ha : DO X cls pn a ma)
    (hs : starEach [a] X.env = [(false, eval a X.env)] := by kernel_rfl) (hn : x ≠ "__name__" := by decide) (hd : (x == ("__debug__" : Str)) = false := by decide) : DF X cls pn (.Call (.Name x p) [a] [] pos) (mOpL1 f ma) :=
  let ⟨_, pa, ja⟩ := ha.h; ⟨_, pe_callTy hc hg hm hv (pa_cons pa pa_nil hs) hn hd hs rfl, jf_call1 hk ja⟩
theorem df_b1 {id : String} {r : List V → Hp → VK → Prop} {f : FL1} (hc : CallR X (.builtin id) r) (hk : Op1New ⟨X.K, cls⟩ (fun y => r [y]) f) (hg : Gl X x) (hm : X.mg x = none) (hv : bootBuiltins x = some (.builtin id)) (ha : DO X cls pn a ma)
    (hs : starEach [a] X.env = [(false, eval a X.env)] := by kernel_rfl) (hn : x ≠ "__name__" := by decide) (hd : (x == ("__debug__" : Str)) = false := by decide) : DF X cls pn (.Call (.Name x p) [a] [] pos) (mOpL1 f ma) :=
  let ⟨_, pa, ja⟩ := ha.h; ⟨_, pe_callB hc hg hm hv (pa_cons pa pa_nil hs) hn hd hs rfl, jf_call1 hk ja⟩
theorem de_b2 {id : String} {r : List V → Hp → VK → Prop} {f : F2} (hc : CallR X (.builtin id) r) (hk : OpOk ⟨X.K, cls⟩ (fun y z => r [y, z]) f) (hg : Gl X x) (hm : X.mg x = none) (hv : bootBuiltins x = some (.builtin id)) (ha : DO X cls pn a ma) (hb : DO X cls pn b mb)
    (hs : starEach [a, b] X.env = (false, eval a X.env) :: starEach [b] X.env := by kernel_rfl) (hs2 : starEach [b] X.env = [(false, eval b X.env)] := by kernel_rfl) (hp : (backTo pos (starEach [b] X.env)).any (·.1) = false := by kernel_rfl)
    (hn : x ≠ "__name__" := by decide) (hd : (x == ("__debug__" : Str)) = false := by decide) : DE X cls pn (.Call (.Name x p) [a, b] [] pos) (mOp f ma mb) :=
  let ⟨_, pa, ja⟩ := ha.h; let ⟨_, pb, jb⟩ := hb.h; ⟨_, pe_callB hc hg hm hv (pa_cons pa (pa_cons pb pa_nil hs2) hs) hn hd hs hp, je_call2 hk ja jb⟩
theorem de_len (hg : Gl X "len") (hm : X.mg "len" = none) (ha : DO X cls pn a ma) (hs : starEach [a] X.env = [(false, eval a X.env)] := by kernel_rfl) : DE X cls pn (.Call (.Name "len" p) [a] [] pos) (mOp1 fLen ma) :=
  de_b1 call_len ok_len hg hm (by kernel_rfl) ha hs
theorem de_all (hc : X.calm = true) (hg : Gl X "all") (hm : X.mg "all" = none) (ha : DO X cls pn a ma) (hs : starEach [a] X.env = [(false, eval a X.env)] := by kernel_rfl) : DE X cls pn (.Call (.Name "all" p) [a] [] pos) (mOp1 fAll ma) :=
  de_b1 (call_all hc) ok_all hg hm (by kernel_rfl) ha hs
theorem de_intc (hg : Gl X "int") (hm : X.mg "int" = none) (ha : DO X cls pn a ma) (hs : starEach [a] X.env = [(false, eval a X.env)] := by kernel_rfl) : DE X cls pn (.Call (.Name "int" p) [a] [] pos) (mOp1 fInt ma) :=
  de_t1 call_int1 ok_int hg hm (by kernel_rfl) ha hs
theorem df_list (hg : Gl X "list") (hm : X.mg "list" = none) (ha : DO X cls pn a ma) (hs : starEach [a] X.env = [(false, eval a X.env)] := by kernel_rfl) : DF X cls pn (.Call (.Name "list" p) [a] [] pos) (mOpL1 fList ma) :=
  df_t1 call_list_of ok_list hg hm (by kernel_rfl) ha hs
theorem de_tuple (hg : Gl X "tuple") (hm : X.mg "tuple" = none) (ha : DO X cls pn a ma) (hs : starEach [a] X.env = [(false, eval a X.env)] := by kernel_rfl) : DE X cls pn (.Call (.Name "tuple" p) [a] [] pos) (mOp1 fTuple ma) :=
  de_t1 call_tuple_of ok_tuple hg hm (by kernel_rfl) ha hs
theorem de_max2 (hc : X.calm = true) (hg : Gl X "max") (hm : X.mg "max" = none) (ha : DO X cls pn a ma) (hb : DO X cls pn b mb) (hs : starEach [a, b] X.env = (false, eval a X.env) :: starEach [b] X.env := by kernel_rfl) (hs2 : starEach [b] X.env = [(false, eval b X.env)] := by kernel_rfl)
    (hp : (backTo pos (starEach [b] X.env)).any (·.1) = false := by kernel_rfl) : DE X cls pn (.Call (.Name "max" p) [a, b] [] pos) (mOp fMax2 ma mb) := de_b2 (call_max2 hc) ok_max2 hg hm (by kernel_rfl) ha hb hs hs2 hp
theorem de_min2 (hc : X.calm = true) (hg : Gl X "min") (hm : X.mg "min" = none) (ha : DO X cls pn a ma) (hb : DO X cls pn b mb) (hs : starEach [a, b] X.env = (false, eval a X.env) :: starEach [b] X.env := by kernel_rfl) (hs2 : starEach [b] X.env = [(false, eval b X.env)] := by kernel_rfl)
    (hp : (backTo pos (starEach [b] X.env)).any (·.1) = false := by kernel_rfl) : DE X cls pn (.Call (.Name "min" p) [a, b] [] pos) (mOp fMin2 ma mb) := de_b2 (call_min2 hc) ok_min2 hg hm (by kernel_rfl) ha hb hs hs2 hp
theorem de_inst (hg : Gl X "isinstance") (hm : X.mg "isinstance" = none) (ha : DO X cls pn a ma) (hb : DO X cls pn b mb) (hs : starEach [a, b] X.env = (false, eval a X.env) :: starEach [b] X.env := by kernel_rfl) (hs2 : starEach [b] X.env = [(false, eval b X.env)] := by kernel_rfl)
    (hp : (backTo pos (starEach [b] X.env)).any (·.1) = false := by kernel_rfl) : DE X cls pn (.Call (.Name "isinstance" p) [a, b] [] pos) (mOp fInst ma mb) := de_b2 call_isinst2 ok_inst hg hm (by kernel_rfl) ha hb hs hs2 hp
end
end M

namespace M
open PySem L2
/-- a def of the text and its promise without a heap -/
structure HM (P : Program) (w : World) (K : PySem.W.Frag) (mg : Str → Option Value) (base : Heap) (cls : Nat → Option Addr) (x : Str) (k : Nat) (ps : List Str) (pn : List Nat) (fr : Bool) (p : PSp) : Prop where
  has : Has P w K mg base x k ps (spM ⟨K, cls⟩ pn fr ps.length p)
  len : ∀ ss q, p ss q Z0 → ss.length = ps.length
section
variable {X : Cx} {cls : Nat → Option Addr} {pn : List Nat} {a b c e o tg iter : Expr} {es : List Expr} {pos p pos' apos cpos : Pos} {x : Str} {ma mb : MO} {st : Stmt} {sts : List Stmt} {fr : Bool}
/-! statements -/
theorem dss_nil : DSs X cls pn fr [] mNext := ⟨_, pss_nil, js_next⟩
theorem dss_cons {m n : MS} (h : DS X cls pn fr st m) (r : DSs X cls pn fr sts n) : DSs X cls pn fr (st :: sts) (mSeq m n) := let ⟨_, a, b⟩ := h.h; let ⟨_, c, d⟩ := r.h; ⟨_, pss_cons a c, js_seq b d⟩
theorem dss_one {m : MS} (h : DS X cls pn fr st m) : DSs X cls pn fr [st] m := let ⟨_, a, b⟩ := h.h; ⟨_, pss_one a, b⟩
theorem ds_pass : DS X cls pn fr (.Pass pos) mNext := ⟨_, ps_pass, js_next⟩
theorem ds_break : DS X cls pn fr (.Break pos) mBreak := ⟨_, ps_break, js_break⟩
theorem ds_continue : DS X cls pn fr (.Continue pos) mCont := ⟨_, ps_continue, js_cont⟩
theorem ds_never : DS X cls pn fr st mNever := ⟨_, ps_never, js_never⟩
theorem ds_expr {m : ME} (h : DE X cls pn e m) (hs : swapsWith e none pos.line X.env = pure false := by kernel_rfl) : DS X cls pn fr (.Expr e pos) (mDrop m) := let ⟨_, a, b⟩ := h.h; ⟨_, ps_expr a hs, js_drop b⟩
theorem ds_ret {m : ME} (h : DE X cls pn e m) : DS X cls pn false (.Return (some e) pos) (mRet m) := let ⟨_, a, b⟩ := h.h; ⟨_, ps_ret a, js_ret b⟩
theorem ds_retF {m : ME} (h : DF X cls pn e m) : DS X cls pn true (.Return (some e) pos) (mRet m) := let ⟨_, a, b⟩ := h.h; ⟨_, ps_ret a, js_retF b⟩
theorem ds_retN : DS X cls pn false (.Return none pos) mRetN := ⟨_, ps_retN, js_retN⟩
theorem ds_if {t : MT} {m n : MS} {s1 s2 : List Stmt} (h : DT X cls pn c t) (h1 : DSs X cls pn fr s1 m) (h2 : DSs X cls pn fr s2 n) : DS X cls pn fr (.If c s1 s2 pos) (mIfS t m n) :=
  let ⟨_, a, b⟩ := h.h; let ⟨_, c, d⟩ := h1.h; let ⟨_, e, f⟩ := h2.h; ⟨_, ps_if a c e, js_if b d f⟩
theorem ds_set {i : Nat} {m : ME} (hi' : i ∉ pn) (hN : X.N.Nodup) (hi : X.N[i]? = some x) (hx : Loc X.env.scope x) (he : DE X cls pn e m) (hs : swapsWith e (some (.Name x pos')) pos.line X.env = pure false := by kernel_rfl)
    (hf : X.fn x = true ∨ X.env.scope.names.lookup x = some .local := by first | exact .inl rfl | exact .inr rfl | assumption) : DS X cls pn fr (.Assign [.Name x pos'] e pos) (mSet i m) :=
  let ⟨_, a, b⟩ := he.h; ⟨_, ps_set hN hi hx a hs hf, js_set hi' b⟩
theorem ds_setOwn {i : Nat} {m : ME} (hi' : i ∉ pn) (hN : X.N.Nodup) (hi : X.N[i]? = some x) (hx : Loc X.env.scope x) (he : DF X cls pn e m) (hs : swapsWith e (some (.Name x pos')) pos.line X.env = pure false := by kernel_rfl)
    (hf : X.fn x = true ∨ X.env.scope.names.lookup x = some .local := by first | exact .inl rfl | exact .inr rfl | assumption) : DS X cls pn fr (.Assign [.Name x pos'] e pos) (mSetOwn i m) :=
  let ⟨_, a, b⟩ := he.h; ⟨_, ps_set hN hi hx a hs hf, js_setOwn hi' b⟩
/-! targets -/
theorem dg_name {i : Nat} (hi' : i ∉ pn) (hN : X.N.Nodup) (hi : X.N[i]? = some x) (hx : Loc X.env.scope x) (hf : X.fn x = true ∨ X.env.scope.names.lookup x = some .local := by first | exact .inl rfl | exact .inr rfl | assumption) : DG X cls pn (.Name x pos) (mgName i) :=
  ⟨_, pg_name hN hi hx hf, jg_name hi'⟩
theorem dgs_nil : DGs X cls pn [] mgNil := ⟨_, pgs_nil, jgs_nil⟩
theorem dgs_cons {m : MG} {n : MGs} (h : DG X cls pn e m) (r : DGs X cls pn es n) (hs : (assignEach (e :: es) X.env).map (·.2) = assign e X.env :: (assignEach es X.env).map (·.2) := by kernel_rfl) : DGs X cls pn (e :: es) (mgCons m n) :=
  let ⟨_, a, b⟩ := h.h; let ⟨_, c, d⟩ := r.h; ⟨_, pgs_cons a c hs, jgs_cons b d⟩
theorem dg_tup {k n : Nat} {m : MGs} (hc : X.calm = true) (h : DGs X cls pn es m) (hn : (assignEach es X.env).length = n := by kernel_rfl) (hst : (assignEach es X.env).findIdx? (·.1) = none := by kernel_rfl) : DG X cls pn (.Tuple es k pos) (mgTup m n) :=
  let ⟨_, a, b⟩ := h.h; ⟨_, pg_tup hc a hn hst, jg_tup b⟩
def mAsg (m : ME) (g : MG) : MS := fun N ρ => m ρ fun d ρ1 => g d ρ1 N.nx
theorem js_asg {Γ : Cn} {t : TE} {m : ME} {g : TG} {mg : MG} (h : JE Γ pn t m) (hg : JG Γ pn g mg) : JS Γ pn fr (tAsg t g) (mAsg m mg) := fun S σ ρ H τ D N hp R hm hn hr hb hc =>
  h S σ ρ H τ _ _ hp R hm fun v d H' ρ' R' r q => hg S σ ρ' H' τ v d _ _ hp R' r q fun σ2 H2 ρ2 R2 q2 => hn σ2 H2 ρ2 R2 q2
theorem ds_asg {m : ME} {g : MG} (he : DE X cls pn e m) (hg : DG X cls pn tg g) (hs : swapsWithSole [tg] e pos.line X.env = pure false := by kernel_rfl) (hw : swappedStores [tg] e X.env = pure none := by kernel_rfl) (h1 : (assignEach [tg] X.env).map (·.2) = [assign tg X.env] := by kernel_rfl) :
    DS X cls pn fr (.Assign [tg] e pos) (mAsg m g) := let ⟨_, a, b⟩ := he.h; let ⟨_, c, d⟩ := hg.h; ⟨_, ps_asg a c hs hw h1, js_asg b d⟩
/-! loops -/
theorem di_list {m : ME} (h : DE X cls pn iter m) : DI X cls pn tg iter (miList m) := let ⟨_, a, b⟩ := h.h; ⟨_, pi_list a, ji_list b⟩
theorem di_str {m : ME} (h : DE X cls pn iter m) : DI X cls pn tg iter (miStr m) := let ⟨_, a, b⟩ := h.h; ⟨_, pi_str a, ji_str b⟩
theorem di_range1 {m : MA} (hg : Gl X "range") (hm : X.mg "range" = none) (h : DA X cls pn [a] m) (hs : starEach [a] X.env = [(false, eval a X.env)] := by kernel_rfl) : DI X cls pn tg (.Call (.Name "range" p) [a] [] pos) (miRange1 m) :=
  let ⟨_, a, b⟩ := h.h; ⟨_, pi_range1 hg hm a hs, ji_range1 b⟩
theorem di_range2 {m : MA} (hg : Gl X "range") (hm : X.mg "range" = none) (h : DA X cls pn [a, b] m) (hs : starEach [a, b] X.env = [(false, eval a X.env), (false, eval b X.env)] := by kernel_rfl) (hs2 : starEach [b] X.env = [(false, eval b X.env)] := by kernel_rfl) :
    DI X cls pn tg (.Call (.Name "range" p) [a, b] [] pos) (miRange2 m) := let ⟨_, a, b⟩ := h.h; ⟨_, pi_range2 hg hm a hs hs2, ji_range2 b⟩
theorem ds_for {mi : MI} {mg : MG} {m : MS} (hp : PassesOwn (model X.prog X.w) X.A X.env X.xe) (hc : X.calm = true) (hi : DI X cls pn tg iter mi) (hg : DG X cls pn tg mg) (hb : DSs X cls pn fr sts m) (hs : ∀ x, foldedSetIterable iter X.env x = pure x := by intro _; kernel_rfl) :
    DS X cls pn fr (.For tg iter sts [] pos) (mFor mi mg m) := let ⟨_, a, b⟩ := hi.h; let ⟨_, c, d⟩ := hg.h; let ⟨_, e, f⟩ := hb.h; ⟨_, ps_for hp hc a c e hs, js_for b d f⟩
theorem ds_while {t : MT} {m : MS} (hp : PassesOwn (model X.prog X.w) X.A X.env X.xe) (hc : DT X cls pn c t) (hb : DSs X cls pn fr sts m) : DS X cls pn fr (.While c sts [] pos) (mWhile t m) :=
  let ⟨_, a, b⟩ := hc.h; let ⟨_, e, f⟩ := hb.h; ⟨_, ps_while hp a e, js_while b f⟩
/-! comprehensions -/
theorem dts_nil : DTs X cls pn [] mTT := ⟨_, pts_nil, jt_tt⟩
theorem dts_one {m : MT} (h : DT X cls pn c m) : DTs X cls pn [c] m := let ⟨_, a, b⟩ := h.h; ⟨_, pts_one a, b⟩
def onceB (js : List (Option Nat)) : Bool := decide ((js.filterMap id).Nodup)
theorem Once.of_b : ∀ {js : List (Option Nat)}, onceB js = true → Once js
  | [], _ => fun k k' j h => by simp at h
  | none :: js, h => fun k k' j h1 h2 => by
    have ih := Once.of_b (js := js) (by simpa [onceB] using h)
    cases k with
    | zero => simp at h1
    | succ k => cases k' with
      | zero => simp at h2
      | succ k' => rw [ih k k' j (by simpa using h1) (by simpa using h2)]
  | some i :: js, h => fun k k' j h1 h2 => by
    have h' : ¬ i ∈ js.filterMap id ∧ (js.filterMap id).Nodup := by simpa [onceB] using h
    have ih := Once.of_b (js := js) (by simpa [onceB] using h'.2)
    have no : ∀ k, js[k]? = some (some i) → False := fun k hk => h'.1 (List.mem_filterMap.mpr ⟨some i, List.mem_of_getElem? hk, rfl⟩)
    cases k with
    | zero =>
      simp at h1; subst h1
      cases k' with
      | zero => rfl
      | succ k' => exact (no k' (by simpa using h2)).elim
    | succ k => cases k' with
      | zero => simp at h2; subst h2; exact (no k (by simpa using h1)).elim
      | succ k' => rw [ih k k' j (by simpa using h1) (by simpa using h2)]
variable {N' : List Str} {js : List (Option Nat)} {scope : Scope} {elt : Expr} {ifs : List Expr}
/-- the weakest reading that a mirror gives -/
def tOfE (Γ : Cn) (pn : List Nat) (m : ME) : TE := fun σ H Q => ∃ (S : Fs) (ρ : Env) (τ : List (V × D)) (q : EK), PinOk pn S ∧ Rel Γ S H σ ρ τ ∧ m ρ q ∧ ∀ v d H' ρ', Rel Γ S H' σ ρ' τ → Rep Γ (exA S σ ρ') H' v d → q d ρ' → Q v H'
def tOfT (Γ : Cn) (pn : List Nat) (m : MT) : TT := fun σ H Q => ∃ (S : Fs) (ρ : Env) (τ : List (V × D)) (q : Bool → Env → Prop), PinOk pn S ∧ Rel Γ S H σ ρ τ ∧ m ρ q ∧ ∀ b H' ρ', Rel Γ S H' σ ρ' τ → q b ρ' → Q b H'
def tOfG (Γ : Cn) (pn : List Nat) (m : MG) : TG := fun v σ H Q => ∃ (S : Fs) (ρ : Env) (τ : List (V × D)) (d : D) (q : Env → Prop), PinOk pn S ∧ Rel Γ S H σ ρ τ ∧ Rep Γ (exA S σ ρ) H v d ∧ m d ρ q ∧ ∀ σ' H' ρ', Rel Γ S H' σ' ρ' τ → q ρ' → Q σ' H'
theorem je_ofE {Γ : Cn} {m : ME} : JE Γ pn (tOfE Γ pn m) m := fun S σ ρ H τ Q q hp R hm hq => ⟨S, ρ, τ, q, hp, R, hm, hq⟩
theorem jt_ofT {Γ : Cn} {m : MT} : JT Γ pn (tOfT Γ pn m) m := fun S σ ρ H τ Q q hp R hm hq => ⟨S, ρ, τ, q, hp, R, hm, hq⟩
theorem jg_ofG {Γ : Cn} {m : MG} : JG Γ pn (tOfG Γ pn m) m := fun S σ ρ H τ v d Q q hp R r hm hq => ⟨S, ρ, τ, d, q, hp, R, r, hm, hq⟩
theorem DE.pe {m : ME} (h : DE X cls pn e m) : PE X e (tOfE ⟨X.K, cls⟩ pn m) := fun pins s σ H Q I ⟨S, ρ, τ, q, hp, R, hm, hq⟩ => let ⟨t, a, b⟩ := h.h; a pins s σ H Q I (b S σ ρ H τ Q q hp R hm hq)
theorem DTs.pt {m : MT} (h : DTs X cls pn es m) : PTs X es (tOfT ⟨X.K, cls⟩ pn m) := fun pins s σ H Q I ⟨S, ρ, τ, q, hp, R, hm, hq⟩ => let ⟨t, a, b⟩ := h.h; a pins s σ H Q I (b S σ ρ H τ Q q hp R hm hq)
theorem DG.pg {m : MG} (h : DG X cls pn e m) : PG X e (tOfG ⟨X.K, cls⟩ pn m) := fun pins s σ H v u Q I r ⟨S, ρ, τ, d, q, hp, R, rd, hm, hq⟩ => let ⟨t, a, b⟩ := h.h; a pins s σ H v u Q I r (b S σ ρ H τ v d Q q hp R rd hm hq)
theorem df_comp {mi : MI} {g : MG} {t : MT} {m : ME} (hc : X.calm = true) (K : CompOk X N' js scope) (h1 : onceB js = true) (hi : DI X cls pn tg iter mi) (hg : ∀ s2 H2 fp C cl, DG (compCx X N' scope cl C s2 H2 fp) cls (pnB js) tg g)
    (ht : ∀ s2 H2 fp C cl, DTs (compCx X N' scope cl C s2 H2 fp) cls (pnB js) ifs t) (he : ∀ s2 H2 fp C cl, DE (compCx X N' scope cl C s2 H2 fp) cls (pnB js) elt m)
    (hs : ∀ x, foldedSetIterable iter X.env x = pure x := by intro _; kernel_rfl) : DF X cls pn (.ListComp elt [⟨tg, iter, ifs, 0⟩] scope pos) (mComp mi js g t m) :=
  let ⟨_, a, b⟩ := hi.h
  ⟨_, pe_comp hc K a (fun s2 H2 fp C cl => ⟨(hg s2 H2 fp C cl).pg, (ht s2 H2 fp C cl).pt, (he s2 H2 fp C cl).pe⟩) hs, jf_comp (Once.of_b h1) b jg_ofG jt_ofT je_ofE⟩
/-- x = [..], a local name -/
theorem ds_comp {i : Nat} {y : Str} {py spos : Pos} {mi : MI} {g : MG} {t : MT} {m : ME} (hi' : i ∉ pn) (hc : X.calm = true) (hN : X.N.Nodup) (hi0 : X.N[i]? = some y) (hy : X.env.scope.names.lookup y = some .local) (K : CompOk X N' js scope) (h1 : onceB js = true) (hi : DI X cls pn tg iter mi)
    (hg : ∀ s2 H2 fp C cl, DG (compCx X N' scope cl C s2 H2 fp) cls (pnB js) tg g) (ht : ∀ s2 H2 fp C cl, DTs (compCx X N' scope cl C s2 H2 fp) cls (pnB js) ifs t) (he : ∀ s2 H2 fp C cl, DE (compCx X N' scope cl C s2 H2 fp) cls (pnB js) elt m)
    (hsw : swapsWith (.ListComp elt [⟨tg, iter, ifs, 0⟩] scope pos) (some (.Name y py)) spos.line X.env = pure true := by kernel_rfl) (hs : ∀ x, foldedSetIterable iter X.env x = pure x := by intro _; kernel_rfl) :
    DS X cls pn fr (.Assign [.Name y py] (.ListComp elt [⟨tg, iter, ifs, 0⟩] scope pos) spos) (mSet i (mComp mi js g t m)) :=
  let ⟨_, a, b⟩ := hi.h
  ⟨_, ps_comp hc hN hi0 hy K a (fun s2 H2 fp C cl => ⟨(hg s2 H2 fp C cl).pg, (ht s2 H2 fp C cl).pt, (he s2 H2 fp C cl).pe⟩) hsw hs, js_set hi' (je_of_fresh (jf_comp (Once.of_b h1) b jg_ofG jt_ofT je_ofE))⟩
theorem ds_compOwn {i : Nat} {y : Str} {py spos : Pos} {mi : MI} {g : MG} {t : MT} {m : ME} (hi' : i ∉ pn) (hc : X.calm = true) (hN : X.N.Nodup) (hi0 : X.N[i]? = some y) (hy : X.env.scope.names.lookup y = some .local) (K : CompOk X N' js scope) (h1 : onceB js = true) (hi : DI X cls pn tg iter mi)
    (hg : ∀ s2 H2 fp C cl, DG (compCx X N' scope cl C s2 H2 fp) cls (pnB js) tg g) (ht : ∀ s2 H2 fp C cl, DTs (compCx X N' scope cl C s2 H2 fp) cls (pnB js) ifs t) (he : ∀ s2 H2 fp C cl, DE (compCx X N' scope cl C s2 H2 fp) cls (pnB js) elt m)
    (hsw : swapsWith (.ListComp elt [⟨tg, iter, ifs, 0⟩] scope pos) (some (.Name y py)) spos.line X.env = pure true := by kernel_rfl) (hs : ∀ x, foldedSetIterable iter X.env x = pure x := by intro _; kernel_rfl) :
    DS X cls pn fr (.Assign [.Name y py] (.ListComp elt [⟨tg, iter, ifs, 0⟩] scope pos) spos) (mSetOwn i (mComp mi js g t m)) :=
  let ⟨_, a, b⟩ := hi.h
  ⟨_, ps_comp hc hN hi0 hy K a (fun s2 H2 fp C cl => ⟨(hg s2 H2 fp C cl).pg, (ht s2 H2 fp C cl).pt, (he s2 H2 fp C cl).pe⟩) hsw hs, js_setOwn hi' (jf_comp (Once.of_b h1) b jg_ofG jt_ofT je_ofE)⟩
/-! lists that are changed -/
theorem de_mut1 {id : String} {r : V → List V → Hp → VK → Prop} {m : ME} {i : Nat} {name : Str} {mm : ME} (slot : PySem.Slot "list" name id) (hty : typeOf (.builtin id) = pure (.type "method_descriptor")) (hm : MtR X id r) (i' : X.N[i]? = some x) (hj : ∀ ta, JE ⟨X.K, cls⟩ pn ta m → JE ⟨X.K, cls⟩ pn (tBM X.K "list" r (tVar i) (tCons ta tNil)) mm) (ha : DE X cls pn e m)
    (hv : Vis X.env.scope x) (hd : (x == ("__debug__" : Str)) = false) (hcd : (x == ("__classdict__" : Str)) = false)
    (hbase : attributeBase (.Name x p) name X.env (eval (.Name x p) X.env) = eval (.Name x p) X.env) (hfew : ((backTo cpos (starEach [e] X.env)).all (fun x => !x.1) && (backToKw cpos (keywordEach [] X.env)).all (fun x => x.1.isSome)
      && decide (([e] : List Expr).length + ([] : List Keyword).length + (if ([] : List Keyword).isEmpty then 0 else 1) < 30)) = true) (hline : (apos.endLine == cpos.line) = true) (hs : starEach [e] X.env = [(false, eval e X.env)]) :
    DE X cls pn (.Call (.Attribute (.Name x p) name apos) [e] [] cpos) mm :=
  let ⟨_, a, b⟩ := ha.h; ⟨_, pe_bm PySem.F.plainAttrs_list slot hty hm (pe_var i' hv hd hcd) (pa_cons a pa_nil hs) hbase hfew hline hs rfl, hj _ b⟩
theorem de_append (i : Nat) {m : ME} (ha : DE X cls pn e m) (i' : X.N[i]? = some x := by kernel_rfl) (hv : Vis X.env.scope x := by first | exact Or.inl rfl | exact Or.inr (Or.inl rfl) | exact Or.inr (Or.inr rfl)) (hd : (x == ("__debug__" : Str)) = false := by decide) (hcd : (x == ("__classdict__" : Str)) = false := by decide)
    (hbase : attributeBase (.Name x p) "append" X.env (eval (.Name x p) X.env) = eval (.Name x p) X.env := by kernel_rfl) (hfew : ((backTo cpos (starEach [e] X.env)).all (fun x => !x.1) && (backToKw cpos (keywordEach [] X.env)).all (fun x => x.1.isSome)
      && decide (([e] : List Expr).length + ([] : List Keyword).length + (if ([] : List Keyword).isEmpty then 0 else 1) < 30)) = true := by kernel_rfl) (hline : (apos.endLine == cpos.line) = true := by kernel_rfl) (hs : starEach [e] X.env = [(false, eval e X.env)] := by kernel_rfl) :
    DE X cls pn (.Call (.Attribute (.Name x p) "append" apos) [e] [] cpos) (mMut1 fAppend i m) := de_mut1 PySem.F.slot_list_append PySem.F.type_list_append mt_append i' (fun _ => je_append) ha hv hd hcd hbase hfew hline hs
theorem de_extend (i : Nat) {m : ME} (ha : DE X cls pn e m) (i' : X.N[i]? = some x := by kernel_rfl) (hv : Vis X.env.scope x := by first | exact Or.inl rfl | exact Or.inr (Or.inl rfl) | exact Or.inr (Or.inr rfl)) (hd : (x == ("__debug__" : Str)) = false := by decide) (hcd : (x == ("__classdict__" : Str)) = false := by decide)
    (hbase : attributeBase (.Name x p) "extend" X.env (eval (.Name x p) X.env) = eval (.Name x p) X.env := by kernel_rfl) (hfew : ((backTo cpos (starEach [e] X.env)).all (fun x => !x.1) && (backToKw cpos (keywordEach [] X.env)).all (fun x => x.1.isSome)
      && decide (([e] : List Expr).length + ([] : List Keyword).length + (if ([] : List Keyword).isEmpty then 0 else 1) < 30)) = true := by kernel_rfl) (hline : (apos.endLine == cpos.line) = true := by kernel_rfl) (hs : starEach [e] X.env = [(false, eval e X.env)] := by kernel_rfl) :
    DE X cls pn (.Call (.Attribute (.Name x p) "extend" apos) [e] [] cpos) (mMut1 fExtend i m) := de_mut1 PySem.F.slot_list_extend PySem.F.type_list_extend mt_extend i' (fun _ => je_extend) ha hv hd hcd hbase hfew hline hs
theorem de_pop (i : Nat) {m : ME} (ha : DE X cls pn e m) (i' : X.N[i]? = some x := by kernel_rfl) (hv : Vis X.env.scope x := by first | exact Or.inl rfl | exact Or.inr (Or.inl rfl) | exact Or.inr (Or.inr rfl)) (hd : (x == ("__debug__" : Str)) = false := by decide) (hcd : (x == ("__classdict__" : Str)) = false := by decide)
    (hbase : attributeBase (.Name x p) "pop" X.env (eval (.Name x p) X.env) = eval (.Name x p) X.env := by kernel_rfl) (hfew : ((backTo cpos (starEach [e] X.env)).all (fun x => !x.1) && (backToKw cpos (keywordEach [] X.env)).all (fun x => x.1.isSome)
      && decide (([e] : List Expr).length + ([] : List Keyword).length + (if ([] : List Keyword).isEmpty then 0 else 1) < 30)) = true := by kernel_rfl) (hline : (apos.endLine == cpos.line) = true := by kernel_rfl) (hs : starEach [e] X.env = [(false, eval e X.env)] := by kernel_rfl) :
    DE X cls pn (.Call (.Attribute (.Name x p) "pop" apos) [e] [] cpos) (mMut1 fPop i m) := de_mut1 PySem.F.slot_list_pop PySem.F.type_list_pop mt_popAt i' (fun _ => je_pop) ha hv hd hcd hbase hfew hline hs
theorem ds_setIx (i : Nat) {m v : ME} {value : Expr} {pn' : Pos} (hv : DE X cls pn value v) (hi : DE X cls pn a m) (i' : X.N[i]? = some x := by kernel_rfl) (hvis : Vis X.env.scope x := by first | exact Or.inl rfl | exact Or.inr (Or.inl rfl) | exact Or.inr (Or.inr rfl))
    (hd : (x == ("__debug__" : Str)) = false := by decide) (hcd : (x == ("__classdict__" : Str)) = false := by decide)
    (ha : ∀ v, assign (.Subscript (.Name x p) a pos) X.env v = (do
      let ov ← holding [v] (eval (.Name x p) X.env)
      let iv ← holding [v, ov] (eval a X.env)
      standAt pos
      holding [v, ov, iv] (setItem ov iv v)
      release [v, ov, iv] []) := by intro _; kernel_rfl) (hs : swapsWithSole [.Subscript (.Name x p) a pos] value pn'.line X.env = pure false := by kernel_rfl) (hw : swappedStores [.Subscript (.Name x p) a pos] value X.env = pure none := by kernel_rfl)
    (h1 : (assignEach [.Subscript (.Name x p) a pos] X.env).map (·.2) = [assign (.Subscript (.Name x p) a pos) X.env] := by kernel_rfl) : DS X cls pn fr (.Assign [.Subscript (.Name x p) a pos] value pn') (mSetIx i m v) :=
  let ⟨_, pa, ja⟩ := hv.h; let ⟨_, pb, jb⟩ := hi.h; ⟨_, ps_asg pa (pg_sub (pe_var i' hvis hd hcd) pb set_list ha) hs hw h1, js_setIx ja jb⟩
/-! attributes -/
theorem de_fld {f : Nat} {fx : Str} (ef : fx = fnm f) (hf : f < fNames.length) (hn : NoAt ⟨X.K, cls⟩ (fnm f)) (ha : DO X cls pn a ma) (hb : attributeBase a fx X.env (eval a X.env) = eval a X.env := by kernel_rfl) : DE X cls pn (.Attribute a fx pos) (mOp1 (fFld f) ma) := by
  subst ef
  exact let ⟨_, pa, ja⟩ := ha.h; ⟨_, pe_fld pa hb, je_fld hf hn ja⟩
theorem ds_setF {f i : Nat} {fx : Str} {m : ME} {value : Expr} (ef : fx = fnm f) (hf : f < fNames.length) (hn : NoAt ⟨X.K, cls⟩ (fnm f)) (hv : DE X cls pn value m) (i' : X.N[i]? = some x := by kernel_rfl)
    (hvis : Vis X.env.scope x := by first | exact Or.inl rfl | exact Or.inr (Or.inl rfl) | exact Or.inr (Or.inr rfl)) (hd : (x == ("__debug__" : Str)) = false := by decide) (hcd : (x == ("__classdict__" : Str)) = false := by decide)
    (hs : swapsWith value (some (.Attribute (.Name x p) fx pos')) pos.line X.env = pure false := by kernel_rfl) : DS X cls pn fr (.Assign [.Attribute (.Name x p) fx pos'] value pos) (mSetF i f m) := by
  subst ef
  exact let ⟨_, pa, ja⟩ := hv.h; ⟨_, ps_fld (pe_var i' hvis hd hcd) pa hs, js_setF hf hn ja⟩
/-! calls of the text's own defs -/
theorem de_call {k : Nat} {ps : List Str} {sp : PSp} {m : MA} (h : HM X.prog X.w X.K X.mg X.base cls x k ps [] false sp) (hr : Room k X.A) (hg : Gl X x) (ha : DA X cls pn (e :: es) m) (hd : (x == ("__debug__" : Str)) = false := by decide)
    (hs : starEach (e :: es) X.env = (false, eval e X.env) :: starEach es X.env := by kernel_rfl) (hp : (backTo pos (starEach es X.env)).any (·.1) = false := by kernel_rfl) : DE X cls pn (.Call (.Name x p) (e :: es) [] pos) (mCall sp m) :=
  let ⟨_, pa, ja⟩ := ha.h; ⟨_, pe_callH h.has hr hg pa hd hs hp, M.je_call ja h.len⟩
theorem df_call {k : Nat} {ps : List Str} {sp : PSp} {m : MA} (h : HM X.prog X.w X.K X.mg X.base cls x k ps [] true sp) (hr : Room k X.A) (hg : Gl X x) (ha : DA X cls pn (e :: es) m) (hd : (x == ("__debug__" : Str)) = false := by decide)
    (hs : starEach (e :: es) X.env = (false, eval e X.env) :: starEach es X.env := by kernel_rfl) (hp : (backTo pos (starEach es X.env)).any (·.1) = false := by kernel_rfl) : DF X cls pn (.Call (.Name x p) (e :: es) [] pos) (mCall sp m) :=
  let ⟨_, pa, ja⟩ := ha.h; ⟨_, pe_callH h.has hr hg pa hd hs hp, jf_call ja h.len⟩
theorem de_calln {k : Nat} {ps : List Str} {sp : PSp} (h : HM X.prog X.w X.K X.mg X.base cls x k ps [] false sp) (hr : Room k X.A) (hg : Gl X x) (hd : (x == ("__debug__" : Str)) = false := by decide) : DE X cls pn (.Call (.Name x p) [] [] pos) (mCall sp mNil) := by
  obtain ⟨f, fd, G, b, kp, m⟩ := h.has
  exact ⟨_, pe_call0 G hr hg m kp b .nil pass0 hd, M.je_call ja_nil h.len⟩
theorem de_call0 {k j : Nat} {ps : List Str} {sp : PSp} {m : MA} {y : Str} {py : Pos} (h : HM X.prog X.w X.K X.mg X.base cls x k ps [0] false sp) (hr : Room k X.A) (hg : Gl X x) (ha : DA X cls pn es m) (j' : X.N[j]? = some y := by kernel_rfl)
    (hvis : Vis X.env.scope y := by first | exact Or.inl rfl | exact Or.inr (Or.inl rfl) | exact Or.inr (Or.inr rfl)) (hyd : (y == ("__debug__" : Str)) = false := by decide) (hcd : (y == ("__classdict__" : Str)) = false := by decide) (hd : (x == ("__debug__" : Str)) = false := by decide)
    (hs : starEach (.Name y py :: es) X.env = (false, eval (.Name y py) X.env) :: starEach es X.env := by kernel_rfl) (hp : (backTo pos (starEach es X.env)).any (·.1) = false := by kernel_rfl) : DE X cls pn (.Call (.Name x p) (.Name y py :: es) [] pos) (mCall0 j sp m) :=
  let ⟨_, pa, ja⟩ := ha.h; ⟨_, pe_callH h.has hr hg (pa_cons (pe_var j' hvis hyd hcd) pa hs) hd hs hp, je_call0 ja h.len⟩
/-- what making an instance of a class wants -/
structure HK (P : Program) (w : World) (K : PySem.W.Frag) (mg : Str → Option Value) (base : Heap) (cls : Nat → Option Addr) (x : Str) (c k : Nat) (ps : List Str) (p : PSp) : Prop where
  has : ∃ C f fd, cls c = some C ∧ Mk K C f ∧ FnOk P w K mg base CX0 k f fd ps (spM ⟨K, cls⟩ [0] false ps.length p) ∧ Binds K fd ps [] ∧ mg x = some (.ref C)
  len : ∀ ss q, p ss q Z0 → ss.length = ps.length
theorem df_make {c k : Nat} {ps : List Str} {sp : PSp} {m : MA} (h : HK X.prog X.w X.K X.mg X.base cls x c k ps sp) (hr : Room (k + 1) X.A) (hg : Gl X x) (ha : DA X cls pn (e :: es) m) (hd : (x == ("__debug__" : Str)) = false := by decide)
    (hs : starEach (e :: es) X.env = (false, eval e X.env) :: starEach es X.env := by kernel_rfl) (hp : (backTo pos (starEach es X.env)).any (·.1) = false := by kernel_rfl) : DF X cls pn (.Call (.Name x p) (e :: es) [] pos) (mMake c sp m) := by
  obtain ⟨C, f, fd, hC, M, F, B, hm⟩ := h.has
  exact let ⟨_, pa, ja⟩ := ha.h; ⟨_, pe_make M F hr hg hm B .nil pass0 pa hd hs hp, jf_make hC ja h.len⟩
end
/-- THE RULE for a def -/
theorem fn_M {P : Program} {w : World} {K : PySem.W.Frag} {mg : Str → Option Value} {base : Heap} {cls : Nat → Option Addr} {x qual : Str} {st : Stmt} {f : Addr} {fd : FuncData} {N ps : List Str} {pn : List Nat} {fr : Bool} {k n : Nat} {p : PSp} (F : Fun K x qual st f fd) (S : FnScope N ps (defScope st)) (hn : ps.length = n)
    (hb : ∀ (cdv : Value) (A : Around) (outer : List PySem.Env) (s : Shared) (H : Hp) (E : XK), Room k (A.deeper (PyProof.Rows.envOfC qual (defScope st) s.heap.objs.size f cdv)) →
      ∃ b, DSs (cxOf CX0 P w K mg base N qual (defScope st) f cdv A outer s H E).nox cls pn fr (defBody st) b ∧ (fr = true → ∀ N ρ, b N ρ → b { N with nx := fun _ => False } ρ) ∧ ∀ ss q, ss.length = n → p ss q Z0 → mFun pn (N.length - n) b ss q Z0) : FnOk P w K mg base CX0 (k + 1) f fd ps (spM ⟨K, cls⟩ pn fr n p) := by
  subst hn
  refine F.ok S (fun vs H Q E h => h.1) fun cdv A outer s H vs Q E hr h => ?_
  obtain ⟨b, hd, hx, hp⟩ := hb cdv A outer s H E hr
  obtain ⟨t, a, c⟩ := hd.h
  exact ⟨t, a, fn_reads c hx hp h⟩
end M

namespace M
open PySem L2
theorem slotD_val {d : D} {k : D → Prop} : slotD (some (.val d)) k = k d := rfl
theorem slotD_own {d : D} {k : D → Prop} : slotD (some (.own d)) k = k d := rfl
theorem on_d {x : D} {ρ : Env} {k : D → Prop} : (Opd.d x).on ρ k = k x := rfl
theorem on_v {i : Nat} {ρ : Env} {k : D → Prop} : (Opd.v i).on ρ k = slotD ρ[i]? k := rfl
theorem cmulL {i j : Int} (h : -18446744073709551616 < i ∧ i < 18446744073709551616) : CMul i j = True := eq_true (.inl ⟨by omega, by omega⟩)
theorem cmulR {i j : Int} (h : -18446744073709551616 < j ∧ j < 18446744073709551616) : CMul i j = True := eq_true (.inr ⟨by omega, by omega⟩)
theorem cdiv {i j : Int} (h : 0 < j ∧ j < 1073741824) : CDiv i j = True := eq_true h
theorem inst_non_bool {q : D → Prop} : fInst .non (.ty "bool") q = q (.bl false) := by simp [fInst, kindD, isKind]
theorem inst_non_int {q : D → Prop} : fInst .non (.ty "int") q = q (.bl false) := by simp [fInst, kindD, isKind]
theorem inst_non_str {q : D → Prop} : fInst .non (.ty "str") q = q (.bl false) := by simp [fInst, kindD, isKind]
theorem inst_non_list {q : D → Prop} : fInst .non (.ty "list") q = q (.bl false) := by simp [fInst, kindD, isKind]
theorem inst_non_tuple {q : D → Prop} : fInst .non (.ty "tuple") q = q (.bl false) := by simp [fInst, kindD, isKind]
theorem inst_non_dict {q : D → Prop} : fInst .non (.ty "dict") q = q (.bl false) := by simp [fInst, kindD, isKind]
theorem inst_bl_bool {b : Bool} {q : D → Prop} : fInst (.bl b) (.ty "bool") q = q (.bl true) := by simp [fInst, kindD, isKind]
theorem inst_bl_int {b : Bool} {q : D → Prop} : fInst (.bl b) (.ty "int") q = q (.bl true) := by simp [fInst, kindD, isKind]
theorem inst_bl_str {b : Bool} {q : D → Prop} : fInst (.bl b) (.ty "str") q = q (.bl false) := by simp [fInst, kindD, isKind]
theorem inst_bl_list {b : Bool} {q : D → Prop} : fInst (.bl b) (.ty "list") q = q (.bl false) := by simp [fInst, kindD, isKind]
theorem inst_bl_tuple {b : Bool} {q : D → Prop} : fInst (.bl b) (.ty "tuple") q = q (.bl false) := by simp [fInst, kindD, isKind]
theorem inst_bl_dict {b : Bool} {q : D → Prop} : fInst (.bl b) (.ty "dict") q = q (.bl false) := by simp [fInst, kindD, isKind]
theorem inst_int_bool {b : Int} {q : D → Prop} : fInst (.int b) (.ty "bool") q = q (.bl false) := by simp [fInst, kindD, isKind]
theorem inst_int_int {b : Int} {q : D → Prop} : fInst (.int b) (.ty "int") q = q (.bl true) := by simp [fInst, kindD, isKind]
theorem inst_int_str {b : Int} {q : D → Prop} : fInst (.int b) (.ty "str") q = q (.bl false) := by simp [fInst, kindD, isKind]
theorem inst_int_list {b : Int} {q : D → Prop} : fInst (.int b) (.ty "list") q = q (.bl false) := by simp [fInst, kindD, isKind]
theorem inst_int_tuple {b : Int} {q : D → Prop} : fInst (.int b) (.ty "tuple") q = q (.bl false) := by simp [fInst, kindD, isKind]
theorem inst_int_dict {b : Int} {q : D → Prop} : fInst (.int b) (.ty "dict") q = q (.bl false) := by simp [fInst, kindD, isKind]
theorem inst_str_bool {b : Str} {q : D → Prop} : fInst (.str b) (.ty "bool") q = q (.bl false) := by simp [fInst, kindD, isKind]
theorem inst_str_int {b : Str} {q : D → Prop} : fInst (.str b) (.ty "int") q = q (.bl false) := by simp [fInst, kindD, isKind]
theorem inst_str_str {b : Str} {q : D → Prop} : fInst (.str b) (.ty "str") q = q (.bl true) := by simp [fInst, kindD, isKind]
theorem inst_str_list {b : Str} {q : D → Prop} : fInst (.str b) (.ty "list") q = q (.bl false) := by simp [fInst, kindD, isKind]
theorem inst_str_tuple {b : Str} {q : D → Prop} : fInst (.str b) (.ty "tuple") q = q (.bl false) := by simp [fInst, kindD, isKind]
theorem inst_str_dict {b : Str} {q : D → Prop} : fInst (.str b) (.ty "dict") q = q (.bl false) := by simp [fInst, kindD, isKind]
theorem inst_lst_bool {b : List D} {q : D → Prop} : fInst (.lst b) (.ty "bool") q = q (.bl false) := by simp [fInst, kindD, isKind]
theorem inst_lst_int {b : List D} {q : D → Prop} : fInst (.lst b) (.ty "int") q = q (.bl false) := by simp [fInst, kindD, isKind]
theorem inst_lst_str {b : List D} {q : D → Prop} : fInst (.lst b) (.ty "str") q = q (.bl false) := by simp [fInst, kindD, isKind]
theorem inst_lst_list {b : List D} {q : D → Prop} : fInst (.lst b) (.ty "list") q = q (.bl true) := by simp [fInst, kindD, isKind]
theorem inst_lst_tuple {b : List D} {q : D → Prop} : fInst (.lst b) (.ty "tuple") q = q (.bl false) := by simp [fInst, kindD, isKind]
theorem inst_lst_dict {b : List D} {q : D → Prop} : fInst (.lst b) (.ty "dict") q = q (.bl false) := by simp [fInst, kindD, isKind]
theorem inst_tup_bool {b : List D} {q : D → Prop} : fInst (.tup b) (.ty "bool") q = q (.bl false) := by simp [fInst, kindD, isKind]
theorem inst_tup_int {b : List D} {q : D → Prop} : fInst (.tup b) (.ty "int") q = q (.bl false) := by simp [fInst, kindD, isKind]
theorem inst_tup_str {b : List D} {q : D → Prop} : fInst (.tup b) (.ty "str") q = q (.bl false) := by simp [fInst, kindD, isKind]
theorem inst_tup_list {b : List D} {q : D → Prop} : fInst (.tup b) (.ty "list") q = q (.bl false) := by simp [fInst, kindD, isKind]
theorem inst_tup_tuple {b : List D} {q : D → Prop} : fInst (.tup b) (.ty "tuple") q = q (.bl true) := by simp [fInst, kindD, isKind]
theorem inst_tup_dict {b : List D} {q : D → Prop} : fInst (.tup b) (.ty "dict") q = q (.bl false) := by simp [fInst, kindD, isKind]
theorem inst_dK_bool {b : List (Key × D)} {q : D → Prop} : fInst (.dK b) (.ty "bool") q = q (.bl false) := by simp [fInst, kindD, isKind]
theorem inst_dK_int {b : List (Key × D)} {q : D → Prop} : fInst (.dK b) (.ty "int") q = q (.bl false) := by simp [fInst, kindD, isKind]
theorem inst_dK_str {b : List (Key × D)} {q : D → Prop} : fInst (.dK b) (.ty "str") q = q (.bl false) := by simp [fInst, kindD, isKind]
theorem inst_dK_list {b : List (Key × D)} {q : D → Prop} : fInst (.dK b) (.ty "list") q = q (.bl false) := by simp [fInst, kindD, isKind]
theorem inst_dK_tuple {b : List (Key × D)} {q : D → Prop} : fInst (.dK b) (.ty "tuple") q = q (.bl false) := by simp [fInst, kindD, isKind]
theorem inst_dK_dict {b : List (Key × D)} {q : D → Prop} : fInst (.dK b) (.ty "dict") q = q (.bl true) := by simp [fInst, kindD, isKind]
theorem inst_dT_bool {b : List (List Key × D)} {q : D → Prop} : fInst (.dT b) (.ty "bool") q = q (.bl false) := by simp [fInst, kindD, isKind]
theorem inst_dT_int {b : List (List Key × D)} {q : D → Prop} : fInst (.dT b) (.ty "int") q = q (.bl false) := by simp [fInst, kindD, isKind]
theorem inst_dT_str {b : List (List Key × D)} {q : D → Prop} : fInst (.dT b) (.ty "str") q = q (.bl false) := by simp [fInst, kindD, isKind]
theorem inst_dT_list {b : List (List Key × D)} {q : D → Prop} : fInst (.dT b) (.ty "list") q = q (.bl false) := by simp [fInst, kindD, isKind]
theorem inst_dT_tuple {b : List (List Key × D)} {q : D → Prop} : fInst (.dT b) (.ty "tuple") q = q (.bl false) := by simp [fInst, kindD, isKind]
theorem inst_dT_dict {b : List (List Key × D)} {q : D → Prop} : fInst (.dT b) (.ty "dict") q = q (.bl true) := by simp [fInst, kindD, isKind]
theorem fI0_ii {g : Int → Int → D} {i j : Int} {q : D → Prop} : fI0 g (.int i) (.int j) q = q (g i j) := rfl
theorem fI_ii {C : Int → Int → Prop} {g : Int → Int → D} {i j : Int} {q : D → Prop} : fI C g (.int i) (.int j) q = (C i j ∧ q (g i j)) := rfl
theorem eqS_ii {i j : Int} : eqS (.int i) (.int j) = some (decide (i = j)) := rfl
theorem eqS_bb {i j : Bool} : eqS (.bl i) (.bl j) = some (decide (i = j)) := rfl
theorem eqS_ss {i j : Str} : eqS (.str i) (.str j) = some (decide (i = j)) := rfl
theorem eqS_nn : eqS .non .non = some true := rfl
theorem eqS_ni {i : Int} : eqS .non (.int i) = some false := rfl
theorem eqS_in {i : Int} : eqS (.int i) .non = some false := rfl
theorem eqS_nb {i : Bool} : eqS .non (.bl i) = some false := rfl
theorem eqS_bn {i : Bool} : eqS (.bl i) .non = some false := rfl
theorem eqS_ns {i : Str} : eqS .non (.str i) = some false := rfl
theorem eqS_sn {i : Str} : eqS (.str i) .non = some false := rfl
theorem eqS_is {i : Int} {s : Str} : eqS (.int i) (.str s) = some false := rfl
theorem eqS_si {i : Int} {s : Str} : eqS (.str s) (.int i) = some false := rfl
theorem eqS_bs {i : Bool} {s : Str} : eqS (.bl i) (.str s) = some false := rfl
theorem eqS_sb {i : Bool} {s : Str} : eqS (.str s) (.bl i) = some false := rfl
def onB (o : Option Bool) (k : Bool → Prop) : Prop := match o with | some b => k b | none => False
theorem onB_some {b : Bool} {k : Bool → Prop} : onB (some b) k = k b := rfl
theorem fEq_on {x y : D} {q : D → Prop} : fEq x y q = onB (eqS x y) fun b => q (.bl b) := by unfold fEq onB; rfl
theorem fNe_on {x y : D} {q : D → Prop} : fNe x y q = onB (eqS x y) fun b => q (.bl (!b)) := by unfold fNe onB; rfl
theorem isNon_n : isNon .non = true := rfl
theorem isNon_i {i : Int} : isNon (.int i) = false := rfl
theorem isNon_b {i : Bool} : isNon (.bl i) = false := rfl
theorem isNon_s {i : Str} : isNon (.str i) = false := rfl
theorem isNon_l {i : List D} : isNon (.lst i) = false := rfl
theorem isNon_t {i : List D} : isNon (.tup i) = false := rfl
theorem isNon_o {c : Nat} {i : List (Nat × D)} : isNon (.obj c i) = false := rfl
theorem fIsN_n {x : D} {q : D → Prop} : fIsN x .non q = q (.bl (isNon x)) := rfl
theorem fNotN_n {x : D} {q : D → Prop} : fNotN x .non q = q (.bl (!isNon x)) := rfl
def onN (o : Option Nat) (k : Nat → Prop) : Prop := match o with | some b => k b | none => False
theorem onN_some {b : Nat} {k : Nat → Prop} : onN (some b) k = k b := rfl
theorem fIx_l {ds : List D} {i : Int} {q : D → Prop} : fIx (.lst ds) (.int i) q = onN (ixN ds.length i) fun j => q (ds.getD j .non) := by unfold fIx onN; rfl
theorem fIx_t {ds : List D} {i : Int} {q : D → Prop} : fIx (.tup ds) (.int i) q = onN (ixN ds.length i) fun j => q (ds.getD j .non) := by unfold fIx onN; rfl
theorem fIx_z {ns : List Int} {i : Int} {q : D → Prop} : fIx (.fz ns) (.int i) q = onN (ixN ns.length i) fun j => q (.int (ns.getD j 0)) := by unfold fIx onN; rfl
theorem fIx_s {z : Str} {i : Int} {q : D → Prop} : fIx (.str z) (.int i) q = (z.length ≤ 100000 ∧ onN (ixN z.cps.toList.length i) fun j => q (.str ⟨#[z.cps.toList.getD j 0]⟩)) := by unfold fIx onN; rfl
theorem fLen_l {ds : List D} {q : D → Prop} : fLen (.lst ds) q = q (.int ds.length) := rfl
theorem fLen_t {ds : List D} {q : D → Prop} : fLen (.tup ds) q = q (.int ds.length) := rfl
theorem fLen_z {ds : List Int} {q : D → Prop} : fLen (.fz ds) q = q (.int ds.length) := rfl
theorem fLen_s {ds : Str} {q : D → Prop} : fLen (.str ds) q = (ds.length ≤ 100000 ∧ q (.int ds.length)) := rfl
theorem fInt_i {i : Int} {q : D → Prop} : fInt (.int i) q = q (.int i) := rfl
theorem fInt_b {b : Bool} {q : D → Prop} : fInt (.bl b) q = q (.int (if b then 1 else 0)) := rfl
theorem fFld_o {f c : Nat} {fs : List (Nat × D)} {q : D → Prop} : fFld f (.obj c fs) q = lookF fs f q := rfl
theorem truD_b {b : Bool} : truD (.bl b) = some b := rfl
theorem mTru_on {a : MO} {ρ : Env} {q : Bool → Env → Prop} : mTru a ρ q = a ρ fun r ρ1 => r.on ρ1 fun x => (match x with | .str y => y.length ≤ 100000 | _ => True) ∧ onB (truD x) fun b => q b ρ1 := by unfold mTru onB; rfl
theorem ixN_1_0 : ixN 1 0 = some 0 := rfl
theorem ixN_1_m : ixN 1 (-1) = some 0 := rfl
theorem ixN_2_0 : ixN 2 0 = some 0 := rfl
theorem ixN_2_1 : ixN 2 1 = some 1 := rfl
theorem ixN_2_m : ixN 2 (-1) = some 1 := rfl
theorem ixN_3_0 : ixN 3 0 = some 0 := rfl
theorem ixN_3_1 : ixN 3 1 = some 1 := rfl
theorem ixN_3_2 : ixN 3 2 = some 2 := rfl
theorem ixN_3_m : ixN 3 (-1) = some 2 := rfl
theorem ixN_4_0 : ixN 4 0 = some 0 := rfl
theorem ixN_4_1 : ixN 4 1 = some 1 := rfl
theorem ixN_4_2 : ixN 4 2 = some 2 := rfl
theorem ixN_4_3 : ixN 4 3 = some 3 := rfl
theorem ixN_4_m : ixN 4 (-1) = some 3 := rfl
theorem ixN_5_0 : ixN 5 0 = some 0 := rfl
theorem ixN_5_1 : ixN 5 1 = some 1 := rfl
theorem ixN_5_2 : ixN 5 2 = some 2 := rfl
theorem ixN_5_3 : ixN 5 3 = some 3 := rfl
theorem ixN_5_4 : ixN 5 4 = some 4 := rfl
theorem ixN_5_m : ixN 5 (-1) = some 4 := rfl
theorem ixN_6_0 : ixN 6 0 = some 0 := rfl
theorem ixN_6_1 : ixN 6 1 = some 1 := rfl
theorem ixN_6_2 : ixN 6 2 = some 2 := rfl
theorem ixN_6_3 : ixN 6 3 = some 3 := rfl
theorem ixN_6_4 : ixN 6 4 = some 4 := rfl
theorem ixN_6_5 : ixN 6 5 = some 5 := rfl
theorem ixN_6_m : ixN 6 (-1) = some 5 := rfl
theorem ixN_7_0 : ixN 7 0 = some 0 := rfl
theorem ixN_7_1 : ixN 7 1 = some 1 := rfl
theorem ixN_7_2 : ixN 7 2 = some 2 := rfl
theorem ixN_7_3 : ixN 7 3 = some 3 := rfl
theorem ixN_7_4 : ixN 7 4 = some 4 := rfl
theorem ixN_7_5 : ixN 7 5 = some 5 := rfl
theorem ixN_7_6 : ixN 7 6 = some 6 := rfl
theorem ixN_7_m : ixN 7 (-1) = some 6 := rfl
theorem ixN_8_0 : ixN 8 0 = some 0 := rfl
theorem ixN_8_1 : ixN 8 1 = some 1 := rfl
theorem ixN_8_2 : ixN 8 2 = some 2 := rfl
theorem ixN_8_3 : ixN 8 3 = some 3 := rfl
theorem ixN_8_4 : ixN 8 4 = some 4 := rfl
theorem ixN_8_5 : ixN 8 5 = some 5 := rfl
theorem ixN_8_6 : ixN 8 6 = some 6 := rfl
theorem ixN_8_7 : ixN 8 7 = some 7 := rfl
theorem ixN_8_m : ixN 8 (-1) = some 7 := rfl
theorem ixN_9_0 : ixN 9 0 = some 0 := rfl
theorem ixN_9_1 : ixN 9 1 = some 1 := rfl
theorem ixN_9_2 : ixN 9 2 = some 2 := rfl
theorem ixN_9_3 : ixN 9 3 = some 3 := rfl
theorem ixN_9_4 : ixN 9 4 = some 4 := rfl
theorem ixN_9_5 : ixN 9 5 = some 5 := rfl
theorem ixN_9_6 : ixN 9 6 = some 6 := rfl
theorem ixN_9_7 : ixN 9 7 = some 7 := rfl
theorem ixN_9_8 : ixN 9 8 = some 8 := rfl
theorem ixN_9_m : ixN 9 (-1) = some 8 := rfl
theorem ixN_10_0 : ixN 10 0 = some 0 := rfl
theorem ixN_10_1 : ixN 10 1 = some 1 := rfl
theorem ixN_10_2 : ixN 10 2 = some 2 := rfl
theorem ixN_10_3 : ixN 10 3 = some 3 := rfl
theorem ixN_10_4 : ixN 10 4 = some 4 := rfl
theorem ixN_10_5 : ixN 10 5 = some 5 := rfl
theorem ixN_10_6 : ixN 10 6 = some 6 := rfl
theorem ixN_10_7 : ixN 10 7 = some 7 := rfl
theorem ixN_10_8 : ixN 10 8 = some 8 := rfl
theorem ixN_10_9 : ixN 10 9 = some 9 := rfl
theorem ixN_10_m : ixN 10 (-1) = some 9 := rfl
theorem ixN_11_0 : ixN 11 0 = some 0 := rfl
theorem ixN_11_1 : ixN 11 1 = some 1 := rfl
theorem ixN_11_2 : ixN 11 2 = some 2 := rfl
theorem ixN_11_3 : ixN 11 3 = some 3 := rfl
theorem ixN_11_4 : ixN 11 4 = some 4 := rfl
theorem ixN_11_5 : ixN 11 5 = some 5 := rfl
theorem ixN_11_6 : ixN 11 6 = some 6 := rfl
theorem ixN_11_7 : ixN 11 7 = some 7 := rfl
theorem ixN_11_8 : ixN 11 8 = some 8 := rfl
theorem ixN_11_9 : ixN 11 9 = some 9 := rfl
theorem ixN_11_10 : ixN 11 10 = some 10 := rfl
theorem ixN_11_m : ixN 11 (-1) = some 10 := rfl
theorem ixN_12_0 : ixN 12 0 = some 0 := rfl
theorem ixN_12_1 : ixN 12 1 = some 1 := rfl
theorem ixN_12_2 : ixN 12 2 = some 2 := rfl
theorem ixN_12_3 : ixN 12 3 = some 3 := rfl
theorem ixN_12_4 : ixN 12 4 = some 4 := rfl
theorem ixN_12_5 : ixN 12 5 = some 5 := rfl
theorem ixN_12_6 : ixN 12 6 = some 6 := rfl
theorem ixN_12_7 : ixN 12 7 = some 7 := rfl
theorem ixN_12_8 : ixN 12 8 = some 8 := rfl
theorem ixN_12_9 : ixN 12 9 = some 9 := rfl
theorem ixN_12_10 : ixN 12 10 = some 10 := rfl
theorem ixN_12_11 : ixN 12 11 = some 11 := rfl
theorem ixN_12_m : ixN 12 (-1) = some 11 := rfl
theorem ixN_13_0 : ixN 13 0 = some 0 := rfl
theorem ixN_13_1 : ixN 13 1 = some 1 := rfl
theorem ixN_13_2 : ixN 13 2 = some 2 := rfl
theorem ixN_13_3 : ixN 13 3 = some 3 := rfl
theorem ixN_13_4 : ixN 13 4 = some 4 := rfl
theorem ixN_13_5 : ixN 13 5 = some 5 := rfl
theorem ixN_13_6 : ixN 13 6 = some 6 := rfl
theorem ixN_13_7 : ixN 13 7 = some 7 := rfl
theorem ixN_13_8 : ixN 13 8 = some 8 := rfl
theorem ixN_13_9 : ixN 13 9 = some 9 := rfl
theorem ixN_13_10 : ixN 13 10 = some 10 := rfl
theorem ixN_13_11 : ixN 13 11 = some 11 := rfl
theorem ixN_13_12 : ixN 13 12 = some 12 := rfl
theorem ixN_13_m : ixN 13 (-1) = some 12 := rfl
theorem ixN_14_0 : ixN 14 0 = some 0 := rfl
theorem ixN_14_1 : ixN 14 1 = some 1 := rfl
theorem ixN_14_2 : ixN 14 2 = some 2 := rfl
theorem ixN_14_3 : ixN 14 3 = some 3 := rfl
theorem ixN_14_4 : ixN 14 4 = some 4 := rfl
theorem ixN_14_5 : ixN 14 5 = some 5 := rfl
theorem ixN_14_6 : ixN 14 6 = some 6 := rfl
theorem ixN_14_7 : ixN 14 7 = some 7 := rfl
theorem ixN_14_8 : ixN 14 8 = some 8 := rfl
theorem ixN_14_9 : ixN 14 9 = some 9 := rfl
theorem ixN_14_10 : ixN 14 10 = some 10 := rfl
theorem ixN_14_11 : ixN 14 11 = some 11 := rfl
theorem ixN_14_12 : ixN 14 12 = some 12 := rfl
theorem ixN_14_13 : ixN 14 13 = some 13 := rfl
theorem ixN_14_m : ixN 14 (-1) = some 13 := rfl
theorem ixN_15_0 : ixN 15 0 = some 0 := rfl
theorem ixN_15_1 : ixN 15 1 = some 1 := rfl
theorem ixN_15_2 : ixN 15 2 = some 2 := rfl
theorem ixN_15_3 : ixN 15 3 = some 3 := rfl
theorem ixN_15_4 : ixN 15 4 = some 4 := rfl
theorem ixN_15_5 : ixN 15 5 = some 5 := rfl
theorem ixN_15_6 : ixN 15 6 = some 6 := rfl
theorem ixN_15_7 : ixN 15 7 = some 7 := rfl
theorem ixN_15_8 : ixN 15 8 = some 8 := rfl
theorem ixN_15_9 : ixN 15 9 = some 9 := rfl
theorem ixN_15_10 : ixN 15 10 = some 10 := rfl
theorem ixN_15_11 : ixN 15 11 = some 11 := rfl
theorem ixN_15_12 : ixN 15 12 = some 12 := rfl
theorem ixN_15_13 : ixN 15 13 = some 13 := rfl
theorem ixN_15_14 : ixN 15 14 = some 14 := rfl
theorem ixN_15_m : ixN 15 (-1) = some 14 := rfl
local macro_rules | `(tactic| walk_at "ms") => `(tactic| simp only [mFun, mSeq, mIfS, mSet, mSetOwn, mRet, mRetN, mDrop, mNext, mNever, mC, mVar, mVarP, mOv, mO, mOp, mOp1, mOpL, mOpL1, mCons, mNil, mCall, mCall0, mMake, mLst, mTup, mB, mNot, mAnd, mOr, mAndV, mOrV, mNotV, mIf, mChain, mTru_on, truD_b, mSetIx, mSetF, mAsg, mgName, mFor, miRange1, miRange2, miList,
  on_d, on_v, slotD_val, slotD_own, fAdd, fSub, fMul, fMod, fFdiv, fPow, fI0_ii, fI_ii, fLt, fLe, fGt, fGe, fEq_on, fNe_on, onB_some, onN_some, eqS_ii, eqS_bb, eqS_ss, eqS_nn, eqS_ni, eqS_in, eqS_nb, eqS_bn, eqS_ns, eqS_sn, eqS_is, eqS_si, eqS_bs, eqS_sb, isNon_n, isNon_i, isNon_b, isNon_s, isNon_l, isNon_t, isNon_o, fIsN_n, fNotN_n, fIx_l, fIx_t, fIx_z, fIx_s, fLen_l, fLen_t, fLen_z, fLen_s, fInt_i, fInt_b, fFld_o, lookF, putD, ownL, ownO, pinD, fMax2, fMin2,
  inst_non_bool, inst_non_int, inst_non_str, inst_non_list, inst_non_tuple, inst_non_dict, inst_bl_bool, inst_bl_int, inst_bl_str, inst_bl_list, inst_bl_tuple, inst_bl_dict, inst_int_bool, inst_int_int, inst_int_str, inst_int_list, inst_int_tuple, inst_int_dict, inst_str_bool, inst_str_int, inst_str_str, inst_str_list, inst_str_tuple, inst_str_dict, inst_lst_bool, inst_lst_int, inst_lst_str, inst_lst_list, inst_lst_tuple, inst_lst_dict, inst_tup_bool, inst_tup_int, inst_tup_str, inst_tup_list, inst_tup_tuple, inst_tup_dict, inst_dK_bool, inst_dK_int, inst_dK_str, inst_dK_list, inst_dK_tuple, inst_dK_dict, inst_dT_bool, inst_dT_int, inst_dT_str, inst_dT_list, inst_dT_tuple, inst_dT_dict,
  List.cons_append, List.nil_append, List.replicate, List.map_cons, List.map_nil, List.getElem?_cons_zero, List.getElem?_cons_succ, List.set_cons_zero, List.set_cons_succ, List.length_cons, List.length_nil, Nat.reduceAdd, Nat.reduceSub, Nat.reduceLeDiff, Nat.reduceEqDiff,
  if_true, if_false, reduceIte, Bool.false_eq_true, Bool.not_true, Bool.not_false, true_and, and_true, reduceCtorEq, Int.reduceToNat, List.getD_cons_zero, List.getD_cons_succ, Int.reduceLE, Int.reduceLT, Int.reduceNeg, Nat.reduceLT, and_self, ixN_1_0, ixN_1_m, ixN_2_0, ixN_2_1, ixN_2_m, ixN_3_0, ixN_3_1, ixN_3_2, ixN_3_m, ixN_4_0, ixN_4_1, ixN_4_2, ixN_4_3, ixN_4_m, ixN_5_0, ixN_5_1, ixN_5_2, ixN_5_3, ixN_5_4, ixN_5_m, ixN_6_0, ixN_6_1, ixN_6_2, ixN_6_3, ixN_6_4, ixN_6_5, ixN_6_m, ixN_7_0, ixN_7_1, ixN_7_2, ixN_7_3, ixN_7_4, ixN_7_5, ixN_7_6, ixN_7_m, ixN_8_0, ixN_8_1, ixN_8_2, ixN_8_3, ixN_8_4, ixN_8_5, ixN_8_6, ixN_8_7, ixN_8_m, ixN_9_0, ixN_9_1, ixN_9_2, ixN_9_3, ixN_9_4, ixN_9_5, ixN_9_6, ixN_9_7, ixN_9_8, ixN_9_m, ixN_10_0, ixN_10_1, ixN_10_2, ixN_10_3, ixN_10_4, ixN_10_5, ixN_10_6, ixN_10_7, ixN_10_8, ixN_10_9, ixN_10_m, ixN_11_0, ixN_11_1, ixN_11_2, ixN_11_3, ixN_11_4, ixN_11_5, ixN_11_6, ixN_11_7, ixN_11_8, ixN_11_9, ixN_11_10, ixN_11_m, ixN_12_0, ixN_12_1, ixN_12_2, ixN_12_3, ixN_12_4, ixN_12_5, ixN_12_6, ixN_12_7, ixN_12_8, ixN_12_9, ixN_12_10, ixN_12_11, ixN_12_m, ixN_13_0, ixN_13_1, ixN_13_2, ixN_13_3, ixN_13_4, ixN_13_5, ixN_13_6, ixN_13_7, ixN_13_8, ixN_13_9, ixN_13_10, ixN_13_11, ixN_13_12, ixN_13_m, ixN_14_0, ixN_14_1, ixN_14_2, ixN_14_3, ixN_14_4, ixN_14_5, ixN_14_6, ixN_14_7, ixN_14_8, ixN_14_9, ixN_14_10, ixN_14_11, ixN_14_12, ixN_14_13, ixN_14_m, ixN_15_0, ixN_15_1, ixN_15_2, ixN_15_3, ixN_15_4, ixN_15_5, ixN_15_6, ixN_15_7, ixN_15_8, ixN_15_9, ixN_15_10, ixN_15_11, ixN_15_12, ixN_15_13, ixN_15_14, ixN_15_m, Bool.true_eq_false, decide_true, decide_false])
/-! ### loops by an invariant -/
theorem forM_inv {g : MG} {b : MS} {N : MEnds} (I : List D → Env → Prop) : ∀ (ds : List D) (ρ : Env), I ds ρ → (∀ d r ρ (K : Env → Prop), I (d :: r) ρ → (∀ ρ', I r ρ' → K ρ') → g d ρ fun ρ1 => b { nx := K, rt := N.rt, bk := N.nx, ct := K } ρ1) → (∀ ρ, I [] ρ → N.nx ρ) → forM g b ds N ρ
  | [], ρ, h, _, hd => hd ρ h
  | d :: ds, ρ, h, hs, hd => hs d ds ρ _ h fun ρ' h' => forM_inv I ds ρ' h' hs hd
theorem range_mem {lo : Int} {n : Nat} {d : D} (h : d ∈ rangeD lo n) : ∃ k : Nat, k < n ∧ d = .int (lo + k) := by
  unfold rangeD at h
  obtain ⟨k, hk, e⟩ := List.mem_map.mp h
  exact ⟨k, List.mem_range.mp hk, e.symm⟩
/-! ### the seal -/
def sealN (key ask v stamp : Int) : Int := key * (1 + ask + 1009 * v + 31 * stamp) % 1000003
def sealV : D → Option Int | .non => some 0 | .int v => some (v + 1) | _ => none
def p_seal_of : PSp := fun ss q _ => ∃ key ask v stamp n, ss = [.val (.int key), .val (.int ask), .val v, .val (.int stamp)] ∧ sealV v = some n ∧ (-18446744073709551616 < key ∧ key < 18446744073709551616) ∧ q (.int (sealN key ask n stamp)) []
def m_seal_of : MS := (mSeq (mSet 4 (mIf (mB (mOp fIsN (mOv 2) (mO (mC .non)))) (mC (.int 0)) (mOp fAdd (mOv 2) (mO (mC (.int 1))))))
  (mRet (mOp fMod (mO (mOp fMul (mOv 0) (mO (mOp fAdd (mO (mOp fAdd (mO (mOp fAdd (mO (mC (.int 1))) (mOv 1))) (mO (mOp fMul (mO (mC (.int 1009))) (mOv 4))))) (mO (mOp fMul (mO (mC (.int 31))) (mOv 3))))))) (mO (mC (.int 1000003))))))
theorem r_seal_of : ∀ ss q, ss.length = 4 → p_seal_of ss q Z0 → mFun [] 1 m_seal_of ss q Z0 := by
  rintro ss q _ ⟨key, ask, v, stamp, n, rfl, hv, hk, hq⟩
  unfold m_seal_of
  cases v with
  | non => cases hv; walk_at "ms"; simp only [cmulL, hk, Int.reduceNeg, Int.reduceLT, and_self, true_and]; exact hq
  | int v => cases hv; walk_at "ms"; simp only [cmulL, hk, Int.reduceNeg, Int.reduceLT, and_self, true_and]; exact hq
  | _ => cases hv
/-! ### whole numbers -/
def wholeD : D → Bool | .int _ => true | _ => false
def p_is_whole : PSp := fun ss q _ => ∃ d k, ss = [.val d] ∧ kindD d = some k ∧ q (.bl (wholeD d)) []
def m_is_whole : MS := (mRet (mAndV (mOp fInst (mOv 0) (mO (mC (.ty "int")))) (mNotV (mOp fInst (mOv 0) (mO (mC (.ty "bool")))))))
theorem r_is_whole : ∀ ss q, ss.length = 1 → p_is_whole ss q Z0 → mFun [] 0 m_is_whole ss q Z0 := by
  rintro ss q _ ⟨d, k, rfl, hd, hq⟩
  unfold m_is_whole
  cases d <;> first
    | (walk_at "ms"; exact hq)
    | cases hd
def fromD : D → Bool | .int i => decide (0 ≤ i) | _ => false
def p_is_from_nought : PSp := fun ss q _ => ∃ d k, ss = [.val d] ∧ kindD d = some k ∧ q (.bl (fromD d)) []
def m_is_from_nought : MS := (mRet (mAndV (mCall p_is_whole (mCons (mVarP 0) mNil)) (mOp fGe (mOv 0) (mO (mC (.int 0))))))
theorem r_is_from_nought : ∀ ss q, ss.length = 1 → p_is_from_nought ss q Z0 → mFun [] 0 m_is_from_nought ss q Z0 := by
  rintro ss q _ ⟨d, k, rfl, hd, hq⟩
  unfold m_is_from_nought
  walk_at "ms"
  refine ⟨d, k, rfl, hd, ?_⟩
  cases d <;> first
    | (simp only [wholeD]; walk_at "ms"; exact hq)
    | cases hd
/-! ### names -/
def signB (c : Nat) : Bool := decide (97 ≤ c) && decide (c ≤ 122)
def nameB (x : Str) : Bool := (decide (1 ≤ x.length) && decide (x.length ≤ 8)) && x.cps.toList.all signB
def nameD : D → Bool | .str x => nameB x | _ => false
theorem one_lt (a b : Nat) : ([a] < [b]) ↔ a < b := by
  rw [List.cons_lt_cons_iff]
  constructor
  · rintro (h | ⟨_, h⟩)
    · exact h
    · exact absurd h (List.not_lt_nil _)
  · exact .inl
theorem toList_a : ("a" : Str).cps.toList = [97] := by decide +kernel
theorem toList_z : ("z" : Str).cps.toList = [122] := by decide +kernel
theorem sign_ok (c : Nat) : (if (!decide (([c] : List Nat) < [97])) = true then !decide (([122] : List Nat) < [c]) else false) = signB c := by
  have h1 : decide ([c] < [97]) = decide (c < 97) := decide_eq_decide.mpr (one_lt c 97)
  have h2 : decide ([122] < [c]) = decide (122 < c) := decide_eq_decide.mpr (one_lt 122 c)
  rw [h1, h2]
  unfold signB
  by_cases a1 : c < 97
  · have : ¬ 97 ≤ c := by omega
    simp [a1, this]
  · have h3 : 97 ≤ c := by omega
    by_cases a2 : 122 < c
    · have : ¬ c ≤ 122 := by omega
      simp [a1, a2, this]
    · have : c ≤ 122 := by omega
      simp [a1, a2, this, h3]
/-- a comprehension whose element is a function of the item -/
theorem compM_map {g : MG} {e : ME} {f : D → D} {I : Env → Prop} : ∀ (ds acc : List D) (ρ : Env) (q : List D → Env → Prop), I ρ → (∀ d ∈ ds, ∀ ρ (K : D → Env → Prop), I ρ → (∀ ρ', I ρ' → K (f d) ρ') → g d ρ fun ρ1 => e ρ1 K) → (∀ ρ, I ρ → q (acc ++ ds.map f) ρ) → compM g mTT e ds acc ρ q
  | [], acc, ρ, q, h, _, hq => by simpa [compM] using hq ρ h
  | d :: ds, acc, ρ, q, h, hs, hq => by
    simp only [compM, mTT, if_true]
    refine hs d List.mem_cons_self ρ _ h fun ρ' h' => ?_
    refine compM_map ds (acc ++ [f d]) ρ' q h' (fun d' hd' => hs d' (List.mem_cons_of_mem _ hd')) fun ρ2 h2 => ?_
    have := hq ρ2 h2
    simpa using this
theorem blsD_map (bs : List Bool) : blsD (bs.map D.bl) = some bs := by
  induction bs with
  | nil => rfl
  | cons b r ih => rw [List.map_cons, blsD, ih]; rfl
def p_is_name : PSp := fun ss q _ => ∃ d k, ss = [.val d] ∧ kindD d = some k ∧ (∀ x, d = .str x → x.length ≤ 100000) ∧ q (.bl (nameD d)) []
def m_is_name : MS := (mSeq (mIfS (mOr (mNot (mB (mOp fInst (mOv 0) (mO (mC (.ty "str")))))) (mNot (mB (mChain fLe fLe (mC (.int 1)) (mOp1 fLen (mOv 0)) (mC (.int 8))))))
    (mRet (mC (.bl false)))
    mNext)
  (mRet (mOp1 fAll (mO (mComp (miStr (mVarP 0)) [none] (mgName 0) mTT (mChain fLeS fLeS (mC (.str "a")) (mVarP 0) (mC (.str "z"))))))))
theorem r_is_name : ∀ ss q, ss.length = 1 → p_is_name ss q Z0 → mFun [] 0 m_is_name ss q Z0 := by
  rintro ss q _ ⟨d, k, rfl, hd, hx, hq⟩
  unfold m_is_name
  cases d with
  | str x =>
    have hx := hx x rfl
    walk_at "ms"
    refine ⟨hx, ?_⟩
    by_cases h1 : (1 : Int) ≤ x.length
    · by_cases h2 : (x.length : Int) ≤ 8
      · simp only [h1, h2, decide_true, if_true, Bool.not_true, Bool.false_eq_true, if_false]
        simp only [mComp, miStr, mVarP, List.getElem?_cons_zero, mblk, List.map_cons, List.map_nil, mergeB, merge1]
        refine ⟨by rw [List.length_map]; exact hx, ?_⟩
        refine compM_map (f := fun d => .bl (match d with | .str y => y.cps.toList.all signB | _ => false)) (I := fun ρ => ∃ s, ρ = [s]) _ _ _ _ ⟨_, rfl⟩ (fun d hd ρ K ⟨s, hs⟩ hK => ?_) fun ρ ⟨s, hs⟩ => ?_
        · obtain ⟨c, hc, rfl⟩ := List.mem_map.mp hd
          subst hs
          simp only [mgName, mChain, mC, mVarP, fLeS, List.set_cons_zero, List.getElem?_cons_zero, toList_a, toList_z]
          have so := sign_ok c
          have hK' := hK [.val (.str ⟨#[c]⟩)] ⟨_, rfl⟩
          have e : ((⟨#[c]⟩ : Str).cps.toList.all signB) = signB c := by simp
          simp only [e, ← so] at hK'
          split
          · rename_i h; rw [if_pos h] at hK'; exact hK'
          · rename_i h; rw [if_neg h] at hK'; exact hK'
        · subst hs
          have e : List.map (fun d => D.bl (match d with | .str y => y.cps.toList.all signB | _ => false)) (x.cps.toList.map fun c => D.str ⟨#[c]⟩) = (x.cps.toList.map signB).map D.bl := by
            rw [List.map_map, List.map_map]
            refine List.map_congr_left fun c _ => ?_
            simp
          rw [List.nil_append, e]
          simp only [fAll, blsD_map]
          have e2 : ((x.cps.toList.map signB).all id) = nameD (.str x) := by
            show _ = nameB x
            unfold nameB
            rw [decide_eq_true (show 1 ≤ x.length by omega), decide_eq_true (show x.length ≤ 8 by omega), List.all_map]
            simp
          rw [e2]; exact hq
      · simp only [h1, h2, decide_true, decide_false, if_true, Bool.not_false]
        have : nameD (.str x) = false := by
          show nameB x = false
          unfold nameB
          rw [decide_eq_false (show ¬ x.length ≤ 8 by omega)]; simp
        rw [this] at hq; exact hq
    · simp only [h1, decide_false, if_false, Bool.false_eq_true, Bool.not_false, if_true]
      have : nameD (.str x) = false := by
        show nameB x = false
        unfold nameB
        rw [decide_eq_false (show ¬ 1 ≤ x.length by omega)]; simp
      rw [this] at hq; exact hq
  | _ => first
    | (cases hd; done)
    | (walk_at "ms"; exact hq)
def p_demand : PSp := fun ss q _ => ∃ w, ss = [.val (.bl true), .val w] ∧ q .non []
def m_demand : MS := (mIfS (mNot (mTru (mOv 0)))
    mNever
    mNext)
theorem r_demand : ∀ ss q, ss.length = 2 → p_demand ss q Z0 → mFun [] 0 m_demand ss q Z0 := by
  rintro ss q _ ⟨w, rfl, hq⟩
  unfold m_demand
  walk_at "ms"
  exact hq
end M

namespace M
open PySem L2
local macro_rules | `(tactic| walk_at "ms") => `(tactic| simp only [mFun, mSeq, mIfS, mSet, mSetOwn, mRet, mRetN, mDrop, mNext, mNever, mC, mVar, mVarP, mOv, mO, mOp, mOp1, mOpL, mOpL1, mCons, mNil, mCall, mCall0, mMake, mLst, mTup, mB, mNot, mAnd, mOr, mAndV, mOrV, mNotV, mIf, mChain, mTru_on, truD_b, mSetIx, mSetF, mAsg, mgName, mFor, miRange1, miRange2, miList,
  on_d, on_v, slotD_val, slotD_own, fAdd, fSub, fMul, fMod, fFdiv, fPow, fI0_ii, fI_ii, fLt, fLe, fGt, fGe, fEq_on, fNe_on, onB_some, onN_some, eqS_ii, eqS_bb, eqS_ss, eqS_nn, eqS_ni, eqS_in, eqS_nb, eqS_bn, eqS_ns, eqS_sn, eqS_is, eqS_si, eqS_bs, eqS_sb, isNon_n, isNon_i, isNon_b, isNon_s, isNon_l, isNon_t, isNon_o, fIsN_n, fNotN_n, fIx_l, fIx_t, fIx_z, fIx_s, fLen_l, fLen_t, fLen_z, fLen_s, fInt_i, fInt_b, fFld_o, lookF, putD, ownL, ownO, pinD, fMax2, fMin2,
  inst_non_bool, inst_non_int, inst_non_str, inst_non_list, inst_non_tuple, inst_non_dict, inst_bl_bool, inst_bl_int, inst_bl_str, inst_bl_list, inst_bl_tuple, inst_bl_dict, inst_int_bool, inst_int_int, inst_int_str, inst_int_list, inst_int_tuple, inst_int_dict, inst_str_bool, inst_str_int, inst_str_str, inst_str_list, inst_str_tuple, inst_str_dict, inst_lst_bool, inst_lst_int, inst_lst_str, inst_lst_list, inst_lst_tuple, inst_lst_dict, inst_tup_bool, inst_tup_int, inst_tup_str, inst_tup_list, inst_tup_tuple, inst_tup_dict, inst_dK_bool, inst_dK_int, inst_dK_str, inst_dK_list, inst_dK_tuple, inst_dK_dict, inst_dT_bool, inst_dT_int, inst_dT_str, inst_dT_list, inst_dT_tuple, inst_dT_dict,
  List.cons_append, List.nil_append, List.replicate, List.map_cons, List.map_nil, List.getElem?_cons_zero, List.getElem?_cons_succ, List.set_cons_zero, List.set_cons_succ, List.length_cons, List.length_nil, Nat.reduceAdd, Nat.reduceSub, Nat.reduceLeDiff, Nat.reduceEqDiff,
  if_true, if_false, reduceIte, Bool.false_eq_true, Bool.not_true, Bool.not_false, true_and, and_true, reduceCtorEq, Int.reduceToNat, List.getD_cons_zero, List.getD_cons_succ, Int.reduceLE, Int.reduceLT, Int.reduceNeg, Nat.reduceLT, and_self, ixN_1_0, ixN_1_m, ixN_2_0, ixN_2_1, ixN_2_m, ixN_3_0, ixN_3_1, ixN_3_2, ixN_3_m, ixN_4_0, ixN_4_1, ixN_4_2, ixN_4_3, ixN_4_m, ixN_5_0, ixN_5_1, ixN_5_2, ixN_5_3, ixN_5_4, ixN_5_m, ixN_6_0, ixN_6_1, ixN_6_2, ixN_6_3, ixN_6_4, ixN_6_5, ixN_6_m, ixN_7_0, ixN_7_1, ixN_7_2, ixN_7_3, ixN_7_4, ixN_7_5, ixN_7_6, ixN_7_m, ixN_8_0, ixN_8_1, ixN_8_2, ixN_8_3, ixN_8_4, ixN_8_5, ixN_8_6, ixN_8_7, ixN_8_m, ixN_9_0, ixN_9_1, ixN_9_2, ixN_9_3, ixN_9_4, ixN_9_5, ixN_9_6, ixN_9_7, ixN_9_8, ixN_9_m, ixN_10_0, ixN_10_1, ixN_10_2, ixN_10_3, ixN_10_4, ixN_10_5, ixN_10_6, ixN_10_7, ixN_10_8, ixN_10_9, ixN_10_m, ixN_11_0, ixN_11_1, ixN_11_2, ixN_11_3, ixN_11_4, ixN_11_5, ixN_11_6, ixN_11_7, ixN_11_8, ixN_11_9, ixN_11_10, ixN_11_m, ixN_12_0, ixN_12_1, ixN_12_2, ixN_12_3, ixN_12_4, ixN_12_5, ixN_12_6, ixN_12_7, ixN_12_8, ixN_12_9, ixN_12_10, ixN_12_11, ixN_12_m, ixN_13_0, ixN_13_1, ixN_13_2, ixN_13_3, ixN_13_4, ixN_13_5, ixN_13_6, ixN_13_7, ixN_13_8, ixN_13_9, ixN_13_10, ixN_13_11, ixN_13_12, ixN_13_m, ixN_14_0, ixN_14_1, ixN_14_2, ixN_14_3, ixN_14_4, ixN_14_5, ixN_14_6, ixN_14_7, ixN_14_8, ixN_14_9, ixN_14_10, ixN_14_11, ixN_14_12, ixN_14_13, ixN_14_m, ixN_15_0, ixN_15_1, ixN_15_2, ixN_15_3, ixN_15_4, ixN_15_5, ixN_15_6, ixN_15_7, ixN_15_8, ixN_15_9, ixN_15_10, ixN_15_11, ixN_15_12, ixN_15_13, ixN_15_14, ixN_15_m, Bool.true_eq_false, decide_true, decide_false])
/-! ### answers -/
def answerF (name ask value stamp sl : D) : List (Nat × D) := [(9, name), (10, ask), (11, value), (12, stamp), (13, sl)]
def p_Answer : PSp := fun ss q _ => ∃ c x ask v stamp sl, ss = [.own (.obj c []), .val (.str x), .val (.int ask), .val v, .val (.int stamp), .val (.int sl)] ∧ (x.length ≤ 100000 ∧ nameB x = true) ∧ 0 ≤ ask ∧ (v = .non ∨ ∃ n, v = .int n ∧ 0 ≤ n) ∧ 0 ≤ stamp ∧ 0 ≤ sl ∧
  q .non [.obj c (answerF (.str x) (.int ask) v (.int stamp) (.int sl))]
def m_Answer : MS := (mSeq (mDrop (mCall p_demand (mCons (mCall p_is_name (mCons (mVarP 1) mNil)) (mCons (mC (.str "the name is none")) mNil))))
  (mSeq (mDrop (mCall p_demand (mCons (mCall p_is_from_nought (mCons (mVarP 2) mNil)) (mCons (mC (.str "the ask's number is no whole number from 0 on")) mNil))))
  (mSeq (mDrop (mCall p_demand (mCons (mOrV (mOp fIsN (mOv 3) (mO (mC .non))) (mCall p_is_from_nought (mCons (mVarP 3) mNil))) (mCons (mC (.str "the value is no whole number from 0 on and not None")) mNil))))
  (mSeq (mDrop (mCall p_demand (mCons (mCall p_is_from_nought (mCons (mVarP 4) mNil)) (mCons (mC (.str "the stamp is no whole number from 0 on")) mNil))))
  (mSeq (mDrop (mCall p_demand (mCons (mCall p_is_from_nought (mCons (mVarP 5) mNil)) (mCons (mC (.str "the seal is no whole number from 0 on")) mNil))))
  (mSeq (mSetF 0 9 (mVarP 1))
  (mSeq (mSetF 0 10 (mVarP 2))
  (mSeq (mSetF 0 11 (mVarP 3))
  (mSeq (mSetF 0 12 (mVarP 4))
  (mSetF 0 13 (mVarP 5)))))))))))
theorem r_Answer : ∀ ss q, ss.length = 6 → p_Answer ss q Z0 → mFun [0] 0 m_Answer ss q Z0 := by
  rintro ss q _ ⟨c, x, ask, v, stamp, sl, rfl, ⟨hx, hn⟩, h1, h2, h3, h4, hq⟩
  unfold m_Answer
  have t1 : nameD (.str x) = true := hn
  have t2 : fromD (.int ask) = true := by simp [fromD, h1]
  have t3 : fromD (.int stamp) = true := by simp [fromD, h3]
  have t4 : fromD (.int sl) = true := by simp [fromD, h4]
  walk_at "ms"
  refine ⟨_, _, rfl, rfl, fun y hy => by cases hy; exact hx, ?_⟩
  rw [t1]
  refine ⟨_, rfl, ?_⟩
  refine ⟨_, _, rfl, rfl, ?_⟩
  rw [t2]
  refine ⟨_, rfl, ?_⟩
  have fin : p_demand [.val (.bl true), .val (.str "the value is no whole number from 0 on and not None")] (fun _ _ => p_is_from_nought [.val (.int stamp)] (fun d _ => p_demand [.val d, .val (.str "the stamp is no whole number from 0 on")] (fun _ _ => p_is_from_nought [.val (.int sl)] (fun d _ => p_demand [.val d, .val (.str "the seal is no whole number from 0 on")] (fun _ _ => q .non [.obj c (answerF (.str x) (.int ask) v (.int stamp) (.int sl))]) Z0) Z0) Z0) Z0) Z0 := by
    refine ⟨_, rfl, _, _, rfl, rfl, ?_⟩
    rw [t3]
    refine ⟨_, rfl, _, _, rfl, rfl, ?_⟩
    rw [t4]
    exact ⟨_, rfl, hq⟩
  rcases h2 with rfl | ⟨n, rfl, hn⟩
  · walk_at "ms"; exact fin
  · walk_at "ms"
    refine ⟨_, _, rfl, rfl, ?_⟩
    rw [show fromD (.int n) = true by simp [fromD, hn]]
    exact fin
def p_is_true : PSp := fun ss q _ => ∃ c x ask v n stamp sl key, ss = [.val (.obj c (answerF x (.int ask) v (.int stamp) (.int sl))), .val (.int key)] ∧ sealV v = some n ∧ (-18446744073709551616 < key ∧ key < 18446744073709551616) ∧ q (.bl (decide (sl = sealN key ask n stamp))) []
def m_is_true : MS := (mRet (mOp fEq (mO (mOp1 (fFld 13) (mOv 0))) (mO (mCall p_seal_of (mCons (mVarP 1) (mCons (mOp1 (fFld 10) (mOv 0)) (mCons (mOp1 (fFld 11) (mOv 0)) (mCons (mOp1 (fFld 12) (mOv 0)) mNil))))))))
theorem r_is_true : ∀ ss q, ss.length = 2 → p_is_true ss q Z0 → mFun [] 0 m_is_true ss q Z0 := by
  rintro ss q _ ⟨c, x, ask, v, n, stamp, sl, key, rfl, hv, hk, hq⟩
  unfold m_is_true answerF
  walk_at "ms"
  exact ⟨key, ask, v, stamp, n, rfl, hv, hk, hq⟩
/-! ### what the laws draw from -/
def p_l_cell_at : PSp := fun ss q _ => ∃ (ns : List Int) (k : Nat), ss = [.val (.fz ns), .val (.int k)] ∧ ∀ i, q (.int i) []
def m_l_cell_at : MS := (mSeq (mIfS (mB (mOp fLt (mOv 1) (mO (mOp1 fLen (mOv 0)))))
    (mRet (mOp fIx (mOv 0) (mOv 1)))
    mNext)
  (mRet (mC (.int 0))))
theorem r_l_cell_at : ∀ ss q, ss.length = 2 → p_l_cell_at ss q Z0 → mFun [] 0 m_l_cell_at ss q Z0 := by
  rintro ss q _ ⟨ns, k, rfl, hq⟩
  unfold m_l_cell_at
  walk_at "ms"
  split
  · rename_i h
    have h' : (k : Int) < ns.length := by simpa using h
    have e : ixN ns.length (k : Int) = some k := by
      unfold ixN
      rw [if_pos (by omega), if_pos h']; rfl
    simp only [e]
    exact hq _
  · exact hq 0
def Well (o : D) : Prop := ∃ a b c, o = .lst [.int a, .int b, .int c] ∧ 0 ≤ a ∧ 0 ≤ b ∧ b < 2147483629 ∧ 0 ≤ c
def p_l_well : PSp := fun ss q _ => ∃ c, ss = [.val (.int c)] ∧ ∀ o, Well o → q o []
def m_l_well : MS := (mRet (mLst (mCons (mOp fIx (mO (mLst (mCons (mC (.int 0)) (mCons (mVarP 0) mNil)))) (mO (mOp1 fInt (mO (mOp fGe (mOv 0) (mO (mOp fPow (mO (mC (.int 10))) (mO (mC (.int 18)))))))))) (mCons (mOp fMod (mOv 0) (mO (mC (.int 2147483629)))) (mCons (mC (.int 0)) mNil)))))
theorem r_l_well : ∀ ss q, ss.length = 1 → p_l_well ss q Z0 → mFun [] 0 m_l_well ss q Z0 := by
  rintro ss q _ ⟨c, rfl, hq⟩
  unfold m_l_well
  walk_at "ms"
  have hp : CPow 10 18 := ⟨by decide, by decide, by decide⟩
  refine ⟨hp, ?_⟩
  by_cases h : (10 ^ 18 : Int) ≤ c
  · simp only [h, decide_true, if_true]
    walk_at "ms"
    exact hq _ ⟨c, c % 2147483629, 0, rfl, by omega, Int.emod_nonneg _ (by decide), Int.emod_lt_of_pos _ (by decide), by decide⟩
  · simp only [h, decide_false, Bool.false_eq_true, if_false]
    walk_at "ms"
    exact hq _ ⟨0, c % 2147483629, 0, rfl, by decide, Int.emod_nonneg _ (by decide), Int.emod_lt_of_pos _ (by decide), by decide⟩
def p_l_draw : PSp := fun ss q _ => ∃ o base, ss = [.own o, .val (.int base)] ∧ Well o ∧ 0 < base ∧ base < 1073741824 ∧ ∀ r o', 0 ≤ r → r < base → Well o' → q (.int r) [o']
def m_l_draw : MS := (mSeq (mIfS (mB (mOp fGt (mO (mOp fIx (mOv 0) (mO (mC (.int 0))))) (mO (mC (.int 0)))))
    (mSeq (mSet 2 (mOp fMod (mO (mOp fIx (mOv 0) (mO (mC (.int 0))))) (mOv 1)))
  (mSeq (mSetIx 0 (mC (.int 0)) (mOp fFdiv (mO (mOp fIx (mOv 0) (mO (mC (.int 0))))) (mOv 1)))
  (mRet (mVarP 2))))
    mNext)
  (mSeq (mSetIx 0 (mC (.int 2)) (mOp fAdd (mO (mOp fIx (mOv 0) (mO (mC (.int 2))))) (mO (mC (.int 1)))))
  (mSeq (mSet 3 (mOp fMod (mO (mOp fMul (mO (mOp fAdd (mO (mOp fAdd (mO (mOp fIx (mOv 0) (mO (mC (.int 1))))) (mO (mOp fMul (mO (mC (.int 7919))) (mO (mOp fIx (mOv 0) (mO (mC (.int 2))))))))) (mO (mC (.int 1))))) (mO (mC (.int 48271))))) (mO (mC (.int 2147483647)))))
  (mSeq (mSet 3 (mOp fMod (mO (mOp fMul (mOv 3) (mO (mOp fAdd (mO (mOp fFdiv (mOv 3) (mO (mC (.int 1009))))) (mO (mC (.int 69621))))))) (mO (mC (.int 2147483647)))))
  (mRet (mOp fMod (mO (mOp fMod (mO (mOp fMul (mOv 3) (mO (mOp fAdd (mO (mOp fFdiv (mOv 3) (mO (mC (.int 2003))))) (mO (mC (.int 40692))))))) (mO (mC (.int 2147483399))))) (mOv 1)))))))
theorem r_l_draw : ∀ ss q, ss.length = 2 → p_l_draw ss q Z0 → mFun [0] 2 m_l_draw ss q Z0 := by
  rintro ss q _ ⟨o, base, rfl, ⟨a, b, c, rfl, ha, hb, hb', hc⟩, h0, h1, hq⟩
  unfold m_l_draw
  walk_at "ms"
  split
  · refine ⟨h0, ⟨h0, h1⟩, ?_⟩
    exact hq _ _ (Int.emod_nonneg _ (by omega)) (Int.emod_lt_of_pos _ h0) ⟨a / base, b, c, rfl, Int.ediv_nonneg ha (by omega), hb, hb', hc⟩
  · simp only [cmulL, cmulR, cdiv, Int.reduceNeg, Int.reduceLT, and_self, true_and]
    generalize hn : (b + 7919 * (c + 1) + 1) * 48271 % 2147483647 = n1
    have n1a : 0 ≤ n1 := by rw [← hn]; exact Int.emod_nonneg _ (by decide)
    have n1b : n1 < 2147483647 := by rw [← hn]; exact Int.emod_lt_of_pos _ (by decide)
    refine ⟨.inl ⟨by omega, by omega⟩, ?_⟩
    generalize hn2 : n1 * (n1 / 1009 + 69621) % 2147483647 = n2
    have n2a : 0 ≤ n2 := by rw [← hn2]; exact Int.emod_nonneg _ (by decide)
    have n2b : n2 < 2147483647 := by rw [← hn2]; exact Int.emod_lt_of_pos _ (by decide)
    refine ⟨.inl ⟨by omega, by omega⟩, h0, ?_⟩
    exact hq _ _ (Int.emod_nonneg _ (by omega)) (Int.emod_lt_of_pos _ h0) ⟨a, b, c + 1, rfl, ha, hb, hb', by omega⟩
theorem draw_i {o : D} {n : Int} {q : D → List D → Prop} (hw : Well o) (h0 : 0 < n) (h1 : n < 1073741824) (h : ∀ r o', 0 ≤ r → r < n → Well o' → q (.int r) [o']) : p_l_draw [.own o, .val (.int n)] q Z0 := ⟨o, n, rfl, hw, h0, h1, h⟩
end M

namespace M
open PySem L2
def p_law63 : PSp := fun ss q _ => ∃ ns : List Int, ss = [.val (.fz ns)] ∧ ns.length ≤ 63 ∧ q (.bl true) []
/-- the law's own call -/
def spLaw (K : PySem.W.Frag) : Sp := fun vs H Q _ => ∃ (a : Addr) (ns : List Int), vs = [.ref a] ∧ SqL K H a (ns.map V.int) ∧ ns.length ≤ 63 ∧ ∀ H', Q (.bl true) H'
theorem law_start {K : PySem.W.Frag} {cls : Nat → Option Addr} {vs : List V} {H : Hp} {Q : VK} {E : XK} (h : spLaw K vs H Q E) : spM ⟨K, cls⟩ [] false 1 p_law63 vs H Q E := by
  obtain ⟨a, ns, rfl, hS, hl, hQ⟩ := h
  have rep : Rep ⟨K, cls⟩ (fun _ => False) H (.ref a) (.fz ns) := .fz (hS.imp (fun z => ⟨id, z⟩) id)
  have no : ∀ i, ¬ isOwn [Slot.val (D.fz ns)] i := fun i ⟨o, h⟩ => by
    cases i with
    | zero => simp at h
    | succ i => simp at h
  have he : ∀ b, exA ⟨fun _ => False, H, fun _ => none⟩ [some (.ref a)] [Slot.val (D.fz ns)] b → False := fun b h => h.elim id fun ⟨i, hi, _⟩ => no i hi
  refine ⟨rfl, ⟨fun _ => False, H, fun _ => none⟩, [.val (.fz ns)], fun d _ => d = .bl true, fun _ _ => rfl, rfl, ?_, ⟨ns, rfl, hl, rfl⟩, fun v d H' σ' ρ' os ⟨R', r'⟩ _ q' => ?_⟩
  · exact {
      len := rfl
      val := fun i d h => by
        cases i with
        | zero => simp at h; subst h; exact ⟨_, rfl, rep.up (fun b _ z => he b z) fun _ _ _ z => z⟩
        | succ i => simp at h
      own := fun i o h => absurd ⟨o, h⟩ (no i)
      pin := fun i p h => by cases h
      inj := fun i j p hi => absurd hi (no i)
      dom := fun a h => False.elim h
      fr := fun b o h _ => h
      tmp := fun x h => nomatch h }
  · subst q'
    rw [rep_bl r']
    exact hQ H'
end M

namespace L2
open PySem PySem.Spec PyProof.Rows
section
variable {prog : Program} {w : World} {A : Around} {E : Value → Shared → Prop} {s : Shared}
theorem draw_listI {it t : Addr} {items : Array Value} (hne : t ≠ it) : ∀ (n i : Nat) (s : Shared) (Q : List Value → Shared → Prop), s.heap.IsListIter it t i → s.heap.IsList t items → i + n ≤ items.size →
    (∀ h', h'.IsListIter it t (i + n) → Heap.SameBut it s.heap h' → Q ((items.toList.drop i).take n) { s with heap := h' }) → wpAny (model prog w) A (draw (.ref it) n) Q E s
  | 0, i, s, Q, hit, _, _, hQ => by
    show wpAny _ _ (pure []) Q E s
    exact wpAny_pure (by simpa using hQ s.heap hit (Heap.SameBut.refl ..))
  | n + 1, i, s, Q, hit, ht, hle, hQ => by
    have hlt : i < items.size := by omega
    show wpAny _ _ (pyNext (.ref it) >>= _) Q E s
    refine wpAny_bind (wpAny_pyNext_list_item hit ht (x := items[i]) (by simp [hlt]) fun h₁ hit₁ hs₁ => ?_)
    refine wpAny_bind (wpAny_holding (draw_listI hne n (i + 1) _ _ hit₁ (ht.extBut hs₁.extBut hne) (by omega) fun h₂ hit₂ hs₂ => wpAny_pure ?_))
    have hd : items.toList.drop i = items[i] :: items.toList.drop (i + 1) := by simp [List.drop_eq_getElem_cons, hlt]
    have := hQ h₂ (by rw [show i + (n + 1) = i + 1 + n by omega]; exact hit₂) (hs₁.trans hs₂)
    rw [hd, List.take_succ_cons] at this
    exact this
theorem unpackItems_list {t : Addr} {items : Array Value} {Q : List Value → Shared → Prop} (hh : A.handled = none) (ht : s.heap.IsList t items)
    (hQ : ∀ h', Heap.ExtBut s.heap.objs.size s.heap h' → Q items.toList { s with heap := h' }) : wpAny (model prog w) A (unpackItems (.ref t) items.size none) Q E s := by
  have hlt : t ≠ s.heap.objs.size := by obtain ⟨o, ho, _⟩ := ht; exact Nat.ne_of_lt (Heap.lt_size ho)
  unfold unpackItems
  refine wpAny_bind ?_
  · unfold notIterableAtAll
    refine wpAny_bind (wpAny_specialOf ht.typeIs slot_list_iter.lookup ?_)
    refine wpAny_pure ?_
    simp only [Bool.false_eq_true, if_false]
    refine wpAny_bind (wpAny_holding (wpAny_pyIter_list ht ?_))
    refine wpAny_bind (wpAny_holding (draw_listI hlt items.size 0 _ _ ⟨_, Heap.get?_push_size _ rfl, rfl, rfl⟩ (ht.push _) (by omega) fun h₁ hit₁ hs₁ => ?_))
    have hall : List.take items.size (List.drop 0 items.toList) = items.toList := by
      rw [List.drop_zero]; exact List.take_of_length_le (by simp)
    rw [hall]
    rw [if_neg (by simp)]
    have ht₁ : h₁.IsList t items := (ht.push _).extBut hs₁.extBut hlt
    refine wpAny_bind (wpAny_holding (wpAny_pyNext_list_end hh hit₁ ht₁ (by simp) fun h₂ he₂ => ?_))
    simp only [Option.isSome_none, Bool.false_eq_true, if_false]
    refine wpAny_pure (hQ h₂ fun b o hb e => he₂ b o hb (hs₁.extBut b o hb (Heap.get?_push_of_some _ e)))
theorem assign_Tuple_list {env : Env} {elts : List Expr} {x1} {pos : Pos} {t : Addr} {items : Array Value} {Q : Unit → Shared → Prop} (hh : A.handled = none) (ht : s.heap.IsList t items)
    (hn : (assignEach elts env).length = items.size) (hstar : (assignEach elts env).findIdx? (·.1) = none)
    (h : ∀ h', Heap.ExtBut s.heap.objs.size s.heap h' → wpAny (model prog w) A (assignInOrder ((assignEach elts env).map (·.2)) items.toList) Q E { s with heap := h' }) :
    wpAny (model prog w) A (assign (.Tuple elts x1 pos) env (.ref t)) Q E s := by
  rw [assign_Tuple]
  refine wpAny_bind (wpAny_standAt ?_)
  unfold unpack
  rw [hn, hstar]
  exact wpAny_bind (wpAny_holding (unpackItems_list hh ht h))
end
section
variable {X : Cx} {pos : Pos}
/-- (a, b, ..) = a list of that length -/
def gTupL (K : PySem.W.Frag) (n : Nat) (t : TGs) : TG := fun v σ H Q => ∃ a xs, v = .ref a ∧ SqL K H a xs ∧ xs.length = n ∧ t xs σ H Q
theorem pg_tupL {es : List Expr} {k : Nat} {t : TGs} {n : Nat} (hc : X.calm = true) (h : PGs X es t)
    (hn : (assignEach es X.env).length = n := by rfl) (hst : (assignEach es X.env).findIdx? (·.1) = none := by rfl) : PG X (.Tuple es k pos) (gTupL X.K n t) := by
  intro pins s σ H v u Q I r hw
  obtain ⟨a, xs, e1, hq, hl, hw⟩ := hw
  subst e1
  cases r
  obtain ⟨its, rv, ht, hz⟩ := I.list hq
  refine assign_Tuple_list (I.ok.hd hc) ht.isList (by simp [hn, ← hl, rv.length]) hst fun h' hx => ?_
  have I1 : Inv X pins σ H { s with heap := h' } := I.kept (t' := s.toks) fun b o e => hx b o (Nat.ne_of_lt (Heap.lt_size e)) e
  exact h pins _ σ H xs _ Q I1 (by simpa using rv) hw
end
end L2
namespace M
open PySem L2
section
variable {Γ : Cn} {pn : List Nat} {X : Cx} {cls : Nat → Option Addr} {es : List Expr} {pos : Pos}
def mgTupL (m : MGs) (n : Nat) : MG := fun d ρ q => match d with | .lst ds => ds.length = n ∧ m ds ρ q | _ => False
theorem jg_tupL {n : Nat} {g : TGs} {m : MGs} (h : JGs Γ pn g m) : JG Γ pn (gTupL Γ.K n g) (mgTupL m n) := fun S σ ρ H τ v d Q q hp R r hm hq => by
  cases d with
  | lst ds =>
    obtain ⟨a, xs, rfl, hs, rs⟩ := r.list
    exact ⟨a, xs, rfl, SqL.of hs, rs.1.trans hm.1, h S σ ρ H τ xs ds Q q hp R rs hm.2 hq⟩
  | _ => exact False.elim hm
theorem dg_tupL {k n : Nat} {m : MGs} (hc : X.calm = true) (h : DGs X cls pn es m) (hn : (assignEach es X.env).length = n := by kernel_rfl) (hst : (assignEach es X.env).findIdx? (·.1) = none := by kernel_rfl) : DG X cls pn (.Tuple es k pos) (mgTupL m n) :=
  let ⟨_, a, b⟩ := h.h; ⟨_, pg_tupL hc a hn hst, jg_tupL b⟩
end
end M

namespace M
open PySem L2
local macro_rules | `(tactic| walk_at "ms") => `(tactic| simp only [mFun, mSeq, mIfS, mSet, mSetOwn, mRet, mRetN, mDrop, mNext, mNever, mC, mVar, mVarP, mOv, mO, mOp, mOp1, mOpL, mOpL1, mCons, mNil, mCall, mCall0, mMake, mLst, mTup, mB, mNot, mAnd, mOr, mAndV, mOrV, mNotV, mIf, mChain, mTru_on, truD_b, mSetIx, mSetF, mAsg, mgName, mFor, miRange1, miRange2, miList,
  on_d, on_v, slotD_val, slotD_own, fAdd, fSub, fMul, fMod, fFdiv, fPow, fI0_ii, fI_ii, fLt, fLe, fGt, fGe, fEq_on, fNe_on, onB_some, onN_some, eqS_ii, eqS_bb, eqS_ss, eqS_nn, eqS_ni, eqS_in, eqS_nb, eqS_bn, eqS_ns, eqS_sn, eqS_is, eqS_si, eqS_bs, eqS_sb, isNon_n, isNon_i, isNon_b, isNon_s, isNon_l, isNon_t, isNon_o, fIsN_n, fNotN_n, fIx_l, fIx_t, fIx_z, fIx_s, fLen_l, fLen_t, fLen_z, fLen_s, fInt_i, fInt_b, fFld_o, lookF, putD, ownL, ownO, pinD, fMax2, fMin2,
  inst_non_bool, inst_non_int, inst_non_str, inst_non_list, inst_non_tuple, inst_non_dict, inst_bl_bool, inst_bl_int, inst_bl_str, inst_bl_list, inst_bl_tuple, inst_bl_dict, inst_int_bool, inst_int_int, inst_int_str, inst_int_list, inst_int_tuple, inst_int_dict, inst_str_bool, inst_str_int, inst_str_str, inst_str_list, inst_str_tuple, inst_str_dict, inst_lst_bool, inst_lst_int, inst_lst_str, inst_lst_list, inst_lst_tuple, inst_lst_dict, inst_tup_bool, inst_tup_int, inst_tup_str, inst_tup_list, inst_tup_tuple, inst_tup_dict, inst_dK_bool, inst_dK_int, inst_dK_str, inst_dK_list, inst_dK_tuple, inst_dK_dict, inst_dT_bool, inst_dT_int, inst_dT_str, inst_dT_list, inst_dT_tuple, inst_dT_dict,
  List.cons_append, List.nil_append, List.replicate, List.map_cons, List.map_nil, List.getElem?_cons_zero, List.getElem?_cons_succ, List.set_cons_zero, List.set_cons_succ, List.length_cons, List.length_nil, Nat.reduceAdd, Nat.reduceSub, Nat.reduceLeDiff, Nat.reduceEqDiff,
  if_true, if_false, reduceIte, Bool.false_eq_true, Bool.not_true, Bool.not_false, true_and, and_true, reduceCtorEq, Int.reduceToNat, List.getD_cons_zero, List.getD_cons_succ, Int.reduceLE, Int.reduceLT, Int.reduceNeg, Nat.reduceLT, and_self, ixN_1_0, ixN_1_m, ixN_2_0, ixN_2_1, ixN_2_m, ixN_3_0, ixN_3_1, ixN_3_2, ixN_3_m, ixN_4_0, ixN_4_1, ixN_4_2, ixN_4_3, ixN_4_m, ixN_5_0, ixN_5_1, ixN_5_2, ixN_5_3, ixN_5_4, ixN_5_m, ixN_6_0, ixN_6_1, ixN_6_2, ixN_6_3, ixN_6_4, ixN_6_5, ixN_6_m, ixN_7_0, ixN_7_1, ixN_7_2, ixN_7_3, ixN_7_4, ixN_7_5, ixN_7_6, ixN_7_m, ixN_8_0, ixN_8_1, ixN_8_2, ixN_8_3, ixN_8_4, ixN_8_5, ixN_8_6, ixN_8_7, ixN_8_m, ixN_9_0, ixN_9_1, ixN_9_2, ixN_9_3, ixN_9_4, ixN_9_5, ixN_9_6, ixN_9_7, ixN_9_8, ixN_9_m, ixN_10_0, ixN_10_1, ixN_10_2, ixN_10_3, ixN_10_4, ixN_10_5, ixN_10_6, ixN_10_7, ixN_10_8, ixN_10_9, ixN_10_m, ixN_11_0, ixN_11_1, ixN_11_2, ixN_11_3, ixN_11_4, ixN_11_5, ixN_11_6, ixN_11_7, ixN_11_8, ixN_11_9, ixN_11_10, ixN_11_m, ixN_12_0, ixN_12_1, ixN_12_2, ixN_12_3, ixN_12_4, ixN_12_5, ixN_12_6, ixN_12_7, ixN_12_8, ixN_12_9, ixN_12_10, ixN_12_11, ixN_12_m, ixN_13_0, ixN_13_1, ixN_13_2, ixN_13_3, ixN_13_4, ixN_13_5, ixN_13_6, ixN_13_7, ixN_13_8, ixN_13_9, ixN_13_10, ixN_13_11, ixN_13_12, ixN_13_m, ixN_14_0, ixN_14_1, ixN_14_2, ixN_14_3, ixN_14_4, ixN_14_5, ixN_14_6, ixN_14_7, ixN_14_8, ixN_14_9, ixN_14_10, ixN_14_11, ixN_14_12, ixN_14_13, ixN_14_m, ixN_15_0, ixN_15_1, ixN_15_2, ixN_15_3, ixN_15_4, ixN_15_5, ixN_15_6, ixN_15_7, ixN_15_8, ixN_15_9, ixN_15_10, ixN_15_11, ixN_15_12, ixN_15_13, ixN_15_14, ixN_15_m, Bool.true_eq_false, decide_true, decide_false])

theorem forR_go {g : MG} {b : MS} {N : MEnds} {lo : Int} {n : Nat} (I : Nat → Env → Prop) (hs : ∀ k ρ (K : Env → Prop), k < n → I k ρ → (∀ ρ', I (k + 1) ρ' → K ρ') → g (.int (lo + (k : Int))) ρ fun ρ1 => b { nx := K, rt := N.rt, bk := N.nx, ct := K } ρ1) (hd : ∀ ρ, I n ρ → N.nx ρ) :
    ∀ (m k : Nat) (ρ : Env), k + m = n → I k ρ → forM g b ((List.range' k m).map fun (i : Nat) => D.int (lo + (i : Int))) N ρ
  | 0, k, ρ, e, h => by have : k = n := by omega
                        subst this; exact hd ρ h
  | m + 1, k, ρ, e, h => by
    rw [List.range'_succ, List.map_cons, forM]
    exact hs k ρ _ (by omega) h fun ρ' h' => forR_go I hs hd m (k + 1) ρ' (by omega) h'
theorem forR_inv {g : MG} {b : MS} {N : MEnds} {lo : Int} {n : Nat} (I : Nat → Env → Prop) {ρ : Env} (h0 : I 0 ρ) (hs : ∀ k ρ (K : Env → Prop), k < n → I k ρ → (∀ ρ', I (k + 1) ρ' → K ρ') → g (.int (lo + (k : Int))) ρ fun ρ1 => b { nx := K, rt := N.rt, bk := N.nx, ct := K } ρ1) (hd : ∀ ρ, I n ρ → N.nx ρ) : forM g b (rangeD lo n) N ρ := by
  unfold rangeD
  rw [List.range_eq_range']
  exact forR_go I hs hd n 0 ρ (by omega) h0
theorem seal_i {key ask stamp n : Int} {w : D} {q : D → List D → Prop} (hk : -18446744073709551616 < key ∧ key < 18446744073709551616) (hv : sealV w = some n) (h : q (.int (sealN key ask n stamp)) []) : p_seal_of [.val (.int key), .val (.int ask), .val w, .val (.int stamp)] q Z0 := ⟨key, ask, w, stamp, n, rfl, hv, hk, h⟩
theorem compM_all {g : MG} {e : ME} {P : D → Prop} {I : Env → Prop} : ∀ (ds acc : List D) (ρ : Env) (q : List D → Env → Prop), I ρ → (∀ d ∈ acc, P d) → (∀ d ∈ ds, ∀ ρ (K : D → Env → Prop), I ρ → (∀ d' ρ', P d' → I ρ' → K d' ρ') → g d ρ fun ρ1 => e ρ1 K) → (∀ ys ρ, I ρ → (∀ d ∈ ys, P d) → ys.length = acc.length + ds.length → q ys ρ) → compM g mTT e ds acc ρ q
  | [], acc, ρ, q, h, ha, _, hq => hq acc ρ h ha (by simp)
  | d :: ds, acc, ρ, q, h, ha, hs, hq => by
    simp only [compM, mTT, if_true]
    refine hs d List.mem_cons_self ρ _ h fun d' ρ' hd' h' => ?_
    refine compM_all ds (acc ++ [d']) ρ' q h' (fun x hx => ?_) (fun d' hd' => hs d' (List.mem_cons_of_mem _ hd')) fun ys ρ2 h2 h3 h4 => hq ys ρ2 h2 h3 ?_
    · rcases List.mem_append.mp hx with hx | hx
      · exact ha x hx
      · rcases List.mem_singleton.mp hx with rfl
        exact hd'
    · simp at h4 ⊢; omega
namespace K32
def p_l_seal : PSp := fun ss q _ => ∃ key ask v stamp n, ss = [.val (.int key), .val (.int ask), .val v, .val (.int stamp)] ∧ sealV v = some n ∧ (0 ≤ key ∧ key < 1048576) ∧ q (.int (sealN key ask n stamp)) []
def m_l_seal_1 : MS := (mIfS (mB (mOp fEq (mO (mOp fMod (mO (mOp fFdiv (mOv 0) (mO (mOp fShl (mO (mC (.int 1))) (mO (mOp fSub (mO (mC (.int 19))) (mOv 7))))))) (mO (mC (.int 2))))) (mO (mC (.int 1)))))
    (mSet 6 (mOp fMod (mO (mOp fAdd (mOv 6) (mOv 5))) (mO (mC (.int 1000003)))))
    mNext)
def m_l_seal_2 : MS := (mSeq (mSet 6 (mOp fMod (mO (mOp fMul (mO (mC (.int 2))) (mOv 6))) (mO (mC (.int 1000003)))))
  m_l_seal_1)
def m_l_seal_3 : MS := (mSeq (mFor (miRange1 (mCons (mC (.int 20)) mNil)) (mgName 7)
    m_l_seal_2)
  (mRet (mVarP 6)))
def m_l_seal_4 : MS := (mSeq (mSet 5 (mOp fMod (mO (mOp fAdd (mO (mOp fAdd (mO (mOp fAdd (mO (mC (.int 1))) (mOv 1))) (mO (mOp fMul (mOv 4) (mO (mC (.int 1009))))))) (mO (mOp fMul (mOv 3) (mO (mC (.int 31))))))) (mO (mC (.int 1000003)))))
  (mSeq (mSet 6 (mC (.int 0)))
  m_l_seal_3))
def m_l_seal_5 : MS := (mSeq (mIfS (mB (mOp fNotN (mOv 2) (mO (mC .non))))
    (mSet 4 (mOp fAdd (mOv 2) (mO (mC (.int 1)))))
    mNext)
  m_l_seal_4)
def m_l_seal : MS := (mSeq (mSet 4 (mC (.int 0)))
  m_l_seal_5)

theorem pow_half {i : Nat} (h : i < 20) : (2 : Int) ^ (20 - i) = 2 * 2 ^ (19 - i) := by
  rw [show 20 - i = (19 - i) + 1 by omega, Int.pow_succ]; omega
theorem half_div {a b : Int} (hb : 0 < b) : a / b = 2 * (a / (2 * b)) + a / b % 2 := by
  have : a / (2 * b) = a / b / 2 := by rw [Int.mul_comm, ← Int.ediv_ediv_of_nonneg (by omega)]
  rw [this]; omega

theorem seal_z {key W : Int} (hk0 : 0 ≤ key) (hk1 : key < 1048576) : key / 2 ^ (20 - 0) * W % 1000003 = 0 := by
  have z : key / 2 ^ (20 - 0) = 0 := by
    have e : (2 : Int) ^ (20 - 0) = 1048576 := by simp only [Nat.sub_zero, Int.reducePow]
    rw [e]; omega
  rw [z, Int.zero_mul, Int.zero_emod]
theorem seal_t {key ask n stamp W : Int} (hw : (1 + ask + n * 1009 + stamp * 31) % 1000003 = W) : key / 2 ^ (20 - 20) * W % 1000003 = sealN key ask n stamp := by
  have e : (2 : Int) ^ (20 - 20) = 1 := by
    rw [Nat.sub_self, Int.pow_zero]
  rw [e, Int.ediv_one, ← hw]
  unfold sealN
  rw [Int.mul_emod, Int.emod_emod, ← Int.mul_emod, Int.mul_comm n 1009, Int.mul_comm stamp 31]

theorem seal_0 {a b W : Int} (h : b = 2 * a) : 2 * (a * W % 1000003) % 1000003 = b * W % 1000003 := by
  rw [Int.mul_emod, Int.emod_emod, ← Int.mul_emod, ← Int.mul_assoc, h]
theorem seal_1 {a b W : Int} (h : b = 2 * a + 1) : (2 * (a * W % 1000003) % 1000003 + W) % 1000003 = b * W % 1000003 := by
  rw [h, Int.add_mul, Int.one_mul, Int.mul_assoc]; omega
def stepE (key ask : Int) (v : D) (stamp n W : Int) (t : Int) (s : Slot) : Env := [.val (.int key), .val (.int ask), .val v, .val (.int stamp), .val (.int n), .val (.int W), .val (.int t), s]
theorem pow_19 {k : Nat} : (2 : Int) ^ (19 - k) ≤ 524288 := by
  have h : 2 ^ (19 - k) ≤ 2 ^ 19 := Nat.pow_le_pow_right (by omega) (by omega)
  have e : (2 : Nat) ^ 19 = 524288 := by simp only [Nat.reducePow]
  rw [e] at h
  have c : ((2 ^ (19 - k) : Nat) : Int) = (2 : Int) ^ (19 - k) := by rw [Int.natCast_pow]; simp only [Int.cast_ofNat_Int]
  rw [← c]
  omega
theorem seal_turn {key ask stamp n W : Int} {v : D} {k : Nat} {N : MEnds} (hk : k < 20)
    (hK : ∀ s, N.nx (stepE key ask v stamp n W (key / 2 ^ (20 - (k + 1)) * W % 1000003) s)) :
    m_l_seal_2 N (stepE key ask v stamp n W (key / 2 ^ (20 - k) * W % 1000003) (.val (.int (0 + (k : Int))))) := by
  have pp : (0 : Int) < 2 ^ (19 - k) := Int.pow_pos (by omega)
  have pm := pow_19 (k := k)
  have hb := half_div (a := key) pp
  rw [← pow_half hk] at hb
  have e20 : 20 - (k + 1) = 19 - k := by omega
  rw [e20] at hK
  have e19 : (19 - (0 + (k : Int))).toNat = 19 - k := by omega
  unfold m_l_seal_2 stepE
  generalize hA : key / 2 ^ (20 - k) = a at *
  walk_at "ms"
  simp only [cmulL, Int.reduceNeg, Int.reduceLT, and_self, true_and]
  unfold m_l_seal_1
  simp only [fShl]
  walk_at "ms"
  rw [e19, Int.one_mul]
  generalize hP : (2 : Int) ^ (19 - k) = P at *
  refine ⟨⟨by omega, by omega, by decide⟩, ⟨by omega, by omega⟩, ?_⟩
  generalize hB : key / P = b at *
  rcases (show b % 2 = 0 ∨ b % 2 = 1 by omega) with z | z
  · rw [decide_eq_false (show ¬ (b % 2 = 1) by omega), if_neg Bool.false_ne_true, seal_0 (show b = 2 * a by omega)]
    exact hK _
  · rw [decide_eq_true z, if_pos rfl, seal_1 (show b = 2 * a + 1 by omega)]
    exact hK _
theorem l_seal_main {key ask stamp n : Int} {v : D} (hk0 : 0 ≤ key) (hk1 : key < 1048576) {N : MEnds} (hN : ∀ s, N.rt (.int (sealN key ask n stamp)) s) : m_l_seal_4 N [.val (.int key), .val (.int ask), .val v, .val (.int stamp), .val (.int n), .no, .no, .no] := by
  unfold m_l_seal_4
  walk_at "ms"
  simp only [cmulR, Int.reduceNeg, Int.reduceLT, and_self, true_and]
  generalize hw : (1 + ask + n * 1009 + stamp * 31) % 1000003 = W
  unfold m_l_seal_3
  walk_at "ms"
  refine forR_inv (fun i ρ => ∃ s7, ρ = stepE key ask v stamp n W (key / 2 ^ (20 - i) * W % 1000003) s7) ?_ ?_ ?_
  · exact ⟨.no, by rw [seal_z hk0 hk1]; rfl⟩
  · rintro k ρ K hk ⟨s7, rfl⟩ hK
    exact seal_turn hk fun s => hK _ ⟨s, rfl⟩
  · rintro ρ ⟨s7, rfl⟩
    rw [seal_t hw]
    exact hN _
theorem r_l_seal : ∀ ss q, ss.length = 4 → p_l_seal ss q Z0 → mFun [] 4 m_l_seal ss q Z0 := by
  rintro ss q _ ⟨key, ask, v, stamp, n, rfl, hv, hk, hq⟩
  unfold m_l_seal
  have main : ∀ N : MEnds, (∀ s, N.rt (.int (sealN key ask n stamp)) s) → m_l_seal_4 N [.val (.int key), .val (.int ask), .val v, .val (.int stamp), .val (.int n), .no, .no, .no] := fun N hN => l_seal_main hk.1 hk.2 hN
  unfold m_l_seal_5
  generalize m_l_seal_4 = M4 at main ⊢
  cases v with
  | non => cases hv; walk_at "ms"; exact main _ fun _ => hq
  | int v => cases hv; walk_at "ms"; exact main _ fun _ => hq
  | _ => cases hv

theorem lseal_i {key ask stamp n : Int} {w : D} {q : D → List D → Prop} (hk : 0 ≤ key ∧ key < 1048576) (hv : sealV w = some n) (h : q (.int (sealN key ask n stamp)) []) : p_l_seal [.val (.int key), .val (.int ask), .val w, .val (.int stamp)] q Z0 := ⟨key, ask, w, stamp, n, rfl, hv, hk, h⟩
theorem sl0 {a b c d : Int} : 0 ≤ sealN a b c d := Int.emod_nonneg _ (by omega)
def p_l_forged : PSp := fun ss q _ => ∃ o key ask v stamp n, ss = [.own o, .val (.int key), .val (.int ask), .val v, .val (.int stamp)] ∧ Well o ∧ sealV v = some n ∧ (0 ≤ key ∧ key < 1048576) ∧ ∀ x o', 0 ≤ x → Well o' → q (.int x) [o']
def m_l_forged_1 : MS := (mSeq (mIfS (mB (mOp fEq (mOv 6) (mO (mC (.int 7)))))
    (mRet (mCall p_l_seal (mCons (mVarP 1) (mCons (mVarP 2) (mCons (mVarP 3) (mCons (mOp fAdd (mOv 4) (mO (mC (.int 1)))) mNil))))))
    mNext)
  (mRet (mCall0 0 p_l_draw (mCons (mC (.int 1000003)) mNil))))
def m_l_forged_2 : MS := (mSeq (mIfS (mB (mOp fEq (mOv 6) (mO (mC (.int 6)))))
    (mRet (mCall p_l_seal (mCons (mVarP 1) (mCons (mVarP 2) (mCons (mOp fIx (mO (mLst (mCons (mC .non) (mCons (mC (.int 0)) (mCons (mC (.int 1)) mNil))))) (mO (mCall0 0 p_l_draw (mCons (mC (.int 3)) mNil)))) (mCons (mVarP 4) mNil))))))
    mNext)
  m_l_forged_1)
def m_l_forged_3 : MS := (mSeq (mIfS (mB (mOp fEq (mOv 6) (mO (mC (.int 5)))))
    (mRet (mCall p_l_seal (mCons (mVarP 1) (mCons (mOp fAdd (mOv 2) (mO (mC (.int 1)))) (mCons (mVarP 3) (mCons (mVarP 4) mNil))))))
    mNext)
  m_l_forged_2)
def m_l_forged_4 : MS := (mSeq (mIfS (mB (mOp fEq (mOv 6) (mO (mC (.int 4)))))
    (mRet (mOp fIx (mO (mLst (mCons (mOp fAdd (mOv 5) (mO (mC (.int 1)))) (mCons (mOp fMax2 (mO (mC (.int 0))) (mO (mOp fSub (mOv 5) (mO (mC (.int 1)))))) mNil)))) (mO (mCall0 0 p_l_draw (mCons (mC (.int 2)) mNil)))))
    mNext)
  m_l_forged_3)
def m_l_forged_5 : MS := (mSeq (mIfS (mB (mOp fEq (mOv 6) (mO (mC (.int 3)))))
    (mRet (mOp fAdd (mOv 5) (mO (mOp fMul (mO (mC (.int 1000003))) (mO (mOp fAdd (mO (mC (.int 1))) (mO (mCall0 0 p_l_draw (mCons (mC (.int 900)) mNil)))))))))
    mNext)
  m_l_forged_4)
def m_l_forged_6 : MS := (mSeq (mIfS (mB (mOp fLt (mOv 6) (mO (mC (.int 3)))))
    (mRet (mVarP 5))
    mNext)
  m_l_forged_5)
def m_l_forged_7 : MS := (mSeq (mSet 6 (mCall0 0 p_l_draw (mCons (mC (.int 9)) mNil)))
  m_l_forged_6)
def m_l_forged : MS := (mSeq (mSet 5 (mCall p_l_seal (mCons (mVarP 1) (mCons (mVarP 2) (mCons (mVarP 3) (mCons (mVarP 4) mNil))))))
  m_l_forged_7)

theorem r_l_forged : ∀ ss q, ss.length = 5 → p_l_forged ss q Z0 → mFun [0] 2 m_l_forged ss q Z0 := by
  rintro ss q _ ⟨o, key, ask, v, stamp, n, rfl, hw, hv, hk, hq⟩
  unfold m_l_forged
  walk_at "ms"
  refine lseal_i hk hv ?_
  unfold m_l_forged_7
  walk_at "ms"
  refine draw_i hw (by decide) (by decide) fun c o c0 c1 hw => ?_
  generalize hR : sealN key ask n stamp = R
  have R0 : 0 ≤ R := by rw [← hR]; exact sl0
  unfold m_l_forged_6
  walk_at "ms"
  by_cases h3 : c < 3
  · rw [decide_eq_true h3, if_pos rfl]
    exact hq _ _ R0 hw
  rw [decide_eq_false h3, if_neg Bool.false_ne_true]
  unfold m_l_forged_5
  walk_at "ms"
  by_cases e3 : c = 3
  · rw [decide_eq_true e3, if_pos rfl]
    try walk_at "ms"
    refine draw_i hw (by decide) (by decide) fun r o r0 r1 hw => ?_
    walk_at "ms"
    simp only [cmulL, Int.reduceNeg, Int.reduceLT, and_self, true_and]
    exact hq _ _ (by omega) hw
  rw [decide_eq_false e3, if_neg Bool.false_ne_true]
  unfold m_l_forged_4
  walk_at "ms"
  by_cases e4 : c = 4
  · rw [decide_eq_true e4, if_pos rfl]
    try walk_at "ms"
    refine draw_i hw (by decide) (by decide) fun r o r0 r1 hw => ?_
    rcases (show r = 0 ∨ r = 1 by omega) with rfl | rfl
    · try walk_at "ms"
      exact hq _ _ (by omega) hw
    · try walk_at "ms"
      exact hq _ _ (by split <;> omega) hw
  rw [decide_eq_false e4, if_neg Bool.false_ne_true]
  unfold m_l_forged_3
  walk_at "ms"
  by_cases e5 : c = 5
  · rw [decide_eq_true e5, if_pos rfl]
    exact lseal_i hk hv (hq _ _ sl0 hw)
  rw [decide_eq_false e5, if_neg Bool.false_ne_true]
  unfold m_l_forged_2
  walk_at "ms"
  by_cases e6 : c = 6
  · rw [decide_eq_true e6, if_pos rfl]
    try walk_at "ms"
    refine draw_i hw (by decide) (by decide) fun r o r0 r1 hw => ?_
    rcases (show r = 0 ∨ r = 1 ∨ r = 2 by omega) with rfl | rfl | rfl
    · try walk_at "ms"
      exact lseal_i hk rfl (hq _ _ sl0 hw)
    · try walk_at "ms"
      exact lseal_i hk rfl (hq _ _ sl0 hw)
    · try walk_at "ms"
      exact lseal_i hk rfl (hq _ _ sl0 hw)
  rw [decide_eq_false e6, if_neg Bool.false_ne_true]
  unfold m_l_forged_1
  walk_at "ms"
  by_cases e7 : c = 7
  · rw [decide_eq_true e7, if_pos rfl]
    exact lseal_i hk hv (hq _ _ sl0 hw)
  rw [decide_eq_false e7, if_neg Bool.false_ne_true]
  exact draw_i hw (by decide) (by decide) fun r o r0 r1 hw => hq _ _ r0 hw
def m_law_1 : MS := (mIfS (mB (mOp fNe (mO (mCall p_is_true (mCons (mMake 6 p_Answer (mCons (mC (.str "ann")) (mCons (mVarP 5) (mCons (mVarP 7) (mCons (mVarP 6) (mCons (mVarP 9) mNil)))))) (mCons (mVarP 3) mNil)))) (mO (mOp fEq (mOv 9) (mOv 8)))))
    (mRet (mC (.bl false)))
    mNext)
def m_law_2 : MS := (mSeq (mSet 9 (mCall0 2 p_l_forged (mCons (mVarP 3) (mCons (mVarP 5) (mCons (mVarP 7) (mCons (mVarP 6) mNil))))))
  m_law_1)
def m_law_3 : MS := (mSeq (mIfS (mB (mOp fNe (mO (mCall p_seal_of (mCons (mVarP 3) (mCons (mVarP 5) (mCons (mVarP 7) (mCons (mVarP 6) mNil)))))) (mOv 8)))
    (mRet (mC (.bl false)))
    mNext)
  m_law_2)
def m_law_4 : MS := (mSeq (mSet 8 (mCall p_l_seal (mCons (mVarP 3) (mCons (mVarP 5) (mCons (mVarP 7) (mCons (mVarP 6) mNil))))))
  m_law_3)
def m_law_5 : MS := (mSeq (mSet 7 (mOp fIx (mO (mLst (mCons (mOp fIx (mOv 4) (mO (mC (.int 2)))) (mCons (mC .non) mNil)))) (mO (mOp1 fInt (mO (mOp fEq (mO (mCall0 2 p_l_draw (mCons (mC (.int 4)) mNil))) (mO (mC (.int 0)))))))))
  m_law_4)
def m_law_6 : MS := (mSeq (mAsg (mSlL (mOv 4) mNoPart (mPart (mC (.int 2)))) (mgTupL (mgCons (mgName 5) (mgCons (mgName 6) mgNil)) 2))
  m_law_5)
def m_law_7 : MS := (mSeq (mSet 4 (mComp (miRange1 (mCons (mC (.int 3)) mNil)) [none, some 2] (mgName 0) mTT (mOp fIx (mO (mLst (mCons (mC (.int 0)) (mCons (mC (.int 1)) (mCons (mCall0 1 p_l_draw (mCons (mOp fSub (mO (mOp fPow (mO (mC (.int 10))) (mO (mC (.int 9))))) (mO (mC (.int 1)))) mNil)) mNil))))) (mO (mCall0 1 p_l_draw (mCons (mC (.int 3)) mNil))))))
  m_law_6)
def m_law_8 : MS := (mSeq (mSet 3 (mOp fIx (mO (mLst (mCons (mC (.int 1)) (mCons (mC (.int 1000002)) (mCons (mOp fAdd (mO (mC (.int 1))) (mO (mCall0 2 p_l_draw (mCons (mC (.int 1000002)) mNil)))) (mCons (mOp fAdd (mO (mC (.int 1))) (mO (mCall0 2 p_l_draw (mCons (mC (.int 9)) mNil)))) mNil)))))) (mO (mCall0 2 p_l_draw (mCons (mC (.int 4)) mNil)))))
  m_law_7)
def m_law_9 : MS := (mSeq (mSetOwn 2 (mCall p_l_well (mCons (mOp fAdd (mO (mCall p_l_cell_at (mCons (mVarP 0) (mCons (mVarP 1) mNil)))) (mO (mOp fMul (mO (mC (.int 7))) (mOv 1)))) mNil)))
  m_law_8)
def m_law : MS := (mSeq (mFor (miRange1 (mCons (mOp fMax2 (mO (mC (.int 1))) (mO (mOp fMin2 (mO (mC (.int 16))) (mO (mOp1 fLen (mOv 0)))))) mNil)) (mgName 1)
    m_law_9)
  (mRet (mC (.bl true))))


def numP : D → Prop := fun d => ∃ n : Int, d = .int n ∧ 0 ≤ n
theorem law_turn {ns : List Int} {k : Nat} {key ask stamp : Int} {v o : D} {s4 s8 s9 : Slot} {N : MEnds} (hw : Well o) (hk : 0 ≤ key ∧ key < 1048576) (ha : 0 ≤ ask) (ht : 0 ≤ stamp) (hv : v = .non ∨ ∃ n, v = .int n ∧ 0 ≤ n)
    (hK : ∀ o s8 s9, N.nx [.val (.fz ns), .val (.int k), .own o, .val (.int key), s4, .val (.int ask), .val (.int stamp), .val v, s8, s9]) :
    m_law_4 N [.val (.fz ns), .val (.int k), .own o, .val (.int key), s4, .val (.int ask), .val (.int stamp), .val v, s8, s9] := by
  have ⟨n, hn⟩ : ∃ n, sealV v = some n := by
    rcases hv with rfl | ⟨n, rfl, _⟩
    · exact ⟨_, rfl⟩
    · exact ⟨_, rfl⟩
  have kb : -18446744073709551616 < key ∧ key < 18446744073709551616 := by omega
  unfold m_law_4
  walk_at "ms"
  refine lseal_i hk hn ?_
  unfold m_law_3
  try walk_at "ms"
  refine seal_i kb hn ?_
  try walk_at "ms"
  try simp only [decide_true, Bool.not_true, Bool.false_eq_true, if_false]
  unfold m_law_2
  try walk_at "ms"
  refine ⟨o, key, ask, v, stamp, n, rfl, hw, hn, hk, fun x o' x0 hw' => ?_⟩
  unfold m_law_1
  try walk_at "ms"
  refine ⟨6, _, ask, v, stamp, x, rfl, ⟨by decide +kernel, by decide +kernel⟩, ha, hv, ht, x0, ?_⟩
  try walk_at "ms"
  refine ⟨6, _, ask, v, n, stamp, x, key, rfl, hn, kb, ?_⟩
  try walk_at "ms"
  exact hK _ _ _
theorem r_law : ∀ ss q, ss.length = 1 → p_law63 ss q Z0 → mFun [] 9 m_law ss q Z0 := by
  rintro ss q _ ⟨ns, rfl, hns, hq⟩
  unfold m_law
  walk_at "ms"
  refine ⟨by split <;> split <;> omega, ?_⟩
  refine forM_inv (fun ds ρ => (∀ d ∈ ds, ∃ k : Nat, d = .int k) ∧ ∃ s1 s2 s3 s4 s5 s6 s7 s8 s9, ρ = [.val (.fz ns), s1, s2, s3, s4, s5, s6, s7, s8, s9]) _ _ ⟨fun d hd => ?_, _, _, _, _, _, _, _, _, _, rfl⟩ ?_ ?_
  · obtain ⟨k, _, e⟩ := range_mem hd
    exact ⟨k, by rw [e]; simp⟩
  · rintro d r ρ K ⟨hd, s1, s2, s3, s4, s5, s6, s7, s8, s9, rfl⟩ hK
    obtain ⟨k, rfl⟩ := hd d List.mem_cons_self
    have hr : ∀ d ∈ r, ∃ k : Nat, d = .int k := fun d' h' => hd d' (List.mem_cons_of_mem _ h')
    unfold m_law_9
    walk_at "ms"
    refine ⟨ns, k, rfl, fun cell => ?_⟩
    walk_at "ms"
    simp only [cmulL, Int.reduceNeg, Int.reduceLT, and_self, true_and]
    refine ⟨_, rfl, fun o hw => ?_⟩
    unfold m_law_8
    walk_at "ms"
    refine draw_i hw (by decide) (by decide) fun a o a0 a1 hw => ?_
    try walk_at "ms"
    refine draw_i hw (by decide) (by decide) fun b o b0 b1 hw => ?_
    try walk_at "ms"
    refine draw_i hw (by decide) (by decide) fun c o c0 c1 hw => ?_
    try walk_at "ms"
    have main : ∀ key : Int, 0 ≤ key ∧ key < 1048576 → m_law_7 { nx := K, rt := fun d ρ => q d [], bk := fun _ => False, ct := K } [.val (.fz ns), .val (.int k), .own o, .val (.int key), s4, s5, s6, s7, s8, s9] := by
      intro key hk
      unfold m_law_7
      simp only [mSeq, mSet, mComp]
      walk_at "ms"
      refine ⟨by simp [rangeD], ?_⟩
      refine compM_all (P := numP) (I := fun ρ => ∃ s o, Well o ∧ ρ = [s, .own o]) _ _ _ _ ⟨.no, o, hw, rfl⟩ (fun d hd => by cases hd) ?_ ?_
      · rintro d hd ρ K' ⟨s, o, hw, rfl⟩ hK'
        walk_at "ms"
        simp only [Int.reduceToNat, Int.reducePow, Int.reduceSub]
        refine ⟨⟨by omega, by omega, by decide⟩, ?_⟩
        refine draw_i hw (by decide) (by decide) fun x o x0 x1 hw => ?_
        try walk_at "ms"
        refine draw_i hw (by decide) (by decide) fun y o y0 y1 hw => ?_
        rcases (show y = 0 ∨ y = 1 ∨ y = 2 by omega) with rfl | rfl | rfl
        · try walk_at "ms"
          exact hK' _ _ ⟨_, rfl, by omega⟩ ⟨_, _, hw, rfl⟩
        · try walk_at "ms"
          exact hK' _ _ ⟨_, rfl, by omega⟩ ⟨_, _, hw, rfl⟩
        · try walk_at "ms"
          exact hK' _ _ ⟨_, rfl, by omega⟩ ⟨_, _, hw, rfl⟩
      · rintro ys ρ ⟨s, o, hw, rfl⟩ hys hlen
        have h3 : ys.length = 3 := by rw [hlen]; simp [rangeD]
        match ys, h3 with
        | [y0, y1, y2], _ =>
          obtain ⟨ask, rfl, ha⟩ := hys y0 (by simp)
          obtain ⟨st, rfl, ht⟩ := hys y1 (by simp)
          obtain ⟨va, rfl, hva⟩ := hys y2 (by simp)
          simp only [mergeB, merge1, setOwn, List.getElem?_cons_zero, List.getElem?_cons_succ, List.set_cons_zero, List.set_cons_succ]
          unfold m_law_6
          simp only [mSeq, mAsg, mSlL, mNoPart, mPart]
          walk_at "ms"
          have hcut : cutD [D.int ask, D.int st, D.int va] none (some 2) = [D.int ask, D.int st] := rfl
          rw [hcut]
          simp only [mgTupL, mgCons, mgNil]
          walk_at "ms"
          unfold m_law_5
          walk_at "ms"
          refine draw_i hw (by decide) (by decide) fun z o z0 z1 hw => ?_
          try walk_at "ms"
          by_cases ez : z = 0
          · simp only [ez, decide_true]
            try walk_at "ms"

            refine law_turn hw hk ha ht (.inl rfl) fun o s8 s9 => hK _ ⟨hr, _, _, _, _, _, _, _, _, _, rfl⟩
          · simp only [ez, decide_false]
            try walk_at "ms"
            refine law_turn hw hk ha ht (.inr ⟨_, rfl, hva⟩) fun o s8 s9 => hK _ ⟨hr, _, _, _, _, _, _, _, _, _, rfl⟩
    rcases (show c = 0 ∨ c = 1 ∨ c = 2 ∨ c = 3 by omega) with rfl | rfl | rfl | rfl
    · try walk_at "ms"
      exact main _ (by omega)
    · try walk_at "ms"
      exact main _ (by omega)
    · try walk_at "ms"
      exact main _ (by omega)
    · try walk_at "ms"
      exact main _ (by omega)
  · rintro ρ ⟨_, s1, s2, s3, s4, s5, s6, s7, s8, s9, rfl⟩
    exact hq
end K32
end M

namespace F32
open PySem L2 M M.K32
def top (i : Nat) : Stmt := PySem.Challenge.pw_enoughsaid_k32_seals.main.body.getD i (.Pass ⟨0, 0, 0, 0⟩)
structure Mods (K : PySem.W.Frag) (mg : Str → Option Value) (cls : Nat → Option Addr) : Prop where
  int_ : mg "int" = none
  len_ : mg "len" = none
  range_ : mg "range" = none
  max_ : mg "max" = none
  isinstance_ : mg "isinstance" = none
  str_ : mg "str" = none
  all_ : mg "all" = none
  bool_ : mg "bool" = none
  min_ : mg "min" = none
  VALUE_STEP : ∃ t, mg "VALUE_STEP" = some (.int 1009 t)
  STAMP_STEP : ∃ t, mg "STAMP_STEP" = some (.int 31 t)
  SEAL_BOUND : ∃ t, mg "SEAL_BOUND" = some (.int 1000003 t)
  LONGEST_NAME : ∃ t, mg "LONGEST_NAME" = some (.int 8 t)
  no_seal : NoAt ⟨K, cls⟩ (fnm 13)
  no_ask : NoAt ⟨K, cls⟩ (fnm 10)
  no_value : NoAt ⟨K, cls⟩ (fnm 11)
  no_stamp : NoAt ⟨K, cls⟩ (fnm 12)
  no_name : NoAt ⟨K, cls⟩ (fnm 9)
section
variable {P : Program} {w : World} {K : PySem.W.Frag} {mg : Str → Option Value} {base : Heap} {cls : Nat → Option Addr} {f : Addr} {fd : FuncData}
theorem sc_l_well : FnScope ["_law_cell"] ["_law_cell"] (defScope (top 18)) := ⟨rfl, rfl, rfl, by decide +kernel, rfl, by decide +kernel, by decide +kernel⟩
theorem l_l_well : ∀ ss q, p_l_well ss q Z0 → ss.length = 1 := by
  intro ss q h
  unfold p_l_well at h
  repeat (first | (obtain ⟨e, _⟩ := h; subst e; rfl; done) | obtain ⟨_, h⟩ := h)
theorem d_l_well (F : Fun K "_law_well" "_law_well" (top 18) f fd) (M : Mods K mg cls) : FnOk P w K mg base CX0 1 f fd ["_law_cell"] (spM ⟨K, cls⟩ [] true 1 p_l_well) := by
  have sc := sc_l_well
  exact fn_M F sc rfl fun cdv A outer s H E hr => ⟨m_l_well, (dss_one (ds_retF (df_lst (da_cons (de_ixA (do_e (de_f (df_lst (da_cons de_int (da_cons (dvP 0) da_nil))))) (do_e (de_intc rfl M.int_ (do_e (de_cmp op_ge ok_ge (do_v 0) (do_e (de_pow (do_e de_int) (do_e de_int))) (nomark _))))) (fun _ _ => rfl)) (da_cons (de_mod (do_v 0) (do_e de_int)) (da_cons de_int da_nil)))))), fun _ _ _ h => h, r_l_well⟩
theorem sc_l_cell_at : FnScope ["_law_script", "_law_k"] ["_law_script", "_law_k"] (defScope (top 17)) := ⟨rfl, rfl, rfl, by decide +kernel, rfl, by decide +kernel, by decide +kernel⟩
theorem l_l_cell_at : ∀ ss q, p_l_cell_at ss q Z0 → ss.length = 2 := by
  intro ss q h
  unfold p_l_cell_at at h
  repeat (first | (obtain ⟨e, _⟩ := h; subst e; rfl; done) | obtain ⟨_, h⟩ := h)
theorem d_l_cell_at (F : Fun K "_law_cell_at" "_law_cell_at" (top 17) f fd) (M : Mods K mg cls) : FnOk P w K mg base CX0 1 f fd ["_law_script", "_law_k"] (spM ⟨K, cls⟩ [] false 2 p_l_cell_at) := by
  have sc := sc_l_cell_at
  exact fn_M F sc rfl fun cdv A outer s H E hr => ⟨m_l_cell_at, (dss_cons (ds_if (dt_cmp op_lt ok_lt (do_v 1) (do_e (de_len rfl M.len_ (do_v 0))) (nomark _))
    (dss_one (ds_ret (de_ixA (do_v 0) (do_v 1) (fun _ _ => rfl))))
    dss_nil)
  (dss_one (ds_ret de_int))), (fun h => by cases h), r_l_cell_at⟩
theorem sc_l_draw : FnScope ["_law_well_here", "_law_base", "_law_digit", "_law_number"] ["_law_well_here", "_law_base"] (defScope (top 19)) := ⟨rfl, rfl, rfl, by decide +kernel, rfl, by decide +kernel, by decide +kernel⟩
theorem l_l_draw : ∀ ss q, p_l_draw ss q Z0 → ss.length = 2 := by
  intro ss q h
  unfold p_l_draw at h
  repeat (first | (obtain ⟨e, _⟩ := h; subst e; rfl; done) | obtain ⟨_, h⟩ := h)
theorem d_l_draw (F : Fun K "_law_draw" "_law_draw" (top 19) f fd) (M : Mods K mg cls) : FnOk P w K mg base CX0 1 f fd ["_law_well_here", "_law_base"] (spM ⟨K, cls⟩ [0] false 2 p_l_draw) := by
  have sc := sc_l_draw
  exact fn_M F sc rfl fun cdv A outer s H E hr => ⟨m_l_draw, (dss_cons (ds_if (dt_cmp op_gt ok_gt (do_e (de_ixA (do_v 0) (do_e de_int) (fun _ _ => rfl))) (do_e de_int) (nomark _))
    (dss_cons (ds_set (i := 2) (by decide) sc.nd rfl (Or.inl rfl) (de_mod (do_e (de_ixA (do_v 0) (do_e de_int) (fun _ _ => rfl))) (do_v 1)))
  (dss_cons (ds_setIx 0 (de_fdiv (do_e (de_ixA (do_v 0) (do_e de_int) (fun _ _ => rfl))) (do_v 1)) de_int)
  (dss_one (ds_ret (dvP 2)))))
    dss_nil)
  (dss_cons (ds_setIx 0 (de_add (do_e (de_ixA (do_v 0) (do_e de_int) (fun _ _ => rfl))) (do_e de_int)) de_int)
  (dss_cons (ds_set (i := 3) (by decide) sc.nd rfl (Or.inl rfl) (de_mod (do_e (de_mul (do_e (de_add (do_e (de_add (do_e (de_ixA (do_v 0) (do_e de_int) (fun _ _ => rfl))) (do_e (de_mul (do_e de_int) (do_e (de_ixA (do_v 0) (do_e de_int) (fun _ _ => rfl))))))) (do_e de_int))) (do_e de_int))) (do_e de_int)))
  (dss_cons (ds_set (i := 3) (by decide) sc.nd rfl (Or.inl rfl) (de_mod (do_e (de_mul (do_v 3) (do_e (de_add (do_e (de_fdiv (do_v 3) (do_e de_int))) (do_e de_int))))) (do_e de_int)))
  (dss_one (ds_ret (de_mod (do_e (de_mod (do_e (de_mul (do_v 3) (do_e (de_add (do_e (de_fdiv (do_v 3) (do_e de_int))) (do_e de_int))))) (do_e de_int))) (do_v 1)))))))), (fun h => by cases h), r_l_draw⟩
theorem sc_l_seal : FnScope ["_law_key", "_law_ask", "_law_value", "_law_stamp", "_law_told", "_law_weight", "_law_found", "_law_k"] ["_law_key", "_law_ask", "_law_value", "_law_stamp"] (defScope (top 20)) := ⟨rfl, rfl, rfl, by decide +kernel, rfl, by decide +kernel, by decide +kernel⟩
theorem l_l_seal : ∀ ss q, p_l_seal ss q Z0 → ss.length = 4 := by
  intro ss q h
  unfold p_l_seal at h
  repeat (first | (obtain ⟨e, _⟩ := h; subst e; rfl; done) | obtain ⟨_, h⟩ := h)
theorem d_l_seal (F : Fun K "_law_seal" "_law_seal" (top 20) f fd) (M : Mods K mg cls) : FnOk P w K mg base CX0 1 f fd ["_law_key", "_law_ask", "_law_value", "_law_stamp"] (spM ⟨K, cls⟩ [] false 4 p_l_seal) := by
  have sc := sc_l_seal
  exact fn_M F sc rfl fun cdv A outer s H E hr => ⟨m_l_seal, (dss_cons (ds_set (i := 4) (by decide) sc.nd rfl (Or.inl rfl) de_int)
  (dss_cons (ds_if (dt_cmp op_notN ok_notN (do_v 2) (do_e de_non) (nomark _))
    (dss_one (ds_set (i := 4) (by decide) sc.nd rfl (Or.inl rfl) (de_add (do_v 2) (do_e de_int))))
    dss_nil)
  (dss_cons (ds_set (i := 5) (by decide) sc.nd rfl (Or.inl rfl) (de_mod (do_e (de_add (do_e (de_add (do_e (de_add (do_e de_int) (do_v 1))) (do_e (de_mul (do_v 4) (do_e de_int))))) (do_e (de_mul (do_v 3) (do_e de_int))))) (do_e de_int)))
  (dss_cons (ds_set (i := 6) (by decide) sc.nd rfl (Or.inl rfl) de_int)
  (dss_cons (ds_for PassesOwn.never rfl (di_range1 rfl M.range_ (da_cons de_int da_nil)) (dg_name (i := 7) (by decide) sc.nd rfl (Or.inl rfl))
    (dss_cons (ds_set (i := 6) (by decide) sc.nd rfl (Or.inl rfl) (de_mod (do_e (de_mul (do_e de_int) (do_v 6))) (do_e de_int)))
  (dss_one (ds_if (dt_cmp op_eq ok_eq (do_e (de_mod (do_e (de_fdiv (do_v 0) (do_e (de_shl (do_e de_int) (do_e (de_sub (do_e de_int) (do_v 7))))))) (do_e de_int))) (do_e de_int) (nomark _))
    (dss_one (ds_set (i := 6) (by decide) sc.nd rfl (Or.inl rfl) (de_mod (do_e (de_add (do_v 6) (do_v 5))) (do_e de_int))))
    dss_nil))))
  (dss_one (ds_ret (dvP 6)))))))), (fun h => by cases h), r_l_seal⟩
theorem sc_seal_of : FnScope ["key", "ask", "value", "stamp", "told"] ["key", "ask", "value", "stamp"] (defScope (top 14)) := ⟨rfl, rfl, rfl, by decide +kernel, rfl, by decide +kernel, by decide +kernel⟩
theorem l_seal_of : ∀ ss q, p_seal_of ss q Z0 → ss.length = 4 := by
  intro ss q h
  unfold p_seal_of at h
  repeat (first | (obtain ⟨e, _⟩ := h; subst e; rfl; done) | obtain ⟨_, h⟩ := h)
theorem d_seal_of (F : Fun K "seal_of" "seal_of" (top 14) f fd) (M : Mods K mg cls) : FnOk P w K mg base CX0 1 f fd ["key", "ask", "value", "stamp"] (spM ⟨K, cls⟩ [] false 4 p_seal_of) := by
  have sc := sc_seal_of
  exact fn_M F sc rfl fun cdv A outer s H E hr => ⟨m_seal_of, (dss_cons (ds_set (i := 4) (by decide) sc.nd rfl (Or.inl rfl) (de_if (dt_cmp op_isN ok_isN (do_v 2) (do_e de_non) (nomark _)) de_int (de_add (do_v 2) (do_e de_int))))
  (dss_one (ds_ret (de_mod (do_e (de_mul (do_v 0) (do_e (de_add (do_e (de_add (do_e (de_add (do_e de_int) (do_v 1))) (do_e (de_mul (do_e (de_glob rfl M.VALUE_STEP)) (do_v 4))))) (do_e (de_mul (do_e (de_glob rfl M.STAMP_STEP)) (do_v 3))))))) (do_e (de_glob rfl M.SEAL_BOUND)))))), (fun h => by cases h), r_seal_of⟩
theorem sc_l_forged : FnScope ["_law_well_here", "_law_key", "_law_ask", "_law_value", "_law_stamp", "_law_right", "_law_chance"] ["_law_well_here", "_law_key", "_law_ask", "_law_value", "_law_stamp"] (defScope (top 21)) := ⟨rfl, rfl, rfl, by decide +kernel, rfl, by decide +kernel, by decide +kernel⟩
theorem l_l_forged : ∀ ss q, p_l_forged ss q Z0 → ss.length = 5 := by
  intro ss q h
  unfold p_l_forged at h
  repeat (first | (obtain ⟨e, _⟩ := h; subst e; rfl; done) | obtain ⟨_, h⟩ := h)
theorem d_l_forged (F : Fun K "_law_forged" "_law_forged" (top 21) f fd) (M : Mods K mg cls) (h_l_seal : HM P w K mg base cls "_law_seal" 1 ["_law_key", "_law_ask", "_law_value", "_law_stamp"] [] false p_l_seal) (h_l_draw : HM P w K mg base cls "_law_draw" 1 ["_law_well_here", "_law_base"] [0] false p_l_draw) : FnOk P w K mg base CX0 2 f fd ["_law_well_here", "_law_key", "_law_ask", "_law_value", "_law_stamp"] (spM ⟨K, cls⟩ [0] false 5 p_l_forged) := by
  have sc := sc_l_forged
  exact fn_M F sc rfl fun cdv A outer s H E hr => ⟨m_l_forged, (dss_cons (ds_set (i := 5) (by decide) sc.nd rfl (Or.inl rfl) (de_call h_l_seal (hr.mono (by decide)) rfl (da_cons (dvP 1) (da_cons (dvP 2) (da_cons (dvP 3) (da_cons (dvP 4) da_nil))))))
  (dss_cons (ds_set (i := 6) (by decide) sc.nd rfl (Or.inl rfl) (de_call0 (j := 0) h_l_draw (hr.mono (by decide)) rfl (da_cons de_int da_nil)))
  (dss_cons (ds_if (dt_cmp op_lt ok_lt (do_v 6) (do_e de_int) (nomark _))
    (dss_one (ds_ret (dvP 5)))
    dss_nil)
  (dss_cons (ds_if (dt_cmp op_eq ok_eq (do_v 6) (do_e de_int) (nomark _))
    (dss_one (ds_ret (de_add (do_v 5) (do_e (de_mul (do_e de_int) (do_e (de_add (do_e de_int) (do_e (de_call0 (j := 0) h_l_draw (hr.mono (by decide)) rfl (da_cons de_int da_nil))))))))))
    dss_nil)
  (dss_cons (ds_if (dt_cmp op_eq ok_eq (do_v 6) (do_e de_int) (nomark _))
    (dss_one (ds_ret (de_ixA (do_e (de_f (df_lst (da_cons (de_add (do_v 5) (do_e de_int)) (da_cons (de_max2 rfl rfl M.max_ (do_e de_int) (do_e (de_sub (do_v 5) (do_e de_int)))) da_nil))))) (do_e (de_call0 (j := 0) h_l_draw (hr.mono (by decide)) rfl (da_cons de_int da_nil))) (fun _ _ => rfl))))
    dss_nil)
  (dss_cons (ds_if (dt_cmp op_eq ok_eq (do_v 6) (do_e de_int) (nomark _))
    (dss_one (ds_ret (de_call h_l_seal (hr.mono (by decide)) rfl (da_cons (dvP 1) (da_cons (de_add (do_v 2) (do_e de_int)) (da_cons (dvP 3) (da_cons (dvP 4) da_nil)))))))
    dss_nil)
  (dss_cons (ds_if (dt_cmp op_eq ok_eq (do_v 6) (do_e de_int) (nomark _))
    (dss_one (ds_ret (de_call h_l_seal (hr.mono (by decide)) rfl (da_cons (dvP 1) (da_cons (dvP 2) (da_cons (de_ixA (do_e (de_f (df_lst (da_cons de_non (da_cons de_int (da_cons de_int da_nil)))))) (do_e (de_call0 (j := 0) h_l_draw (hr.mono (by decide)) rfl (da_cons de_int da_nil))) (fun _ _ => rfl)) (da_cons (dvP 4) da_nil)))))))
    dss_nil)
  (dss_cons (ds_if (dt_cmp op_eq ok_eq (do_v 6) (do_e de_int) (nomark _))
    (dss_one (ds_ret (de_call h_l_seal (hr.mono (by decide)) rfl (da_cons (dvP 1) (da_cons (dvP 2) (da_cons (dvP 3) (da_cons (de_add (do_v 4) (do_e de_int)) da_nil)))))))
    dss_nil)
  (dss_one (ds_ret (de_call0 (j := 0) h_l_draw (hr.mono (by decide)) rfl (da_cons de_int da_nil)))))))))))), (fun h => by cases h), r_l_forged⟩
theorem sc_is_true : FnScope ["answer", "key"] ["answer", "key"] (defScope (top 15)) := ⟨rfl, rfl, rfl, by decide +kernel, rfl, by decide +kernel, by decide +kernel⟩
theorem l_is_true : ∀ ss q, p_is_true ss q Z0 → ss.length = 2 := by
  intro ss q h
  unfold p_is_true at h
  repeat (first | (obtain ⟨e, _⟩ := h; subst e; rfl; done) | obtain ⟨_, h⟩ := h)
theorem d_is_true (F : Fun K "is_true" "is_true" (top 15) f fd) (M : Mods K mg cls) (h_seal_of : HM P w K mg base cls "seal_of" 1 ["key", "ask", "value", "stamp"] [] false p_seal_of) : FnOk P w K mg base CX0 2 f fd ["answer", "key"] (spM ⟨K, cls⟩ [] false 2 p_is_true) := by
  have sc := sc_is_true
  exact fn_M F sc rfl fun cdv A outer s H E hr => ⟨m_is_true, (dss_one (ds_ret (de_cmp op_eq ok_eq (do_e (de_fld (f := 13) (by kernel_rfl) (by decide) M.no_seal (do_v 0))) (do_e (de_call h_seal_of (hr.mono (by decide)) rfl (da_cons (dvP 1) (da_cons (de_fld (f := 10) (by kernel_rfl) (by decide) M.no_ask (do_v 0)) (da_cons (de_fld (f := 11) (by kernel_rfl) (by decide) M.no_value (do_v 0)) (da_cons (de_fld (f := 12) (by kernel_rfl) (by decide) M.no_stamp (do_v 0)) da_nil)))))) (nomark _)))), (fun h => by cases h), r_is_true⟩
theorem sc_demand : FnScope ["right", "words"] ["right", "words"] (defScope (top 12)) := ⟨rfl, rfl, rfl, by decide +kernel, rfl, by decide +kernel, by decide +kernel⟩
theorem l_demand : ∀ ss q, p_demand ss q Z0 → ss.length = 2 := by
  intro ss q h
  unfold p_demand at h
  repeat (first | (obtain ⟨e, _⟩ := h; subst e; rfl; done) | obtain ⟨_, h⟩ := h)
theorem d_demand (F : Fun K "demand" "demand" (top 12) f fd) (M : Mods K mg cls) : FnOk P w K mg base CX0 1 f fd ["right", "words"] (spM ⟨K, cls⟩ [] false 2 p_demand) := by
  have sc := sc_demand
  exact fn_M F sc rfl fun cdv A outer s H E hr => ⟨m_demand, (dss_one (ds_if (dt_not (dt_tru (do_v 0)))
    (dss_one ds_never)
    dss_nil)), (fun h => by cases h), r_demand⟩
theorem sc_is_name : FnScope ["thing"] ["thing"] (defScope (top 7)) := ⟨rfl, rfl, rfl, by decide +kernel, rfl, by decide +kernel, by decide +kernel⟩
theorem l_is_name : ∀ ss q, p_is_name ss q Z0 → ss.length = 1 := by
  intro ss q h
  unfold p_is_name at h
  repeat (first | (obtain ⟨e, _⟩ := h; subst e; rfl; done) | obtain ⟨_, h⟩ := h)
theorem d_is_name (F : Fun K "is_name" "is_name" (top 7) f fd) (M : Mods K mg cls) : FnOk P w K mg base CX0 1 f fd ["thing"] (spM ⟨K, cls⟩ [] false 1 p_is_name) := by
  have sc := sc_is_name
  exact fn_M F sc rfl fun cdv A outer s H E hr => ⟨m_is_name, (dss_cons (ds_if (dt_w (dw_or (dt_not (dt_val (de_inst rfl M.isinstance_ (do_v 0) (do_e (de_ty rfl M.str_ (by kernel_rfl)))))) (dw_or1 (dt_not (dt_chain op_le ok_le op_le ok_le de_int (de_len rfl M.len_ (do_v 0)) (de_glob rfl M.LONGEST_NAME))))))
    (dss_one (ds_ret de_bl))
    dss_nil)
  (dss_one (ds_ret (de_all rfl rfl M.all_ (do_e (de_f (df_comp rfl (CompOk.of_b (N' := ["sign"]) (js := [none]) rfl (by kernel_rfl)) (by decide) (di_str (dvP 0)) (fun _ _ _ _ _ => (dg_name (i := 0) (by decide) (show (["sign"] : List Str).Nodup by decide +kernel) rfl (Or.inl rfl) (Or.inr rfl))) (fun _ _ _ _ _ => dts_nil) (fun _ _ _ _ _ => (de_chain op_le_str ok_leS op_le_str ok_leS de_str (dvP 0) de_str))))))))), (fun h => by cases h), r_is_name⟩
theorem sc_is_whole : FnScope ["thing"] ["thing"] (defScope (top 5)) := ⟨rfl, rfl, rfl, by decide +kernel, rfl, by decide +kernel, by decide +kernel⟩
theorem l_is_whole : ∀ ss q, p_is_whole ss q Z0 → ss.length = 1 := by
  intro ss q h
  unfold p_is_whole at h
  repeat (first | (obtain ⟨e, _⟩ := h; subst e; rfl; done) | obtain ⟨_, h⟩ := h)
theorem d_is_whole (F : Fun K "is_whole" "is_whole" (top 5) f fd) (M : Mods K mg cls) : FnOk P w K mg base CX0 1 f fd ["thing"] (spM ⟨K, cls⟩ [] false 1 p_is_whole) := by
  have sc := sc_is_whole
  exact fn_M F sc rfl fun cdv A outer s H E hr => ⟨m_is_whole, (dss_one (ds_ret (de_and (de_inst rfl M.isinstance_ (do_v 0) (do_e (de_ty rfl M.int_ (by kernel_rfl)))) (de_one (de_not (de_inst rfl M.isinstance_ (do_v 0) (do_e (de_ty rfl M.bool_ (by kernel_rfl))))))))), (fun h => by cases h), r_is_whole⟩
theorem sc_is_from_nought : FnScope ["thing"] ["thing"] (defScope (top 6)) := ⟨rfl, rfl, rfl, by decide +kernel, rfl, by decide +kernel, by decide +kernel⟩
theorem l_is_from_nought : ∀ ss q, p_is_from_nought ss q Z0 → ss.length = 1 := by
  intro ss q h
  unfold p_is_from_nought at h
  repeat (first | (obtain ⟨e, _⟩ := h; subst e; rfl; done) | obtain ⟨_, h⟩ := h)
theorem d_is_from_nought (F : Fun K "is_from_nought" "is_from_nought" (top 6) f fd) (M : Mods K mg cls) (h_is_whole : HM P w K mg base cls "is_whole" 1 ["thing"] [] false p_is_whole) : FnOk P w K mg base CX0 2 f fd ["thing"] (spM ⟨K, cls⟩ [] false 1 p_is_from_nought) := by
  have sc := sc_is_from_nought
  exact fn_M F sc rfl fun cdv A outer s H E hr => ⟨m_is_from_nought, (dss_one (ds_ret (de_and (de_call h_is_whole (hr.mono (by decide)) rfl (da_cons (dvP 0) da_nil)) (de_one (de_cmp op_ge ok_ge (do_v 0) (do_e de_int) (nomark _)))))), (fun h => by cases h), r_is_from_nought⟩
theorem sc_Answer : FnScope ["self", "name", "ask", "value", "stamp", "seal"] ["self", "name", "ask", "value", "stamp", "seal"] (defScope (inClass (top 13) 0)) := ⟨rfl, rfl, rfl, by decide +kernel, rfl, by decide +kernel, by decide +kernel⟩
theorem l_Answer : ∀ ss q, p_Answer ss q Z0 → ss.length = 6 := by
  intro ss q h
  unfold p_Answer at h
  repeat (first | (obtain ⟨e, _⟩ := h; subst e; rfl; done) | obtain ⟨_, h⟩ := h)
theorem d_Answer (F : Fun K "__init__" "Answer.__init__" (inClass (top 13) 0) f fd) (M : Mods K mg cls) (h_demand : HM P w K mg base cls "demand" 1 ["right", "words"] [] false p_demand) (h_is_name : HM P w K mg base cls "is_name" 1 ["thing"] [] false p_is_name) (h_is_from_nought : HM P w K mg base cls "is_from_nought" 2 ["thing"] [] false p_is_from_nought) : FnOk P w K mg base CX0 3 f fd ["self", "name", "ask", "value", "stamp", "seal"] (spM ⟨K, cls⟩ [0] false 6 p_Answer) := by
  have sc := sc_Answer
  exact fn_M F sc rfl fun cdv A outer s H E hr => ⟨m_Answer, (dss_cons (ds_expr (de_call h_demand (hr.mono (by decide)) rfl (da_cons (de_call h_is_name (hr.mono (by decide)) rfl (da_cons (dvP 1) da_nil)) (da_cons de_str da_nil))))
  (dss_cons (ds_expr (de_call h_demand (hr.mono (by decide)) rfl (da_cons (de_call h_is_from_nought (hr.mono (by decide)) rfl (da_cons (dvP 2) da_nil)) (da_cons de_str da_nil))))
  (dss_cons (ds_expr (de_call h_demand (hr.mono (by decide)) rfl (da_cons (de_or (de_cmp op_isN ok_isN (do_v 3) (do_e de_non) (nomark _)) (de_one (de_call h_is_from_nought (hr.mono (by decide)) rfl (da_cons (dvP 3) da_nil)))) (da_cons de_str da_nil))))
  (dss_cons (ds_expr (de_call h_demand (hr.mono (by decide)) rfl (da_cons (de_call h_is_from_nought (hr.mono (by decide)) rfl (da_cons (dvP 4) da_nil)) (da_cons de_str da_nil))))
  (dss_cons (ds_expr (de_call h_demand (hr.mono (by decide)) rfl (da_cons (de_call h_is_from_nought (hr.mono (by decide)) rfl (da_cons (dvP 5) da_nil)) (da_cons de_str da_nil))))
  (dss_cons (ds_setF (f := 9) (i := 0) (by kernel_rfl) (by decide) M.no_name (dvP 1))
  (dss_cons (ds_setF (f := 10) (i := 0) (by kernel_rfl) (by decide) M.no_ask (dvP 2))
  (dss_cons (ds_setF (f := 11) (i := 0) (by kernel_rfl) (by decide) M.no_value (dvP 3))
  (dss_cons (ds_setF (f := 12) (i := 0) (by kernel_rfl) (by decide) M.no_stamp (dvP 4))
  (dss_one (ds_setF (f := 13) (i := 0) (by kernel_rfl) (by decide) M.no_seal (dvP 5)))))))))))), (fun h => by cases h), r_Answer⟩
theorem sc_law : FnScope ["_law_script", "_law_k", "_law_well_here", "_law_key", "_law_numbers", "_law_ask", "_law_stamp", "_law_value", "_law_due", "_law_seal_here"] ["_law_script"] (defScope (top 22)) := ⟨rfl, rfl, rfl, by decide +kernel, rfl, by decide +kernel, by decide +kernel⟩
theorem d_law (F : Fun K "law" "law" (top 22) f fd) (M : Mods K mg cls) (h_l_well : HM P w K mg base cls "_law_well" 1 ["_law_cell"] [] true p_l_well) (h_l_cell_at : HM P w K mg base cls "_law_cell_at" 1 ["_law_script", "_law_k"] [] false p_l_cell_at) (h_l_draw : HM P w K mg base cls "_law_draw" 1 ["_law_well_here", "_law_base"] [0] false p_l_draw) (h_l_seal : HM P w K mg base cls "_law_seal" 1 ["_law_key", "_law_ask", "_law_value", "_law_stamp"] [] false p_l_seal) (h_seal_of : HM P w K mg base cls "seal_of" 1 ["key", "ask", "value", "stamp"] [] false p_seal_of) (h_l_forged : HM P w K mg base cls "_law_forged" 2 ["_law_well_here", "_law_key", "_law_ask", "_law_value", "_law_stamp"] [0] false p_l_forged) (h_is_true : HM P w K mg base cls "is_true" 2 ["answer", "key"] [] false p_is_true) (h_Answer : HK P w K mg base cls "Answer" 6 3 ["self", "name", "ask", "value", "stamp", "seal"] p_Answer) : FnOk P w K mg base CX0 5 f fd ["_law_script"] (spM ⟨K, cls⟩ [] false 1 p_law63) := by
  have sc := sc_law
  exact fn_M F sc rfl fun cdv A outer s H E hr => ⟨m_law, (dss_cons (ds_for PassesOwn.never rfl (di_range1 rfl M.range_ (da_cons (de_max2 rfl rfl M.max_ (do_e de_int) (do_e (de_min2 rfl rfl M.min_ (do_e de_int) (do_e (de_len rfl M.len_ (do_v 0)))))) da_nil)) (dg_name (i := 1) (by decide) sc.nd rfl (Or.inl rfl))
    (dss_cons (ds_setOwn (i := 2) (by decide) sc.nd rfl (Or.inr rfl) (df_call h_l_well (hr.mono (by decide)) rfl (da_cons (de_add (do_e (de_call h_l_cell_at (hr.mono (by decide)) rfl (da_cons (dvP 0) (da_cons (dvP 1) da_nil)))) (do_e (de_mul (do_e de_int) (do_v 1)))) da_nil)))
  (dss_cons (ds_set (i := 3) (by decide) sc.nd rfl (Or.inl rfl) (de_ixA (do_e (de_f (df_lst (da_cons de_int (da_cons de_int (da_cons (de_add (do_e de_int) (do_e (de_call0 (j := 2) h_l_draw (hr.mono (by decide)) rfl (da_cons de_int da_nil)))) (da_cons (de_add (do_e de_int) (do_e (de_call0 (j := 2) h_l_draw (hr.mono (by decide)) rfl (da_cons de_int da_nil)))) da_nil))))))) (do_e (de_call0 (j := 2) h_l_draw (hr.mono (by decide)) rfl (da_cons de_int da_nil))) (fun _ _ => rfl)))
  (dss_cons (ds_comp (i := 4) (by decide) rfl sc.nd rfl rfl (CompOk.of_b (N' := ["_law_j", "_law_well_here"]) (js := [none, some 2]) rfl (by kernel_rfl)) (by decide) (di_range1 rfl M.range_ (da_cons de_int da_nil)) (fun _ _ _ _ _ => (dg_name (i := 0) (by decide) (show (["_law_j", "_law_well_here"] : List Str).Nodup by decide +kernel) rfl (Or.inl rfl) (Or.inr rfl))) (fun _ _ _ _ _ => dts_nil) (fun _ _ _ _ _ => (de_ixA (do_e (de_f (df_lst (da_cons de_int (da_cons de_int (da_cons (de_call0 (j := 1) h_l_draw (hr.mono (by decide)) rfl (da_cons (de_sub (do_e (de_pow (do_e de_int) (do_e de_int))) (do_e de_int)) da_nil)) da_nil)))))) (do_e (de_call0 (j := 1) h_l_draw (hr.mono (by decide)) rfl (da_cons de_int da_nil))) (fun _ _ => rfl))))
  (dss_cons (ds_asg (de_f (df_slL (do_v 4) dp_none (dp_some de_int))) (dg_tupL rfl (dgs_cons (dg_name (i := 5) (by decide) sc.nd rfl (Or.inl rfl)) (dgs_cons (dg_name (i := 6) (by decide) sc.nd rfl (Or.inl rfl)) dgs_nil))))
  (dss_cons (ds_set (i := 7) (by decide) sc.nd rfl (Or.inl rfl) (de_ixA (do_e (de_f (df_lst (da_cons (de_ixA (do_v 4) (do_e de_int) (fun _ _ => rfl)) (da_cons de_non da_nil))))) (do_e (de_intc rfl M.int_ (do_e (de_cmp op_eq ok_eq (do_e (de_call0 (j := 2) h_l_draw (hr.mono (by decide)) rfl (da_cons de_int da_nil))) (do_e de_int) (nomark _))))) (fun _ _ => rfl)))
  (dss_cons (ds_set (i := 8) (by decide) sc.nd rfl (Or.inl rfl) (de_call h_l_seal (hr.mono (by decide)) rfl (da_cons (dvP 3) (da_cons (dvP 5) (da_cons (dvP 7) (da_cons (dvP 6) da_nil))))))
  (dss_cons (ds_if (dt_cmp op_ne ok_ne (do_e (de_call h_seal_of (hr.mono (by decide)) rfl (da_cons (dvP 3) (da_cons (dvP 5) (da_cons (dvP 7) (da_cons (dvP 6) da_nil)))))) (do_v 8) (nomark _))
    (dss_one (ds_ret de_bl))
    dss_nil)
  (dss_cons (ds_set (i := 9) (by decide) sc.nd rfl (Or.inl rfl) (de_call0 (j := 2) h_l_forged (hr.mono (by decide)) rfl (da_cons (dvP 3) (da_cons (dvP 5) (da_cons (dvP 7) (da_cons (dvP 6) da_nil))))))
  (dss_one (ds_if (dt_cmp op_ne ok_ne (do_e (de_call h_is_true (hr.mono (by decide)) rfl (da_cons (de_f (df_make h_Answer (hr.mono (by decide)) rfl (da_cons de_str (da_cons (dvP 5) (da_cons (dvP 7) (da_cons (dvP 6) (da_cons (dvP 9) da_nil))))))) (da_cons (dvP 3) da_nil)))) (do_e (de_cmp op_eq ok_eq (do_v 9) (do_v 8) (nomark _))) (nomark _))
    (dss_one (ds_ret de_bl))
    dss_nil)))))))))))
  (dss_one (ds_ret de_bl))), (fun h => by cases h), r_law⟩
end
def clsOf (C_Answer : Addr) : Nat → Option Addr := fun n => if n = 6 then some C_Answer else none
theorem all_mk {l : PySem.W.OpenLaw} {w : World} {K : PySem.W.Frag} {h : Heap} {mg : Str → Option Value} {fa f1 f2 f3 f4 f5 f6 f7 f8 f9 f10 f11 f12 f13 C_Answer : Addr} (X : K.In h) (G : h.Ns mainGlobals mg) (hfa : mg "law" = some (.ref fa))
    {od1 an1 od2 an2 od3 an3 od4 an4 od5 an5 od6 an6 od7 an7 od8 an8 od9 an9 od10 an10 od11 an11 od12 an12 od13 an13 : Option Addr} {sl1 sl2 sl3 sl4 sl5 sl6 sl7 sl8 sl9 sl10 sl11 sl12 sl13 : Array (Option Value)} {oc1 kV1 dc1 pm1 cd1 ct1 oc2 kV2 dc2 pm2 cd2 ct2 oc3 kV3 dc3 pm3 cd3 ct3 oc4 kV4 dc4 pm4 cd4 ct4 oc5 kV5 dc5 pm5 cd5 ct5 oc6 kV6 dc6 pm6 cd6 ct6 oc7 kV7 dc7 pm7 cd7 ct7 oc8 kV8 dc8 pm8 cd8 ct8 oc9 kV9 dc9 pm9 cd9 ct9 oc10 kV10 dc10 pm10 cd10 ct10 oc11 kV11 dc11 pm11 cd11 ct11 oc12 kV12 dc12 pm12 cd12 ct12 oc13 kV13 dc13 pm13 cd13 ct13 : Value}
    (aC_Answer : PySem.W.nsIn K mainGlobals "Answer" = some (some (.ref C_Answer)))
    (pg_Answer : PySem.W.plainGet K C_Answer Str.empty = true)
    (hd_Answer : PySem.W.hasDictIn K C_Answer = true)
    (po_Answer : PySem.W.plainOver K C_Answer = true)
    (sa_Answer : PySem.W.findIn K (.ref C_Answer) "__setattr__" = some (some (.builtin "object.__setattr__")))
    (mk_Answer : PySem.W.makesIn K C_Answer = true)
    (kc_Answer : PySem.W.keepIn K (.ref C_Answer) = true)
    (n_seal_Answer : PySem.W.findIn K (.ref C_Answer) "seal" = some none)
    (n_ask_Answer : PySem.W.findIn K (.ref C_Answer) "ask" = some none)
    (n_value_Answer : PySem.W.findIn K (.ref C_Answer) "value" = some none)
    (n_stamp_Answer : PySem.W.findIn K (.ref C_Answer) "stamp" = some none)
    (n_name_Answer : PySem.W.findIn K (.ref C_Answer) "name" = some none)
    (a1 : PySem.W.nsIn K mainGlobals "_law_well" = some (some (.ref f1))) (l1 : K.lookup f1 = some ⟨oc1, od1, .func (PySem.W.fnOf "_law_well" "_law_well" (defArgs (top 18)) (defBody (top 18)) (defScope (top 18)) .none kV1 dc1 pm1 an1 cd1 ct1), sl1⟩) (c1 : PySem.W.codeIn K cd1 "_law_well" = true) (k1 : PySem.W.keepIn K (.ref f1) = true)
    (a2 : PySem.W.nsIn K mainGlobals "_law_cell_at" = some (some (.ref f2))) (l2 : K.lookup f2 = some ⟨oc2, od2, .func (PySem.W.fnOf "_law_cell_at" "_law_cell_at" (defArgs (top 17)) (defBody (top 17)) (defScope (top 17)) .none kV2 dc2 pm2 an2 cd2 ct2), sl2⟩) (c2 : PySem.W.codeIn K cd2 "_law_cell_at" = true) (k2 : PySem.W.keepIn K (.ref f2) = true)
    (a3 : PySem.W.nsIn K mainGlobals "_law_draw" = some (some (.ref f3))) (l3 : K.lookup f3 = some ⟨oc3, od3, .func (PySem.W.fnOf "_law_draw" "_law_draw" (defArgs (top 19)) (defBody (top 19)) (defScope (top 19)) .none kV3 dc3 pm3 an3 cd3 ct3), sl3⟩) (c3 : PySem.W.codeIn K cd3 "_law_draw" = true) (k3 : PySem.W.keepIn K (.ref f3) = true)
    (a4 : PySem.W.nsIn K mainGlobals "_law_seal" = some (some (.ref f4))) (l4 : K.lookup f4 = some ⟨oc4, od4, .func (PySem.W.fnOf "_law_seal" "_law_seal" (defArgs (top 20)) (defBody (top 20)) (defScope (top 20)) .none kV4 dc4 pm4 an4 cd4 ct4), sl4⟩) (c4 : PySem.W.codeIn K cd4 "_law_seal" = true) (k4 : PySem.W.keepIn K (.ref f4) = true)
    (a5 : PySem.W.nsIn K mainGlobals "seal_of" = some (some (.ref f5))) (l5 : K.lookup f5 = some ⟨oc5, od5, .func (PySem.W.fnOf "seal_of" "seal_of" (defArgs (top 14)) (defBody (top 14)) (defScope (top 14)) .none kV5 dc5 pm5 an5 cd5 ct5), sl5⟩) (c5 : PySem.W.codeIn K cd5 "seal_of" = true) (k5 : PySem.W.keepIn K (.ref f5) = true)
    (a6 : PySem.W.nsIn K mainGlobals "_law_forged" = some (some (.ref f6))) (l6 : K.lookup f6 = some ⟨oc6, od6, .func (PySem.W.fnOf "_law_forged" "_law_forged" (defArgs (top 21)) (defBody (top 21)) (defScope (top 21)) .none kV6 dc6 pm6 an6 cd6 ct6), sl6⟩) (c6 : PySem.W.codeIn K cd6 "_law_forged" = true) (k6 : PySem.W.keepIn K (.ref f6) = true)
    (a7 : PySem.W.nsIn K mainGlobals "is_true" = some (some (.ref f7))) (l7 : K.lookup f7 = some ⟨oc7, od7, .func (PySem.W.fnOf "is_true" "is_true" (defArgs (top 15)) (defBody (top 15)) (defScope (top 15)) .none kV7 dc7 pm7 an7 cd7 ct7), sl7⟩) (c7 : PySem.W.codeIn K cd7 "is_true" = true) (k7 : PySem.W.keepIn K (.ref f7) = true)
    (a8 : PySem.W.nsIn K mainGlobals "demand" = some (some (.ref f8))) (l8 : K.lookup f8 = some ⟨oc8, od8, .func (PySem.W.fnOf "demand" "demand" (defArgs (top 12)) (defBody (top 12)) (defScope (top 12)) .none kV8 dc8 pm8 an8 cd8 ct8), sl8⟩) (c8 : PySem.W.codeIn K cd8 "demand" = true) (k8 : PySem.W.keepIn K (.ref f8) = true)
    (a9 : PySem.W.nsIn K mainGlobals "is_name" = some (some (.ref f9))) (l9 : K.lookup f9 = some ⟨oc9, od9, .func (PySem.W.fnOf "is_name" "is_name" (defArgs (top 7)) (defBody (top 7)) (defScope (top 7)) .none kV9 dc9 pm9 an9 cd9 ct9), sl9⟩) (c9 : PySem.W.codeIn K cd9 "is_name" = true) (k9 : PySem.W.keepIn K (.ref f9) = true)
    (a10 : PySem.W.nsIn K mainGlobals "is_whole" = some (some (.ref f10))) (l10 : K.lookup f10 = some ⟨oc10, od10, .func (PySem.W.fnOf "is_whole" "is_whole" (defArgs (top 5)) (defBody (top 5)) (defScope (top 5)) .none kV10 dc10 pm10 an10 cd10 ct10), sl10⟩) (c10 : PySem.W.codeIn K cd10 "is_whole" = true) (k10 : PySem.W.keepIn K (.ref f10) = true)
    (a11 : PySem.W.nsIn K mainGlobals "is_from_nought" = some (some (.ref f11))) (l11 : K.lookup f11 = some ⟨oc11, od11, .func (PySem.W.fnOf "is_from_nought" "is_from_nought" (defArgs (top 6)) (defBody (top 6)) (defScope (top 6)) .none kV11 dc11 pm11 an11 cd11 ct11), sl11⟩) (c11 : PySem.W.codeIn K cd11 "is_from_nought" = true) (k11 : PySem.W.keepIn K (.ref f11) = true)
    (a12 : PySem.W.findIn K (.ref C_Answer) "__init__" = some (some (.ref f12))) (i12 : PySem.W.isFn K (.ref f12) = true) (l12 : K.lookup f12 = some ⟨oc12, od12, .func (PySem.W.fnOf "__init__" "Answer.__init__" (defArgs (inClass (top 13) 0)) (defBody (inClass (top 13) 0)) (defScope (inClass (top 13) 0)) .none kV12 dc12 pm12 an12 cd12 ct12), sl12⟩) (c12 : PySem.W.codeIn K cd12 "Answer.__init__" = true) (k12 : PySem.W.keepIn K (.ref f12) = true)
    (a13 : PySem.W.nsIn K mainGlobals "law" = some (some (.ref f13))) (l13 : K.lookup f13 = some ⟨oc13, od13, .func (PySem.W.fnOf "law" "law" (defArgs (top 22)) (defBody (top 22)) (defScope (top 22)) .none kV13 dc13 pm13 an13 cd13 ct13), sl13⟩) (c13 : PySem.W.codeIn K cd13 "law" = true) (k13 : PySem.W.keepIn K (.ref f13) = true)
    (z_int : PySem.W.nsIn K mainGlobals "int" = some none)
    (z_len : PySem.W.nsIn K mainGlobals "len" = some none)
    (z_range : PySem.W.nsIn K mainGlobals "range" = some none)
    (z_max : PySem.W.nsIn K mainGlobals "max" = some none)
    (z_isinstance : PySem.W.nsIn K mainGlobals "isinstance" = some none)
    (z_str : PySem.W.nsIn K mainGlobals "str" = some none)
    (z_all : PySem.W.nsIn K mainGlobals "all" = some none)
    (z_bool : PySem.W.nsIn K mainGlobals "bool" = some none)
    (z_min : PySem.W.nsIn K mainGlobals "min" = some none)
    {t_VALUE_STEP t_STAMP_STEP t_SEAL_BOUND t_LONGEST_NAME : Tok}
    (z_VALUE_STEP : PySem.W.nsIn K mainGlobals "VALUE_STEP" = some (some (.int 1009 t_VALUE_STEP)))
    (z_STAMP_STEP : PySem.W.nsIn K mainGlobals "STAMP_STEP" = some (some (.int 31 t_STAMP_STEP)))
    (z_SEAL_BOUND : PySem.W.nsIn K mainGlobals "SEAL_BOUND" = some (some (.int 1000003 t_SEAL_BOUND)))
    (z_LONGEST_NAME : PySem.W.nsIn K mainGlobals "LONGEST_NAME" = some (some (.int 8 t_LONGEST_NAME)))
    : ∃ fd : FuncData, (∀ (s : Shared) (v : Value), BindsTo s fd ⟨[v], []⟩ [("_law_script", v)]) ∧ ∀ base : Heap, K.In base → base.Ns mainGlobals mg → FnOk l.prog w K mg base CX0 5 fa fd ["_law_script"] (spLaw K) := by
  have e := hfa.symm.trans (PySem.W.mg_of X G a13)
  cases e
  have F1 := fun_mk (st := (top 18)) l1 c1 k1
  have b1 := F1.binds (ps := ["_law_cell"]) fun _ _ _ _ _ _ us hl => match us, hl with | [_], _ => rfl
  have F2 := fun_mk (st := (top 17)) l2 c2 k2
  have b2 := F2.binds (ps := ["_law_script", "_law_k"]) fun _ _ _ _ _ _ us hl => match us, hl with | [_, _], _ => rfl
  have F3 := fun_mk (st := (top 19)) l3 c3 k3
  have b3 := F3.binds (ps := ["_law_well_here", "_law_base"]) fun _ _ _ _ _ _ us hl => match us, hl with | [_, _], _ => rfl
  have F4 := fun_mk (st := (top 20)) l4 c4 k4
  have b4 := F4.binds (ps := ["_law_key", "_law_ask", "_law_value", "_law_stamp"]) fun _ _ _ _ _ _ us hl => match us, hl with | [_, _, _, _], _ => rfl
  have F5 := fun_mk (st := (top 14)) l5 c5 k5
  have b5 := F5.binds (ps := ["key", "ask", "value", "stamp"]) fun _ _ _ _ _ _ us hl => match us, hl with | [_, _, _, _], _ => rfl
  have F6 := fun_mk (st := (top 21)) l6 c6 k6
  have b6 := F6.binds (ps := ["_law_well_here", "_law_key", "_law_ask", "_law_value", "_law_stamp"]) fun _ _ _ _ _ _ us hl => match us, hl with | [_, _, _, _, _], _ => rfl
  have F7 := fun_mk (st := (top 15)) l7 c7 k7
  have b7 := F7.binds (ps := ["answer", "key"]) fun _ _ _ _ _ _ us hl => match us, hl with | [_, _], _ => rfl
  have F8 := fun_mk (st := (top 12)) l8 c8 k8
  have b8 := F8.binds (ps := ["right", "words"]) fun _ _ _ _ _ _ us hl => match us, hl with | [_, _], _ => rfl
  have F9 := fun_mk (st := (top 7)) l9 c9 k9
  have b9 := F9.binds (ps := ["thing"]) fun _ _ _ _ _ _ us hl => match us, hl with | [_], _ => rfl
  have F10 := fun_mk (st := (top 5)) l10 c10 k10
  have b10 := F10.binds (ps := ["thing"]) fun _ _ _ _ _ _ us hl => match us, hl with | [_], _ => rfl
  have F11 := fun_mk (st := (top 6)) l11 c11 k11
  have b11 := F11.binds (ps := ["thing"]) fun _ _ _ _ _ _ us hl => match us, hl with | [_], _ => rfl
  have F12 := fun_mk (st := (inClass (top 13) 0)) l12 c12 k12
  have b12 := F12.binds (ps := ["self", "name", "ask", "value", "stamp", "seal"]) fun _ _ _ _ _ _ us hl => match us, hl with | [_, _, _, _, _, _], _ => rfl
  have F13 := fun_mk (st := (top 22)) l13 c13 k13
  have b13 := F13.binds (ps := ["_law_script"]) fun _ _ _ _ _ _ us hl => match us, hl with | [_], _ => rfl
  have cl_Answer : Cls K C_Answer := ⟨pg_Answer, hd_Answer, po_Answer, sa_Answer⟩
  have M : Mods K mg (clsOf C_Answer) := by
    refine ⟨PySem.W.mg_none_of X G z_int, PySem.W.mg_none_of X G z_len, PySem.W.mg_none_of X G z_range, PySem.W.mg_none_of X G z_max, PySem.W.mg_none_of X G z_isinstance, PySem.W.mg_none_of X G z_str, PySem.W.mg_none_of X G z_all, PySem.W.mg_none_of X G z_bool, PySem.W.mg_none_of X G z_min, ⟨t_VALUE_STEP, PySem.W.mg_of X G z_VALUE_STEP⟩, ⟨t_STAMP_STEP, PySem.W.mg_of X G z_STAMP_STEP⟩, ⟨t_SEAL_BOUND, PySem.W.mg_of X G z_SEAL_BOUND⟩, ⟨t_LONGEST_NAME, PySem.W.mg_of X G z_LONGEST_NAME⟩, ?no_seal, ?no_ask, ?no_value, ?no_stamp, ?no_name⟩
    case no_seal =>
      intro c C h
      have h : (clsOf C_Answer) c = some C := h
      unfold clsOf at h
      by_cases e : c = 6
      · rw [if_pos e] at h; cases h; exact ⟨cl_Answer, n_seal_Answer⟩
      · rw [if_neg e] at h
        cases h
    case no_ask =>
      intro c C h
      have h : (clsOf C_Answer) c = some C := h
      unfold clsOf at h
      by_cases e : c = 6
      · rw [if_pos e] at h; cases h; exact ⟨cl_Answer, n_ask_Answer⟩
      · rw [if_neg e] at h
        cases h
    case no_value =>
      intro c C h
      have h : (clsOf C_Answer) c = some C := h
      unfold clsOf at h
      by_cases e : c = 6
      · rw [if_pos e] at h; cases h; exact ⟨cl_Answer, n_value_Answer⟩
      · rw [if_neg e] at h
        cases h
    case no_stamp =>
      intro c C h
      have h : (clsOf C_Answer) c = some C := h
      unfold clsOf at h
      by_cases e : c = 6
      · rw [if_pos e] at h; cases h; exact ⟨cl_Answer, n_stamp_Answer⟩
      · rw [if_neg e] at h
        cases h
    case no_name =>
      intro c C h
      have h : (clsOf C_Answer) c = some C := h
      unfold clsOf at h
      by_cases e : c = 6
      · rw [if_pos e] at h; cases h; exact ⟨cl_Answer, n_name_Answer⟩
      · rw [if_neg e] at h
        cases h
  refine ⟨PySem.W.fnOf "law" "law" (defArgs (top 22)) (defBody (top 22)) (defScope (top 22)) .none kV13 dc13 pm13 an13 cd13 ct13, fun s v => .of_eq rfl, fun base _ _ => ?_⟩
  have h_l_well : HM l.prog w K mg base (clsOf C_Answer) "_law_well" 1 ["_law_cell"] [] true p_l_well := ⟨⟨_, _, d_l_well F1 M, b1, k1, PySem.W.mg_of X G a1⟩, l_l_well⟩
  have h_l_cell_at : HM l.prog w K mg base (clsOf C_Answer) "_law_cell_at" 1 ["_law_script", "_law_k"] [] false p_l_cell_at := ⟨⟨_, _, d_l_cell_at F2 M, b2, k2, PySem.W.mg_of X G a2⟩, l_l_cell_at⟩
  have h_l_draw : HM l.prog w K mg base (clsOf C_Answer) "_law_draw" 1 ["_law_well_here", "_law_base"] [0] false p_l_draw := ⟨⟨_, _, d_l_draw F3 M, b3, k3, PySem.W.mg_of X G a3⟩, l_l_draw⟩
  have h_l_seal : HM l.prog w K mg base (clsOf C_Answer) "_law_seal" 1 ["_law_key", "_law_ask", "_law_value", "_law_stamp"] [] false p_l_seal := ⟨⟨_, _, d_l_seal F4 M, b4, k4, PySem.W.mg_of X G a4⟩, l_l_seal⟩
  have h_seal_of : HM l.prog w K mg base (clsOf C_Answer) "seal_of" 1 ["key", "ask", "value", "stamp"] [] false p_seal_of := ⟨⟨_, _, d_seal_of F5 M, b5, k5, PySem.W.mg_of X G a5⟩, l_seal_of⟩
  have h_l_forged : HM l.prog w K mg base (clsOf C_Answer) "_law_forged" 2 ["_law_well_here", "_law_key", "_law_ask", "_law_value", "_law_stamp"] [0] false p_l_forged := ⟨⟨_, _, d_l_forged F6 M h_l_seal h_l_draw, b6, k6, PySem.W.mg_of X G a6⟩, l_l_forged⟩
  have h_is_true : HM l.prog w K mg base (clsOf C_Answer) "is_true" 2 ["answer", "key"] [] false p_is_true := ⟨⟨_, _, d_is_true F7 M h_seal_of, b7, k7, PySem.W.mg_of X G a7⟩, l_is_true⟩
  have h_demand : HM l.prog w K mg base (clsOf C_Answer) "demand" 1 ["right", "words"] [] false p_demand := ⟨⟨_, _, d_demand F8 M, b8, k8, PySem.W.mg_of X G a8⟩, l_demand⟩
  have h_is_name : HM l.prog w K mg base (clsOf C_Answer) "is_name" 1 ["thing"] [] false p_is_name := ⟨⟨_, _, d_is_name F9 M, b9, k9, PySem.W.mg_of X G a9⟩, l_is_name⟩
  have h_is_whole : HM l.prog w K mg base (clsOf C_Answer) "is_whole" 1 ["thing"] [] false p_is_whole := ⟨⟨_, _, d_is_whole F10 M, b10, k10, PySem.W.mg_of X G a10⟩, l_is_whole⟩
  have h_is_from_nought : HM l.prog w K mg base (clsOf C_Answer) "is_from_nought" 2 ["thing"] [] false p_is_from_nought := ⟨⟨_, _, d_is_from_nought F11 M h_is_whole, b11, k11, PySem.W.mg_of X G a11⟩, l_is_from_nought⟩
  have h_Answer : HK l.prog w K mg base (clsOf C_Answer) "Answer" 6 3 ["self", "name", "ask", "value", "stamp", "seal"] p_Answer := ⟨⟨C_Answer, _, _, by unfold clsOf; simp, ⟨mk_Answer, a12, i12, kc_Answer⟩, d_Answer F12 M h_demand h_is_name h_is_from_nought, b12, PySem.W.mg_of X G aC_Answer⟩, l_Answer⟩
  exact (d_law (cls := (clsOf C_Answer)) F13 M h_l_well h_l_cell_at h_l_draw h_l_seal h_seal_of h_l_forged h_is_true h_Answer).imp fun vs H Q E h => law_start h
theorem walk {l : PySem.W.OpenLaw} {q : Program} {loose : List Str} {XP : (Str → Option Value) → Heap → Prop} {YP : World → Heap → Prop} {d : DefRec} {K : Params → PySem.W.Frag} (hn : l.most = some 63) (hdf : d.params.defaults = [])
    (hY : ∀ (w : World) (h : Heap), YP w h → (K w.params).In h)
    (F : ∀ (w : World) (mg : Str → Option Value) (fa : Addr) (h : Heap), (K w.params).In h → h.Ns mainGlobals mg → mg d.name = some (.ref fa) →
      ∃ fd : FuncData, (∀ (s : Shared) (u : Value), BindsTo s fd ⟨[u], []⟩ [("_law_script", u)]) ∧ ∀ base : Heap, (K w.params).In base → base.Ns mainGlobals mg → FnOk l.prog w (K w.params) mg base CX0 5 fa fd ["_law_script"] (spLaw (K w.params))) :
    PySem.W.WalkO q loose XP YP l.row.toRowW d [] (fun f vs => PySem.call f vs) :=
  L2.walk_of (n := 63) (k := 5) (x := "_law_script") (CX := fun _ => CX0) (sp := fun w => spLaw (K w.params)) hn (by decide) hdf ⟨rfl, by decide, by decide⟩ hY F (fun _ _ a ns hl _ hS => ⟨a, ns, rfl, hS, hl, fun _ => rfl⟩) fun _ _ _ _ _ z => z
end F32
open PySem PySem.W PyProof.Rows
set_option maxRecDepth 100000 in
set_option maxHeartbeats 0 in
theorem PySem.Challenge.cw_enoughsaid_k32_seals_holds : PySem.Challenge.rw_enoughsaid_k32_seals.Holds := by
  w_on; o_law; k_head; (case hw => w_witness2)
  k_fill
  refine F32.walk (l := PySem.Challenge.rw_enoughsaid_k32_seals) rfl rfl (fun w h Y => PySem.W.kIn_of Y) ?F
  case F =>
    intro w mg fa h KX G hmg
    refine' F32.all_mk KX G hmg ?aC_Answer ?pg_Answer ?hd_Answer ?po_Answer ?sa_Answer ?mk_Answer ?kc_Answer ?n_seal_Answer ?n_ask_Answer ?n_value_Answer ?n_stamp_Answer ?n_name_Answer ?a1 ?l1 ?c1 ?k1 ?a2 ?l2 ?c2 ?k2 ?a3 ?l3 ?c3 ?k3 ?a4 ?l4 ?c4 ?k4 ?a5 ?l5 ?c5 ?k5 ?a6 ?l6 ?c6 ?k6 ?a7 ?l7 ?c7 ?k7 ?a8 ?l8 ?c8 ?k8 ?a9 ?l9 ?c9 ?k9 ?a10 ?l10 ?c10 ?k10 ?a11 ?l11 ?c11 ?k11 ?a12 ?i12 ?l12 ?c12 ?k12 ?a13 ?l13 ?c13 ?k13 ?z_int ?z_len ?z_range ?z_max ?z_isinstance ?z_str ?z_all ?z_bool ?z_min ?z_VALUE_STEP ?z_STAMP_STEP ?z_SEAL_BOUND ?z_LONGEST_NAME
    (case aC_Answer => k_is)
    (case pg_Answer => k_is)
    (case hd_Answer => k_is)
    (case po_Answer => k_is)
    (case sa_Answer => k_is)
    (case mk_Answer => k_is)
    (case kc_Answer => k_is)
    (case n_seal_Answer => k_is)
    (case n_ask_Answer => k_is)
    (case n_value_Answer => k_is)
    (case n_stamp_Answer => k_is)
    (case n_name_Answer => k_is)
    (case a1 => k_is)
    (case l1 => k_is)
    (case c1 => k_is)
    (case k1 => k_is)
    (case a2 => k_is)
    (case l2 => k_is)
    (case c2 => k_is)
    (case k2 => k_is)
    (case a3 => k_is)
    (case l3 => k_is)
    (case c3 => k_is)
    (case k3 => k_is)
    (case a4 => k_is)
    (case l4 => k_is)
    (case c4 => k_is)
    (case k4 => k_is)
    (case a5 => k_is)
    (case l5 => k_is)
    (case c5 => k_is)
    (case k5 => k_is)
    (case a6 => k_is)
    (case l6 => k_is)
    (case c6 => k_is)
    (case k6 => k_is)
    (case a7 => k_is)
    (case l7 => k_is)
    (case c7 => k_is)
    (case k7 => k_is)
    (case a8 => k_is)
    (case l8 => k_is)
    (case c8 => k_is)
    (case k8 => k_is)
    (case a9 => k_is)
    (case l9 => k_is)
    (case c9 => k_is)
    (case k9 => k_is)
    (case a10 => k_is)
    (case l10 => k_is)
    (case c10 => k_is)
    (case k10 => k_is)
    (case a11 => k_is)
    (case l11 => k_is)
    (case c11 => k_is)
    (case k11 => k_is)
    (case a12 => k_is)
    (case i12 => k_is)
    (case l12 => k_is)
    (case c12 => k_is)
    (case k12 => k_is)
    (case a13 => k_is)
    (case l13 => k_is)
    (case c13 => k_is)
    (case k13 => k_is)
    (case z_int => k_is)
    (case z_len => k_is)
    (case z_range => k_is)
    (case z_max => k_is)
    (case z_isinstance => k_is)
    (case z_str => k_is)
    (case z_all => k_is)
    (case z_bool => k_is)
    (case z_min => k_is)
    (case z_VALUE_STEP => k_is)
    (case z_STAMP_STEP => k_is)
    (case z_SEAL_BOUND => k_is)
    (case z_LONGEST_NAME => k_is)
