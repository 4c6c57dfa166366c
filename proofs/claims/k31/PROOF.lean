import PyProof.Rows.All
import Wide.All
import OpenK.AllK
import Wide.FinOn
import Lean
import PyProof.EqAt
import PyProof.EqKinds
import PyProof.TupleCall
import PyProof.AttrMissHeap
import KE.KDictOf
import PySem.Challenge.RW_enoughsaid_k31_answers_made
set_option Elab.async false
set_option linter.all false
set_option maxRecDepth 100000
set_option maxHeartbeats 4000000
set_option synthInstance.maxHeartbeats 0
set_option synthInstance.maxSize 1000000
namespace L2
open PySem PySem.Spec PyProof.Rows
abbrev Key := Sum Int Str
def keyIs : Key → Value → Bool
  | .inl k, v => Value.isInt k v
  | .inr x, v => Value.isStrOf x v
def keyH (w : World) : Key → Int
  | .inl k => hashInt k
  | .inr x => hashStr w x
theorem keyIs_shape : ∀ {k : Key} {v : Value}, keyIs k v = true → (∃ i t, k = Sum.inl i ∧ v = Value.int i t) ∨ (∃ x t, k = Sum.inr x ∧ v = Value.str x t)
  | .inl i, v, h => by
    obtain ⟨t, e⟩ := Value.isInt_shape (k := i) (v := v) h
    exact .inl ⟨i, t, rfl, e⟩
  | .inr x, v, h => by
    obtain ⟨t, e⟩ := Value.isStrOf_shape (x := x) (v := v) h
    exact .inr ⟨x, t, rfl, e⟩
theorem key_ll (a b : Int) : decide ((Sum.inl a : Key) = Sum.inl b) = (a == b) := by
  by_cases e : a = b
  · subst e; simp
  · have h : ¬ (Sum.inl a : Key) = Sum.inl b := fun q => e (Sum.inl.inj q)
    rw [decide_eq_false h]
    exact (beq_eq_false_iff_ne.mpr e).symm
theorem key_rr (a b : Str) : decide ((Sum.inr a : Key) = Sum.inr b) = decide (a = b) := by
  by_cases e : a = b
  · subst e; simp
  · have h : ¬ (Sum.inr a : Key) = Sum.inr b := fun q => e (Sum.inr.inj q)
    rw [decide_eq_false h, decide_eq_false e]
theorem key_lr (a : Int) (b : Str) : decide ((Sum.inl a : Key) = Sum.inr b) = false := decide_eq_false (fun q => nomatch q)
theorem key_rl (a : Str) (b : Int) : decide ((Sum.inr a : Key) = Sum.inl b) = false := decide_eq_false (fun q => nomatch q)
def mixKind (prog : Program) (w : World) : PySem.KeyKind prog w Key where
  is := keyIs
  hash := keyH w
  inj := fun v a b ha hb => by
    rcases keyIs_shape ha with ⟨i, t, rfl, rfl⟩ | ⟨x, t, rfl, rfl⟩
    · rcases keyIs_shape hb with ⟨j, u, rfl, e⟩ | ⟨y, u, rfl, e⟩
      · injection e with e1 _; rw [e1]
      · exact nomatch e
    · rcases keyIs_shape hb with ⟨j, u, rfl, e⟩ | ⟨y, u, rfl, e⟩
      · exact nomatch e
      · injection e with e1 _; rw [e1]
  byValue := fun k v h => by
    rcases keyIs_shape h with ⟨i, t, rfl, rfl⟩ | ⟨x, t, rfl, rfl⟩ <;> rfl
  pyHash := fun hv h => by
    rcases keyIs_shape hv with ⟨i, t, rfl, rfl⟩ | ⟨x, t, rfl, rfl⟩
    · exact wpAny_pyHash_int h
    · exact wpAny_pyHash_str h
  eqBool := fun hu hv h => by
    rcases keyIs_shape hu with ⟨i, t, rfl, rfl⟩ | ⟨x, t, rfl, rfl⟩
    · rcases keyIs_shape hv with ⟨j, u, rfl, rfl⟩ | ⟨y, u, rfl, rfl⟩
      · rw [key_ll] at h; exact wpAny_eqBool_int h
      · rw [key_lr] at h; exact SeqAt.EqAt.int_str i t y u _ _ _ _ h
    · rcases keyIs_shape hv with ⟨j, u, rfl, rfl⟩ | ⟨y, u, rfl, rfl⟩
      · rw [key_rl] at h; exact SeqAt.EqAt.str_int x t j u _ _ _ _ h
      · rw [key_rr] at h; exact wpAny_eqBool_str h
  «strs» := fun k x t v h => by
    rcases keyIs_shape h with ⟨i, u, rfl, e⟩ | ⟨y, u, rfl, e⟩
    · exact nomatch e
    · injection e with e1 _
      subst e1
      cases v <;> rfl
end L2
namespace L2
open PySem PySem.Spec PyProof.Rows
inductive V where
  | non | bl (b : Bool) | int (i : Int) | str (x : Str) | byt (b : Array UInt8) | flt (b : UInt64) | ref (a : Addr) | ty (n : String)
  deriving DecidableEq
def RelV : V → Value → Prop
  | .non, u => u = Value.none
  | .bl b, u => u = Value.bool b
  | .int i, u => ∃ t, u = Value.int i t
  | .str x, u => ∃ t, u = Value.str x t
  | .byt b, u => ∃ t, u = Value.bytes b t
  | .flt b, u => ∃ t, u = Value.float b t
  | .ref a, u => u = Value.ref a
  | .ty n, u => u = Value.type n
abbrev Vals : List V → List Value → Prop := Paired RelV
theorem Vals.length {xs : List V} {us : List Value} (r : Vals xs us) : xs.length = us.length := Paired.length r
theorem Vals.get : ∀ {xs : List V} {us : List Value} {i : Nat} {x : V}, Vals xs us → xs[i]? = some x → ∃ u, us[i]? = some u ∧ RelV x u
  | _, _, _, _, .nil, e => by simp at e
  | _, _, 0, _, .cons r _, e => by simp at e; subst e; exact ⟨_, rfl, r⟩
  | _, _, i + 1, x, .cons _ t, e => by
    obtain ⟨u, h1, h2⟩ := Vals.get (i := i) (x := x) t (by simpa using e)
    exact ⟨u, by simpa using h1, h2⟩
theorem Vals.set {x : V} {u : Value} (r : RelV x u) : ∀ {xs : List V} {us : List Value} (i : Nat), Vals xs us → Vals (xs.set i x) (us.set i u)
  | _, _, _, .nil => .nil
  | _, _, 0, .cons _ t => .cons r t
  | _, _, i + 1, .cons q t => .cons q (Vals.set r i t)
theorem Vals.append : ∀ {xs ys : List V} {us ws : List Value}, Vals xs us → Vals ys ws → Vals (xs ++ ys) (us ++ ws)
  | _, _, _, _, .nil, s => s
  | _, _, _, _, .cons r t, s => .cons r (Vals.append t s)
theorem Vals.take : ∀ {xs : List V} {us : List Value} (n : Nat), Vals xs us → Vals (xs.take n) (us.take n)
  | _, _, 0, _ => .nil
  | _, _, _ + 1, .nil => .nil
  | _, _, n + 1, .cons r t => .cons r (Vals.take n t)
theorem Vals.drop : ∀ {xs : List V} {us : List Value} (n : Nat), Vals xs us → Vals (xs.drop n) (us.drop n)
  | _, _, 0, r => r
  | _, _, _ + 1, .nil => .nil
  | _, _, n + 1, .cons _ t => Vals.drop n t
def RelO : Option V → Option Value → Prop
  | some v, some u => RelV v u
  | none, none => True
  | _, _ => False
def KV {κ : Type} : List (κ × V) → List (κ × Value) → Prop := Paired fun (p : κ × V) (q : κ × Value) => p.1 = q.1 ∧ RelV p.2 q.2
def kV : Key → V
  | .inl i => .int i
  | .inr x => .str x
inductive HO where
  | lst (xs : List V)
  | tup (xs : List V)
  | dK (kvs : List (Key × V)) | dT (kvs : List (List Key × V))
  | set (S : Int → Bool) (n : Nat)
  | ins (C dx : Addr) (fs : List (Str × V))
  | own (x : Addr)
  | xd (fs : List (Str × V))
  | met (f x : Addr)
  | rng (lo hi : Int)
  | frz (o : Obj) (u : HO)
  | tbl (ps : Array Value)
  | ext (φ : Heap → Prop)
abbrev Hp := Addr → Option HO
def upd (H : Hp) (a : Addr) (o : HO) : Hp := fun b => if b = a then some o else H b
theorem upd_same {H : Hp} {a : Addr} {o : HO} : upd H a o a = some o := by unfold upd; rw [if_pos rfl]
theorem upd_ne {H : Hp} {a b : Addr} {o : HO} (h : b ≠ a) : upd H a o b = H b := by unfold upd; rw [if_neg h]
theorem ne_of_none {H : Hp} {a b : Addr} {o : HO} (h : H a = some o) (h' : H b = none) : a ≠ b := by
  intro e; subst e; rw [h] at h'; cases h'
section
variable (P : Program) (w : World)
def ObjOk (H : Hp) (h : Heap) (a : Addr) : HO → Prop
  | .lst xs => xs.length ≤ sizeLine ∧ ∃ (its : List Value) (n : Nat), Vals xs its ∧ h.get? a = some { cls := .type "list", data := .seq its.toArray n }
  | .tup xs => xs.length ≤ sizeLine ∧ ∃ its : List Value, Vals xs its ∧ IsTup h a its.toArray
  | .dK kvs => kvs.length ≤ sizeLine ∧ (a == sysModules) = false ∧ ∃ vs, KV kvs vs ∧ h.DictOf (mixKind P w) a vs
  | .dT kvs => kvs.length ≤ sizeLine ∧ (a == sysModules) = false ∧ ∃ xs : List (List Key × Addr × Value),
      Paired (fun (p : List Key × V) (q : List Key × Addr × Value) => p.1 = q.1 ∧ H q.2.1 = some (.tup (p.1.map kV)) ∧ RelV p.2 q.2.2) kvs xs ∧
      ∃ o es ep, h.get? a = some o ∧ o.ExactDict ∧ o.data = .dict es ep ∧ es.toList = xs.map (entryOfKey (tupleKind (mixKind P w))) ∧ (xs.map (·.1)).Nodup
  | .set S n => h.SetOf (intKind P w) a S n
  | .ins C dx fs => H dx = some (.own a) ∧ fs.length ≤ 1000 ∧ dx ≠ a ∧ h.get? a = some (PySem.W.instObj C dx) ∧
      ∃ mA, h.Ns1 dx mA ∧ (∀ f, RelO (fs.lookup f) (mA f)) ∧ PySem.Within mA (fs.map (·.1))
  | .own _ => ∃ o, h.get? a = some o
  | .xd fs => ∃ mA, h.Ns1 a mA ∧ ∀ f, RelO (fs.lookup f) (mA f)
  | .rng lo hi => ∃ t u v, h.get? a = some { cls := .type "range", data := .fields #[.int lo t, .int hi u, .int 1 v] }
  | .frz o u => h.get? a = some o ∧ ObjOk H h a u
  | .tbl ps => h.get? a = some { cls := .none, data := .fields ps }
  | .met f x => h.get? a = some (PySem.W.methodObj (.ref f) (.ref x))
  | .ext φ => φ h ∧ (∃ o, h.get? a = some o) ∧ ∀ h1 h2 : Heap, φ h1 → (∀ o, h1.get? a = some o → h2.get? a = some o) → φ h2
def HOk (H : Hp) (h : Heap) : Prop := ∀ a o, H a = some o → ObjOk P w H h a o
end
section
variable {P : Program} {w : World} {H H' : Hp} {h h' : Heap} {a : Addr} {o : HO}
theorem ObjOk.lt (x : ObjOk P w H h a o) : a < h.objs.size := by
  cases o with
  | lst xs => obtain ⟨_, _, _, _, e⟩ := x; exact Heap.lt_size e
  | tup xs => obtain ⟨_, _, _, p⟩ := x; exact p.lt
  | dK kvs => obtain ⟨_, _, _, _, o, _, _, e, _⟩ := x; exact Heap.lt_size e
  | dT kvs => obtain ⟨_, _, _, _, o, _, _, e, _⟩ := x; exact Heap.lt_size e
  | set S n => obtain ⟨o, _, _, _, e, _⟩ := x; exact Heap.lt_size e
  | ins C dx fs => obtain ⟨_, _, _, e, _⟩ := x; exact Heap.lt_size e
  | own y => obtain ⟨_, e⟩ := x; exact Heap.lt_size e
  | xd fs => obtain ⟨_, ⟨_, _, _, e, _⟩, _⟩ := x; exact Heap.lt_size e
  | rng lo hi => obtain ⟨_, _, _, e⟩ := x; exact Heap.lt_size e
  | frz ob u => obtain ⟨e, _⟩ := x; exact Heap.lt_size e
  | tbl ps => exact Heap.lt_size (show h.get? a = some _ from x)
  | met f y => exact Heap.lt_size (show h.get? a = some _ from x)
  | ext φ => obtain ⟨_, ⟨_, e⟩, _⟩ := x; exact Heap.lt_size e
theorem Paired.mapP {α β : Type} {F G : α → β → Prop} : ∀ {l₁ : List α} {l₂ : List β}, Paired F l₁ l₂ → (∀ a b, F a b → G a b) → Paired G l₁ l₂
  | _, _, .nil, _ => .nil
  | _, _, .cons r t, f => .cons (f _ _ r) (Paired.mapP t f)
theorem ObjOk.stay (x : ObjOk P w H h a o) (k : ∀ b u, (b = a ∨ H b = some (.own a)) → h.get? b = some u → h'.get? b = some u)
    (ho : ∀ b, H b = some (.own a) → H' b = some (.own a)) (ht : ∀ b xs, H b = some (.tup xs) → H' b = some (.tup xs)) : ObjOk P w H' h' a o := by
  induction o with
  | lst xs => obtain ⟨z, its, n, r, e⟩ := x; exact ⟨z, its, n, r, k _ _ (.inl rfl) e⟩
  | tup xs => obtain ⟨z, its, r, ob, e, c⟩ := x; exact ⟨z, its, r, ob, k _ _ (.inl rfl) e, c⟩
  | dK kvs => obtain ⟨z, y, vs, r, ob, es, ep, e, c⟩ := x; exact ⟨z, y, vs, r, ob, es, ep, k _ _ (.inl rfl) e, c⟩
  | dT kvs =>
    obtain ⟨z, y, xs, r, ob, es, ep, e, c⟩ := x
    exact ⟨z, y, xs, Paired.mapP r fun p q z => ⟨z.1, ht _ _ z.2.1, z.2.2⟩, ob, es, ep, k _ _ (.inl rfl) e, c⟩
  | set S n => obtain ⟨ob, es, ep, t, e, c⟩ := x; exact ⟨ob, es, ep, t, k _ _ (.inl rfl) e, c⟩
  | ins C dx fs =>
    obtain ⟨d, z, ne, e, mA, ⟨od, es, ep, e2, c⟩, r⟩ := x
    exact ⟨ho _ d, z, ne, k _ _ (.inl rfl) e, mA, ⟨od, es, ep, k _ _ (.inr d) e2, c⟩, r⟩
  | own y => obtain ⟨ob, e⟩ := x; exact ⟨ob, k _ _ (.inl rfl) e⟩
  | xd fs => obtain ⟨mA, ⟨od, es, ep, e, c⟩, r⟩ := x; exact ⟨mA, ⟨od, es, ep, k _ _ (.inl rfl) e, c⟩, r⟩
  | rng lo hi => obtain ⟨t, u, v, e⟩ := x; exact ⟨t, u, v, k _ _ (.inl rfl) e⟩
  | frz ob u ih => obtain ⟨e, q⟩ := x; exact ⟨k _ _ (.inl rfl) e, ih q⟩
  | tbl ps =>
    have e : h.get? a = some { cls := .none, data := .fields ps } := x
    show h'.get? a = some { cls := .none, data := .fields ps }
    exact k a _ (.inl rfl) e
  | met f y =>
    have e : h.get? a = some (PySem.W.methodObj (.ref f) (.ref y)) := x
    show h'.get? a = some (PySem.W.methodObj (.ref f) (.ref y))
    exact k a _ (.inl rfl) e
  | ext φ => obtain ⟨p, ⟨o, e⟩, st⟩ := x; exact ⟨st _ _ p fun o q => k _ _ (.inl rfl) q, ⟨o, k _ _ (.inl rfl) e⟩, st⟩
theorem HOk.lt (x : HOk P w H h) (e : H a = some o) : a < h.objs.size := (x a o e).lt
theorem HOk.fresh (x : HOk P w H h) (e : h.objs.size ≤ a) : H a = none := by
  cases q : H a with
  | none => rfl
  | some u => exact absurd (Nat.lt_of_lt_of_le (x.lt q) e) (Nat.lt_irrefl _)
theorem HOk.kept (x : HOk P w H h) (k : ∀ b u, h.get? b = some u → h'.get? b = some u) : HOk P w H h' := fun a o e =>
  (x a o e).stay (fun b u _ q => k b u q) (fun _ q => q) fun _ _ q => q
theorem HOk.laid (x : HOk P w H h) (k : ∀ b u, h.get? b = some u → h'.get? b = some u) (hp : h.objs.size ≤ a) (new : ObjOk P w (upd H a o) h' a o) : HOk P w (upd H a o) h' := fun b u e => by
  have hn := x.fresh hp
  by_cases hb : b = a
  · subst hb; rw [upd_same] at e; cases e; exact new
  · rw [upd_ne hb] at e
    exact (x b u e).stay (fun c v _ q => k c v q) (fun c q => by rw [upd_ne (ne_of_none q hn)]; exact q) fun c xs q => by rw [upd_ne (ne_of_none q hn)]; exact q
end
def Rd (H : Hp) (a : Addr) (u : HO) : Prop := H a = some u ∨ ∃ o, H a = some (.frz o u)
theorem Rd.of {H : Hp} {a : Addr} {u : HO} (h : H a = some u) : Rd H a u := .inl h
theorem Rd.ok {P : Program} {w : World} {H : Hp} {h : Heap} {a : Addr} {u : HO} (r : Rd H a u) (x : HOk P w H h) : ObjOk P w H h a u := by
  rcases r with r | ⟨o, r⟩
  · exact x a u r
  · obtain ⟨_, q⟩ := x a _ r
    exact q
def Mut : Option HO → Prop
  | some (.lst _) => True
  | some (.dK _) => True
  | some (.dT _) => True
  | some (.set _ _) => True
  | some (.ins _ _ _) => True
  | some (.ext _) => True
  | _ => False
section
variable {P : Program} {w : World} {H : Hp} {h h' : Heap} {x e : Addr} {o' : HO}
theorem HOk.write (ok : HOk P w H h) (mu : Mut (H x)) (he : e = x ∨ H e = some (.own x)) (k : ∀ b u, b ≠ e → h.get? b = some u → h'.get? b = some u) (heo : ∃ u, h'.get? e = some u)
    (new : ObjOk P w (upd H x o') h' x o') : HOk P w (upd H x o') h' := fun b u q => by
  have nown : ∀ c y, H c = some (.own y) → c ≠ x := fun c y r z => by subst z; rw [r] at mu; exact mu
  have ntup : ∀ c xs, H c = some (.tup xs) → c ≠ x := fun c xs r z => by subst z; rw [r] at mu; exact mu
  by_cases hb : b = x
  · subst hb; rw [upd_same] at q; cases q; exact new
  · rw [upd_ne hb] at q
    by_cases hbe : b = e
    · have q' : H b = some (.own x) := by
        rcases he with z | z
        · exact absurd (hbe.trans z) hb
        · rw [hbe]; exact z
      rw [q] at q'; cases q'
      obtain ⟨v, hv⟩ := heo
      exact ⟨v, by rw [hbe]; exact hv⟩
    · refine (ok b u q).stay (fun c v hc r => k c v ?_ r) (fun c r => by rw [upd_ne (nown c b r)]; exact r) fun c xs r => by rw [upd_ne (ntup c xs r)]; exact r
      rcases hc with rfl | hc
      · exact hbe
      · rintro rfl
        rcases he with z | z
        · exact nown c b hc z
        · rw [hc] at z; cases z; exact hb rfl
end
structure Un (fs ex : List Addr) (H H' : Hp) (h h' : Heap) : Prop where
  keep : ∀ b o, h.get? b = some o → H b = none → b ∉ fs → b ∉ ex → h'.get? b = some o
  slot : ∀ b o, h.get? b = some o → H b = none → b ∈ fs → b ∉ ex → ∃ sl, h'.get? b = some { o with slots := sl }
  free : ∀ b o, h.get? b = some o → H b = none → b ∉ ex → H' b = none
  there : ∀ b o, h.get? b = some o → b ∉ ex → ∃ o', h'.get? b = some o'
  tups : ∀ b xs, H b = some (.tup xs) → H' b = some (.tup xs)
  frzs : ∀ b o u, H b = some (.frz o u) → H' b = some (.frz o u)
  tbls : ∀ b ps, H b = some (.tbl ps) → ∃ more, H' b = some (.tbl (ps ++ more))
section
variable {fs fs' ex ex' : List Addr} {H H1 H2 : Hp} {h h1 h2 h' : Heap} {a x e : Addr} {o : HO}
theorem Un.any (u : Un fs ex H H1 h h1) {b : Addr} {ob : Obj} (q : h.get? b = some ob) (n : H b = none) (hx : b ∉ ex) : ∃ sl, h1.get? b = some { ob with slots := sl } := by
  by_cases hb : b ∈ fs
  · exact u.slot b ob q n hb hx
  · exact ⟨ob.slots, u.keep b ob q n hb hx⟩
theorem Un.trans (a : Un fs ex H H1 h h1) (b : Un fs ex H1 H2 h1 h2) : Un fs ex H H2 h h2 where
  keep := fun c ob q n hc hx => b.keep c ob (a.keep c ob q n hc hx) (a.free c ob q n hx) hc hx
  slot := fun c ob q n hc hx => by
    obtain ⟨sl, e1⟩ := a.slot c ob q n hc hx
    obtain ⟨sl', e2⟩ := b.slot c _ e1 (a.free c ob q n hx) hc hx
    exact ⟨sl', e2⟩
  free := fun c ob q n hx => by
    obtain ⟨o', e1⟩ := a.there c ob q hx
    exact b.free c o' e1 (a.free c ob q n hx) hx
  there := fun c ob q hx => by
    obtain ⟨o', e1⟩ := a.there c ob q hx
    exact b.there c o' e1 hx
  tups := fun c xs q => b.tups c xs (a.tups c xs q)
  frzs := fun c ob xs q => b.frzs c ob xs (a.frzs c ob xs q)
  tbls := fun c ps q => by
    obtain ⟨m1, e1⟩ := a.tbls c ps q
    obtain ⟨m2, e2⟩ := b.tbls c _ e1
    exact ⟨m1 ++ m2, by rw [e2, Array.append_assoc]⟩
theorem Un.kept (k : ∀ b u, h.get? b = some u → h'.get? b = some u) : Un fs ex H H h h' :=
  ⟨fun b ob q _ _ _ => k b ob q, fun b ob q _ _ _ => ⟨ob.slots, k b ob q⟩, fun _ _ _ n _ => n, fun b ob q _ => ⟨ob, k b ob q⟩, fun _ _ q => q, fun _ _ _ q => q, fun _ ps q => ⟨#[], by rw [q]; simp⟩⟩
theorem Un.refl : Un fs ex H H h h := Un.kept fun _ _ q => q
theorem Un.laid (k : ∀ b u, h.get? b = some u → h'.get? b = some u) (hp : h.objs.size ≤ a) (hn : H a = none) : Un fs ex H (upd H a o) h h' where
  keep := fun b u q _ _ _ => k b u q
  slot := fun b u q _ _ _ => ⟨u.slots, k b u q⟩
  free := fun b u q n _ => by rw [upd_ne (Nat.ne_of_lt (Nat.lt_of_lt_of_le (Heap.lt_size q) hp))]; exact n
  there := fun b u q _ => ⟨u, k b u q⟩
  tups := fun b xs q => by rw [upd_ne (ne_of_none q hn)]; exact q
  frzs := fun b u xs q => by rw [upd_ne (ne_of_none q hn)]; exact q
  tbls := fun b ps q => ⟨#[], by rw [upd_ne (ne_of_none q hn), q]; simp⟩
theorem Un.write (mu : Mut (H x)) (he : e = x ∨ H e = some (.own x)) (k : ∀ b u, b ≠ e → h.get? b = some u → h'.get? b = some u) (heo : ∃ u, h'.get? e = some u) : Un fs ex H (upd H x o) h h' := by
  have hx : ∀ b, H b = none → b ≠ x := fun b n z => by subst z; rw [n] at mu; exact mu
  have hb : ∀ b, H b = none → b ≠ e := fun b n z => by
    subst z
    rcases he with r | r
    · exact hx b n r
    · rw [n] at r; cases r
  have hm : ∀ b u, H b = some u → ¬ Mut (some u) → b ≠ x := fun b u q nm z => by subst z; rw [q] at mu; exact nm mu
  refine ⟨fun b u q n _ _ => k b u (hb b n) q, fun b u q n _ _ => ⟨u.slots, k b u (hb b n) q⟩, fun b u q n _ => by rw [upd_ne (hx b n)]; exact n, fun b u q _ => ?_,
    fun b xs q => by rw [upd_ne (hm b _ q fun z => z)]; exact q, fun b u xs q => by rw [upd_ne (hm b _ q fun z => z)]; exact q, fun b ps q => ⟨#[], by rw [upd_ne (hm b _ q fun z => z), q]; simp⟩⟩
  by_cases hbe : b = e
  · subst hbe; exact heo
  · exact ⟨u, k b u hbe q⟩
theorem Un.mono (u : Un fs ex H H1 h h1) (hs : ∀ b ∈ fs, b ∈ fs') (hx : ∀ b ∈ ex, b ∈ ex') : Un fs' ex' H H1 h h1 :=
  ⟨fun b ob q n hb he => u.keep b ob q n (fun z => hb (hs b z)) fun z => he (hx b z), fun _ _ q n _ he => u.any q n fun z => he (hx _ z), fun b ob q n he => u.free b ob q n fun z => he (hx b z), fun b ob q he => u.there b ob q fun z => he (hx b z), u.tups, u.frzs, u.tbls⟩
end
def trk (h : Heap) (H : Hp) : List Addr := (List.range h.objs.size).filter fun a => (H a).isSome
def hidT (h : Heap) (H : Hp) : Heap := PySem.W.hideAll h (trk h H)
theorem hidT_size (h : Heap) (H : Hp) : (hidT h H).objs.size = h.objs.size := PySem.W.hideAll_size _ _
theorem hidT_get {h : Heap} {H : Hp} {b : Addr} {o : Obj} (e : h.get? b = some o) (n : H b = none) : (hidT h H).get? b = some o :=
  PySem.W.hideAll_get _ e fun hm => by
    have q : (H b).isSome = true := (List.mem_filter.mp hm).2
    rw [n] at q; simp at q
theorem of_hidT {h : Heap} {H : Hp} {b : Addr} {o : Obj} (e : (hidT h H).get? b = some o) : h.get? b = some o ∧ H b = none := by
  have e' : h.get? b = some o := PySem.W.of_hideAll (trk h H) e
  refine ⟨e', ?_⟩
  cases q : H b with
  | none => rfl
  | some x =>
    have hm : b ∈ trk h H := List.mem_filter.mpr ⟨List.mem_range.mpr (Heap.lt_size e'), by simp [q]⟩
    have z : (hidT h H).get? b = none := PySem.W.hideAll_none (trk h H) hm
    rw [z] at e; cases e
def allNews (g h : Heap) (L : Addr) : List (Addr × Obj) := (List.range h.objs.size).filterMap fun a => if a = L ∨ (g.get? a).isSome = true then none else (h.get? a).map fun o => (a, o)
def rest (g h : Heap) (L d : Addr) : List (Addr × Obj) := (allNews g h L).filter fun p => decide (p.1 ≠ d)
end L2
namespace L2
open PySem PySem.Spec PyProof.Rows
structure Mod (K : PySem.W.Frag) (mg : Str → Option Value) (base : Heap) : Prop where
  kin : K.In base
  glob : base.Ns mainGlobals mg
  blt : ∃ mb, base.Ns builtinsNs mb ∧ ∀ x : Str, x ≠ "__name__" → mb x = bootBuiltins x
  nolimit : base.NoLimit
structure Cx where
  prog : Program
  w : World
  K : PySem.W.Frag
  mg : Str → Option Value
  base : Heap
  A : Around
  N : List Str
  s₀ : Shared
  H₀ : Hp
  env : Env
  outer : List Env
  stack : List Env
  ex : List Addr
  fn : Str → Bool
  calm : Bool
  pn : List (Addr × Obj)
  xe : Value → Shared → Prop
def frs (l : List Env) : List Addr := l.filterMap (·.frame)
abbrev Cx.fs (X : Cx) : List Addr := frs X.outer
def Vis (sc : Scope) (x : Str) : Prop := sc.names.lookup x = some .local ∨ sc.names.lookup x = some .cell ∨ sc.names.lookup x = some .free
def Loc (sc : Scope) (x : Str) : Prop := sc.names.lookup x = some .local ∨ sc.names.lookup x = some .cell
def Look (env : Env) (h : Heap) (m : Str → Option Value) (x : Str) (u : Value) : Prop :=
  (env.kindOf x = some .local ∧ m x = some u) ∨ ((env.kindOf x = some .cell ∨ env.kindOf x = some .free) ∧ ∃ c, env.cells.lookup x = some c ∧ h.IsCell c (some u))
structure Cx.Ok (X : Cx) : Prop where
  mod : Mod X.K X.mg X.base
  kind : X.env.scope.kind = .function
  glob : X.env.globals = mainGlobals
  blt : X.env.builtins = builtinsNs
  above : X.s₀.heap.objs.size ≤ X.env.locals
  inj : ∀ x y c, X.env.cells.lookup x = some c → X.env.cells.lookup y = some c → x = y
  has : ∀ x, (X.env.kindOf x = some .cell ∨ X.env.kindOf x = some .free) → ∃ c, X.env.cells.lookup x = some c
  cab : ∀ x c, X.fn x = true → X.env.cells.lookup x = some c → X.s₀.heap.objs.size ≤ c
  hd : X.calm = true → X.A.handled = none
  frames : X.A.frames = some X.stack
  stk : X.stack = X.outer ∨ (X.stack = X.env :: X.outer ∧ X.env.frame = some X.env.locals)
  exf : ∀ b ∈ X.ex, b ≠ X.env.locals ∧ ∀ x c, X.env.cells.lookup x = some c → c ≠ b
  bs : ∀ b o, X.base.get? b = some o → X.s₀.heap.get? b = some o ∧ X.H₀ b = none
  bsz : X.base.objs.size ≤ X.s₀.heap.objs.size
  noex : ∀ b o, X.base.get? b = some o → b ∉ X.ex
  exfs : ∀ b ∈ X.ex, b ∉ X.fs
  funs : X.s₀.heap.FunFrames X.base X.outer
  frf : ∀ b ∈ X.fs, X.H₀ b = none
structure Inv (X : Cx) (pins : List (Addr × Obj)) (σ : List (Option V)) (H : Hp) (s : Shared) : Prop where
  ok : X.Ok
  os : s.os = X.s₀.os
  bare : AllBare s.gens
  base : Un X.fs X.ex X.H₀ H X.s₀.heap s.heap
  loc : ∃ m, s.heap.Ns X.env.locals m ∧ ∀ (i : Nat) (x : Str) (v : V), X.N[i]? = some x → σ[i]? = some (some v) → Vis X.env.scope x → ∃ u, RelV v u ∧ Look X.env s.heap m x u
  cell : ∀ x c, X.env.cells.lookup x = some c → ∃ v, s.heap.IsCell c v
  free : H X.env.locals = none
  freeC : ∀ x c, X.env.cells.lookup x = some c → H c = none
  pin : ∀ p ∈ X.pn ++ pins, s.heap.get? p.1 = some p.2 ∧ H p.1 = none ∧ p.1 ≠ X.env.locals ∧ p.1 ∉ X.fs ∧ ∀ v, p.2.data ≠ .cell v
  hok : HOk X.prog X.w H s.heap
  len : σ.length = X.N.length
section
variable {X : Cx} {pins : List (Addr × Obj)} {σ : List (Option V)} {H H' : Hp} {s : Shared} {h' : Heap}
theorem Cx.Ok.nofr (ok : X.Ok) {b : Addr} {o : Obj} (e : X.base.get? b = some o) : b ∉ X.fs := fun hb => by
  have := (ok.funs.mem hb).1
  rw [e] at this; cases this
theorem Inv.bs (I : Inv X pins σ H s) : ∀ b o, X.base.get? b = some o → s.heap.get? b = some o ∧ H b = none := fun b o e =>
  ⟨I.base.keep b o (I.ok.bs b o e).1 (I.ok.bs b o e).2 (I.ok.nofr e) (I.ok.noex b o e), I.base.free b o (I.ok.bs b o e).1 (I.ok.bs b o e).2 (I.ok.noex b o e)⟩
theorem Inv.bk (I : Inv X pins σ H s) : ∀ b o, X.base.get? b = some o → s.heap.get? b = some o := fun b o e => (I.bs b o e).1
theorem Inv.mod (I : Inv X pins σ H s) : Mod X.K X.mg X.base := I.ok.mod
theorem Inv.kIn (I : Inv X pins σ H s) : X.K.In s.heap := I.ok.mod.kin.keeps I.bk
theorem Inv.nolimit (I : Inv X pins σ H s) : s.heap.NoLimit := I.ok.mod.nolimit.keeps I.bk
theorem Inv.fr (I : Inv X pins σ H s) : ∃ m, Fr X.base X.env.locals s.heap m :=
  let ⟨m, hn, _⟩ := I.loc
  ⟨m, hn, I.bk, Nat.le_trans I.ok.bsz I.ok.above⟩
theorem Inv.lt (I : Inv X pins σ H s) : X.env.locals < s.heap.objs.size := let ⟨_, hn, _⟩ := I.loc; hn.lt
theorem Inv.sz (I : Inv X pins σ H s) : X.s₀.heap.objs.size ≤ s.heap.objs.size := Nat.le_trans I.ok.above (Nat.le_of_lt I.lt)
theorem Inv.nofs (I : Inv X pins σ H s) {a : Addr} (h : s.heap.objs.size ≤ a) : a ∉ X.fs := fun hb => by
  obtain ⟨_, o, ho, _⟩ := I.ok.funs.mem hb
  exact absurd (Nat.lt_of_lt_of_le (Heap.lt_size ho) (Nat.le_trans I.sz h)) (Nat.lt_irrefl _)
theorem Inv.cne (I : Inv X pins σ H s) : ∀ x c, X.env.cells.lookup x = some c → c ≠ X.env.locals := fun x c e z => by
  obtain ⟨v, o, ho, hd⟩ := I.cell x c e
  obtain ⟨m, ⟨o', es, ep, ho', hd', _⟩, _⟩ := I.loc
  rw [z, ho'] at ho; cases ho; rw [hd'] at hd; cases hd
theorem Inv.funs (I : Inv X pins σ H s) : s.heap.FunFrames X.base X.outer := by
  have all : ∀ (l : List Env), (∀ b ∈ frs l, b ∈ X.fs) → X.s₀.heap.FunFrames X.base l → s.heap.FunFrames X.base l := by
    intro l
    induction l with
    | nil => intro _ _; trivial
    | cons env r ih =>
      intro hs hl
      obtain ⟨hk, ⟨L, o, hf, hn, ho, hd⟩, hr⟩ := hl
      have hL : L ∈ X.fs := hs L (by unfold frs; rw [List.filterMap_cons, hf]; exact List.mem_cons_self)
      obtain ⟨sl, e⟩ := I.base.slot L o ho (I.ok.frf L hL) hL fun z => I.ok.exfs L z hL
      exact ⟨hk, ⟨L, _, hf, hn, e, hd⟩, ih (fun b hb => hs b (by unfold frs; rw [List.filterMap_cons, hf]; exact List.mem_cons_of_mem _ hb)) hr⟩
  exact all X.outer (fun _ hb => hb) I.ok.funs
theorem Inv.stack (I : Inv X pins σ H s) : s.heap.FunFrames X.base X.stack := by
  rcases I.ok.stk with e | ⟨e, hf⟩
  · rw [e]; exact I.funs
  · rw [e]
    obtain ⟨m, hn, _⟩ := I.loc
    refine .cons (by rw [I.ok.kind]; decide) hf hn ?_ I.funs
    exact Heap.get?_none_of_le (Nat.le_trans I.ok.bsz I.ok.above)
theorem Inv.stkSub (I : Inv X pins σ H s) : ∀ b ∈ frs X.stack, b ∈ X.env.locals :: X.fs := fun b hb => by
  rcases I.ok.stk with e | ⟨e, hf⟩
  · rw [e] at hb; exact List.mem_cons_of_mem _ hb
  · rw [e] at hb
    unfold frs at hb
    rw [List.filterMap_cons, hf] at hb
    exact hb
theorem Inv.stkFree (I : Inv X pins σ H s) : ∀ b ∈ frs X.stack, H b = none := fun b hb => by
  rcases List.mem_cons.mp (I.stkSub b hb) with e | hb
  · rw [e]; exact I.free
  · obtain ⟨_, o, ho, _⟩ := I.ok.funs.mem hb
    exact I.base.free b o ho (I.ok.frf b hb) fun z => I.ok.exfs b z hb
theorem Inv.step {g' : Array GenState} {t' : Nat} {d' : Drawn} {ch : List Addr} (I : Inv X pins σ H s)
    (hch : ∀ b ∈ ch, (b ∈ X.ex ∨ X.s₀.heap.objs.size ≤ b) ∧ b ≠ X.env.locals ∧ (∀ x c, X.env.cells.lookup x = some c → c ≠ b) ∧ ∀ p ∈ X.pn ++ pins, p.1 ≠ b)
    (keep : ∀ b o, b ≠ X.env.locals → b ∉ X.fs → b ∉ ch → s.heap.get? b = some o → H b = none → h'.get? b = some o)
    (slot : ∀ b o, b ≠ X.env.locals → b ∈ X.fs → b ∉ ch → s.heap.get? b = some o → H b = none → ∃ sl, h'.get? b = some { o with slots := sl }) (free : ∀ b o, b ∉ ch → s.heap.get? b = some o → H b = none → H' b = none)
    (there : ∀ b o, b ∉ ch → s.heap.get? b = some o → ∃ o', h'.get? b = some o')
    (tups : ∀ b xs, H b = some (.tup xs) → H' b = some (.tup xs)) (frzs : ∀ b o u, H b = some (.frz o u) → H' b = some (.frz o u)) (tbls : ∀ b ps, H b = some (.tbl ps) → ∃ more, H' b = some (.tbl (ps ++ more)))
    (ns : ∀ m, s.heap.Ns X.env.locals m → h'.Ns X.env.locals m) (hok : HOk X.prog X.w H' h') (hg : AllBare g') :
    Inv X pins σ H' { s with heap := h', gens := g', drawn := d', toks := t' } := by
  have neL : ∀ b o, X.s₀.heap.get? b = some o → b ≠ X.env.locals := fun b o e => Nat.ne_of_lt (Nat.lt_of_lt_of_le (Heap.lt_size e) I.ok.above)
  have neC : ∀ b o, X.s₀.heap.get? b = some o → b ∉ X.ex → b ∉ ch := fun b o e hx hb => by
    rcases (hch b hb).1 with z | z
    · exact hx z
    · exact absurd (Nat.lt_of_lt_of_le (Heap.lt_size e) z) (Nat.lt_irrefl _)
  have cellK : ∀ x c, X.env.cells.lookup x = some c → ∀ v, s.heap.IsCell c v → h'.IsCell c v := fun x c e v ⟨o, ho, hd⟩ => by
    have nch : c ∉ ch := fun z => (hch c z).2.2.1 x c e rfl
    by_cases hc : c ∈ X.fs
    · obtain ⟨sl, q⟩ := slot c o (I.cne x c e) hc nch ho (I.freeC x c e)
      exact ⟨_, q, hd⟩
    · exact ⟨o, keep c o (I.cne x c e) hc nch ho (I.freeC x c e), hd⟩
  refine ⟨I.ok, I.os, hg, ⟨fun b o e n hb hx => ?_, fun b o e n hb hx => ?_, fun b o e n hx => ?_, fun b o e hx => ?_, fun b xs e => tups b xs (I.base.tups b xs e), fun b o xs e => frzs b o xs (I.base.frzs b o xs e), fun b ps e => ?_⟩, ?_, fun x c e => ?_, ?_, fun x c e => ?_, fun p hp => ?_, hok, I.len⟩
  · exact keep b o (neL b o e) hb (neC b o e hx) (I.base.keep b o e n hb hx) (I.base.free b o e n hx)
  · obtain ⟨sl, e1⟩ := I.base.slot b o e n hb hx
    obtain ⟨sl', e2⟩ := slot b _ (neL b o e) hb (neC b o e hx) e1 (I.base.free b o e n hx)
    exact ⟨sl', e2⟩
  · obtain ⟨o', e1⟩ := I.base.there b o e hx
    exact free b o' (neC b o e hx) e1 (I.base.free b o e n hx)
  · obtain ⟨o', e1⟩ := I.base.there b o e hx
    exact there b o' (neC b o e hx) e1
  · obtain ⟨m1, e1⟩ := I.base.tbls b ps e
    obtain ⟨m2, e2⟩ := tbls b _ e1
    exact ⟨m1 ++ m2, by rw [e2, Array.append_assoc]⟩
  · obtain ⟨m, hn, hl⟩ := I.loc
    refine ⟨m, ns m hn, fun i x v e1 e2 e3 => ?_⟩
    obtain ⟨u, r, l⟩ := hl i x v e1 e2 e3
    refine ⟨u, r, ?_⟩
    rcases l with l | ⟨k, c, e, z⟩
    · exact .inl l
    · exact .inr ⟨k, c, e, cellK x c e _ z⟩
  · obtain ⟨v, z⟩ := I.cell x c e
    exact ⟨v, cellK x c e v z⟩
  · obtain ⟨m, ⟨o, _, _, ho, _⟩, _⟩ := I.loc
    exact free _ o (fun z => (hch _ z).2.1 rfl) ho I.free
  · obtain ⟨v, o, ho, hd⟩ := I.cell x c e
    exact free c o (fun z => (hch c z).2.2.1 x c e rfl) ho (I.freeC x c e)
  · obtain ⟨e, n, ne, nf, d⟩ := I.pin p hp
    have nch : p.1 ∉ ch := fun z => (hch p.1 z).2.2.2 p hp rfl
    exact ⟨keep p.1 p.2 ne nf nch e n, free p.1 p.2 nch e n, ne, nf, d⟩
theorem Inv.un {t' : Nat} (I : Inv X pins σ H s) (u : Un X.fs [] H H' s.heap h') (hok : HOk X.prog X.w H' h') : Inv X pins σ H' { s with heap := h', toks := t' } := by
  obtain ⟨m, ⟨o, es, ep, ho, r⟩, _⟩ := id I.loc
  obtain ⟨sl, hL⟩ := u.any ho I.free (by simp)
  exact I.step (g' := s.gens) (d' := s.drawn) (ch := []) (fun _ z => nomatch z) (fun b o _ hb _ e n => u.keep b o e n hb (by simp)) (fun b o _ hb _ e n => u.slot b o e n hb (by simp)) (fun b o _ e n => u.free b o e n (by simp)) (fun b o _ e => u.there b o e (by simp)) u.tups u.frzs u.tbls (fun m' hm => by
    obtain ⟨o', es', ep', ho', r'⟩ := hm
    rw [ho] at ho'; cases ho'
    exact ⟨_, es', ep', hL, r'⟩) hok I.bare
theorem Inv.call {g' : Array GenState} {t' : Nat} {d' : Drawn} {ch : List Addr} (I : Inv X pins σ H s) (u : Un (frs X.stack) ch H H' s.heap h') (hok : HOk X.prog X.w H' h') (hg : AllBare g')
    (hch : ∀ b ∈ ch, (b ∈ X.ex ∨ X.s₀.heap.objs.size ≤ b) ∧ b ≠ X.env.locals ∧ (∀ x c, X.env.cells.lookup x = some c → c ≠ b) ∧ ∀ p ∈ X.pn ++ pins, p.1 ≠ b) :
    Inv X pins σ H' { s with heap := h', gens := g', drawn := d', toks := t' } := by
  obtain ⟨m, ⟨o, es, ep, ho, r⟩, _⟩ := id I.loc
  obtain ⟨sl, hL⟩ := u.any ho I.free fun z => (hch _ z).2.1 rfl
  exact I.step (ch := ch) hch (fun b o hL hb hc e n => u.keep b o e n (fun z => (List.mem_cons.mp (I.stkSub b z)).elim hL hb) hc) (fun b o _ _ hc e n => u.any e n hc) (fun b o hc e n => u.free b o e n hc) (fun b o hc e => u.there b o e hc) u.tups u.frzs u.tbls (fun m' hm => by
    obtain ⟨o', es', ep', ho', r'⟩ := hm
    rw [ho] at ho'; cases ho'
    exact ⟨_, es', ep', hL, r'⟩) hok hg
theorem Inv.turned {t' : Nat} {it : Addr} (I : Inv X pins σ H s) (k : ∀ b o, b ≠ it → s.heap.get? b = some o → h'.get? b = some o) (hn : H it = none) (hL : it ≠ X.env.locals)
    (h1 : it ∈ X.ex ∨ X.s₀.heap.objs.size ≤ it) (h2 : ∀ x c, X.env.cells.lookup x = some c → c ≠ it) (h3 : ∀ p ∈ X.pn ++ pins, p.1 ≠ it) : Inv X pins σ H { s with heap := h', toks := t' } := by
  have nit : ∀ b u, H b = some u → b ≠ it := fun b u e z => by rw [z, hn] at e; cases e
  refine I.step (g' := s.gens) (d' := s.drawn) (ch := [it]) (fun b hb => ?_) (fun b o _ _ hc e _ => k b o (fun z => hc (by simp [z])) e) (fun b o _ _ hc e _ => ⟨o.slots, k b o (fun z => hc (by simp [z])) e⟩) (fun _ _ _ _ n => n)
    (fun b o hc e => ⟨o, k b o (fun z => hc (by simp [z])) e⟩) (fun _ _ e => e) (fun _ _ _ e => e) (fun b ps e => ⟨#[], by rw [e]; simp⟩) (fun m hm => ?_) (fun b u e => ?_) I.bare
  · have e : b = it := by simpa using hb
    subst e
    exact ⟨h1, hL, h2, h3⟩
  · obtain ⟨o, es, ep, ho, r⟩ := hm
    exact ⟨o, es, ep, k _ o (Ne.symm hL) ho, r⟩
  · refine (I.hok b u e).stay (fun c v hc q => k c v ?_ q) (fun _ q => q) fun _ _ q => q
    rcases hc with z | z
    · rw [z]; exact nit b u e
    · exact nit c _ z
theorem Inv.tok (I : Inv X pins σ H s) (t : Nat) : Inv X pins σ H { s with toks := t } := I.un (h' := s.heap) (t' := t) Un.refl I.hok
theorem Inv.kept {t' : Nat} (I : Inv X pins σ H s) (k : ∀ b u, s.heap.get? b = some u → h'.get? b = some u) : Inv X pins σ H { s with heap := h', toks := t' } := I.un (Un.kept k) (I.hok.kept k)
theorem Inv.laid {a : Addr} {o : HO} {t' : Nat} (I : Inv X pins σ H s) (k : ∀ b u, s.heap.get? b = some u → h'.get? b = some u) (hp : s.heap.objs.size ≤ a) (new : ObjOk X.prog X.w (upd H a o) h' a o) :
    Inv X pins σ (upd H a o) { s with heap := h', toks := t' } := I.un (Un.laid k hp (I.hok.fresh hp)) (I.hok.laid k hp new)
theorem Inv.write {x e : Addr} {o : HO} {t' : Nat} (I : Inv X pins σ H s) (mu : Mut (H x)) (he : e = x ∨ H e = some (.own x)) (k : ∀ b u, b ≠ e → s.heap.get? b = some u → h'.get? b = some u) (heo : ∃ u, h'.get? e = some u)
    (new : ObjOk X.prog X.w (upd H x o) h' x o) : Inv X pins σ (upd H x o) { s with heap := h', toks := t' } := I.un (Un.write mu he k heo) (I.hok.write mu he k heo new)
theorem Inv.pins_of {pins' : List (Addr × Obj)} (I : Inv X pins σ H s) (h : ∀ p ∈ pins', s.heap.get? p.1 = some p.2 ∧ H p.1 = none ∧ p.1 ≠ X.env.locals ∧ p.1 ∉ X.fs ∧ ∀ v, p.2.data ≠ .cell v) : Inv X pins' σ H s :=
  ⟨I.ok, I.os, I.bare, I.base, I.loc, I.cell, I.free, I.freeC, fun p hp => (List.mem_append.mp hp).elim (fun z => I.pin p (List.mem_append_left _ z)) (h p), I.hok, I.len⟩
theorem nodup_ix {N : List Str} (hN : N.Nodup) {i j : Nat} {x : Str} (a : N[i]? = some x) (b : N[j]? = some x) : i = j := by
  obtain ⟨h1, e1⟩ := List.getElem?_eq_some_iff.mp a
  obtain ⟨h2, e2⟩ := List.getElem?_eq_some_iff.mp b
  exact (List.getElem_inj hN).mp (e1.trans e2.symm)
theorem store_ok2 {M : Model} {A : Around} {E : Value → Shared → Prop} {i : Nat} {x : Str} {v : V} {u : Value} {Q : Unit → Shared → Prop} (I : Inv X pins σ H s) (hN : X.N.Nodup) (hi : X.N[i]? = some x) (hx : Loc X.env.scope x) (r : RelV v u)
    (h : ∀ s', Inv X pins (σ.set i (some v)) H s' → (∃ a, Heap.SameBut a s.heap s'.heap ∧ (a = X.env.locals ∨ X.env.cells.lookup x = some a)) → Q () s') (hf : X.fn x = true ∨ X.env.scope.names.lookup x = some .local := by first | exact .inl rfl | exact .inr rfl | assumption) : wpAny M A (storeName X.env x u) Q E s := by
  obtain ⟨m, hn, hl⟩ := id I.loc
  have hcls : (X.env.scope.kind == .class || (X.env.scope.kind == .module && X.env.locals != X.env.globals)) = false := by rw [I.ok.kind]; rfl
  have hiσ : i < σ.length := by rw [I.len]; exact (List.getElem?_eq_some_iff.mp hi).1
  have cne := I.cne
  have tracked : ∀ {a : Addr} {h' : Heap}, (∃ o, s.heap.get? a = some o ∧ H a = none) → Heap.SameBut a s.heap h' → HOk X.prog X.w H h' := fun {a h'} ha hs b ob e => by
    obtain ⟨_, _, hfree⟩ := ha
    refine (I.hok b ob e).stay (fun c w' hc q => (hs.2 c ?_).trans q) (fun _ q => q) fun _ _ q => q
    rintro rfl
    rcases hc with rfl | hc
    · rw [hfree] at e; cases e
    · rw [hfree] at hc; cases hc
  rcases hx with hk | hk
  · refine wpAny_storeName_local hk hn (fun h' hn' hs => ?_) hcls
    obtain ⟨oL, _, _, hoL, _⟩ := id hn
    refine h _ ⟨I.ok, I.os, I.bare, ⟨fun b o e n hb hx => ?_, fun b o e n hb hx => ?_, I.base.free, fun b o e hx => ?_, I.base.tups, I.base.frzs, I.base.tbls⟩, ⟨_, hn', fun j y v' e1 e2 e3 => ?_⟩, fun y c e => ?_, I.free, I.freeC, fun p hp => ?_, tracked ⟨oL, hoL, I.free⟩ hs, by simpa using I.len⟩ ⟨_, hs, .inl rfl⟩
    · exact (hs.2 b (Nat.ne_of_lt (Nat.lt_of_lt_of_le (Heap.lt_size e) I.ok.above))).trans (I.base.keep b o e n hb hx)
    · obtain ⟨sl, e1⟩ := I.base.slot b o e n hb hx
      exact ⟨sl, (hs.2 b (Nat.ne_of_lt (Nat.lt_of_lt_of_le (Heap.lt_size e) I.ok.above))).trans e1⟩
    · obtain ⟨o', e1⟩ := I.base.there b o e hx
      exact ⟨o', (hs.2 b (Nat.ne_of_lt (Nat.lt_of_lt_of_le (Heap.lt_size e) I.ok.above))).trans e1⟩
    · by_cases hj : j = i
      · subst hj
        rw [hi] at e1; cases e1
        rw [List.getElem?_set_self hiσ] at e2
        cases e2
        exact ⟨u, r, .inl ⟨hk, by simp⟩⟩
      · rw [List.getElem?_set_ne (Ne.symm hj)] at e2
        obtain ⟨u', r', q⟩ := hl j y v' e1 e2 e3
        refine ⟨u', r', ?_⟩
        rcases q with ⟨k, e⟩ | ⟨k, c, e, z⟩
        · refine .inl ⟨k, ?_⟩
          have : y ≠ x := fun e => hj (nodup_ix hN e1 (e ▸ hi))
          simp [this, e]
        · exact .inr ⟨k, c, e, z.sameBut hs (cne y c e)⟩
    · obtain ⟨w', z⟩ := I.cell y c e
      exact ⟨w', z.sameBut hs (cne y c e)⟩
    · obtain ⟨e, n, ne, nf, d⟩ := I.pin p hp
      exact ⟨(hs.2 p.1 ne).trans e, n, ne, nf, d⟩
  · have hfn : X.fn x = true := by
      rcases hf with z | z
      · exact z
      · rw [z] at hk; cases hk
    obtain ⟨c, hc⟩ := I.ok.has x (.inl hk)
    obtain ⟨w', z⟩ := I.cell x c hc
    refine wpAny_storeName_cell I.ok.kind hk hc z (fun h' hc' hs => ?_)
    obtain ⟨oc, hoc, hocd⟩ := id z
    refine h { s with heap := h' } ⟨I.ok, I.os, I.bare, ⟨fun b o e n hb hx => ?_, fun b o e n hb hx => ?_, I.base.free, fun b o e hx => ?_, I.base.tups, I.base.frzs, I.base.tbls⟩, ⟨m, hn.sameBut hs (Ne.symm (cne x c hc)), fun j y v' e1 e2 e3 => ?_⟩, fun y c' e => ?_, I.free, I.freeC, fun p hp => ?_, tracked ⟨oc, hoc, I.freeC x c hc⟩ hs, by simpa using I.len⟩ ⟨c, hs, .inr hc⟩
    · exact (hs.2 b (Nat.ne_of_lt (Nat.lt_of_lt_of_le (Heap.lt_size e) (I.ok.cab x c hfn hc)))).trans (I.base.keep b o e n hb hx)
    · obtain ⟨sl, e1⟩ := I.base.slot b o e n hb hx
      exact ⟨sl, (hs.2 b (Nat.ne_of_lt (Nat.lt_of_lt_of_le (Heap.lt_size e) (I.ok.cab x c hfn hc)))).trans e1⟩
    · obtain ⟨o', e1⟩ := I.base.there b o e hx
      exact ⟨o', (hs.2 b (Nat.ne_of_lt (Nat.lt_of_lt_of_le (Heap.lt_size e) (I.ok.cab x c hfn hc)))).trans e1⟩
    · by_cases hj : j = i
      · subst hj
        rw [hi] at e1; cases e1
        rw [List.getElem?_set_self hiσ] at e2
        cases e2
        exact ⟨u, r, .inr ⟨.inl hk, c, hc, hc'⟩⟩
      · rw [List.getElem?_set_ne (Ne.symm hj)] at e2
        obtain ⟨u', r', q⟩ := hl j y v' e1 e2 e3
        refine ⟨u', r', ?_⟩
        rcases q with q | ⟨k, c', e, z'⟩
        · exact .inl q
        · refine .inr ⟨k, c', e, z'.sameBut hs ?_⟩
          rintro rfl
          exact hj (nodup_ix hN e1 (I.ok.inj _ _ _ e hc ▸ hi))
    · by_cases hcc : c' = c
      · subst hcc; exact ⟨_, hc'⟩
      · obtain ⟨w2, z2⟩ := I.cell y c' e
        exact ⟨w2, z2.sameBut hs hcc⟩
    · obtain ⟨e, n, ne, nf, d⟩ := I.pin p hp
      refine ⟨(hs.2 p.1 ?_).trans e, n, ne, nf, d⟩
      intro q
      rw [q, hoc] at e
      have q' : oc = p.2 := Option.some.inj e
      exact d w' (by rw [← q']; exact hocd)
theorem store_ok {M : Model} {A : Around} {E : Value → Shared → Prop} {i : Nat} {x : Str} {v : V} {u : Value} {Q : Unit → Shared → Prop} (I : Inv X pins σ H s) (hN : X.N.Nodup) (hi : X.N[i]? = some x) (hx : Loc X.env.scope x) (r : RelV v u)
    (h : ∀ s', Inv X pins (σ.set i (some v)) H s' → Q () s') (hf : X.fn x = true ∨ X.env.scope.names.lookup x = some .local := by first | exact .inl rfl | exact .inr rfl | assumption) : wpAny M A (storeName X.env x u) Q E s :=
  store_ok2 I hN hi hx r (fun s' I' _ => h s' I') hf
theorem Inv.call' {s' : Shared} {ch : List Addr} (I : Inv X pins σ H s) (ho : s'.os = s.os) (u : Un (frs X.stack) ch H H' s.heap s'.heap) (hok : HOk X.prog X.w H' s'.heap) (hg : AllBare s'.gens)
    (hch : ∀ b ∈ ch, (b ∈ X.ex ∨ X.s₀.heap.objs.size ≤ b) ∧ b ≠ X.env.locals ∧ (∀ x c, X.env.cells.lookup x = some c → c ≠ b) ∧ ∀ p ∈ X.pn ++ pins, p.1 ≠ b) : Inv X pins σ H' s' := by
  obtain ⟨h', g', d', t', o'⟩ := s'
  have e : o' = s.os := ho
  subst e
  exact I.call (g' := g') (t' := t') (d' := d') u hok hg hch
end
abbrev XK := Value → Option Addr → Hp → Prop
abbrev St := List (Option V)
abbrev VK := V → Hp → Prop
abbrev TE := St → Hp → VK → Prop
abbrev TT := St → Hp → (Bool → Hp → Prop) → Prop
abbrev TA := St → Hp → (List V → Hp → Prop) → Prop
structure Ends where
  nx : St → Hp → Prop
  rt : VK
  bk : St → Hp → Prop := fun _ _ => False
  ct : St → Hp → Prop := fun _ _ => False
abbrev TS := Ends → St → Hp → Prop
def EP (X : Cx) (pins : List (Addr × Obj)) (σ : St) (Q : VK) (u : Value) (s' : Shared) : Prop := ∃ v H', Inv X pins σ H' s' ∧ RelV v u ∧ Q v H'
def TP (X : Cx) (pins : List (Addr × Obj)) (σ : St) (Q : Bool → Hp → Prop) (b : Bool) (s' : Shared) : Prop := ∃ H', Inv X pins σ H' s' ∧ Q b H'
def AP (X : Cx) (pins : List (Addr × Obj)) (σ : St) (Q : List V → Hp → Prop) (us : List Value) (s' : Shared) : Prop := ∃ vs H', Inv X pins σ H' s' ∧ Vals vs us ∧ Q vs H'
def SP (X : Cx) (pins : List (Addr × Obj)) (D : Ends) (f : Flow) (s' : Shared) : Prop :=
  match f with
  | .next => ∃ σ' H', Inv X pins σ' H' s' ∧ D.nx σ' H'
  | .brk => ∃ σ' H', Inv X pins σ' H' s' ∧ D.bk σ' H'
  | .cont => ∃ σ' H', Inv X pins σ' H' s' ∧ D.ct σ' H'
  | .ret u => ∃ v σ' H', Inv X pins σ' H' s' ∧ RelV v u ∧ D.rt v H'
def PE (X : Cx) (e : Expr) (t : TE) : Prop :=
  ∀ (pins : List (Addr × Obj)) (s : Shared) (σ : St) (H : Hp) (Q : VK), Inv X pins σ H s → t σ H Q → wpAny (model X.prog X.w) X.A (eval e X.env) (EP X pins σ Q) X.xe s
def PT (X : Cx) (e : Expr) (t : TT) : Prop :=
  ∀ (pins : List (Addr × Obj)) (s : Shared) (σ : St) (H : Hp) (Q : Bool → Hp → Prop), Inv X pins σ H s → t σ H Q → wpAny (model X.prog X.w) X.A (isTrue e X.env (eval e X.env)) (TP X pins σ Q) X.xe s
def PW (X : Cx) (e : Expr) (t : TT) : Prop :=
  ∀ (whole : Sem Value) (pins : List (Addr × Obj)) (s : Shared) (σ : St) (H : Hp) (Q : Bool → Hp → Prop), Inv X pins σ H s → t σ H Q → wpAny (model X.prog X.w) X.A (isTrue e X.env whole) (TP X pins σ Q) X.xe s
theorem PW.pt {X : Cx} {e : Expr} {t : TT} (h : PW X e t) : PT X e t := h _
def PA (X : Cx) (es : List Expr) (t : TA) : Prop :=
  ∀ (pos : Pos) (pins : List (Addr × Obj)) (s : Shared) (σ : St) (H : Hp) (Q : List V → Hp → Prop), Inv X pins σ H s → t σ H Q → wpAny (model X.prog X.w) X.A (spliced (backTo pos (starEach es X.env))) (AP X pins σ Q) X.xe s
def PS (X : Cx) (st : Stmt) (t : TS) : Prop :=
  ∀ (pins : List (Addr × Obj)) (s : Shared) (σ : St) (H : Hp) (D : Ends), Inv X pins σ H s → t D σ H → wpAny (model X.prog X.w) X.A (exec st X.env) (SP X pins D) X.xe s
def PSs (X : Cx) (st : List Stmt) (t : TS) : Prop :=
  ∀ (pins : List (Addr × Obj)) (s : Shared) (σ : St) (H : Hp) (D : Ends), Inv X pins σ H s → t D σ H → wpAny (model X.prog X.w) X.A (execs st X.env) (SP X pins D) X.xe s
theorem thn {α : Type} {t : Sem α} {Q Q' : α → Shared → Prop} {M : Model} {A : Around} {E : Value → Shared → Prop} {s : Shared} (h : wpAny M A t Q E s) (hQ : ∀ a s, Q a s → Q' a s) : wpAny M A t Q' E s := wpAny_mono h hQ fun _ _ x => x
end L2
namespace L2
open PySem PySem.Spec PyProof.Rows
section
variable {X : Cx}
def tVar (i : Nat) : TE := fun σ H Q => ∃ v, σ[i]? = some (some v) ∧ Q v H
def tC (v : V) : TE := fun _ H Q => Q v H
theorem pe_var {i : Nat} {x : Str} {pos : Pos} (hN : X.N[i]? = some x) (hv : Vis X.env.scope x) (hd : (x == ("__debug__" : Str)) = false := by decide) (hcd : (x == ("__classdict__" : Str)) = false := by decide) : PE X (.Name x pos) (tVar i) := by
  intro pins s σ H Q I h
  obtain ⟨v, e, h⟩ := h
  obtain ⟨m, hn, hl⟩ := I.loc
  obtain ⟨u, r, l⟩ := hl i x v hN e hv
  have fin : EP X pins σ Q u s := ⟨v, H, I, r, h⟩
  rcases l with ⟨hk, hm⟩ | ⟨hk, c, hc, hcell⟩
  · exact wpAny_Name (wpAny_loadName_local I.ok.kind hk hn hm fin) hd
  · rcases hk with hk | hk
    · exact wpAny_Name (wpAny_loadName_cell I.ok.kind hk hc hcell fin) hd
    · exact wpAny_Name (wpAny_loadName_free I.ok.kind hk hc hcell fin hcd) hd
theorem pe_int {i j pos} : PE X (.Constant (.int i) j pos) (tC (.int i)) := fun _ _ _ H _ I h => wpAny_Constant_int ⟨.int i, H, I.tok _, ⟨_, rfl⟩, h⟩
theorem pe_bl {b j pos} : PE X (.Constant (.bool b) j pos) (tC (.bl b)) := fun _ _ _ H _ I h => Constant_bool ⟨.bl b, H, I, rfl, h⟩
theorem pe_non {j pos} : PE X (.Constant .none j pos) (tC .non) := fun _ _ _ H _ I h => Constant_none ⟨.non, H, I, rfl, h⟩
theorem pe_str {x j pos} : PE X (.Constant (.str x) j pos) (tC (.str x)) := fun _ _ _ H _ I h => Calls.Constant_str ⟨.str x, H, I.tok _, ⟨_, rfl⟩, h⟩
def Gl (X : Cx) (x : Str) : Prop := X.env.kindOf x = some .globalImplicit
theorem ld_glob {E : Value → Shared → Prop} {pins : List (Addr × Obj)} {s : Shared} {σ : St} {H : Hp} {x : Str} {u : Value} {pos : Pos} {Q : Value → Shared → Prop} (I : Inv X pins σ H s) (hg : Gl X x) (hm : X.mg x = some u) (h : Q u s)
    (hd : (x == ("__debug__" : Str)) = false := by decide) : wpAny (model X.prog X.w) X.A (eval (.Name x pos) X.env) Q E s :=
  Calls.Name_function_global I.ok.kind hg (Calls.loadGlobal_global (by rw [I.ok.glob]; exact I.mod.glob.keeps I.bk) hm h) hd
theorem ld_blt {E : Value → Shared → Prop} {pins : List (Addr × Obj)} {s : Shared} {σ : St} {H : Hp} {x : Str} {u : Value} {pos : Pos} {Q : Value → Shared → Prop} (I : Inv X pins σ H s) (hg : Gl X x) (hm : X.mg x = none) (hv : bootBuiltins x = some u) (h : Q u s)
    (hn : x ≠ "__name__" := by decide) (hd : (x == ("__debug__" : Str)) = false := by decide) : wpAny (model X.prog X.w) X.A (eval (.Name x pos) X.env) Q E s := by
  obtain ⟨mb, h1, h2⟩ := I.mod.blt
  exact Calls.Name_function_global I.ok.kind hg (Calls.loadGlobal_builtin (by rw [I.ok.glob]; exact I.mod.glob.keeps I.bk) hm (by rw [I.ok.blt]; exact h1.keeps I.bk) ((h2 x hn).trans hv) h) hd
theorem pe_glob {x : Str} {v : V} {u : Value} {pos : Pos} (hg : Gl X x) (hm : X.mg x = some u) (r : RelV v u) (hd : (x == ("__debug__" : Str)) = false := by decide) : PE X (.Name x pos) (tC v) :=
  fun _ _ _ H _ I h => ld_glob I hg hm ⟨v, H, I, r, h⟩ hd
theorem pe_bltn {x : Str} {v : V} {u : Value} {pos : Pos} (hg : Gl X x) (hm : X.mg x = none) (hv : bootBuiltins x = some u) (r : RelV v u) (hn : x ≠ "__name__" := by decide) (hd : (x == ("__debug__" : Str)) = false := by decide) : PE X (.Name x pos) (tC v) :=
  fun _ _ _ H _ I h => ld_blt I hg hm hv ⟨v, H, I, r, h⟩ hn hd
def t2I (ta tb : TE) (k : Int → Int → Hp → Prop) : St → Hp → Prop := fun σ H => ta σ H fun x H1 => tb σ H1 fun y H2 => ∃ i j, x = .int i ∧ y = .int j ∧ k i j H2
variable {a b : Expr} {ta tb : TE} {pos : Pos}
def PC (X : Cx) (op : CmpOp) (a b : Expr) (t : TE) : Prop :=
  ∀ (pins : List (Addr × Obj)) (s : Shared) (σ : St) (H : Hp) (Q : VK), Inv X pins σ H s → t σ H Q →
    wpAny (model X.prog X.w) X.A (eval a X.env) (fun v s₁ => wpAny (model X.prog X.w) X.A (eval b X.env) (fun u s₂ => wpAny (model X.prog X.w) X.A (compareOp op v u) (EP X pins σ Q) X.xe s₂) X.xe s₁) X.xe s
def tCmp (p : Int → Int → Bool) (ta tb : TE) : TE := fun σ H Q => t2I ta tb (fun i j H2 => Q (.bl (p i j)) H2) σ H
abbrev tLt : TE → TE → TE := tCmp fun i j => decide (i < j)
abbrev tLe : TE → TE → TE := tCmp fun i j => decide (i ≤ j)
abbrev tGt : TE → TE → TE := tCmp fun i j => decide (j < i)
abbrev tGe : TE → TE → TE := tCmp fun i j => decide (j ≤ i)
abbrev tEqI : TE → TE → TE := tCmp fun i j => decide (i = j)
abbrev tNeI : TE → TE → TE := tCmp fun i j => !decide (i = j)
def tB (t : TE) : TT := fun σ H Q => t σ H fun x H1 => ∃ c, x = .bl c ∧ Q c H1
theorem pt_val {e : Expr} {t : TE} (h : PE X e t) (he : ∀ whole, isTrue e X.env whole = (do let v ← whole; standAt e.pos; holding [v] (truthy v)) := by intro _; rfl) : PT X e (tB t) := by
  intro pins s σ H Q I hw
  refine isTrue_plain (thn (h pins s σ H _ I hw) fun v s1 ⟨x, H1, I1, r1, q1⟩ => ?_) (he _)
  obtain ⟨d, rfl, q⟩ := q1
  cases r1
  exact wpAny_truthy_bool ⟨H1, I1, q⟩
variable {tA tB' : TT} {rest : List Expr}
def tAnd (t u : TT) : TT := fun σ H Q => t σ H fun c H1 => if c = true then u σ H1 Q else Q false H1
def tOr (t u : TT) : TT := fun σ H Q => t σ H fun c H1 => if c = true then Q true H1 else u σ H1 Q
def tNot (t : TT) : TT := fun σ H Q => t σ H fun c H1 => Q (!c) H1
theorem pw_and1 (ha : PT X a tA) : PW X (.BoolOp .And [a] pos) tA := by
  intro wh pins s σ H Q I h
  refine isTrue_and (thn (ha pins s σ H Q I h) fun c s1 e => ?_)
  cases c with
  | true => exact isTrue_and_nil e
  | false => exact e
theorem pw_or1 (ha : PT X a tA) : PW X (.BoolOp .Or [a] pos) tA := by
  intro wh pins s σ H Q I h
  refine isTrue_or (thn (ha pins s σ H Q I h) fun c s1 e => ?_)
  cases c with
  | false => exact isTrue_or_nil e
  | true => exact e
theorem pw_and (ha : PT X a tA) (hb : PW X (.BoolOp .And (b :: rest) pos) tB') : PW X (.BoolOp .And (a :: b :: rest) pos) (tAnd tA tB') := by
  intro wh pins s σ H Q I h
  refine isTrue_and (thn (ha pins s σ H _ I h) fun c s1 ⟨H1, I1, q1⟩ => ?_)
  cases c with
  | true => exact hb wh pins s1 σ H1 Q I1 q1
  | false => exact ⟨H1, I1, q1⟩
theorem pw_or (ha : PT X a tA) (hb : PW X (.BoolOp .Or (b :: rest) pos) tB') : PW X (.BoolOp .Or (a :: b :: rest) pos) (tOr tA tB') := by
  intro wh pins s σ H Q I h
  refine isTrue_or (thn (ha pins s σ H _ I h) fun c s1 ⟨H1, I1, q1⟩ => ?_)
  cases c with
  | true => exact ⟨H1, I1, q1⟩
  | false => exact hb wh pins s1 σ H1 Q I1 q1
theorem pt_not (ha : PT X a tA) : PT X (.UnaryOp .Not a pos) (tNot tA) := by
  intro pins s σ H Q I h
  exact isTrue_not (ha pins s σ H (fun c H1 => Q (!c) H1) I h)
def tAndV (ta tb : TE) : TE := fun σ H Q => ta σ H fun x H1 => ∃ c, x = .bl c ∧ if c = true then tb σ H1 Q else Q (.bl false) H1
def tOrV (ta tb : TE) : TE := fun σ H Q => ta σ H fun x H1 => ∃ c, x = .bl c ∧ if c = true then Q (.bl true) H1 else tb σ H1 Q
def tNotV (ta : TE) : TE := fun σ H Q => ta σ H fun x H1 => ∃ c, x = .bl c ∧ Q (.bl (!c)) H1
theorem pe_one {op} {t : TE} (h : PE X a t) : PE X (.BoolOp op [a] pos) t := fun pins s σ H Q I hw => BoolOp_one (h pins s σ H Q I hw)
theorem pe_and (ha : PE X a ta) (hb : PE X (.BoolOp .And (b :: rest) pos) tb) : PE X (.BoolOp .And (a :: b :: rest) pos) (tAndV ta tb) := by
  intro pins s σ H Q I h
  refine BoolOp_and (thn (ha pins s σ H _ I h) fun v s1 ⟨x, H1, I1, r1, q1⟩ => ?_)
  obtain ⟨c, rfl, q1⟩ := q1
  cases r1
  refine wpAny_truthy_bool ?_
  cases c with
  | true => exact hb pins s1 σ H1 Q I1 q1
  | false => exact ⟨.bl false, H1, I1, rfl, q1⟩
theorem pe_or (ha : PE X a ta) (hb : PE X (.BoolOp .Or (b :: rest) pos) tb) : PE X (.BoolOp .Or (a :: b :: rest) pos) (tOrV ta tb) := by
  intro pins s σ H Q I h
  refine BoolOp_or (thn (ha pins s σ H _ I h) fun v s1 ⟨x, H1, I1, r1, q1⟩ => ?_)
  obtain ⟨c, rfl, q1⟩ := q1
  cases r1
  refine wpAny_truthy_bool ?_
  cases c with
  | false => exact hb pins s1 σ H1 Q I1 q1
  | true => exact ⟨.bl true, H1, I1, rfl, q1⟩
theorem pe_not (ha : PE X a ta) : PE X (.UnaryOp .Not a pos) (tNotV ta) := by
  intro pins s σ H Q I h
  refine UnaryOp_ (thn (ha pins s σ H _ I h) fun v s1 ⟨x, H1, I1, r1, q1⟩ => ?_)
  obtain ⟨c, rfl, q1⟩ := q1
  cases r1
  exact not_of (wpAny_truthy_bool ⟨.bl (!c), H1, I1, rfl, q1⟩)
end
end L2
namespace L2
open PySem PySem.Spec PyProof.Rows
def SqL (K : PySem.W.Frag) (H : Hp) (a : Addr) (xs : List V) : Prop :=
  Rd H a (.lst xs) ∨
    ∃ (o : Obj) (its : Array Value) (n : Nat), K.lookup a = some o ∧ o.cls = .type "list" ∧ o.dict = none ∧ o.data = .seq its n ∧ its.size ≤ sizeLine ∧ Vals xs its.toList
def SqT (K : PySem.W.Frag) (H : Hp) (a : Addr) (xs : List V) : Prop :=
  Rd H a (.tup xs) ∨
    ∃ (o : Obj) (its : Array Value) (n : Nat), K.lookup a = some o ∧ o.cls = .type "tuple" ∧ o.data = .seq its n ∧ its.size ≤ sizeLine ∧ Vals xs its.toList
def absV : Value → Option V
  | .none => some .non
  | .bool b => some (.bl b)
  | .int i _ => some (.int i)
  | .str x _ => some (.str x)
  | .bytes b _ => some (.byt b)
  | .float b _ => some (.flt b)
  | .ref a => some (.ref a)
  | .type n => some (.ty n)
  | _ => none
theorem RelV.abs {x : V} {u : Value} (r : RelV x u) : absV u = some x := by
  cases x with
  | non => cases r; rfl
  | bl _ => cases r; rfl
  | int _ => obtain ⟨t, rfl⟩ := r; rfl
  | str _ => obtain ⟨t, rfl⟩ := r; rfl
  | byt _ => obtain ⟨t, rfl⟩ := r; rfl
  | flt _ => obtain ⟨t, rfl⟩ := r; rfl
  | ref _ => cases r; rfl
  | ty _ => cases r; rfl
theorem RelV.inj {x y : V} {u : Value} (r : RelV x u) (q : RelV y u) : x = y := Option.some.inj (r.abs.symm.trans q.abs)
theorem Vals.inj : ∀ {xs ys : List V} {us : List Value}, Vals xs us → Vals ys us → xs = ys
  | _, _, _, .nil, .nil => rfl
  | _, _, _, .cons r t, .cons r' t' => by rw [r.inj r', Vals.inj t t']
section
variable {X : Cx} {pins : List (Addr × Obj)} {σ : St} {H : Hp} {s : Shared} {a : Addr} {xs ys : List V}
theorem SqL.of {K : PySem.W.Frag} (h : H a = some (.lst xs)) : SqL K H a xs := .inl (.inl h)
theorem SqT.of {K : PySem.W.Frag} (h : H a = some (.tup xs)) : SqT K H a xs := .inl (.inl h)
theorem Inv.list (I : Inv X pins σ H s) (h : SqL X.K H a xs) : ∃ its : List Value, Vals xs its ∧ PlainL s.heap a its.toArray ∧ xs.length ≤ sizeLine := by
  rcases h with h | ⟨o, its, n, hk, hc, hd, hs, hz, r⟩
  · obtain ⟨z, its, n, r, e⟩ := h.ok I.hok
    exact ⟨its, r, ⟨_, n, e, rfl, rfl, rfl⟩, z⟩
  · refine ⟨its.toList, r, ⟨o, n, I.kIn a o hk, hc, hd, by simpa using hs⟩, ?_⟩
    have e := r.length
    simp only [Array.length_toList] at e
    omega
theorem Inv.tuple (I : Inv X pins σ H s) (h : SqT X.K H a xs) : ∃ its : List Value, Vals xs its ∧ IsTup s.heap a its.toArray ∧ xs.length ≤ sizeLine := by
  rcases h with h | ⟨o, its, n, hk, hc, hs, hz, r⟩
  · obtain ⟨z, its, r, p⟩ := h.ok I.hok
    exact ⟨its, r, p, z⟩
  · refine ⟨its.toList, r, ⟨o, I.kIn a o hk, hc, n, by simpa using hs⟩, ?_⟩
    have e := r.length
    simp only [Array.length_toList] at e
    omega
theorem Inv.list_inj (I : Inv X pins σ H s) (h : SqL X.K H a xs) (h' : SqL X.K H a ys) : xs = ys := by
  obtain ⟨its, r, ⟨o, n, e, _, _, d⟩, _⟩ := I.list h
  obtain ⟨its', r', ⟨o', n', e', _, _, d'⟩, _⟩ := I.list h'
  rw [e] at e'; cases e'
  rw [d] at d'
  injection d' with d1 _
  have : its = its' := by simpa using congrArg Array.toList d1
  subst this
  exact r.inj r'
end
abbrev Cx.wish (X : Cx) (E : Value → Shared → Prop) : Cx := { X with xe := E }
abbrev Cx.nox (X : Cx) : Cx := X.wish fun _ _ => False
theorem Cx.Ok.wish {X : Cx} (ok : X.Ok) (E : Value → Shared → Prop) : (X.wish E).Ok :=
  ⟨ok.mod, ok.kind, ok.glob, ok.blt, ok.above, ok.inj, ok.has, ok.cab, ok.hd, ok.frames, ok.stk, ok.exf, ok.bs, ok.bsz, ok.noex, ok.exfs, ok.funs, ok.frf⟩
theorem Cx.Ok.unwish {X : Cx} {E : Value → Shared → Prop} (ok : (X.wish E).Ok) : X.Ok :=
  ⟨ok.mod, ok.kind, ok.glob, ok.blt, ok.above, ok.inj, ok.has, ok.cab, ok.hd, ok.frames, ok.stk, ok.exf, ok.bs, ok.bsz, ok.noex, ok.exfs, ok.funs, ok.frf⟩
section
variable {X : Cx} {pins : List (Addr × Obj)} {σ : St} {H : Hp} {s : Shared} {E : Value → Shared → Prop}
theorem Inv.wish (I : Inv X pins σ H s) (E : Value → Shared → Prop) : Inv (X.wish E) pins σ H s := ⟨I.ok.wish E, I.os, I.bare, I.base, I.loc, I.cell, I.free, I.freeC, I.pin, I.hok, I.len⟩
theorem Inv.unwish (I : Inv (X.wish E) pins σ H s) : Inv X pins σ H s := ⟨I.ok.unwish, I.os, I.bare, I.base, I.loc, I.cell, I.free, I.freeC, I.pin, I.hok, I.len⟩
theorem SP.unwish {D : Ends} {f : Flow} {s' : Shared} (h : SP (X.wish E) pins D f s') : SP X pins D f s' := by
  cases f with
  | next => obtain ⟨σ', H', I, q⟩ := h; exact ⟨σ', H', I.unwish, q⟩
  | brk => obtain ⟨σ', H', I, q⟩ := h; exact ⟨σ', H', I.unwish, q⟩
  | cont => obtain ⟨σ', H', I, q⟩ := h; exact ⟨σ', H', I.unwish, q⟩
  | ret u => obtain ⟨v, σ', H', I, r, q⟩ := h; exact ⟨v, σ', H', I.unwish, r, q⟩
theorem PE.nox {e : Expr} {t : TE} (h : PE X.nox e t) : PE X e t := fun pins s σ H Q I hw =>
  wpAny_mono (h pins s σ H Q (I.wish _) hw) (fun _ _ ⟨v, H', I', r, q⟩ => ⟨v, H', I'.unwish, r, q⟩) fun _ _ z => False.elim z
theorem PT.nox {e : Expr} {t : TT} (h : PT X.nox e t) : PT X e t := fun pins s σ H Q I hw =>
  wpAny_mono (h pins s σ H Q (I.wish _) hw) (fun _ _ ⟨H', I', q⟩ => ⟨H', I'.unwish, q⟩) fun _ _ z => False.elim z
theorem PSs.nox {st : List Stmt} {t : TS} (h : PSs X.nox st t) : PSs X st t := fun pins s σ H D I hw =>
  wpAny_mono (h pins s σ H D (I.wish _) hw) (fun _ _ q => q.unwish) fun _ _ z => False.elim z
end
section
variable {X : Cx} {st : Stmt} {rest : List Stmt} {t u : TS} {e : Expr} {te : TE} {pos : Pos}
def tNext : TS := fun D σ H => D.nx σ H
def tSeq (t u : TS) : TS := fun D σ H => t { D with nx := u D } σ H
theorem pss_nil : PSs X [] tNext := fun _ _ σ H _ I h => wpAny_execs_nil ⟨σ, H, I, h⟩
theorem pss_cons (h1 : PS X st t) (h2 : PSs X rest u) : PSs X (st :: rest) (tSeq t u) := by
  intro pins s σ H D I h
  refine wpAny_execs_cons (thn (h1 pins s σ H { D with nx := u D } I h) fun f s1 q => ?_)
  cases f with
  | next =>
    obtain ⟨σ', H', I', q⟩ := q
    exact h2 pins s1 σ' H' D I' q
  | ret v => exact q
  | brk => exact q
  | cont => exact q
theorem pss_one (h1 : PS X st t) : PSs X [st] t := by
  intro pins s σ H D I h
  refine wpAny_execs_cons (thn (h1 pins s σ H D I h) fun f s1 q => ?_)
  cases f with
  | next => exact wpAny_execs_nil q
  | ret v => exact q
  | brk => exact q
  | cont => exact q
theorem Inv.quiet {pins : List (Addr × Obj)} {σ : St} {H : Hp} {s : Shared} (I : Inv X pins σ H s) : interactive X.env = false := by simp [interactive, I.ok.kind]
def tDrop (te : TE) : TS := fun D σ H => te σ H fun _ H1 => D.nx σ H1
theorem ps_expr (he : PE X e te) (hs : swapsWith e none pos.line X.env = pure false := by rfl) : PS X (.Expr e pos) (tDrop te) := by
  intro pins s σ H D I h
  exact wpAny_Expr_any (thn (he pins s σ H _ I h) fun v s1 ⟨x, H1, I1, r1, q1⟩ => ⟨σ, H1, I1, q1⟩) I.quiet hs
def tRet (te : TE) : TS := fun D σ H => te σ H D.rt
theorem ps_ret (he : PE X e te) : PS X (.Return (some e) pos) (tRet te) := by
  intro pins s σ H D I h
  exact wpAny_Return_some (thn (he pins s σ H _ I h) fun v s1 ⟨x, H1, I1, r1, q1⟩ => ⟨x, σ, H1, I1, r1, q1⟩)
def tIfS (c : TT) (t u : TS) : TS := fun D σ H => c σ H fun b H1 => if b = true then t D σ H1 else u D σ H1
theorem ps_if {c : Expr} {a b : List Stmt} {tc : TT} (hc : PT X c tc) (ha : PSs X a t) (hb : PSs X b u) : PS X (.If c a b pos) (tIfS tc t u) := by
  intro pins s σ H D I h
  refine wpAny_If (thn (hc pins s σ H _ I h) fun d s1 ⟨H1, I1, q1⟩ => ?_)
  cases d with
  | true => exact ha pins s1 σ H1 D I1 q1
  | false => exact hb pins s1 σ H1 D I1 q1
end
abbrev TG := V → St → Hp → (St → Hp → Prop) → Prop
abbrev TGs := List V → St → Hp → (St → Hp → Prop) → Prop
def PG (X : Cx) (target : Expr) (t : TG) : Prop :=
  ∀ (pins : List (Addr × Obj)) (s : Shared) (σ : St) (H : Hp) (v : V) (u : Value) (Q : St → Hp → Prop), Inv X pins σ H s → RelV v u → t v σ H Q →
    wpAny (model X.prog X.w) X.A (assign target X.env u) (fun _ s' => ∃ σ' H', Inv X pins σ' H' s' ∧ Q σ' H') X.xe s
def PGs (X : Cx) (ts : List Expr) (t : TGs) : Prop :=
  ∀ (pins : List (Addr × Obj)) (s : Shared) (σ : St) (H : Hp) (vs : List V) (us : List Value) (Q : St → Hp → Prop), Inv X pins σ H s → Vals vs us → t vs σ H Q →
    wpAny (model X.prog X.w) X.A (assignInOrder ((assignEach ts X.env).map (·.2)) us) (fun _ s' => ∃ σ' H', Inv X pins σ' H' s' ∧ Q σ' H') X.xe s
abbrev TSet := V → V → V → Hp → (Hp → Prop) → Prop
def PSet (X : Cx) (t : TSet) : Prop :=
  ∀ (pins : List (Addr × Obj)) (s : Shared) (σ : St) (H : Hp) (o i v : V) (ov iv u : Value) (Q : Hp → Prop), Inv X pins σ H s → RelV o ov → RelV i iv → RelV v u → t o i v H Q →
    wpAny (model X.prog X.w) X.A (setItem ov iv u) (fun _ s' => ∃ H', Inv X pins σ H' s' ∧ Q H') X.xe s
abbrev TIp := V → V → Hp → VK → Prop
section
variable {X : Cx} {pos : Pos}
def gName (i : Nat) : TG := fun v σ H Q => Q (σ.set i (some v)) H
theorem pg_name {i : Nat} {x : Str} (hN : X.N.Nodup) (hi : X.N[i]? = some x) (hx : Loc X.env.scope x) (hf : X.fn x = true ∨ X.env.scope.names.lookup x = some .local := by first | exact .inl rfl | exact .inr rfl | assumption) : PG X (.Name x pos) (gName i) := by
  intro pins s σ H v u Q I r h
  exact wpAny_assign_Name (store_ok I hN hi hx r (fun s' I' => ⟨_, H, I', h⟩) hf)
def gNil : TGs := fun vs σ H Q => vs = [] ∧ Q σ H
def gCons (t : TG) (u : TGs) : TGs := fun vs σ H Q => ∃ v r, vs = v :: r ∧ t v σ H fun σ' H' => u r σ' H' Q
theorem pgs_nil : PGs X [] gNil := by
  intro pins s σ H vs us Q I r h
  obtain ⟨e, h⟩ := h
  subst e
  cases r
  exact assignInOrder_nil ⟨σ, H, I, h⟩
theorem pgs_cons {e : Expr} {es : List Expr} {t : TG} {u : TGs} (h1 : PG X e t) (h2 : PGs X es u)
    (hs : (assignEach (e :: es) X.env).map (·.2) = assign e X.env :: (assignEach es X.env).map (·.2) := by rfl) : PGs X (e :: es) (gCons t u) := by
  intro pins s σ H vs us Q I r h
  obtain ⟨v, vr, e1, h⟩ := h
  subst e1
  cases r with
  | cons r rr =>
    rw [hs]
    refine assignInOrder_cons (thn (h1 pins s σ H _ _ _ I r h) fun _ s1 ⟨σ1, H1, I1, q1⟩ => ?_)
    exact h2 pins s1 σ1 H1 _ _ Q I1 rr q1
def gTup (K : PySem.W.Frag) (n : Nat) (t : TGs) : TG := fun v σ H Q => ∃ a xs, v = .ref a ∧ SqT K H a xs ∧ xs.length = n ∧ t xs σ H Q
def gSub (to ti : TE) (t : TSet) : TG := fun v σ H Q => to σ H fun o H1 => ti σ H1 fun i H2 => t o i v H2 fun H3 => Q σ H3
theorem pg_sub {o i : Expr} {to ti : TE} {t : TSet} (ho : PE X o to) (hi : PE X i ti) (hs : PSet X t)
    (ha : ∀ v, assign (.Subscript o i pos) X.env v = (do
      let ov ← holding [v] (eval o X.env)
      let iv ← holding [v, ov] (eval i X.env)
      standAt pos
      holding [v, ov, iv] (setItem ov iv v)
      release [v, ov, iv] []) := by intro _; rfl) : PG X (.Subscript o i pos) (gSub to ti t) := by
  intro pins s σ H v u Q I r h
  rw [ha]
  refine wpAny_bind (wpAny_holding (thn (ho pins s σ H _ I h) fun ov s1 ⟨x, H1, I1, r1, q1⟩ => ?_))
  refine wpAny_bind (wpAny_holding (thn (hi pins s1 σ H1 _ I1 q1) fun iv s2 ⟨y, H2, I2, r2, q2⟩ => ?_))
  refine wpAny_bind (wpAny_standAt (wpAny_bind (wpAny_holding (thn (hs pins s2 σ H2 x y v ov iv u _ I2 r1 r2 r q2) fun _ s3 ⟨H3, I3, q3⟩ => ?_))))
  exact wpAny_release ⟨σ, H3, I3, q3⟩
def tAsg (te : TE) (g : TG) : TS := fun D σ H => te σ H fun x H1 => g x σ H1 D.nx
theorem ps_asg {tg e : Expr} {te : TE} {g : TG} (he : PE X e te) (hg : PG X tg g) (hs : swapsWithSole [tg] e pos.line X.env = pure false := by rfl) (hw : swappedStores [tg] e X.env = pure none := by rfl)
    (h1 : (assignEach [tg] X.env).map (·.2) = [assign tg X.env] := by rfl) : PS X (.Assign [tg] e pos) (tAsg te g) := by
  intro pins s σ H D I h
  refine wpAny_Assign_stores (thn (he pins s σ H _ I h) fun v s1 ⟨x, H1, I1, r1, q1⟩ => ?_) hs hw
  rw [h1]
  exact thn (hg pins s1 σ H1 x v _ I1 r1 q1) fun _ s2 q => q
theorem ps_set {i : Nat} {x : Str} {e : Expr} {te : TE} {pos' : Pos} (hN : X.N.Nodup) (hi : X.N[i]? = some x) (hx : Loc X.env.scope x) (he : PE X e te) (hs : swapsWith e (some (.Name x pos')) pos.line X.env = pure false := by rfl) (hf : X.fn x = true ∨ X.env.scope.names.lookup x = some .local := by first | exact .inl rfl | exact .inr rfl | assumption) :
    PS X (.Assign [.Name x pos'] e pos) (tAsg te (gName i)) := by
  intro pins s σ H D I h
  refine wpAny_Assign_Name (thn (he pins s σ H _ I h) fun v s1 ⟨y, H1, I1, r1, q1⟩ => ?_) hs
  exact store_ok I1 hN hi hx r1 (fun s2 I2 => ⟨_, H1, I2, q1⟩) hf
end
section
variable {X : Cx} {pos : Pos}
end
structure It where
  go : Nat → Hp → Prop
  yld : Nat → Hp → V → Hp → Prop
  stop : Nat → Hp → Prop
def FpOk (X : Cx) (pins : List (Addr × Obj)) (H : Hp) (b : Addr) : Prop :=
  H b = none ∧ b ≠ X.env.locals ∧ b ∉ X.fs ∧ (b ∈ X.ex ∨ X.s₀.heap.objs.size ≤ b) ∧ (∀ x c, X.env.cells.lookup x = some c → c ≠ b) ∧ ∀ p ∈ X.pn ++ pins, p.1 ≠ b
theorem Inv.fpOk {X : Cx} {pins : List (Addr × Obj)} {σ : St} {H H' : Hp} {s : Shared} {b : Addr} (I : Inv X pins σ H s) (hb : s.heap.objs.size ≤ b) (hn : H' b = none) : FpOk X pins H' b := by
  refine ⟨hn, Nat.ne_of_gt (Nat.lt_of_lt_of_le I.lt hb), I.nofs hb, .inr (Nat.le_trans I.sz hb), fun x c e z => ?_, fun p hp z => ?_⟩
  · obtain ⟨v, q⟩ := I.cell x c e
    exact absurd (Nat.lt_of_lt_of_le q.lt (by rw [z]; exact hb)) (Nat.lt_irrefl _)
  · exact absurd (Nat.lt_of_lt_of_le (Heap.lt_size (I.pin p hp).1) (by rw [z]; exact hb)) (Nat.lt_irrefl _)
structure Turn (P : Program) (w : World) (K : PySem.W.Frag) (tg : Expr) (J : It) (fp : List Addr) (it : Addr) (tn : Nat → Heap → Prop) : Prop where
  mem : it ∈ fp
  obj : ∀ i h, tn i h → ∀ b ∈ fp, ∃ o, h.get? b = some o ∧ ∀ v, o.data ≠ .cell v
  keep : ∀ i h h', tn i h → (∀ b ∈ fp, ∀ o, h.get? b = some o → h'.get? b = some o) → tn i h'
  item : ∀ (X : Cx), X.prog = P → X.w = w → X.K = K → X.calm = true → ∀ (i : Nat) (pins : List (Addr × Obj)) (s : Shared) (σ : St) (H : Hp) (E : Value → Shared → Prop), Inv X pins σ H s → (∀ b ∈ fp, FpOk X pins H b) → tn i s.heap → J.go i H →
    wpAny (model P w) X.A (pyNext (.ref it)) (fun r s1 => ∃ u, r = some u ∧
      wpAny (model P w) X.A (letOwnedTupleGo tg (.ref it) u) (fun _ s2 => ∃ x H', Inv X pins σ H' s2 ∧ RelV x u ∧ J.yld i H x H' ∧ tn (i + 1) s2.heap ∧ ∀ b ∈ fp, H' b = none) E s1) E s
  done : ∀ (X : Cx), X.prog = P → X.w = w → X.K = K → X.calm = true → ∀ (i : Nat) (pins : List (Addr × Obj)) (s : Shared) (σ : St) (H : Hp) (E : Value → Shared → Prop), Inv X pins σ H s → (∀ b ∈ fp, FpOk X pins H b) → tn i s.heap → J.stop i H →
    wpAny (model P w) X.A (pyNext (.ref it)) (fun r s1 => r = none ∧ Inv X pins σ H s1) E s
  self : ∀ (A : Around) (i : Nat) (s : Shared) (Q : Value → Shared → Prop) (E : Value → Shared → Prop), tn i s.heap → Q (.ref it) s → wpAny (model P w) A (pyIter (.ref it)) Q E s
abbrev TI := St → Hp → (It → Hp → Prop) → Prop
def PIE (X : Cx) (pins : List (Addr × Obj)) (σ : St) (tg : Expr) (R : It → Hp → Prop) (itv : Value) (s2 : Shared) : Prop :=
  ∃ (it : Addr) (fp : List Addr) (tn : Nat → Heap → Prop) (J : It) (H' : Hp), itv = .ref it ∧ Inv X pins σ H' s2 ∧ Turn X.prog X.w X.K tg J fp it tn ∧ tn 0 s2.heap ∧ (∀ b ∈ fp, FpOk X pins H' b) ∧ R J H'
def PI (X : Cx) (tg iter : Expr) (wi : TI) : Prop :=
  ∀ (pins : List (Addr × Obj)) (s : Shared) (σ : St) (H : Hp) (R : It → Hp → Prop), Inv X pins σ H s → wi σ H R →
    wpAny (model X.prog X.w) X.A (eval iter X.env) (fun v s1 => wpAny (model X.prog X.w) X.A (pyIter v) (PIE X pins σ tg R) X.xe s1) X.xe s
theorem go_of {M : Model} {A : Around} {E : Value → Shared → Prop} {s : Shared} {tg : Expr} {it : Addr} {u : Value} {o : Obj} {n : String} {vs : Array Value} {Q : Unit → Shared → Prop} (ho : s.heap.get? it = some o) (hc : o.cls = .type n) (hd : o.data = .fields vs)
    (hn : ["enumerate", "zip", "dict_itemiterator", "dict_reverseitemiterator", "odict_iterator", "itertools.zip_longest", "itertools.pairwise"].contains n = false) (hQ : Q () s) : wpAny M A (letOwnedTupleGo tg (.ref it) u) Q E s := by
  unfold letOwnedTupleGo
  cases tg <;> first
    | exact wpAny_pure hQ
    | (cases u <;> first
        | exact wpAny_pure hQ
        | (refine wpAny_bind (wpAny_load ho ?_)
           rw [hc, hd]
           show wpAny M A (if (["enumerate", "zip", "dict_itemiterator", "dict_reverseitemiterator", "odict_iterator", "itertools.zip_longest", "itertools.pairwise"].contains n && vs[0]? == some (rawInt _)) = true then _ else _) Q E s
           rw [if_neg (by intro h; rw [hn, Bool.false_and] at h; cases h)]
           exact wpAny_pure hQ))
def Itl (K : PySem.W.Frag) (a : Addr) : It :=
  ⟨fun i H => ∃ xs x, SqL K H a xs ∧ xs[i]? = some x, fun i H x H' => H' = H ∧ ∀ xs, SqL K H a xs → xs[i]? = some x, fun i H => ∃ xs, SqL K H a xs ∧ xs.length ≤ i⟩
def Itr (lo : Int) (n : Nat) : It := ⟨fun i _ => i < n, fun i H x H' => H' = H ∧ x = .int (lo + i), fun i _ => n ≤ i⟩
theorem turn_list {P : Program} {w : World} {K : PySem.W.Frag} {tg : Expr} (a it : Addr) : Turn P w K tg (Itl K a) [it] it (fun i h => h.IsListIter it a i) where
  mem := by simp
  obj := fun i h st b hb => by
    have e : b = it := by simpa using hb
    subst e
    obtain ⟨o, e, c, d⟩ := st
    exact ⟨o, e, fun v z => by rw [d] at z; cases z⟩
  keep := fun i h h' st k => st.at fun o e => k it (by simp) o e
  item := by
    intro X hP hw hK hc i pins s σ H E I hf st hg
    subst hP hw hK
    obtain ⟨xs, x, hq, hx⟩ := hg
    obtain ⟨its, rv, p, hz⟩ := I.list hq
    obtain ⟨u, hu, ru⟩ := rv.get hx
    obtain ⟨f0, f1, f2, f3, f4, f5⟩ := hf it (by simp)
    refine wpAny_pyNext_list_item st p.isList (x := u) (by simpa using hu) fun h' st' sb => ?_
    have I1 : Inv X pins σ H { s with heap := h' } := I.turned (t' := s.toks) (fun b o hb e => (sb.2 b hb).trans e) f0 f1 f3 f4 f5
    obtain ⟨o, e, c, d⟩ := id st'
    exact ⟨u, rfl, go_of (s := { s with heap := h' }) e c d (by decide) ⟨x, H, I1, ru, ⟨rfl, fun ys hy => by rw [I.list_inj hy hq]; exact hx⟩, st', fun b hb => (hf b hb).1⟩⟩
  done := by
    intro X hP hw hK hc i pins s σ H E I hf st hg
    subst hP hw hK
    obtain ⟨xs, hq, hx⟩ := hg
    obtain ⟨its, rv, p, hz⟩ := I.list hq
    obtain ⟨f0, f1, f2, f3, f4, f5⟩ := hf it (by simp)
    have hl := rv.length
    exact wpAny_pyNext_list_end (I.ok.hd hc) st p.isList (by simp; omega) fun h' eb => ⟨rfl, I.turned (t' := s.toks) (fun b o hb e => eb b o hb e) f0 f1 f3 f4 f5⟩
  self := fun _ _ _ _ _ st h => wpAny_pyIter_listiter st h
theorem turn_range {P : Program} {w : World} {K : PySem.W.Frag} {tg : Expr} (it : Addr) (lo : Int) (n : Nat) : Turn P w K tg (Itr lo n) [it] it (fun i h => IsRangeIter h it (lo + (i : Nat) * 1) ((n : Int) - (i : Nat)) 1) where
  mem := by simp
  obj := fun i h st b hb => by
    have e : b = it := by simpa using hb
    subst e
    exact ⟨_, st, fun v z => by
      have z' : Data.fields _ = Data.cell v := z
      cases z'⟩
  keep := fun i h h' st k => k it (by simp) _ st
  item := by
    intro X hP hw hK hc i pins s σ H E I hf st hg
    subst hP hw hK
    obtain ⟨f0, f1, f2, f3, f4, f5⟩ := hf it (by simp)
    have W := Walks.range (prog := X.prog) (w := X.w) (I.ok.hd hc) it lo 1 n
    refine W.item i s _ _ hg st fun v h' tk hv st' kk => ?_
    obtain ⟨t, rfl⟩ := hv
    have I1 : Inv X pins σ H { s with heap := h', toks := tk } := I.turned (fun b o hb e => kk b o (by simpa using hb) e) f0 f1 f3 f4 f5
    refine ⟨_, rfl, go_of (s := { s with heap := h', toks := tk }) (n := "range_iterator") st' rfl rfl (by decide) ⟨.int (lo + i), H, I1, ⟨t, ?_⟩, ⟨rfl, rfl⟩, st', fun b hb => (hf b hb).1⟩⟩
    rw [Int.mul_one]
  done := by
    intro X hP hw hK hc i pins s σ H E I hf st hg
    subst hP hw hK
    obtain ⟨f0, f1, f2, f3, f4, f5⟩ := hf it (by simp)
    exact wpAny_pyNext_range_end (I.ok.hd hc) st (by have : n ≤ i := hg; omega) fun h' eb => ⟨rfl, I.turned (t' := s.toks) (fun b o hb e => eb b o hb e) f0 f1 f3 f4 f5⟩
  self := fun _ _ _ _ _ st h => wpAny_pyIter_rangeiter st h
end L2
namespace L2
open PySem PySem.Spec PyProof.Rows
section
variable {X : Cx} {tg : Expr}
def iList (K : PySem.W.Frag) (tl : TE) : TI := fun σ H R => tl σ H fun x H1 => ∃ a, x = .ref a ∧ (∃ xs, SqL K H1 a xs) ∧ R (Itl K a) H1
theorem pi_list {l : Expr} {tl : TE} (hl : PE X l tl) : PI X tg l (iList X.K tl) := by
  intro pins s σ H R I h
  refine thn (hl pins s σ H _ I h) fun v s1 ⟨x, H1, I1, r1, q1⟩ => ?_
  obtain ⟨a, e, ⟨xs, hq⟩, q⟩ := q1
  subst e
  cases r1
  obtain ⟨its, rv, p, hz⟩ := I1.list hq
  refine wpAny_pyIter_list p.isList ?_
  refine ⟨s1.heap.objs.size, [s1.heap.objs.size], _, _, H1, rfl, I1.kept (t' := s1.toks) fun b o e => Heap.get?_push_of_some _ e, turn_list a _, ⟨_, Heap.get?_push_size _ rfl, rfl, rfl⟩, fun b hb => ?_, q⟩
  have e : b = s1.heap.objs.size := by simpa using hb
  subst e
  exact I1.fpOk (Nat.le_refl _) (I1.hok.fresh (Nat.le_refl _))
theorem range_it {pins : List (Addr × Obj)} {σ : St} {H : Hp} {s : Shared} {R : It → Hp → Prop} {E : Value → Shared → Prop} {lo hi : Int} {t u v : Tok} {tk : Nat} (I : Inv X pins σ H s) (h1 : -(2 ^ 62) ≤ lo) (h2 : lo < 2 ^ 62) (h3 : -(2 ^ 62) ≤ hi) (h4 : hi < 2 ^ 62)
    (q : R (Itr lo (hi - lo).toNat) H) : wpAny (model X.prog X.w) X.A (pyIter (.ref s.heap.objs.size)) (PIE X pins σ tg R) E { s with heap := s.heap.push { cls := .type "range", data := .fields #[.int lo t, .int hi u, .int 1 v] }, toks := tk } := by
  refine wpAny_pyIter_range (IsRange.new ..) (small_one h1 h2 h3 h4) ?_
  have I1 : Inv X pins σ H { s with heap := s.heap.push { cls := .type "range", data := .fields #[.int lo t, .int hi u, .int 1 v] }, toks := tk } := I.kept fun b o e => Heap.get?_push_of_some _ e
  refine ⟨(s.heap.push { cls := .type "range", data := .fields #[.int lo t, .int hi u, .int 1 v] }).objs.size, [(s.heap.push { cls := .type "range", data := .fields #[.int lo t, .int hi u, .int 1 v] }).objs.size], _, _, H, rfl,
    I1.kept (t' := tk) fun b o e => Heap.get?_push_of_some _ e, turn_range _ lo (hi - lo).toNat, ?_, fun b hb => ?_, q⟩
  · have e1 : lo + ((0 : Nat) : Int) * 1 = lo := by simp
    have e2 : (((hi - lo).toNat : Nat) : Int) - ((0 : Nat) : Int) = Builtin.Range.rangeSize lo hi 1 := by rw [rangeSize_one]; split <;> omega
    show IsRangeIter _ _ (lo + ((0 : Nat) : Int) * 1) ((((hi - lo).toNat : Nat) : Int) - ((0 : Nat) : Int)) 1
    rw [e1, e2]
    exact Heap.get?_push_size _ rfl
  · have e : b = (s.heap.push { cls := .type "range", data := .fields #[.int lo t, .int hi u, .int 1 v] }).objs.size := by simpa using hb
    subst e
    exact I1.fpOk (Nat.le_refl _) (I1.hok.fresh (Nat.le_refl _))
def iRng1 (ta : TA) : TI := fun σ H R => ta σ H fun vs H1 => ∃ j : Int, vs = [.int j] ∧ -(2 ^ 62) ≤ j ∧ j < 2 ^ 62 ∧ R (Itr 0 j.toNat) H1
theorem pi_range1 {a : Expr} {ta : TA} {p pos : Pos} (hg : Gl X "range") (hm : X.mg "range" = none) (ha : PA X [a] ta) (hs : starEach [a] X.env = [(false, eval a X.env)] := by rfl) : PI X tg (.Call (.Name "range" p) [a] [] pos) (iRng1 ta) := by
  intro pins s σ H R I h
  refine Call_ (ld_blt I hg hm boot_range (PyProof.Rows.callWith_type1 (thn (ha pos pins s σ H _ I h) fun us s1 ⟨vs, H1, I1, r1, q1⟩ => ?_) hs rfl))
  obtain ⟨j, e, q1, q2, q⟩ := q1
  subst e
  cases r1 with
  | cons r rr =>
    cases rr
    obtain ⟨t, rfl⟩ := r
    exact call_range_1 (range_it I1 (by omega) (by omega) q1 q2 (by simpa using q))
def tFor (wi : TI) (g : TG) (tb : TS) : TS := fun D σ H => wi σ H fun J H1 => ∃ W : Nat → Nat → St → Hp → Prop, (∃ m, W 0 m σ H1) ∧ ∀ i m σ H, W i m σ H →
  (J.stop i H ∧ D.nx σ H) ∨ (J.go i H ∧ ∃ N : St → Hp → Prop, (∀ σ' H', N σ' H' → ∃ m', m' < m ∧ W (i + 1) m' σ' H') ∧ ∀ x H', J.yld i H x H' → g x σ H' fun σ2 H2 => tb { D with nx := N, ct := N, bk := D.nx } σ2 H2)
def pinsAt (fp : List Addr) (h : Heap) : List (Addr × Obj) := fp.filterMap fun b => (h.get? b).map fun o => (b, o)
theorem mem_pinsAt {fp : List Addr} {h : Heap} {b : Addr} {o : Obj} (hb : b ∈ fp) (e : h.get? b = some o) : (b, o) ∈ pinsAt fp h := List.mem_filterMap.mpr ⟨b, hb, by rw [e]; rfl⟩
theorem of_pinsAt {fp : List Addr} {h : Heap} {p : Addr × Obj} (hp : p ∈ pinsAt fp h) : p.1 ∈ fp ∧ h.get? p.1 = some p.2 := by
  obtain ⟨b, hb, e⟩ := List.mem_filterMap.mp hp
  cases q : h.get? b with
  | none => rw [q] at e; cases e
  | some o =>
    rw [q] at e
    have e' : (b, o) = p := Option.some.inj e
    subst e'
    exact ⟨hb, q⟩
theorem Inv.pinned {pins : List (Addr × Obj)} {σ : St} {H : Hp} {s : Shared} {fp : List Addr} (I : Inv X pins σ H s) (hf : ∀ b ∈ fp, FpOk X pins H b) (ho : ∀ b ∈ fp, ∃ o, s.heap.get? b = some o ∧ ∀ v, o.data ≠ .cell v) : Inv X (pins ++ pinsAt fp s.heap) σ H s :=
  I.pins_of fun p hp => (List.mem_append.mp hp).elim (fun z => I.pin p (List.mem_append_right _ z)) fun z => by
    obtain ⟨hb, e⟩ := of_pinsAt z
    obtain ⟨f0, f1, f2, _⟩ := hf p.1 hb
    obtain ⟨o, e', d⟩ := ho p.1 hb
    rw [e] at e'; cases e'
    exact ⟨e, f0, f1, f2, d⟩
theorem Inv.unpinned {pins pl : List (Addr × Obj)} {σ : St} {H : Hp} {s : Shared} (I : Inv X (pins ++ pl) σ H s) : Inv X pins σ H s := I.pins_of fun p hp => I.pin p (List.mem_append_right _ (List.mem_append_left _ hp))
theorem ps_for {iter : Expr} {body : List Stmt} {wi : TI} {g : TG} {tb : TS} {pos : Pos} (hp : PassesOwn (model X.prog X.w) X.A X.env X.xe) (hc : X.calm = true) (hi : PI X tg iter wi) (hg : PG X tg g) (hb : PSs X body tb)
    (hs : ∀ x, foldedSetIterable iter X.env x = pure x := by intro _; rfl) : PS X (.For tg iter body [] pos) (tFor wi g tb) := by
  intro pins s σ H D I h
  refine wpAny_For (thn (hi pins s σ H _ I h) fun v s1 h1 => thn h1 fun itv s2 h2 => ?_) hs
  obtain ⟨it, fp, tn, J, H2, e, I2, T, st2, f2, W, ⟨m0, w0⟩, turn⟩ := h2
  subst e
  have stat : ∀ {H' : Hp}, (∀ b ∈ fp, H' b = none) → ∀ b ∈ fp, FpOk X pins H' b := fun hn b hb => ⟨hn b hb, (f2 b hb).2⟩
  refine codeAny_forLoop_any (fun n s' => ∃ i σ' H', Inv X pins σ' H' s' ∧ tn i s'.heap ∧ (∀ b ∈ fp, H' b = none) ∧ W i n σ' H') ?_ m0 ⟨0, σ, H2, I2, st2, fun b hb => (f2 b hb).1, w0⟩
  rintro n s3 ⟨i, σ3, H3, I3, st3, fr3, w3⟩
  rcases turn i n σ3 H3 w3 with ⟨stop, qn⟩ | ⟨go, N, hN, step⟩
  · refine wpAny_passesOwn hp (thn (T.done X rfl rfl rfl hc i pins s3 σ3 H3 X.xe I3 (stat fr3) st3 stop) fun r s4 ⟨hr, I4⟩ => ?_)
    subst hr
    exact wpAny_execs_nil ⟨σ3, H3, I4, qn⟩
  · refine wpAny_passesOwn hp (thn (T.item X rfl rfl rfl hc i pins s3 σ3 H3 X.xe I3 (stat fr3) st3 go) fun r s4 ⟨u, hr, h4⟩ => ?_)
    subst hr
    refine wpAny_passesOwn hp (thn h4 fun _ s5 ⟨x, H5, I5, r5, y5, st5, fr5⟩ => ?_)
    have I5' := I5.pinned (stat fr5) (T.obj _ _ st5)
    refine wpAny_passesOwn hp (thn (hg _ s5 σ3 H5 x u _ I5' r5 (step x H5 y5)) fun _ s6 ⟨σ6, H6, I6, q6⟩ => ?_)
    refine wpAny_passesOwn hp (thn (hb _ s6 σ6 H6 _ I6 q6) fun f s7 q7 => ?_)
    have again : ∀ {σ7 : St} {H7 : Hp}, Inv X (pins ++ pinsAt fp s5.heap) σ7 H7 s7 → N σ7 H7 → ∃ m, m < n ∧ ∃ i σ' H', Inv X pins σ' H' s7 ∧ tn i s7.heap ∧ (∀ b ∈ fp, H' b = none) ∧ W i m σ' H' := fun {σ7 H7} I7 n7 => by
      obtain ⟨m', hm, w7⟩ := hN σ7 H7 n7
      refine ⟨m', hm, i + 1, σ7, H7, I7.unpinned, T.keep _ _ _ st5 fun b hb o e => (I7.pin (b, o) (List.mem_append_right _ (List.mem_append_right _ (mem_pinsAt hb e)))).1, fun b hb => ?_, w7⟩
      obtain ⟨o, e, d⟩ := T.obj _ _ st5 b hb
      exact (I7.pin (b, o) (List.mem_append_right _ (List.mem_append_right _ (mem_pinsAt hb e)))).2.1
    cases f with
    | next => obtain ⟨σ7, H7, I7, n7⟩ := q7; exact again I7 n7
    | cont => obtain ⟨σ7, H7, I7, n7⟩ := q7; exact again I7 n7
    | brk => obtain ⟨σ7, H7, I7, q7⟩ := q7; exact ⟨σ7, H7, I7.unpinned, q7⟩
    | ret v => obtain ⟨x7, σ7, H7, I7, r7, q7⟩ := q7; exact ⟨x7, σ7, H7, I7.unpinned, r7, q7⟩
end
end L2
namespace L2
open PySem PySem.Spec PyProof.Rows
abbrev R2 := V → V → Hp → VK → Prop
def OpR (X : Cx) (f : Value → Value → Sem Value) (r : R2) : Prop :=
  ∀ (pins : List (Addr × Obj)) (s : Shared) (σ : St) (H : Hp) (x y : V) (v u : Value) (Q : VK), Inv X pins σ H s → RelV x v → RelV y u → r x y H Q →
    wpAny (model X.prog X.w) X.A (f v u) (EP X pins σ Q) X.xe s
def UnR (X : Cx) (f : Value → Sem Value) (r : V → Hp → VK → Prop) : Prop :=
  ∀ (pins : List (Addr × Obj)) (s : Shared) (σ : St) (H : Hp) (x : V) (v : Value) (Q : VK), Inv X pins σ H s → RelV x v → r x H Q →
    wpAny (model X.prog X.w) X.A (f v) (EP X pins σ Q) X.xe s
def CallR (X : Cx) (f : Value) (r : List V → Hp → VK → Prop) : Prop :=
  ∀ (pins : List (Addr × Obj)) (s : Shared) (σ : St) (H : Hp) (xs : List V) (us : List Value) (Q : VK), Inv X pins σ H s → Vals xs us → r xs H Q →
    wpAny (model X.prog X.w) X.A (call f us) (EP X pins σ Q) X.xe s
def TruR (X : Cx) (r : V → Hp → (Bool → Hp → Prop) → Prop) : Prop :=
  ∀ (pins : List (Addr × Obj)) (s : Shared) (σ : St) (H : Hp) (x : V) (v : Value) (Q : Bool → Hp → Prop), Inv X pins σ H s → RelV x v → r x H Q →
    wpAny (model X.prog X.w) X.A (truthy v) (TP X pins σ Q) X.xe s
def tOp (r : R2) (ta tb : TE) : TE := fun σ H Q => ta σ H fun x H1 => tb σ H1 fun y H2 => r x y H2 Q
def tUn (r : V → Hp → VK → Prop) (ta : TE) : TE := fun σ H Q => ta σ H fun x H1 => r x H1 Q
def rI (C : Int → Int → Prop) (g : Int → Int → V) : R2 := fun x y H Q => ∃ i j, x = .int i ∧ y = .int j ∧ C i j ∧ Q (g i j) H
def rI0 (g : Int → Int → V) : R2 := fun x y H Q => ∃ i j, x = .int i ∧ y = .int j ∧ Q (g i j) H
def rU (g : Int → V) : V → Hp → VK → Prop := fun x H Q => ∃ i, x = .int i ∧ Q (g i) H
section
variable {X : Cx} {a b c : Expr} {ta tb tc : TE} {pos : Pos}
theorem binT (ha : PE X a ta) (hb : PE X b tb) {pins : List (Addr × Obj)} {s : Shared} {σ : St} {H : Hp} {R : V → V → Hp → Prop} (I : Inv X pins σ H s)
    (h : ta σ H fun x H1 => tb σ H1 fun y H2 => R x y H2) {Q : Value → Shared → Prop} {f : Value → Value → Sem Value}
    (hf : ∀ v u s2 x y H2, Inv X pins σ H2 s2 → RelV x v → RelV y u → R x y H2 → wpAny (model X.prog X.w) X.A (f v u) Q X.xe s2) :
    wpAny (model X.prog X.w) X.A (eval a X.env) (fun v s₁ => wpAny (model X.prog X.w) X.A (eval b X.env) (fun u s₂ => wpAny (model X.prog X.w) X.A (f v u) Q X.xe s₂) X.xe s₁) X.xe s := by
  refine thn (ha pins s σ H _ I h) fun v s1 ⟨x, H1, I1, r1, q1⟩ => ?_
  refine thn (hb pins s1 σ H1 _ I1 q1) fun u s2 ⟨y, H2, I2, r2, q2⟩ => ?_
  exact hf v u s2 x y H2 I2 r1 r2 q2
theorem pe_op {op : Operator} {r : R2} (ho : OpR X (binaryOp op) r) (ha : PE X a ta) (hb : PE X b tb) : PE X (.BinOp a op b pos) (tOp r ta tb) := by
  intro pins s σ H Q I h
  exact wpAny_BinOp (binT ha hb I h fun v u s2 x y H2 I2 rx ry q => ho pins s2 σ H2 x y v u Q I2 rx ry q)
theorem pe_un {op : UnaryOp} {r : V → Hp → VK → Prop} (ho : UnR X (unaryOp op) r) (ha : PE X a ta) : PE X (.UnaryOp op a pos) (tUn r ta) := by
  intro pins s σ H Q I h
  exact UnaryOp_ (thn (ha pins s σ H _ I h) fun v s1 ⟨x, H1, I1, r1, q1⟩ => ho pins s1 σ H1 x v Q I1 r1 q1)
theorem opI {f : Value → Value → Sem Value} {C : Int → Int → Prop} {g : Int → Int → Int}
    (rule : ∀ (i j : Int) (t u : Tok) (s : Shared) (Q : Value → Shared → Prop) (E : Value → Shared → Prop), C i j → Q (.int (g i j) s.toks) { s with toks := s.toks + 1 } → wpAny (model X.prog X.w) X.A (f (.int i t) (.int j u)) Q E s) :
    OpR X f (rI C fun i j => .int (g i j)) := by
  intro pins s σ H x y v u Q I rx ry h
  obtain ⟨i, j, rfl, rfl, hc, q⟩ := h
  obtain ⟨t, rfl⟩ := rx
  obtain ⟨t', rfl⟩ := ry
  exact rule i j t t' s _ _ hc ⟨.int (g i j), H, I.tok _, ⟨_, rfl⟩, q⟩
theorem opI0 {f : Value → Value → Sem Value} {g : Int → Int → Int}
    (rule : ∀ (i j : Int) (t u : Tok) (s : Shared) (Q : Value → Shared → Prop) (E : Value → Shared → Prop), Q (.int (g i j) s.toks) { s with toks := s.toks + 1 } → wpAny (model X.prog X.w) X.A (f (.int i t) (.int j u)) Q E s) :
    OpR X f (rI0 fun i j => .int (g i j)) := by
  intro pins s σ H x y v u Q I rx ry h
  obtain ⟨i, j, rfl, rfl, q⟩ := h
  obtain ⟨t, rfl⟩ := rx
  obtain ⟨t', rfl⟩ := ry
  exact rule i j t t' s _ _ ⟨.int (g i j), H, I.tok _, ⟨_, rfl⟩, q⟩
theorem opB0 {f : Value → Value → Sem Value} {g : Int → Int → Bool}
    (rule : ∀ (i j : Int) (t u : Tok) (s : Shared) (Q : Value → Shared → Prop) (E : Value → Shared → Prop), Q (.bool (g i j)) s → wpAny (model X.prog X.w) X.A (f (.int i t) (.int j u)) Q E s) :
    OpR X f (rI0 fun i j => .bl (g i j)) := by
  intro pins s σ H x y v u Q I rx ry h
  obtain ⟨i, j, rfl, rfl, q⟩ := h
  obtain ⟨t, rfl⟩ := rx
  obtain ⟨t', rfl⟩ := ry
  exact rule i j t t' s _ _ ⟨.bl (g i j), H, I, rfl, q⟩
def CDiv (i j : Int) : Prop := 0 < j ∧ j < 1073741824
def CPow (i j : Int) : Prop := 0 ≤ j ∧ j ≤ 1000000 ∧ i.natAbs < 2 ^ 64
def CMul (i j : Int) : Prop := (-(2 ^ 64) < i ∧ i < 2 ^ 64) ∨ (-(2 ^ 64) < j ∧ j < 2 ^ 64)
theorem CMul.ok {i j : Int} (h : CMul i j) : IntMulOk i j := by
  rcases h with ⟨h1, h2⟩ | ⟨h1, h2⟩
  · exact .of_left (intBits_le_64 h1 h2)
  · exact .of_right (intBits_le_64 h1 h2)
theorem op_add : OpR X (binaryOp .Add) (rI0 fun i j => .int (i + j)) := opI0 fun _ _ _ _ _ _ _ q => add_int q
theorem op_sub : OpR X (binaryOp .Sub) (rI0 fun i j => .int (i - j)) := opI0 fun _ _ _ _ _ _ _ q => sub_int q
theorem op_mul : OpR X (binaryOp .Mult) (rI CMul fun i j => .int (i * j)) := opI fun _ _ _ _ _ _ _ hc q => mul_int q hc.ok
theorem op_fdiv : OpR X (binaryOp .FloorDiv) (rI CDiv fun i j => .int (i / j)) := opI fun i j _ _ _ _ _ hc q => by
  have h1 : (0 : Int) < j := hc.1
  have h2 : j < 1073741824 := hc.2
  exact floordiv_int (by omega) (by rw [Int.fdiv_eq_ediv_of_nonneg i (by omega)]; exact q) (.inl (PyProof.noPylong_small (by omega)))
theorem op_mod : OpR X (binaryOp .Mod) (rI (fun _ j => 0 < j) fun i j => .int (i % j)) := opI fun i j _ _ _ _ _ hc q => by
  have h1 : (0 : Int) < j := hc
  exact mod_int' (by omega) (by rw [Int.fmod_eq_emod_of_nonneg i (by omega)]; exact q)
theorem op_pow : OpR X (binaryOp .Pow) (rI CPow fun i j => .int (i ^ j.toNat)) := opI fun _ _ _ _ _ _ _ hc q => pow_int_small hc.1 hc.2.1 hc.2.2 q
theorem unI {f : Value → Sem Value} {g : Int → Int}
    (rule : ∀ (i : Int) (t : Tok) (s : Shared) (Q : Value → Shared → Prop) (E : Value → Shared → Prop), Q (.int (g i) s.toks) { s with toks := s.toks + 1 } → wpAny (model X.prog X.w) X.A (f (.int i t)) Q E s) :
    UnR X f (rU fun i => .int (g i)) := by
  intro pins s σ H x v Q I rx h
  obtain ⟨i, rfl, q⟩ := h
  obtain ⟨t, rfl⟩ := rx
  exact rule i t s _ _ ⟨.int (g i), H, I.tok _, ⟨_, rfl⟩, q⟩
theorem un_neg : UnR X (unaryOp .USub) (rU fun i => .int (-i)) := unI fun _ _ _ _ _ q => neg_int q
end
def scal : V → V → Bool
  | .non, .non => true | .non, .int _ => true | .int _, .non => true | .non, .bl _ => true | .bl _, .non => true | .non, .str _ => true | .str _, .non => true
  | .int _, .int _ => true | .bl _, .bl _ => true | .str _, .str _ => true | .byt _, .byt _ => true
  | .int _, .str _ => true | .str _, .int _ => true | .bl _, .str _ => true | .str _, .bl _ => true
  | _, _ => false
def rEq : R2 := fun x y H Q => scal x y = true ∧ Q (.bl (decide (x = y))) H
def rNe : R2 := fun x y H Q => scal x y = true ∧ Q (.bl (!decide (x = y))) H
theorem dec_int {i j : Int} : decide (V.int i = V.int j) = (i == j) := by
  rw [Bool.eq_iff_iff]
  simp
theorem dec_bl {i j : Bool} : decide (V.bl i = V.bl j) = (i == j) := by
  rw [Bool.eq_iff_iff]
  simp
theorem dec_str {i j : Str} : decide (V.str i = V.str j) = (i == j) := by
  rw [Bool.eq_iff_iff]
  simp
theorem dec_byt {i j : Array UInt8} : decide (V.byt i = V.byt j) = (i.toList == j.toList) := by
  rw [Bool.eq_iff_iff]
  cases i
  cases j
  simp
section
variable {X : Cx} {a b c : Expr} {ta tb tc : TE} {pos : Pos}
theorem fin_bl {pins : List (Addr × Obj)} {σ : St} {H : Hp} {s : Shared} {Q : VK} {k k' : Bool} (I : Inv X pins σ H s) (q : Q (.bl k) H) (e : k = k') : EP X pins σ Q (.bool k') s := by
  subst e
  exact ⟨.bl k, H, I, rfl, q⟩
theorem op_eq : OpR X (compareOp .Eq) rEq := by
  intro pins s σ H x y v u Q I rx ry h
  obtain ⟨hs, q⟩ := h
  cases x with
  | non =>
    cases rx
    cases y with
    | non => cases ry; exact PySem.EqNone.eq_none_none (fin_bl I q (by simp))
    | bl j => cases ry; exact PySem.EqNone.eq_none_bool (fin_bl I q (by simp))
    | int j => obtain ⟨t', rfl⟩ := ry; exact PySem.EqNone.eq_none_int (fin_bl I q (by simp))
    | str j => obtain ⟨t', rfl⟩ := ry; exact PySem.EqNone.eq_none_str (fin_bl I q (by simp))
    | _ => exact absurd (show false = true from hs) Bool.false_ne_true
  | bl i =>
    cases rx
    cases y with
    | non => cases ry; exact PySem.EqNone.eq_bool_none (fin_bl I q (by simp))
    | bl j => cases ry; exact eq_bool (fin_bl I q dec_bl)
    | str j => obtain ⟨t', rfl⟩ := ry; exact PySem.EqMixed.eq_bool_str (fin_bl I q (by simp))
    | _ => exact absurd (show false = true from hs) Bool.false_ne_true
  | int i =>
    obtain ⟨t, rfl⟩ := rx
    cases y with
    | non => cases ry; exact PySem.EqNone.eq_int_none (fin_bl I q (by simp))
    | int j => obtain ⟨t', rfl⟩ := ry; exact eq_int (fin_bl I q dec_int)
    | str j => obtain ⟨t', rfl⟩ := ry; exact PySem.EqMixed.eq_int_str (fin_bl I q (by simp))
    | _ => exact absurd (show false = true from hs) Bool.false_ne_true
  | str i =>
    obtain ⟨t, rfl⟩ := rx
    cases y with
    | non => cases ry; exact PySem.EqNone.eq_str_none (fin_bl I q (by simp))
    | bl j => cases ry; exact PySem.EqMixed.eq_str_bool (fin_bl I q (by simp))
    | int j => obtain ⟨t', rfl⟩ := ry; exact PySem.EqMixed.eq_str_int (fin_bl I q (by simp))
    | str j => obtain ⟨t', rfl⟩ := ry; exact eq_str (fin_bl I q dec_str)
    | _ => exact absurd (show false = true from hs) Bool.false_ne_true
  | byt i =>
    obtain ⟨t, rfl⟩ := rx
    cases y with
    | byt j => obtain ⟨t', rfl⟩ := ry; exact PySem.W.eq_bytes (fin_bl I q dec_byt)
    | _ => exact absurd (show false = true from hs) Bool.false_ne_true
  | _ => cases y <;> exact absurd (show false = true from hs) Bool.false_ne_true
theorem op_ne : OpR X (compareOp .NotEq) rNe := by
  intro pins s σ H x y v u Q I rx ry h
  obtain ⟨hs, q⟩ := h
  cases x with
  | non =>
    cases rx
    cases y with
    | non => cases ry; exact PySem.EqNone.ne_none_none (fin_bl I q (by simp))
    | bl j => cases ry; exact PySem.EqNone.ne_none_bool (fin_bl I q (by simp))
    | int j => obtain ⟨t', rfl⟩ := ry; exact PySem.EqNone.ne_none_int (fin_bl I q (by simp))
    | str j => obtain ⟨t', rfl⟩ := ry; exact PySem.EqNone.ne_none_str (fin_bl I q (by simp))
    | _ => exact absurd (show false = true from hs) Bool.false_ne_true
  | bl i =>
    cases rx
    cases y with
    | non => cases ry; exact PySem.EqNone.ne_bool_none (fin_bl I q (by simp))
    | bl j => cases ry; exact ne_bool (fin_bl I q (congrArg not dec_bl))
    | str j => obtain ⟨t', rfl⟩ := ry; exact PySem.EqMixed.ne_bool_str (fin_bl I q (by simp))
    | _ => exact absurd (show false = true from hs) Bool.false_ne_true
  | int i =>
    obtain ⟨t, rfl⟩ := rx
    cases y with
    | non => cases ry; exact PySem.EqNone.ne_int_none (fin_bl I q (by simp))
    | int j => obtain ⟨t', rfl⟩ := ry; exact ne_int (fin_bl I q (congrArg not dec_int))
    | str j => obtain ⟨t', rfl⟩ := ry; exact PySem.EqMixed.ne_int_str (fin_bl I q (by simp))
    | _ => exact absurd (show false = true from hs) Bool.false_ne_true
  | str i =>
    obtain ⟨t, rfl⟩ := rx
    cases y with
    | non => cases ry; exact PySem.EqNone.ne_str_none (fin_bl I q (by simp))
    | bl j => cases ry; exact PySem.EqMixed.ne_str_bool (fin_bl I q (by simp))
    | int j => obtain ⟨t', rfl⟩ := ry; exact PySem.EqMixed.ne_str_int (fin_bl I q (by simp))
    | str j => obtain ⟨t', rfl⟩ := ry; exact ne_str (fin_bl I q (congrArg not dec_str))
    | _ => exact absurd (show false = true from hs) Bool.false_ne_true
  | byt i =>
    obtain ⟨t, rfl⟩ := rx
    cases y with
    | byt j => obtain ⟨t', rfl⟩ := ry; exact PySem.W.ne_bytes (fin_bl I q (congrArg not dec_byt))
    | _ => exact absurd (show false = true from hs) Bool.false_ne_true
  | _ => cases y <;> exact absurd (show false = true from hs) Bool.false_ne_true
theorem op_lt : OpR X (compareOp .Lt) (rI0 fun i j => .bl (decide (i < j))) := opB0 fun _ _ _ _ _ _ _ q => lt_int q
theorem op_le : OpR X (compareOp .LtE) (rI0 fun i j => .bl (decide (i ≤ j))) := opB0 fun _ _ _ _ _ _ _ q => le_int q
theorem op_gt : OpR X (compareOp .Gt) (rI0 fun i j => .bl (decide (j < i))) := opB0 fun _ _ _ _ _ _ _ q => gt_int q
theorem op_ge : OpR X (compareOp .GtE) (rI0 fun i j => .bl (decide (j ≤ i))) := opB0 fun _ _ _ _ _ _ _ q => ge_int q
theorem op_isN : OpR X (compareOp .Is) (fun x y H Q => y = .non ∧ Q (.bl (decide (x = .non))) H) := by
  intro pins s σ H x y v u Q I rx ry h
  obtain ⟨rfl, q⟩ := h
  cases ry
  refine is_none_gen (fin_bl I q ?_)
  cases x <;> first
    | (cases rx; rfl)
    | (obtain ⟨t, rfl⟩ := rx; rfl)
theorem OpR.or {f : Value → Value → Sem Value} {r r' : R2} (h : OpR X f r) (h' : OpR X f r') : OpR X f (fun x y H Q => r x y H Q ∨ r' x y H Q) := by
  intro pins s σ H x y v u Q I rx ry q
  rcases q with q | q
  · exact h pins s σ H x y v u Q I rx ry q
  · exact h' pins s σ H x y v u Q I rx ry q
theorem nomark (b : Expr) {op : CmpOp} (h : op ≠ .In := by decide) (h2 : op ≠ .NotIn := by decide) : behindInMarks op b = false := by
  have e1 : (op == CmpOp.In) = false := by cases op <;> first | rfl | exact absurd rfl h
  have e2 : (op == CmpOp.NotIn) = false := by cases op <;> first | rfl | exact absurd rfl h2
  cases b <;> simp [behindInMarks, e1, e2]
theorem pe_cmpR {op : CmpOp} {r : R2} (ho : OpR X (compareOp op) r) (ha : PE X a ta) (hb : PE X b tb) (hm : behindInMarks op b = false) : PE X (.Compare a [op] [b] pos) (tOp r ta tb) := by
  intro pins s σ H Q I h
  exact wpAny_Compare1 (binT ha hb I h fun v u s2 x y H2 I2 rx ry q => ho pins s2 σ H2 x y v u Q I2 rx ry q) hm
def tTest (t : TE) : TT := fun σ H Q => t σ H fun x H' => ∃ k, x = .bl k ∧ Q k H'
theorem pt_cmpR {op : CmpOp} {r : R2} (ho : OpR X (compareOp op) r) (ha : PE X a ta) (hb : PE X b tb) (hm : behindInMarks op b = false) : PT X (.Compare a [op] [b] pos) (tTest (tOp r ta tb)) := by
  intro pins s σ H Q I h
  refine wpAny_isTrue_Compare1 (thn (ha pins s σ H _ I h) fun v s1 ⟨x, H1, I1, r1, q1⟩ => thn (hb pins s1 σ H1 _ I1 q1) fun u s2 ⟨y, H2, I2, r2, q2⟩ =>
    thn (ho pins s2 σ H2 x y v u _ I2 r1 r2 q2) fun c s3 ⟨z, H3, I3, r3, k, e, q3⟩ => ?_) hm
  subst e
  cases r3
  exact wpAny_truthy_bool ⟨H3, I3, q3⟩
def tChain (r r' : R2) (ta tb tc : TE) : TE := fun σ H Q => ta σ H fun x H1 => tb σ H1 fun y H2 => r x y H2 fun z H3 => ∃ k, z = .bl k ∧
  (if k = true then tc σ H3 fun w' H4 => r' y w' H4 Q else Q (.bl false) H3)
theorem pe_chain {op op' : CmpOp} {r r' : R2} (ho : OpR X (compareOp op) r) (ho' : OpR X (compareOp op') r') (ha : PE X a ta) (hb : PE X b tb) (hc : PE X c tc)
    (hm : lastMarks [op, op'] [b, c] = false := by with_unfolding_all rfl) : PE X (.Compare a [op, op'] [b, c] pos) (tChain r r' ta tb tc) := by
  intro pins s σ H Q I h
  refine Compare_chain (thn (ha pins s σ H _ I h) fun v s1 ⟨x, H1, I1, r1, q1⟩ => chain_link (thn (hb pins s1 σ H1 _ I1 q1) fun u s2 ⟨y, H2, I2, r2, q2⟩ =>
    thn (ho pins s2 σ H2 x y v u _ I2 r1 r2 q2) fun d s3 ⟨z, H3, I3, r3, k, e, q3⟩ => ?_)) hm
  subst e
  cases r3
  refine wpAny_truthy_bool ?_
  cases k with
  | false => exact ite_ff ⟨.bl false, H3, I3, rfl, q3⟩
  | true => exact ite_tt (chain_last (thn (hc pins s3 σ H3 _ I3 q3) fun w' s4 ⟨z', H4, I4, r4, q4⟩ => ho' pins s4 σ H4 y z' u w' Q I4 r2 r4 q4))
theorem pt_chain {op op' : CmpOp} {r r' : R2} (ho : OpR X (compareOp op) r) (ho' : OpR X (compareOp op') r') (ha : PE X a ta) (hb : PE X b tb) (hc : PE X c tc)
    (hm : lastMarks [op, op'] [b, c] = false := by with_unfolding_all rfl) : PT X (.Compare a [op, op'] [b, c] pos) (tTest (tChain r r' ta tb tc)) := by
  intro pins s σ H Q I h
  refine isTrue_chain (thn (ha pins s σ H _ I h) fun v s1 ⟨x, H1, I1, r1, q1⟩ => test_link (thn (hb pins s1 σ H1 _ I1 q1) fun u s2 ⟨y, H2, I2, r2, q2⟩ =>
    thn (ho pins s2 σ H2 x y v u _ I2 r1 r2 q2) fun d s3 ⟨z, H3, I3, r3, k, e, q3⟩ => ?_)) hm
  subst e
  cases r3
  refine wpAny_truthy_bool ?_
  cases k with
  | false =>
    obtain ⟨k', e', q'⟩ := q3
    cases e'
    exact ite_ff ⟨H3, I3, q'⟩
  | true =>
    refine ite_tt (test_last (thn (hc pins s3 σ H3 _ I3 q3) fun w' s4 ⟨z', H4, I4, r4, q4⟩ => thn (ho' pins s4 σ H4 y z' u w' _ I4 r2 r4 q4) fun d' s5 ⟨z2, H5, I5, r5, k2, e2, q5⟩ => ?_))
    subst e2
    cases r5
    exact wpAny_truthy_bool ⟨H5, I5, q5⟩
def TruV (K : PySem.W.Frag) (x : V) (H : Hp) (k : Bool) : Prop :=
  match x with
  | .non => k = false
  | .bl b => k = b
  | .int i => k = (i != 0)
  | .str y => y.length ≤ sizeLine ∧ k = ((y.length : Int) != 0)
  | .byt y => y.size ≤ sizeLine ∧ k = ((y.size : Int) != 0)
  | .ref p => (∃ xs, SqL K H p xs ∧ k = !xs.isEmpty) ∨ (∃ xs, SqT K H p xs ∧ k = !xs.isEmpty) ∨ ∃ kvs, H p = some (.dK kvs) ∧ k = !kvs.isEmpty
  | _ => False
theorem isEmpty_kv {κ : Type} {kvs : List (κ × V)} {vs : List (κ × Value)} (r : KV kvs vs) : (!vs.isEmpty) = !kvs.isEmpty := by
  cases r <;> rfl
theorem isEmpty_of {xs : List V} {its : List Value} (r : Vals xs its) : (!its.toArray.isEmpty) = !xs.isEmpty := by
  cases r <;> simp
theorem line63 : (sizeLine : Nat) < 2 ^ 63 := by rw [sizeLine_eq]; decide
theorem tru_ok : TruR X (fun x H Q => ∃ k, TruV X.K x H k ∧ Q k H) := by
  intro pins s σ H x v Q I rx h
  obtain ⟨k, e, q⟩ := h
  have hl := line63
  have hs : sizeLine = 16777216 := sizeLine_eq
  cases x with
  | non =>
    cases rx
    have e' : k = false := e
    subst e'
    exact truthy_none ⟨H, I, q⟩
  | bl b =>
    cases rx
    have e' : k = b := e
    subst e'
    exact wpAny_truthy_bool ⟨H, I, q⟩
  | int i =>
    obtain ⟨t, rfl⟩ := rx
    have e' : k = (i != 0) := e
    subst e'
    exact PySem.P.truthy_int ⟨H, I, q⟩
  | str y =>
    obtain ⟨t, rfl⟩ := rx
    obtain ⟨hy, e'⟩ : y.length ≤ sizeLine ∧ k = ((y.length : Int) != 0) := e
    subst e'
    exact PySem.P.truthy_str (by omega) ⟨H, I.tok _, q⟩
  | byt y =>
    obtain ⟨t, rfl⟩ := rx
    obtain ⟨hy, e'⟩ : y.size ≤ sizeLine ∧ k = ((y.size : Int) != 0) := e
    subst e'
    exact PySem.W.truthy_bytes (by omega) ⟨H, I.tok _, q⟩
  | ref p =>
    cases rx
    have e' : (∃ xs, SqL X.K H p xs ∧ k = !xs.isEmpty) ∨ (∃ xs, SqT X.K H p xs ∧ k = !xs.isEmpty) ∨ ∃ kvs, H p = some (.dK kvs) ∧ k = !kvs.isEmpty := e
    rcases e' with ⟨xs, hx, e'⟩ | ⟨xs, hx, e'⟩ | ⟨kvs, hx, e'⟩
    · subst e'
      obtain ⟨its, r, pl, hz⟩ := I.list hx
      have hlen := r.length
      exact wpAny_truthy_list pl.isList (by simp only [List.size_toArray]; omega) ⟨H, I.tok _, by rw [isEmpty_of r]; exact q⟩
    · subst e'
      obtain ⟨its, r, pl, hz⟩ := I.tuple hx
      have hlen := r.length
      exact truthy_tuple pl (by simp only [List.size_toArray]; omega) ⟨H, I.tok _, by rw [isEmpty_of r]; exact q⟩
    · subst e'
      obtain ⟨hz, hS, vs, r, m⟩ : kvs.length ≤ sizeLine ∧ (p == sysModules) = false ∧ ∃ vs, KV kvs vs ∧ s.heap.DictOf (mixKind X.prog X.w) p vs := I.hok p _ hx
      have hlen : kvs.length = vs.length := Paired.length r
      exact wpAny_truthy_dict hS m (by omega) ⟨H, I.tok _, by rw [isEmpty_kv r]; exact q⟩
  | _ => exact (show False from e).elim
theorem pt_truth (ha : PE X a ta) (he : ∀ whole, isTrue a X.env whole = (do let v ← whole; standAt a.pos; holding [v] (truthy v))) :
    PT X a (fun σ H Q => ta σ H fun x H' => ∃ k, TruV X.K x H' k ∧ Q k H') := by
  intro pins s σ H Q I h
  exact isTrue_plain (thn (ha pins s σ H _ I h) fun v s1 ⟨x, H1, I1, r1, q1⟩ => tru_ok pins s1 σ H1 x v Q I1 r1 q1) (he _)
theorem op_add_str : OpR X (binaryOp .Add) (fun x y H Q => ∃ i j, x = .str i ∧ y = .str j ∧ i.length + j.length ≤ sizeLine ∧ Q (.str (i ++ j)) H) := by
  intro pins s σ H x y v u Q I rx ry h
  obtain ⟨i, j, rfl, rfl, hz, q⟩ := h
  obtain ⟨t, rfl⟩ := rx
  obtain ⟨t', rfl⟩ := ry
  exact add_str (fun t' tk => ⟨.str (i ++ j), H, I.tok _, ⟨_, rfl⟩, q⟩) hz
theorem vals1 {x : V} {us : List Value} (r : Vals [x] us) : ∃ u, us = [u] ∧ RelV x u := by
  cases r with
  | cons r1 r2 => cases r2; exact ⟨_, rfl, r1⟩
theorem vals2 {x y : V} {us : List Value} (r : Vals [x, y] us) : ∃ u w', us = [u, w'] ∧ RelV x u ∧ RelV y w' := by
  cases r with
  | cons r1 r2 =>
    cases r2 with
    | cons r3 r4 => cases r4; exact ⟨_, _, rfl, r1, r3⟩
theorem call_max2 (hc : X.calm = true) : CallR X (.builtin "max") (fun xs H Q => ∃ i j, xs = [.int i, .int j] ∧ Q (.int (if j > i then j else i)) H) := by
  intro pins s σ H xs us Q I r h
  obtain ⟨i, j, rfl, q⟩ := h
  obtain ⟨u, w', rfl, ⟨t, rfl⟩, ⟨t', rfl⟩⟩ := vals2 r
  refine max_two_ints (I.ok.hd hc) fun h' tk k => ⟨_, H, I.kept k, ?_, q⟩
  by_cases hj : j > i
  · rw [if_pos hj, if_pos hj]; exact ⟨_, rfl⟩
  · rw [if_neg hj, if_neg hj]; exact ⟨_, rfl⟩
theorem call_min2 (hc : X.calm = true) : CallR X (.builtin "min") (fun xs H Q => ∃ i j, xs = [.int i, .int j] ∧ Q (.int (if j < i then j else i)) H) := by
  intro pins s σ H xs us Q I r h
  obtain ⟨i, j, rfl, q⟩ := h
  obtain ⟨u, w', rfl, ⟨t, rfl⟩, ⟨t', rfl⟩⟩ := vals2 r
  refine min_two_ints (I.ok.hd hc) fun h' tk k => ⟨_, H, I.kept k, ?_, q⟩
  by_cases hj : j < i
  · rw [if_pos hj, if_pos hj]; exact ⟨_, rfl⟩
  · rw [if_neg hj, if_neg hj]; exact ⟨_, rfl⟩
theorem call_int1 : CallR X (.type "int") (fun xs H Q => (∃ i, xs = [.int i] ∧ Q (.int i) H) ∨ ∃ k, xs = [.bl k] ∧ Q (.int (if k then 1 else 0)) H) := by
  intro pins s σ H xs us Q I r h
  rcases h with ⟨i, rfl, q⟩ | ⟨k, rfl, q⟩
  · obtain ⟨u, rfl, t, rfl⟩ := vals1 r
    exact call_int_int ⟨.int i, H, I, ⟨_, rfl⟩, q⟩
  · obtain ⟨u, rfl, r1⟩ := vals1 r
    cases r1
    exact call_int_bool ⟨.int (if k then 1 else 0), H, I.tok _, ⟨_, rfl⟩, q⟩
def LenV (K : PySem.W.Frag) (x : V) (H : Hp) (n : Nat) : Prop :=
  match x with
  | .str y => y.length ≤ sizeLine ∧ n = y.length
  | .byt y => y.size ≤ sizeLine ∧ n = y.size
  | .ref p => (∃ xs, SqL K H p xs ∧ n = xs.length) ∨ ∃ xs, SqT K H p xs ∧ n = xs.length
  | _ => False
theorem call_len : CallR X (.builtin "len") (fun xs H Q => ∃ x n, xs = [x] ∧ LenV X.K x H n ∧ Q (.int n) H) := by
  intro pins s σ H xs us Q I r h
  obtain ⟨x, n, rfl, e, q⟩ := h
  obtain ⟨u, rfl, rx⟩ := vals1 r
  have hl := line63
  have hs : sizeLine = 16777216 := sizeLine_eq
  cases x with
  | str y =>
    obtain ⟨t, rfl⟩ := rx
    obtain ⟨hy, e'⟩ : y.length ≤ sizeLine ∧ n = y.length := e
    subst e'
    exact len_str (by omega) ⟨.int _, H, I.tok _, ⟨_, rfl⟩, q⟩
  | byt y =>
    obtain ⟨t, rfl⟩ := rx
    obtain ⟨hy, e'⟩ : y.size ≤ sizeLine ∧ n = y.size := e
    subst e'
    exact PySem.W.len_bytes (by omega) ⟨.int _, H, I.tok _, ⟨_, rfl⟩, q⟩
  | ref p =>
    cases rx
    have e' : (∃ xs, SqL X.K H p xs ∧ n = xs.length) ∨ ∃ xs, SqT X.K H p xs ∧ n = xs.length := e
    rcases e' with ⟨xs, hx, e'⟩ | ⟨xs, hx, e'⟩
    · subst e'
      obtain ⟨its, r', pl, hz⟩ := I.list hx
      have hlen := r'.length
      exact Calls.call_len_list pl.isList (by simp only [List.size_toArray]; omega) ⟨.int xs.length, H, I.tok _, ⟨_, by simp only [List.size_toArray]; rw [hlen]⟩, q⟩
    · subst e'
      obtain ⟨its, r', pl, hz⟩ := I.tuple hx
      have hlen := r'.length
      exact len_tuple pl (by simp only [List.size_toArray]; omega) ⟨.int xs.length, H, I.tok _, ⟨_, by simp only [List.size_toArray]; rw [hlen]⟩, q⟩
  | _ => exact (show False from e).elim
end
end L2
namespace L2
open PySem PySem.Spec PyProof.Rows
structure ObjM (h : Heap) (x dx C : Addr) (mA : Str → Option Value) : Prop where
  obj : h.get? x = some (PySem.W.instObj C dx)
  ns : h.Ns1 dx mA
  ne : dx ≠ x
theorem lookIn_ns {h : Heap} {dx : Addr} {mA : Str → Option Value} (n : h.Ns1 dx mA) : ∃ od, h.get? dx = some od ∧ ∀ name, PySem.W.lookIn name od = some (mA name) := by
  obtain ⟨o, es, ep, ho, hd, hk, _, hm⟩ := n
  refine ⟨o, ho, fun name => ?_⟩
  have e := hm name
  unfold nsFind findBy at e
  rw [← Array.find?_toList] at e
  unfold PySem.W.lookIn
  rw [hd]
  dsimp only
  split
  · rename_i y q
    rw [q] at e
    exact congrArg some e
  · rename_i q
    rw [q] at e
    have a : es.toList.any (·.refKey) = false := by
      rw [List.any_eq_false]
      intro y hy
      obtain ⟨z, t, hkey⟩ := hk y (Array.mem_toList_iff.mp hy)
      simp [DictEntry.refKey, hkey]
    have a' : ¬ es.toList.any (·.refKey) = true := by rw [a]; exact Bool.false_ne_true
    rw [if_neg a']
    exact congrArg some e
theorem ObjM.look {h : Heap} {x dx C : Addr} {mA : Str → Option Value} (I : ObjM h x dx C mA) : ∃ od, PySem.W.InstAt h x (PySem.W.instObj C dx) C (some od) ∧ ∀ name, PySem.W.lookIn name od = some (mA name) :=
  let ⟨od, ho, hl⟩ := lookIn_ns I.ns
  ⟨od, ⟨I.obj, rfl, rfl, ho⟩, hl⟩
section
variable {prog : Program} {w : World} {A : Around} {E : Value → Shared → Prop} {s : Shared} {K : PySem.W.Frag} {x dx C f : Addr} {mA : Str → Option Value} {name : Str} {v : Value}
theorem get_map {expr : Bool} {Q : Value → Shared → Prop} (X : K.In s.heap) (I : ObjM s.heap x dx C mA) (hg : PySem.W.plainGet K C name = true) (hh : PySem.W.hasDictIn K C = true)
    (ha : PySem.W.findIn K (.ref C) name = some none) (hv : mA name = some v) (hv' : PySem.W.handedIn v = true) (h : Q v { s with toks := s.toks + 1 }) :
    wpAny (model prog w) A (getAttr (.ref x) name expr) Q E s := by
  obtain ⟨od, J, hl⟩ := I.look
  exact PySem.W.get_value X J (PySem.W.plainGet_of hg).1 (PySem.W.findObj_own hh ha rfl (by rw [hl, hv])) hv' h
theorem set_map {ns : List Str} {Q : Unit → Shared → Prop} (X : K.In s.heap) (I : ObjM s.heap x dx C mA)
    (hs : PySem.W.findIn K (.ref C) "__setattr__" = some (some (.builtin "object.__setattr__"))) (hp : PySem.W.plainOver K C = true) (ht : PySem.W.takerIn K C name = some none) (hh : PySem.W.hasDictIn K C = true)
    (hw : PySem.Within mA ns) (hsz : ns.length ≤ sizeLine)
    (h : ∀ h', ObjM h' x dx C (fun y => if y = name then some v else mA y) → Heap.SameBut dx s.heap h' → Q () { s with heap := h', toks := s.toks + 2 }) :
    wpAny (model prog w) A (setAttr (.ref x) name v) Q E s := by
  obtain ⟨od, J, hl⟩ := I.look
  refine PySem.W.set_plain X J hs (PySem.W.osa_open (s := { s with toks := s.toks + 1 }) (r := none) X J hp ht fun b => ?_)
  obtain ⟨cd, hc, hd'⟩ := PySem.W.any_some hh
  have hx : s.heap.get? x = some ⟨.ref C, some dx, .plain, #[]⟩ := I.obj
  refine wpAny_bind (wpAny_pure (wpAny_bind (wpAny_bind (wpAny_loadPart hx (wpAny_bind (PySem.W.Looks.here (s := { s with toks := s.toks + 1 }) (PySem.W.looks_clsIn X hc) ?_))))))
  rw [hd']
  refine wpAny_pure (a := some dx) (wpAny_bind (wpAny_pure (wpAny_bind ?_)))
  refine wpAny_nsSet1 (s := { s with toks := s.toks + 1 }) I.ns fun h' hn2 hs2 => ?_
  obtain ⟨oD, esD, epD, hoD, hdD, hcD⟩ := hn2.count (PySem.Within.cons name v hw)
  refine wpAny_bind (wpAny_lookBehind hoD (by rw [hdD]; exact pastItsLine_dict (Nat.le_trans hcD (by rw [List.length_cons]; omega))) ?_)
  exact wpAny_pure (h _ ⟨(hs2.2 _ (Ne.symm I.ne)).trans I.obj, hn2, I.ne⟩ hs2)
theorem make_map {R : Result → Shared → Prop} {vs : List Value} {kw : List (Str × Value)} (X : K.In s.heap) (hm : PySem.W.makesIn K C = true)
    (hi : PySem.W.findIn K (.ref C) "__init__" = some (some (.ref f))) (hf : PySem.W.typeIn K (.ref f) = some (.type "function"))
    (h : codeAny (model prog w) (A.under (.builtin "type.__call__" ⟨.ref C :: vs, kw⟩)) (.call (.ref f) ⟨.ref (s.heap.objs.size + 1) :: vs, kw⟩) (PySem.W.InitBack (s.heap.objs.size + 1) R)
      { s with heap := (s.heap.push PySem.W.emptyDict).push (PySem.W.instObj C s.heap.objs.size) }) :
    codeAny (model prog w) A (.call (.ref C) ⟨vs, kw⟩) R s := by
  obtain ⟨hh, g, d, t, os⟩ := s
  exact PySem.W.make_core (PySem.W.makes_of X hm) (PySem.W.looks_findIn X hi) (fun self => PySem.W.bind_fn X self hf) (.inl rfl) h
end
def putF (f : Str) (v : V) : List (Str × V) → List (Str × V)
  | [] => [(f, v)]
  | (g, x) :: r => if g = f then (g, v) :: r else (g, x) :: putF f v r
theorem lookup_putF (f g : Str) (v : V) : ∀ fs : List (Str × V), (putF f v fs).lookup g = if g = f then some v else fs.lookup g
  | [] => by
    show List.lookup g [(f, v)] = _
    by_cases h : g = f
    · have hb : (g == f) = true := beq_iff_eq.mpr h
      simp only [List.lookup, hb, if_pos h]
    · have hb : (g == f) = false := beq_eq_false_iff_ne.mpr h
      simp only [List.lookup, hb, if_neg h]
  | (k, x) :: r => by
    have ih := lookup_putF f g v r
    rw [show putF f v ((k, x) :: r) = (if k = f then (k, v) :: r else (k, x) :: putF f v r) from rfl]
    by_cases hk : k = f
    · rw [if_pos hk]
      by_cases h : g = k
      · have hb : (g == k) = true := beq_iff_eq.mpr h
        simp only [List.lookup, hb, if_pos (h.trans hk)]
      · have hb : (g == k) = false := beq_eq_false_iff_ne.mpr h
        simp only [List.lookup, hb, if_neg (fun e : g = f => h (e.trans hk.symm))]
    · rw [if_neg hk]
      by_cases h : g = k
      · have hb : (g == k) = true := beq_iff_eq.mpr h
        simp only [List.lookup, hb, if_neg (fun e : g = f => hk (h.symm.trans e))]
      · have hb : (g == k) = false := beq_eq_false_iff_ne.mpr h
        simp only [List.lookup, hb]
        exact ih
theorem keys_putF (f : Str) (v : V) : ∀ fs : List (Str × V), f ∈ (putF f v fs).map (·.1) ∧ ∀ g, g ∈ fs.map (·.1) → g ∈ (putF f v fs).map (·.1)
  | [] => ⟨by simp [putF], fun g h => by simp at h⟩
  | (k, x) :: r => by
    obtain ⟨i1, i2⟩ := keys_putF f v r
    rw [show putF f v ((k, x) :: r) = (if k = f then (k, v) :: r else (k, x) :: putF f v r) from rfl]
    by_cases hk : k = f
    · rw [if_pos hk]
      subst hk
      exact ⟨by simp, fun g h => by simpa using h⟩
    · rw [if_neg hk]
      refine ⟨?_, fun g h => ?_⟩
      · rw [List.map_cons]
        exact List.mem_cons_of_mem _ i1
      · rw [List.map_cons] at h ⊢
        rcases List.mem_cons.mp h with e | e
        · exact List.mem_cons.mpr (.inl e)
        · exact List.mem_cons_of_mem _ (i2 g e)
theorem length_putF (f : Str) (v : V) : ∀ fs : List (Str × V), (putF f v fs).length ≤ fs.length + 1
  | [] => by simp [putF]
  | (k, x) :: r => by
    have ih := length_putF f v r
    rw [show putF f v ((k, x) :: r) = (if k = f then (k, v) :: r else (k, x) :: putF f v r) from rfl]
    by_cases hk : k = f
    · rw [if_pos hk, List.length_cons, List.length_cons]; omega
    · rw [if_neg hk, List.length_cons, List.length_cons]; omega
theorem RelO.some_of {v : V} {o : Option Value} (r : RelO (some v) o) : ∃ u, o = some u ∧ RelV v u := by
  cases o with
  | none => exact (show False from r).elim
  | some u => exact ⟨u, rfl, r⟩
theorem handed_of {v : V} {u : Value} (r : RelV v u) : PySem.W.handedIn u = true := by
  cases v with
  | non => cases (show u = Value.none from r); rfl
  | bl b => cases (show u = Value.bool b from r); rfl
  | int i => obtain ⟨t, e⟩ := (show ∃ t, u = Value.int i t from r); cases e; rfl
  | str x => obtain ⟨t, e⟩ := (show ∃ t, u = Value.str x t from r); cases e; rfl
  | byt b => obtain ⟨t, e⟩ := (show ∃ t, u = Value.bytes b t from r); cases e; rfl
  | flt b => obtain ⟨t, e⟩ := (show ∃ t, u = Value.float b t from r); cases e; rfl
  | ref a => cases (show u = Value.ref a from r); rfl
  | ty n => cases (show u = Value.type n from r); rfl
section
variable {P : Program} {w : World} {H H' : Hp} {h h' : Heap} {a C dx : Addr} {fs fs' : List (Str × V)}
theorem ins_get (hok : HOk P w H h) (e : H a = some (.ins C dx fs)) : ∃ mA, ObjM h a dx C mA ∧ (∀ f, RelO (fs.lookup f) (mA f)) ∧ PySem.Within mA (fs.map (·.1)) ∧ fs.length ≤ 1000 ∧ H dx = some (.own a) := by
  obtain ⟨d, z, ne, ob, mA, n, r, q⟩ := (show ObjOk P w H h a (.ins C dx fs) from hok a _ e)
  exact ⟨mA, ⟨ob, n, ne⟩, r, q, z, d⟩
end
structure Cls (K : PySem.W.Frag) (C : Addr) : Prop where
  pg : PySem.W.plainGet K C Str.empty = true
  hd : PySem.W.hasDictIn K C = true
  po : PySem.W.plainOver K C = true
  sa : PySem.W.findIn K (.ref C) "__setattr__" = some (some (.builtin "object.__setattr__"))
theorem Cls.get {K : PySem.W.Frag} {C : Addr} (c : Cls K C) (f : Str) : PySem.W.plainGet K C f = true := c.pg
def NoAttr (K : PySem.W.Frag) (C : Addr) (f : Str) : Prop := PySem.W.findIn K (.ref C) f = some none
theorem NoAttr.taker {K : PySem.W.Frag} {C : Addr} {f : Str} (n : NoAttr K C f) : PySem.W.takerIn K C f = some none := by
  unfold PySem.W.takerIn
  rw [show PySem.W.findIn K (.ref C) f = some none from n]
  rfl
structure Con (K : PySem.W.Frag) (C : Addr) (f : Str) (v : V) (u : Value) : Prop where
  at_ : PySem.W.findIn K (.ref C) f = some (some u)
  rel : RelV v u
  get : PySem.W.specialIn K u "__get__" = some none
  cp : PySem.W.copiedNames.contains f = false
structure Meth (K : PySem.W.Frag) (C : Addr) (m : Str) (f : Addr) : Prop where
  at_ : PySem.W.findIn K (.ref C) m = some (some (.ref f))
  fn : PySem.W.isFn K (.ref f) = true
  kp : PySem.W.keepIn K (.ref f) = true
section
variable {X : Cx} {pins : List (Addr × Obj)} {σ : St} {H : Hp} {s : Shared} {a C dx : Addr} {fs : List (Str × V)} {f : Str} {v : V} {A : Around} {E : Value → Shared → Prop}
theorem getattr_ok {b : Bool} {Q : Value → Shared → Prop} (I : Inv X pins σ H s) (e : H a = some (.ins C dx fs)) (c : Cls X.K C) (n : NoAttr X.K C f) (l : fs.lookup f = some v)
    (h : ∀ u s', Inv X pins σ H s' → RelV v u → Q u s') : wpAny (model X.prog X.w) A (getAttr (.ref a) f b) Q E s := by
  obtain ⟨mA, O, r, _, _, _⟩ := ins_get I.hok e
  obtain ⟨u, hu, ru⟩ := RelO.some_of (v := v) (o := mA f) (by rw [← l]; exact r f)
  exact get_map I.kIn O (c.get f) c.hd n hu (handed_of ru) (h u _ (I.tok _) ru)
theorem setattr_ok {y : V} {u : Value} {Q : Unit → Shared → Prop} (I : Inv X pins σ H s) (e : H a = some (.ins C dx fs)) (c : Cls X.K C) (n : NoAttr X.K C f) (hl : fs.length < 1000) (ry : RelV y u)
    (h : ∀ s', Inv X pins σ (upd H a (.ins C dx (putF f y fs))) s' → Q () s') : wpAny (model X.prog X.w) A (setAttr (.ref a) f u) Q E s := by
  obtain ⟨mA, O, r, wi, _, ho⟩ := ins_get I.hok e
  have hz : (fs.map (·.1)).length ≤ sizeLine := by rw [List.length_map, sizeLine_eq]; omega
  refine set_map I.kIn O c.sa c.po n.taker c.hd wi hz fun h' O' sb => h _ ?_
  have hd : ∃ o, h'.get? dx = some o := let ⟨o, _, _, e', _⟩ := O'.ns; ⟨o, e'⟩
  refine I.write (x := a) (e := dx) (by rw [e]; exact True.intro) (.inr ho) (fun b q hb z => (sb.2 b hb).trans z) hd ?_
  refine ⟨by rw [upd_ne O.ne]; exact ho, ?_, O.ne, O'.obj, _, O'.ns, fun g => ?_, fun g hg => ?_⟩
  · have := length_putF f y fs; omega
  · show RelO ((putF f y fs).lookup g) (if g = f then some u else mA g)
    rw [lookup_putF]
    by_cases q : g = f
    · rw [if_pos q, if_pos q]; exact ry
    · rw [if_neg q, if_neg q]; exact r g
  · by_cases q : g = f
    · rw [q]; exact (keys_putF f y fs).1
    · refine (keys_putF f y fs).2 g (wi g fun z => hg ?_)
      show (if g = f then some u else mA g) = none
      rw [if_neg q]; exact z
theorem Inv.made (I : Inv X pins σ H s) : Inv X pins σ (upd (upd H s.heap.objs.size (.own (s.heap.objs.size + 1))) (s.heap.objs.size + 1) (.ins C s.heap.objs.size []))
    { s with heap := (s.heap.push PySem.W.emptyDict).push (PySem.W.instObj C s.heap.objs.size) } := by
  have e1 : (s.heap.push PySem.W.emptyDict).get? s.heap.objs.size = some PySem.W.emptyDict := Heap.get?_push_size s.heap rfl
  have e2 : ((s.heap.push PySem.W.emptyDict).push (PySem.W.instObj C s.heap.objs.size)).get? (s.heap.objs.size + 1) = some (PySem.W.instObj C s.heap.objs.size) := by
    have := Heap.get?_push_size (s.heap.push PySem.W.emptyDict) (o := PySem.W.instObj C s.heap.objs.size) rfl
    rwa [Heap.size_push] at this
  have e3 : (s.heap.push PySem.W.emptyDict).Ns s.heap.objs.size (fun _ => none) := ⟨PySem.W.emptyDict, #[], _, e1, rfl, (fun e he => absurd he (by simp)), fun _ => rfl⟩
  have I1 := I.laid (a := s.heap.objs.size) (o := .own (s.heap.objs.size + 1)) (h' := s.heap.push PySem.W.emptyDict) (t' := s.toks) (fun b u q => Heap.get?_push_of_some _ q) (Nat.le_refl _) ⟨_, e1⟩
  refine I1.laid (a := s.heap.objs.size + 1) (o := .ins C s.heap.objs.size []) (t' := s.toks) (fun b u q => Heap.get?_push_of_some _ q) (Nat.le_of_eq (Heap.size_push _ _)) ?_
  have ne : s.heap.objs.size ≠ s.heap.objs.size + 1 := Nat.ne_of_lt (Nat.lt_succ_self _)
  refine ⟨by rw [upd_ne ne, upd_same], Nat.zero_le _, ne, e2, fun _ => none, (Heap.Ns1.of_empty e3).at fun o q => Heap.get?_push_of_some _ q, fun _ => True.intro, fun y hy => absurd rfl hy⟩
theorem attr_of {prog : Program} {w : World} {env : Env} {e : Expr} {f : Str} {pos : Pos} {s : Shared} {Q : Value → Shared → Prop} (hb : attributeBase e f env (eval e env) = eval e env)
    (h : wpAny (model prog w) A (eval e env) (fun o s₁ => wpAny (model prog w) A (getAttr o f true) Q E s₁) E s) : wpAny (model prog w) A (eval (.Attribute e f pos) env) Q E s :=
  Attribute_any_ h (by rw [arm_eval_Attribute, hb])
end
def tFld (K : PySem.W.Frag) (ta : TE) (f : Str) : TE := fun σ H Q => ta σ H fun x H1 => ∃ a C dx fs v, x = .ref a ∧ H1 a = some (.ins C dx fs) ∧ Cls K C ∧ NoAttr K C f ∧ fs.lookup f = some v ∧ Q v H1
def sFld (K : PySem.W.Frag) (ta tv : TE) (f : Str) : TS := fun D σ H => tv σ H fun y H1 => ta σ H1 fun x H2 => ∃ a C dx fs, x = .ref a ∧ H2 a = some (.ins C dx fs) ∧ Cls K C ∧ NoAttr K C f ∧ fs.length < 1000 ∧
  D.nx σ (upd H2 a (.ins C dx (putF f y fs)))
section
variable {X : Cx} {o e value : Expr} {f : Str} {pos pos' tpos : Pos} {ta tv : TE}
theorem pe_fld (he : PE X e ta) (hb : attributeBase e f X.env (eval e X.env) = eval e X.env) : PE X (.Attribute e f pos) (tFld X.K ta f) := by
  intro pins s σ H Q I h
  refine attr_of hb (thn (he pins s σ H _ I h) fun u s1 ⟨x, H1, I1, rx, a, C, dx, fs, v, ex, ea, c, n, l, q⟩ => ?_)
  subst ex
  obtain rfl : u = Value.ref a := rx
  exact getattr_ok I1 ea c n l fun u' s2 I2 ru => ⟨v, H1, I2, ru, q⟩
theorem ps_fld (ha : PE X o ta) (hv : PE X value tv) (hs : swapsWith value (some (.Attribute o f pos')) pos.line X.env = pure false) : PS X (.Assign [.Attribute o f pos'] value pos) (sFld X.K ta tv f) := by
  intro pins s σ H D I h
  refine plainObj_wpAny_Assign_Attribute (thn (hv pins s σ H _ I h) fun u s1 ⟨y, H1, I1, ry, q⟩ => thn (ha pins s1 σ H1 _ I1 q) fun ov s2 ⟨x, H2, I2, rx, a, C, dx, fs, ex, ea, c, n, l, q2⟩ => ?_) hs
  subst ex
  obtain rfl : ov = Value.ref a := rx
  exact setattr_ok I2 ea c n l ry fun s3 I3 => ⟨σ, _, I3, q2⟩
end
section
variable {X : Cx} {pins : List (Addr × Obj)} {σ : St} {H : Hp} {s : Shared} {A : Around} {E : Value → Shared → Prop} {Q : Value → Shared → Prop} {c : Value} {b : Bool}
inductive TyOf (K : PySem.W.Frag) (H : Hp) : V → Value → Prop where
  | non : TyOf K H .non (.type "NoneType")
  | bl (x : Bool) : TyOf K H (.bl x) (.type "bool")
  | int (i : Int) : TyOf K H (.int i) (.type "int")
  | str (x : Str) : TyOf K H (.str x) (.type "str")
  | flt (x : UInt64) : TyOf K H (.flt x) (.type "float")
  | lst {a : Addr} {xs : List V} (e : H a = some (.lst xs)) : TyOf K H (.ref a) (.type "list")
  | frz {a : Addr} {o : Obj} {xs : List V} (e : H a = some (.frz o (.lst xs))) : TyOf K H (.ref a) (.type "list")
  | tup {a : Addr} {xs : List V} (e : H a = some (.tup xs)) : TyOf K H (.ref a) (.type "tuple")
  | dK {a : Addr} {kvs : List (Key × V)} (e : H a = some (.dK kvs)) : TyOf K H (.ref a) (.type "dict")
  | dT {a : Addr} {kvs : List (List Key × V)} (e : H a = some (.dT kvs)) : TyOf K H (.ref a) (.type "dict")
  | ins {a C dx : Addr} {fs : List (Str × V)} (e : H a = some (.ins C dx fs)) (cl : Cls K C) (ha : PySem.W.findIn K (.ref C) "__class__" = some (some (.builtin "object.__class__")))
      (hn : PySem.W.specialIn K (.builtin "object.__class__") "__get__" = some (some (.builtin "getset_descriptor.__get__"))) (htk : PySem.W.takesIn K (.builtin "object.__class__") = some true)
      (hm : PySem.W.mroIn K C (.type "object") = some true) : TyOf K H (.ref a) (.ref C)
theorem isinst_ok {x : V} {u t : Value} (I : Inv X pins σ H s) (rx : RelV x u) (ty : TyOf X.K H x t) (e : PySem.W.kitOne X.K t c = some b) (h : ∀ tk, Q (.bool b) { s with toks := tk }) :
    wpAny (model X.prog X.w) A (call (.builtin "isinstance") [u, c]) Q E s := by
  cases ty with
  | non => cases (show u = Value.none from rx); exact PySem.W.kia_one PySem.W.kitx_none I.kIn True.intro e (fun z => nomatch z) h
  | bl y => cases (show u = Value.bool y from rx); exact PySem.W.kia_one PySem.W.kitx_bool I.kIn True.intro e (fun z => nomatch z) h
  | int i => obtain ⟨t, q⟩ := (show ∃ t, u = Value.int i t from rx); cases q; exact PySem.W.kia_one PySem.W.kitx_int I.kIn True.intro e (fun z => nomatch z) h
  | str y => obtain ⟨t, q⟩ := (show ∃ t, u = Value.str y t from rx); cases q; exact PySem.W.kia_one PySem.W.kitx_str I.kIn True.intro e (fun z => nomatch z) h
  | flt y => obtain ⟨t, q⟩ := (show ∃ t, u = Value.float y t from rx); cases q; exact PySem.W.kia_one PySem.W.kitx_float I.kIn True.intro e (fun z => nomatch z) h
  | @lst a xs ea =>
    cases (show u = Value.ref a from rx)
    obtain ⟨_, _, n, _, h1⟩ := (show ObjOk X.prog X.w H s.heap a (.lst xs) from I.hok a _ ea)
    exact PySem.W.kia_one PySem.W.kitx_list I.kIn ⟨_, h1, rfl⟩ e (fun z => nomatch z) h
  | @frz a ob xs ea =>
    cases (show u = Value.ref a from rx)
    obtain ⟨_, _, _, n, _, h1⟩ := (show ObjOk X.prog X.w H s.heap a (.frz ob (.lst xs)) from I.hok a _ ea)
    exact PySem.W.kia_one PySem.W.kitx_list I.kIn ⟨_, h1, rfl⟩ e (fun z => nomatch z) h
  | @tup a xs ea =>
    cases (show u = Value.ref a from rx)
    obtain ⟨_, _, _, p⟩ := (show ObjOk X.prog X.w H s.heap a (.tup xs) from I.hok a _ ea)
    obtain ⟨o, h1, h2, _⟩ := p
    exact PySem.W.kia_one PySem.W.kitx_tuple I.kIn ⟨o, h1, h2⟩ e (fun z => nomatch z) h
  | @dK a kvs ea =>
    cases (show u = Value.ref a from rx)
    obtain ⟨_, _, vs, _, p⟩ := (show ObjOk X.prog X.w H s.heap a (.dK kvs) from I.hok a _ ea)
    obtain ⟨o, es, ep, h1, h2, _⟩ := p
    exact PySem.W.kia_one PySem.W.kitx_dict I.kIn ⟨o, h1, h2.1⟩ e (fun z => nomatch z) h
  | @dT a kvs ea =>
    cases (show u = Value.ref a from rx)
    obtain ⟨_, _, xs, _, o, es, ep, h1, h2, _⟩ := (show ObjOk X.prog X.w H s.heap a (.dT kvs) from I.hok a _ ea)
    exact PySem.W.kia_one PySem.W.kitx_dict I.kIn ⟨o, h1, h2.1⟩ e (fun z => nomatch z) h
  | @ins a C dx fs ea cl ha hn htk hm =>
    cases (show u = Value.ref a from rx)
    obtain ⟨mA, O, _⟩ := ins_get I.hok ea
    obtain ⟨od, J, _⟩ := O.look
    exact PySem.W.kia_one (PySem.W.kitx_own (cl.get _) cl.hd ha hn htk hm) I.kIn J e (fun z => nomatch z) h
end
end L2
namespace L2
open PySem PySem.Spec PyProof.Rows
structure Room (k : Nat) (A : Around) : Prop where
  hd : A.handled = none
  dp : A.depth + 3 * k + 5 < recursionLimit
  un : A.units + 16 * k + 200 < cLine
theorem Room.mono {j k : Nat} {A : Around} (r : Room k A) (h : j ≤ k) : Room j A := ⟨r.hd, by have := r.dp; omega, by have := r.un; omega⟩
theorem Room.deeper {k : Nat} {A : Around} (r : Room (k + 1) A) (env : Env) : Room k (A.deeper env) :=
  ⟨r.hd, by have := r.dp; show A.depth + 1 + 3 * k + 5 < _; omega, by have := r.un; show A.units + 3 + 16 * k + 200 < _; omega⟩
theorem Room.in1 {k : Nat} {A : Around} (r : Room (k + 1) A) : Room k A.in1 :=
  ⟨r.hd, by have := r.dp; show A.depth + 3 * k + 5 < _; omega, by have := r.un; show A.units + 1 + 16 * k + 200 < _; omega⟩
theorem make_depth {A : Around} {C : Addr} {us : List Value} {kw : List (Str × Value)} : (A.under (.builtin "type.__call__" ⟨.ref C :: us, kw⟩)).depth = A.depth + 1 := by
  first | rfl | simp [Around.under, Code.weight, Code.isCreation, Code.isGuard, Code.isCaller, Code.frames, Code.isFrame, guardIds]
theorem make_units {A : Around} {C : Addr} {us : List Value} {kw : List (Str × Value)} : (A.under (.builtin "type.__call__" ⟨.ref C :: us, kw⟩)).units = A.units + 1 := by
  first | rfl | simp [Around.under, Code.cUnits, Code.frames, Code.isFrame]
theorem Room.make {k : Nat} {A : Around} (r : Room (k + 1) A) (C : Addr) (us : List Value) (kw : List (Str × Value)) : Room k (A.under (.builtin "type.__call__" ⟨.ref C :: us, kw⟩)) :=
  ⟨r.hd, by have := r.dp; rw [make_depth]; omega, by have := r.un; rw [make_units]; omega⟩
theorem Room.depth {k : Nat} {A : Around} (r : Room k A) : A.depth < recursionLimit := by have := r.dp; omega
theorem Room.units {k : Nat} {A : Around} (r : Room k A) : A.units + 64 < cLine := by have := r.un; omega
def tNil : TA := fun _ H Q => Q [] H
def tCons (ta : TE) (tr : TA) : TA := fun σ H Q => ta σ H fun x H1 => tr σ H1 fun xs H2 => Q (x :: xs) H2
section
variable {X : Cx} {e : Expr} {es : List Expr} {te : TE} {t : TA} {pos : Pos}
theorem pa_nil : PA X [] tNil := fun _ _ _ _ H Q I h => Calls.spliced_nil ⟨[], H, I, .nil, h⟩
theorem pa_cons (ha : PE X e te) (hr : PA X es t) (hs : starEach (e :: es) X.env = (false, eval e X.env) :: starEach es X.env := by rfl) : PA X (e :: es) (tCons te t) := by
  intro pos pins s σ H Q I h
  rw [hs]
  show wpAny _ _ (spliced ((false, eval e X.env) :: backTo pos (starEach es X.env))) _ _ s
  refine Calls.spliced_cons (thn (ha pins s σ H _ I h) fun u s1 ⟨x, H1, I1, r1, q1⟩ => ?_)
  exact thn (hr pos pins s1 σ H1 _ I1 q1) fun us s2 ⟨xs, H2, I2, r2, q2⟩ => ⟨x :: xs, H2, I2, .cons r1 r2, q2⟩
def tTup (t : TA) : TE := fun σ H Q => t σ H fun xs H1 => xs.length ≤ sizeLine ∧ ∀ p, H1 p = none → Q (.ref p) (upd H1 p (.tup xs))
def tLst (t : TA) : TE := fun σ H Q => t σ H fun xs H1 => xs.length ≤ sizeLine ∧ ∀ p, H1 p = none → Q (.ref p) (upd H1 p (.lst xs))
theorem pe_tup {x1} (h : PA X es t) : PE X (.Tuple es x1 pos) (tTup t) := by
  intro pins s σ H Q I hq
  refine wpAny_Tuple_spliced (thn (h pos pins s σ H _ I hq) fun us s1 ⟨xs, H1, I1, r, z, q⟩ => ⟨by rw [← r.length]; exact z, ?_⟩)
  have hf : H1 s1.heap.objs.size = none := I1.hok.fresh (Nat.le_refl _)
  refine ⟨.ref s1.heap.objs.size, upd H1 s1.heap.objs.size (.tup xs), I1.laid (t' := s1.toks) (fun b u e => Heap.get?_push_of_some _ e) (Nat.le_refl _) ?_, rfl, q _ hf⟩
  exact ⟨z, us, r, ⟨_, Heap.get?_push_size _ rfl, rfl, _, rfl⟩⟩
theorem pe_lst (h : PA X es t) : PE X (.List es pos) (tLst t) := by
  intro pins s σ H Q I hq
  refine wpAny_List_spliced (thn (h pos pins s σ H _ I hq) fun us s1 ⟨xs, H1, I1, r, z, q⟩ => ⟨by rw [← r.length]; exact z, ?_⟩)
  have hf : H1 s1.heap.objs.size = none := I1.hok.fresh (Nat.le_refl _)
  refine ⟨.ref s1.heap.objs.size, upd H1 s1.heap.objs.size (.lst xs), I1.laid (t' := s1.toks) (fun b u e => Heap.get?_push_of_some _ e) (Nat.le_refl _) ?_, rfl, q _ hf⟩
  exact ⟨z, us, 0, r, Heap.get?_push_size _ rfl⟩
end
abbrev Sp := List V → Hp → VK → XK → Prop
abbrev CXT := List Env → Hp → Shared → XK → Value → Shared → Prop
structure Env0 (P : Program) (w : World) (K : PySem.W.Frag) (mg : Str → Option Value) (base : Heap) (A : Around) (outer : List Env) (s : Shared) (H : Hp) : Prop where
  frames : A.frames = some outer
  mod : Mod K mg base
  bs : ∀ b o, base.get? b = some o → s.heap.get? b = some o ∧ H b = none
  bsz : base.objs.size ≤ s.heap.objs.size
  funs : s.heap.FunFrames base outer
  frf : ∀ b ∈ frs outer, H b = none
  hok : HOk P w H s.heap
  bare : AllBare s.gens
def CE (outer : List Env) (P : Program) (w : World) (H : Hp) (s : Shared) (Q : VK) (u : Value) (s' : Shared) : Prop :=
  ∃ v H', s'.os = s.os ∧ AllBare s'.gens ∧ Un (frs outer) [] H H' s.heap s'.heap ∧ HOk P w H' s'.heap ∧ RelV v u ∧ Q v H'
def CR (CX : CXT) (outer : List Env) (P : Program) (w : World) (H : Hp) (s : Shared) (Q : VK) (E : XK) (r : Result) (s' : Shared) : Prop :=
  match r with
  | .ok (.ret u) => CE outer P w H s Q u s'
  | .ok _ => False
  | .error e => CX outer H s E e s'
structure FnOk (P : Program) (w : World) (K : PySem.W.Frag) (mg : Str → Option Value) (base : Heap) (CX : CXT) (k : Nat) (f : Addr) (fd : FuncData) (ps : List Str) (sp : Sp) : Prop where
  len : ∀ vs H Q E, sp vs H Q E → vs.length = ps.length
  run : ∀ (A : Around) (outer : List Env) (s : Shared) (H : Hp) (args : Args) (us : List Value) (vs : List V) (Q : VK) (E : XK), Room k A → Env0 P w K mg base A outer s H → BindsTo s fd args (ps.zip us) → Vals vs us → sp vs H Q E →
    codeAny (model P w) A (.call (.ref f) args) (CR CX outer P w H s Q E) s
theorem FnOk.mono {P : Program} {w : World} {K : PySem.W.Frag} {mg : Str → Option Value} {base : Heap} {CX : CXT} {j k : Nat} {f : Addr} {fd : FuncData} {ps : List Str} {sp : Sp} (F : FnOk P w K mg base CX j f fd ps sp) (h : j ≤ k) :
    FnOk P w K mg base CX k f fd ps sp := ⟨F.len, fun A outer s H args us vs Q E hr => F.run A outer s H args us vs Q E (hr.mono h)⟩
theorem FnOk.imp {P : Program} {w : World} {K : PySem.W.Frag} {mg : Str → Option Value} {base : Heap} {CX : CXT} {k : Nat} {f : Addr} {fd : FuncData} {ps : List Str} {sp sp' : Sp} (F : FnOk P w K mg base CX k f fd ps sp)
    (h : ∀ vs H Q E, sp' vs H Q E → sp vs H Q E) : FnOk P w K mg base CX k f fd ps sp' :=
  ⟨fun vs H Q E q => F.len vs H Q E (h _ _ _ _ q), fun A outer s H args us vs Q E hr he hb hv hs => F.run A outer s H args us vs Q E hr he hb hv (h _ _ _ _ hs)⟩
theorem Env0.make {P : Program} {w : World} {K : PySem.W.Frag} {mg : Str → Option Value} {base : Heap} {A : Around} {outer : List Env} {s : Shared} {H : Hp} (e : Env0 P w K mg base A outer s H) (C : Addr) (us : List Value) (kw : List (Str × Value)) :
    Env0 P w K mg base (A.under (.builtin "type.__call__" ⟨.ref C :: us, kw⟩)) outer s H := ⟨by first | exact e.frames | (simpa [Around.under, Code.envs, Code.isFrame, pushEnvs] using e.frames), e.mod, e.bs, e.bsz, e.funs, e.frf, e.hok, e.bare⟩
theorem Env0.in1 {P : Program} {w : World} {K : PySem.W.Frag} {mg : Str → Option Value} {base : Heap} {A : Around} {outer : List Env} {s : Shared} {H : Hp} (e : Env0 P w K mg base A outer s H) :
    Env0 P w K mg base A.in1 outer s H := ⟨e.frames, e.mod, e.bs, e.bsz, e.funs, e.frf, e.hok, e.bare⟩
section
variable {X : Cx} {pins : List (Addr × Obj)} {σ : St} {H : Hp} {s s' : Shared}
theorem Inv.env0 (I : Inv X pins σ H s) : Env0 X.prog X.w X.K X.mg X.base X.A X.stack s H :=
  ⟨I.ok.frames, I.ok.mod, I.bs, Nat.le_trans I.ok.bsz I.sz, I.stack, I.stkFree, I.hok, I.bare⟩
theorem Inv.after {Q : VK} {u : Value} (I : Inv X pins σ H s) (h : CE X.stack X.prog X.w H s Q u s') : EP X pins σ Q u s' := by
  obtain ⟨v, H', os, bare, un, hok, r, q⟩ := h
  obtain ⟨hh, g, d, t, os'⟩ := s'
  obtain rfl : os' = s.os := os
  exact ⟨v, H', I.call (h' := hh) (g' := g) (d' := d) (t' := t) (ch := []) un hok bare (fun b z => absurd z (by simp)), r, q⟩
end
def tCall (sp : Sp) (dvs : List V) (E : XK) (t : TA) : TE := fun σ H Q => t σ H fun vs H1 => sp (vs ++ dvs) H1 Q E
def Binds (K : PySem.W.Frag) (fd : FuncData) (ps : List Str) (ds : List Value) : Prop :=
  ∀ (s : Shared) (us : List Value), K.In s.heap → (us ++ ds).length = ps.length → BindsTo s fd ⟨us, []⟩ (ps.zip (us ++ ds))
theorem Binds.all {K : PySem.W.Frag} {fd : FuncData} {ps : List Str} (h : ∀ us : List Value, us.length = ps.length → bindArgs fd ⟨us, []⟩ = pure (ps.zip us)) : Binds K fd ps [] := fun s us _ hl => by
  rw [List.append_nil] at hl ⊢
  exact .of_eq (h us hl)
def Passes (CX : CXT) (X : Cx) (E : XK) : Prop := ∀ (pins : List (Addr × Obj)) (σ : St) (H : Hp) (s : Shared) (e : Value) (s' : Shared), Inv X pins σ H s → CX X.stack H s E e s' → X.xe e s'
section
variable {X : Cx} {CX : CXT} {k : Nat} {f C : Addr} {fd : FuncData} {ps : List Str} {sp : Sp} {dvs : List V} {ds : List Value} {E : XK} {x m : Str} {p pos apos : Pos} {e o : Expr} {es : List Expr} {ta : TE} {t : TA}
theorem run_fn {pins : List (Addr × Obj)} {σ : St} {H : Hp} {s : Shared} {Q : VK} {us : List Value} {vs : List V} (F : FnOk X.prog X.w X.K X.mg X.base CX k f fd ps sp) (hr : Room k X.A) (hb : Binds X.K fd ps ds) (hd : Vals dvs ds) (hx : Passes CX X E)
    (I : Inv X pins σ H s) (r : Vals vs us) (h : sp (vs ++ dvs) H Q E) : wpAny (model X.prog X.w) X.A (call (.ref f) us) (EP X pins σ Q) X.xe s := by
  have r2 : Vals (vs ++ dvs) (us ++ ds) := r.append hd
  have hl : (us ++ ds).length = ps.length := by rw [← r2.length]; exact F.len _ _ _ _ h
  refine wpAny_call (codeAny_mono (F.run X.A X.stack s H ⟨us, []⟩ (us ++ ds) (vs ++ dvs) Q E hr I.env0 (hb s us I.kIn hl) r2 h) fun r s' hq => ?_)
  cases r with
  | error e => exact hx pins σ H s e s' I hq
  | ok fl =>
    cases fl with
    | ret u => exact I.after hq
    | next => exact False.elim hq
    | brk => exact False.elim hq
    | cont => exact False.elim hq
theorem pe_call (F : FnOk X.prog X.w X.K X.mg X.base CX k f fd ps sp) (hr : Room k X.A) (hg : Gl X x) (hm : X.mg x = some (.ref f)) (hk : PySem.W.keepIn X.K (.ref f) = true) (hb : Binds X.K fd ps ds) (hd : Vals dvs ds) (hx : Passes CX X E)
    (ha : PA X (e :: es) t) (hdb : (x == ("__debug__" : Str)) = false := by decide) (he : starEach (e :: es) X.env = (false, eval e X.env) :: starEach es X.env := by rfl) (hpl : (backTo pos (starEach es X.env)).any (·.1) = false := by rfl) :
    PE X (.Call (.Name x p) (e :: es) [] pos) (tCall sp dvs E t) := by
  intro pins s σ H Q I h
  refine wpAny_Call_Name_kw (ld_glob I hg hm ?_ hdb)
  refine PySem.W.callWith_K (h₀ := X.base) I.ok.mod.kin hk (thn (ha pos pins s σ H _ I h) fun us s1 ⟨vs, H1, I1, r, q⟩ => ⟨I1.kIn, ?_⟩) he hpl
  exact run_fn F hr hb hd hx I1 r q
structure Mk (K : PySem.W.Frag) (C f : Addr) : Prop where
  makes : PySem.W.makesIn K C = true
  init : PySem.W.findIn K (.ref C) "__init__" = some (some (.ref f))
  fn : PySem.W.isFn K (.ref f) = true
  kp : PySem.W.keepIn K (.ref C) = true
end
def PK (X : Cx) (kws : List Keyword) (t : TA) : Prop :=
  ∀ (pos : Pos) (pins : List (Addr × Obj)) (s : Shared) (σ : St) (H : Hp) (Q : List V → Hp → Prop), Inv X pins σ H s → t σ H Q → wpAny (model X.prog X.w) X.A (evalAll ((backToKw pos (keywordEach kws X.env)).map (·.2))) (AP X pins σ Q) X.xe s
section
variable {X : Cx} {CX : CXT} {k : Nat} {f C : Addr} {fd : FuncData} {ps ks : List Str} {sp : Sp} {E : XK} {x m : Str} {p pos apos kpos : Pos} {e o : Expr} {es : List Expr} {kws : List Keyword} {te ta : TE} {t tk : TA} {nm : Option Str}
structure KBinds (K : PySem.W.Frag) (fd : FuncData) (ps ks : List Str) (g : List Value → List Value → List Value) (gV : List V → List V → List V) : Prop where
  to : ∀ (s : Shared) (us ws : List Value), K.In s.heap → (g us ws).length = ps.length → BindsTo s fd ⟨us, ks.zip ws⟩ (ps.zip (g us ws))
  rel : ∀ {vs : List V} {us : List Value} {zs : List V} {ws : List Value}, Vals vs us → Vals zs ws → Vals (gV vs zs) (g us ws)
variable {g : List Value → List Value → List Value} {gV : List V → List V → List V}
end
structure FnScope (N P : List Str) (sc : Scope) : Prop where
  kind : sc.kind = .function
  co : sc.isCoroutine = false
  gen : sc.isGenerator = false
  nd : N.Nodup
  pre : N.take P.length = P
  par : ∀ x ∈ P, sc.names.lookup x = some .local ∨ sc.names.lookup x = some .cell
  nofree : ∀ y ∈ sc.names, y.2 ≠ .free
theorem bindL_out {kindOf : Str → Option NameKind} {x : Str} : ∀ {binds : List (Str × Value)} {m : Str → Option Value}, (∀ v, (x, v) ∉ binds) → bindL kindOf binds m x = m x
  | [], _, _ => rfl
  | (n, v) :: r, m, h => by
    unfold bindL
    rw [bindL_out fun w hw => h w (List.mem_cons_of_mem _ hw)]
    split
    · have : x ≠ n := by rintro rfl; exact h v List.mem_cons_self
      simp [this]
    · rfl
theorem bindC_out {kindOf : Str → Option NameKind} {x : Str} : ∀ {binds : List (Str × Value)} {m : Str → Option Value}, (∀ v, (x, v) ∉ binds) → bindC kindOf binds m x = m x
  | [], _, _ => rfl
  | (n, v) :: r, m, h => by
    unfold bindC
    rw [bindC_out fun w hw => h w (List.mem_cons_of_mem _ hw)]
    split
    · rfl
    · have : x ≠ n := by rintro rfl; exact h v List.mem_cons_self
      simp [this]
theorem bindL_get {kindOf : Str → Option NameKind} {x : Str} {v : Value} : ∀ {P : List Str} {vs : List Value} {i : Nat} {m : Str → Option Value}, P.Nodup → P[i]? = some x → vs[i]? = some v → kindOf x = some .local →
    bindL kindOf (P.zip vs) m x = some v
  | [], _, _, _, _, h, _, _ => by simp at h
  | _ :: _, [], _, _, _, _, h, _ => by simp at h
  | p :: P, w :: vs, 0, m, nd, h1, h2, hk => by
    simp at h1 h2; subst h1; subst h2
    show bindL kindOf ((p, w) :: P.zip vs) m p = _
    unfold bindL
    rw [bindL_out fun v hv => (List.nodup_cons.mp nd).1 (List.of_mem_zip hv).1, if_pos hk]
    simp
  | p :: P, w :: vs, i + 1, m, nd, h1, h2, hk => by
    show bindL kindOf ((p, w) :: P.zip vs) m x = _
    unfold bindL
    exact bindL_get (i := i) (List.nodup_cons.mp nd).2 (by simpa using h1) (by simpa using h2) hk
theorem bindC_get {kindOf : Str → Option NameKind} {x : Str} {v : Value} : ∀ {P : List Str} {vs : List Value} {i : Nat} {m : Str → Option Value}, P.Nodup → P[i]? = some x → vs[i]? = some v → kindOf x ≠ some .local →
    bindC kindOf (P.zip vs) m x = some v
  | [], _, _, _, _, h, _, _ => by simp at h
  | _ :: _, [], _, _, _, _, h, _ => by simp at h
  | p :: P, w :: vs, 0, m, nd, h1, h2, hk => by
    simp at h1 h2; subst h1; subst h2
    show bindC kindOf ((p, w) :: P.zip vs) m p = _
    unfold bindC
    rw [bindC_out fun v hv => (List.nodup_cons.mp nd).1 (List.of_mem_zip hv).1, if_neg hk]
    simp
  | p :: P, w :: vs, i + 1, m, nd, h1, h2, hk => by
    show bindC kindOf ((p, w) :: P.zip vs) m x = _
    unfold bindC
    exact bindC_get (i := i) (List.nodup_cons.mp nd).2 (by simpa using h1) (by simpa using h2) hk
def start (N : List Str) (vs : List V) : St := vs.map some ++ List.replicate (N.length - vs.length) none
def cxOf (CX : CXT) (P : Program) (w : World) (K : PySem.W.Frag) (mg : Str → Option Value) (base : Heap) (N : List Str) (qual : Str) (scope : Scope) (f : Addr) (cd : Value) (A : Around) (outer : List Env) (s : Shared) (H : Hp) (E : XK) : Cx where
  prog := P
  w := w
  K := K
  mg := mg
  base := base
  A := A.deeper (envOfC qual scope s.heap.objs.size f cd)
  N := N
  s₀ := s
  H₀ := H
  env := envOfC qual scope s.heap.objs.size f cd
  outer := outer
  stack := envOfC qual scope s.heap.objs.size f cd :: outer
  ex := []
  calm := true
  fn := fun _ => true
  pn := []
  xe := fun e s' => wpAny (model P w) (A.deeper (envOfC qual scope s.heap.objs.size f cd)) (leaving (envOfC qual scope s.heap.objs.size f cd) e) (fun _ s'' => CX outer H s E e s'') (fun e' s'' => CX outer H s E e' s'') s'
theorem cell_has {sc : Scope} {n : Nat} {x : Str} (h : sc.names.lookup x = some .cell) : ∃ c, (cellsFrom n sc.names []).lookup x = some c := by
  have q := PySem.W.cellsFrom_some sc.names n [] (.inl h)
  exact Option.isSome_iff_exists.mp q
theorem inv_start {CX : CXT} {P : Program} {w : World} {K : PySem.W.Frag} {mg : Str → Option Value} {base : Heap} {N ps : List Str} {qual : Str} {scope : Scope} {f : Addr} {cd : Value} {A : Around} {outer : List Env} {s s1 : Shared} {H : Hp} {E : XK} {us : List Value} {vs : List V}
    (S : FnScope N ps scope) (hd : A.handled = none) (e0 : Env0 P w K mg base A outer s H) (hl : vs.length = ps.length) (r : Vals vs us)
    (x : InCallC s s.heap.objs.size (bindL (envOfC qual scope s.heap.objs.size f cd).kindOf (ps.zip us) fun _ => none) (cellsFrom (s.heap.objs.size + 1) scope.names []) (bindC (envOfC qual scope s.heap.objs.size f cd).kindOf (ps.zip us) fun _ => none) s1) :
    Inv (cxOf CX P w K mg base N qual scope f cd A outer s H E) [] (start N vs) H s1 := by
  have hpl : ps.length ≤ N.length := by have := congrArg List.length S.pre; rw [List.length_take] at this; omega
  obtain ⟨h1, tk, rfl, hk⟩ := x.done
  have noA : ∀ b : Addr, b ∉ (cxOf CX P w K mg base N qual scope f cd A outer s H E).ex := fun b z => absurd (show b ∈ ([] : List Addr) from z) (by simp)
  refine ⟨⟨e0.mod, S.kind, rfl, rfl, Nat.le_refl _, fun y z c h1 h2 => ?_, fun y hy => ?_, fun y c _ h => ?_, fun _ => hd, Around.frames_deeper e0.frames, .inr ⟨rfl, rfl⟩, fun b z => absurd z (noA b), e0.bs, e0.bsz, fun b _ _ => noA b, fun b z => absurd z (noA b), e0.funs, e0.frf⟩,
    rfl, e0.bare, Un.kept hk, ⟨_, x.toInCall.ns, fun i y v h1 h2 h3 => ?_⟩, fun y c h => ⟨_, x.cell y c h⟩, e0.hok.fresh (Nat.le_refl _), fun y c h => ?_, fun p hp => absurd (show p ∈ ([] : List (Addr × Obj)) from hp) (by simp), e0.hok.kept hk, ?_⟩
  · exact name_of_addr x.apart (PySem.mem_of_lookup h1) (PySem.mem_of_lookup h2)
  · have hy : scope.names.lookup y = some .cell ∨ scope.names.lookup y = some .free := hy
    rcases hy with hy | hy
    · exact cell_has hy
    · exact absurd rfl (S.nofree _ (PySem.mem_of_lookup hy))
  · exact Nat.le_of_lt (x.above y c (PySem.mem_of_lookup h))
  · have hi : i < vs.length := by
      unfold start at h2
      by_cases hi : i < vs.length
      · exact hi
      · rw [List.getElem?_append_right (by simpa using hi)] at h2
        rw [List.getElem?_replicate] at h2
        split at h2 <;> cases h2
    have ha : vs[i]? = some v := by
      unfold start at h2
      rw [List.getElem?_append_left (by simpa using hi), List.getElem?_map] at h2
      cases e : vs[i]? with
      | none => rw [e] at h2; cases h2
      | some a => rw [e] at h2; cases h2; rfl
    obtain ⟨u, hu, rv⟩ := r.get ha
    have hp : ps[i]? = some y := by
      rw [← S.pre, List.getElem?_take_of_lt (by omega)]; exact h1
    have ndP : ps.Nodup := by rw [← S.pre]; exact S.nd.sublist (List.take_sublist _ _)
    refine ⟨u, rv, ?_⟩
    rcases S.par y (List.mem_of_getElem? hp) with k | k
    · exact .inl ⟨k, bindL_get ndP hp hu k⟩
    · obtain ⟨c, e⟩ := cell_has (n := s.heap.objs.size + 1) k
      refine .inr ⟨.inl k, c, e, ?_⟩
      have q := x.cell y c e
      rw [bindC_get ndP hp hu (by show scope.names.lookup y ≠ _; rw [k]; decide)] at q
      exact q
  · exact e0.hok.fresh (Nat.le_of_lt (x.above y c (PySem.mem_of_lookup h)))
  · unfold start
    show _ = N.length
    rw [List.length_append, List.length_map, List.length_replicate]
    omega
theorem fn_of {CX : CXT} {P : Program} {w : World} {K : PySem.W.Frag} {mg : Str → Option Value} {base : Heap} {k : Nat} {f : Addr} {name qual : Str} {params : Arguments} {body : List Stmt} {scope : Scope} {dV kV doc pm cdv ct oc : Value} {an od : Option Addr}
    {osl : Array (Option Value)} {N ps : List Str} {sp : Sp} (lk : K.lookup f = some ⟨oc, od, .func (PySem.W.fnOf name qual params body scope dV kV doc pm an cdv ct), osl⟩) (hcd : PySem.W.codeIn K cdv qual = true) (S : FnScope N ps scope)
    (len : ∀ vs H Q E, sp vs H Q E → vs.length = ps.length)
    (hbody : ∀ (A : Around) (outer : List Env) (s : Shared) (H : Hp) (vs : List V) (Q : VK) (E : XK), Room k (A.deeper (envOfC qual scope s.heap.objs.size f cdv)) → sp vs H Q E →
      ∃ t, PSs (cxOf CX P w K mg base N qual scope f cdv A outer s H E) body t ∧ t { nx := fun _ H' => Q .non H', rt := Q } (start N vs) H) :
    FnOk P w K mg base CX (k + 1) f (PySem.W.fnOf name qual params body scope dV kV doc pm an cdv ct) ps sp := by
  refine ⟨len, fun A outer s H args us vs Q E hr e0 hb r hsp => ?_⟩
  have hl := len _ _ _ _ hsp
  have KX : K.In s.heap := e0.mod.kin.keeps fun b o e => (e0.bs b o e).1
  have lim : s.heap.NoLimit := e0.mod.nolimit.keeps fun b o e => (e0.bs b o e).1
  have hkind : ∀ y ∈ ps.zip us, scope.names.lookup y.1 = some .local ∨ (scope.names.lookup y.1 = some .cell ∧ ((cellsFrom (s.heap.objs.size + 1) scope.names []).lookup y.1).isSome = true) := fun ⟨n, v⟩ hy => by
    rcases S.par n (List.of_mem_zip hy).1 with q | q
    · exact .inl q
    · exact .inr ⟨q, PySem.W.cellsFrom_some _ _ _ (.inl q)⟩
  refine codeAny_call_function hr.depth (KX _ _ lk) rfl S.co S.gen rfl (PySem.W.codeRec_of KX hcd) (hb _ _ _ _ ?_)
  refine wpAny_newFunctionEnv_cells S.kind hkind fun env he s1 x => ?_
  subst he
  refine ⟨lim.keeps x.toInCall.keep, codeAny_func ?_⟩
  obtain ⟨t, ht, hq⟩ := hbody A outer s H vs Q E (hr.deeper _) hsp
  have I : Inv (cxOf CX P w K mg base N qual scope f cdv A outer s H E) [] (start N vs) H s1 := inv_start S hr.hd e0 hl r x
  refine wpAny_mono (ht [] s1 (start N vs) H _ I hq) (fun fl s' hs => ?_) fun e s' hs => hs
  have fin : ∀ {σ' : St} {H' : Hp} {v : V} {u : Value}, Inv (cxOf CX P w K mg base N qual scope f cdv A outer s H E) [] σ' H' s' → RelV v u → Q v H' → CE outer P w H s Q u s' :=
    fun {σ' H' v u} J rv q => ⟨v, H', J.os, J.bare, J.base, J.hok, rv, q⟩
  cases fl with
  | ret u =>
    obtain ⟨v, σ', H', J, rv, q⟩ := hs
    exact fin J rv q
  | next =>
    obtain ⟨σ', H', J, q⟩ := hs
    exact fin (v := V.non) (u := Value.none) J rfl q
  | brk =>
    obtain ⟨_, _, _, q⟩ := hs
    exact False.elim q
  | cont =>
    obtain ⟨_, _, _, q⟩ := hs
    exact False.elim q
end L2
namespace L2
open PySem PySem.Spec PyProof.Rows
section
variable {X : Cx} {x : Str} {p pos : Pos} {e : Expr} {es : List Expr} {t : TA} {id T : String} {r : List V → Hp → VK → Prop}
def tCB (r : List V → Hp → VK → Prop) (t : TA) : TE := fun σ H Q => t σ H fun vs H1 => r vs H1 Q
theorem pe_callB (hc : CallR X (.builtin id) r) (hg : Gl X x) (hm : X.mg x = none) (hv : bootBuiltins x = some (.builtin id)) (ha : PA X (e :: es) t) (hn : x ≠ "__name__" := by decide) (hdb : (x == ("__debug__" : Str)) = false := by decide)
    (he : starEach (e :: es) X.env = (false, eval e X.env) :: starEach es X.env := by rfl) (hpl : (backTo pos (starEach es X.env)).any (·.1) = false := by rfl) : PE X (.Call (.Name x p) (e :: es) [] pos) (tCB r t) := by
  intro pins s σ H Q I h
  refine wpAny_Call_Name_kw (ld_blt I hg hm hv ?_ hn hdb)
  exact PyProof.Rows.callWith_builtin1 (thn (ha pos pins s σ H _ I h) fun us s1 ⟨vs, H1, I1, r1, q1⟩ => hc pins s1 σ H1 vs us Q I1 r1 q1) he hpl
theorem pe_callTy (hc : CallR X (.type T) r) (hg : Gl X x) (hm : X.mg x = none) (hv : bootBuiltins x = some (.type T)) (ha : PA X (e :: es) t) (hn : x ≠ "__name__" := by decide) (hdb : (x == ("__debug__" : Str)) = false := by decide)
    (he : starEach (e :: es) X.env = (false, eval e X.env) :: starEach es X.env := by rfl) (hpl : (backTo pos (starEach es X.env)).any (·.1) = false := by rfl) : PE X (.Call (.Name x p) (e :: es) [] pos) (tCB r t) := by
  intro pins s σ H Q I h
  refine wpAny_Call_Name_kw (ld_blt I hg hm hv ?_ hn hdb)
  exact PyProof.Rows.callWith_type1 (thn (ha pos pins s σ H _ I h) fun us s1 ⟨vs, H1, I1, r1, q1⟩ => hc pins s1 σ H1 vs us Q I1 r1 q1) he hpl
end
end L2
namespace HT
open PySem PyProof.Rows
section
open PySem.SeqAt
open PySem.AutoSeq1 (wpAny_loadPart')
open PySem.MeetsSeq PySem.MeetsSeq2 PySem.MeetsSeq3
end
section
variable {prog : Program} {w : World} {A : Around} {E : Value → Shared → Prop} {s : Shared}
def sIx (n d : Nat) : Option Int → Nat
  | none => d
  | some v => if v < 0 then (v + (n : Int)).toNat else min v.toNat n
end
end HT
namespace L2
open PySem PySem.Spec PyProof.Rows
abbrev TO := St → Hp → (Option Int → Hp → Prop) → Prop
def PO (X : Cx) (e : Option Expr) (t : TO) : Prop :=
  ∀ (pins : List (Addr × Obj)) (s : Shared) (σ : St) (H : Hp) (Q : Option Int → Hp → Prop), Inv X pins σ H s → t σ H Q →
    wpAny (model X.prog X.w) X.A (evalPart e X.env) (fun u s' => ∃ o H', Inv X pins σ H' s' ∧ IsPart u o ∧ Q o H') X.xe s
section
variable {X : Cx} {e : Expr} {te : TE} {lo hi : Option Expr} {tl th : TO} {pos p2 : Pos}
def SlR (X : Cx) (r : V → Option Int → Option Int → Hp → VK → Prop) : Prop :=
  ∀ (pins : List (Addr × Obj)) (s : Shared) (σ : St) (H : Hp) (x : V) (v vl vu : Value) (lo hi : Option Int) (sl : Addr) (Q : VK), Inv X pins σ H s → RelV x v → s.heap.IsSliceOf sl vl vu .none → IsPart vl lo → IsPart vu hi → r x lo hi H Q →
    ∃ T id, typeLookup (.type T) "__getitem__" = pure (some (.builtin id)) ∧ s.TypeIs v T ∧ wpAny (model X.prog X.w) X.A (getItem v (.ref sl)) (EP X pins σ Q) X.xe s
theorem SlR.or {r r' : V → Option Int → Option Int → Hp → VK → Prop} (h : SlR X r) (h' : SlR X r') : SlR X (fun x lo hi H Q => r x lo hi H Q ∨ r' x lo hi H Q) := by
  intro pins s σ H x v vl vu lo hi sl Q I rx hs pl pu q
  rcases q with q | q
  · exact h pins s σ H x v vl vu lo hi sl Q I rx hs pl pu q
  · exact h' pins s σ H x v vl vu lo hi sl Q I rx hs pl pu q
end
end L2
namespace L2
open PySem PySem.Spec PyProof.Rows
def ixN (n : Nat) (i : Int) : Option Nat := if 0 ≤ i then (if i < n then some i.toNat else none) else if -(n : Int) ≤ i then some (i + n).toNat else none
def atI {α : Type} (xs : List α) (i : Int) : Option α := (ixN xs.length i).bind fun j => xs[j]?
theorem ixN_seq {n : Nat} {i : Int} {j : Nat} (h : ixN n i = some j) : seqIndex? i n = some j ∧ j < n ∧ -(n : Int) ≤ i ∧ i < n := by
  unfold ixN at h
  by_cases h0 : 0 ≤ i
  · rw [if_pos h0] at h
    by_cases h1 : i < n
    · rw [if_pos h1] at h
      have e : i.toNat = j := Option.some.inj h
      exact ⟨by rw [seqIndex_of h0 h1, e], by omega, by omega, h1⟩
    · rw [if_neg h1] at h; cases h
  · rw [if_neg h0] at h
    by_cases h1 : -(n : Int) ≤ i
    · rw [if_pos h1] at h
      have e : (i + n).toNat = j := Option.some.inj h
      exact ⟨by rw [seqIndex_neg (by omega) h1, e], by omega, h1, by omega⟩
    · rw [if_neg h1] at h; cases h
theorem atI_get {α : Type} {xs : List α} {i : Int} {v : α} (h : atI xs i = some v) : ∃ j, seqIndex? i xs.length = some j ∧ xs[j]? = some v ∧ j < xs.length ∧ -(xs.length : Int) ≤ i ∧ i < xs.length := by
  unfold atI at h
  cases e : ixN xs.length i with
  | none => rw [e] at h; cases h
  | some j =>
    rw [e] at h
    obtain ⟨h1, h2, h3, h4⟩ := ixN_seq e
    exact ⟨j, h1, h, h2, h3, h4⟩
def PlainIx (b : Expr) : Prop := ∀ o i, subscripted b false o i = operate [o, i] (getItem o i)
def IxR (X : Cx) (r : R2) : Prop :=
  ∀ (value slice : Expr) (pins : List (Addr × Obj)) (s : Shared) (σ : St) (H : Hp) (x y : V) (v u : Value) (Q : VK), Inv X pins σ H s → RelV x v → RelV y u → r x y H Q →
    subscripted slice false v u = operate [v, u] (getItem v u) → wpAny (model X.prog X.w) X.A (subscriptTail value slice v u) (EP X pins σ Q) X.xe s
def MtR (X : Cx) (id : String) (r : V → List V → Hp → VK → Prop) : Prop :=
  ∀ (pins : List (Addr × Obj)) (s : Shared) (σ : St) (H : Hp) (x : V) (xs : List V) (v : Value) (us : List Value) (Q : VK), Inv X pins σ H s → RelV x v → Vals xs us → r x xs H Q →
    wpAny (model X.prog X.w) X.A (call (.builtin id) (v :: us)) (EP X pins σ Q) X.xe s
section
variable {X : Cx} {a b : Expr} {ta tb : TE} {pos : Pos}
theorem IxR.or {r r' : R2} (h : IxR X r) (h' : IxR X r') : IxR X (fun x y H Q => r x y H Q ∨ r' x y H Q) := by
  intro value slice pins s σ H x y v u Q I rx ry q hs
  rcases q with q | q
  · exact h value slice pins s σ H x y v u Q I rx ry q hs
  · exact h' value slice pins s σ H x y v u Q I rx ry q hs
theorem MtR.or {id : String} {r r' : V → List V → Hp → VK → Prop} (h : MtR X id r) (h' : MtR X id r') : MtR X id (fun x xs H Q => r x xs H Q ∨ r' x xs H Q) := by
  intro pins s σ H x xs v us Q I rx rs q
  rcases q with q | q
  · exact h pins s σ H x xs v us Q I rx rs q
  · exact h' pins s σ H x xs v us Q I rx rs q
theorem pe_ix {r : R2} (hr : IxR X r) (ha : PE X a ta) (hb : PE X b tb) (hs : PlainIx b) : PE X (.Subscript a b pos) (tOp r ta tb) := by
  intro pins s σ H Q I h
  exact Subscript_ (binT ha hb I h fun v u s2 x y H2 I2 rx ry q => hr a b pins s2 σ H2 x y v u Q I2 rx ry q (hs _ _))
def rIxL (K : PySem.W.Frag) : R2 := fun x y H Q => ∃ p xs i v, x = .ref p ∧ y = .int i ∧ SqL K H p xs ∧ atI xs i = some v ∧ Q v H
def rIxT (K : PySem.W.Frag) : R2 := fun x y H Q => ∃ p xs i v, x = .ref p ∧ y = .int i ∧ SqT K H p xs ∧ atI xs i = some v ∧ Q v H
def rIxS : R2 := fun x y H Q => ∃ z i c, x = .str z ∧ y = .int i ∧ z.length ≤ sizeLine ∧ atI z.cps.toList i = some c ∧ Q (.str ⟨#[c]⟩) H
theorem ix_list : IxR X (rIxL X.K) := by
  intro value slice pins s σ H x y v u Q I rx ry h hs
  obtain ⟨p, xs, i, z, rfl, rfl, hq, he, q⟩ := h
  cases rx
  obtain ⟨t, rfl⟩ := ry
  obtain ⟨its, r, pl, hz⟩ := I.list hq
  obtain ⟨j, h1, h2, h3, h4, h5⟩ := atI_get he
  obtain ⟨w, ew, rw'⟩ := r.get h2
  have hl := r.length
  have hn := line63
  have fin : EP X pins σ Q w s := ⟨z, H, I, rw', q⟩
  by_cases h0 : 0 ≤ i
  · have hj : i.toNat = j := by
      rw [seqIndex_of h0 h5] at h1
      exact Option.some.inj h1
    exact item_listR pl.isList h0 (by omega) (by rw [hj]; simpa using ew) fin hs
  · have hj : (i + (its.toArray.size : Int)).toNat = j := by
      rw [seqIndex_neg (by omega) h4] at h1
      rw [List.size_toArray, ← hl]
      exact Option.some.inj h1
    exact subscriptTail_builtinR (x := w) pl.isList.typeIs slot_list_getitem.lookup
      (wpAny_getItem_list_neg (Q := fun r s' => r = w ∧ EP X pins σ Q r s') pl.isList (by omega) (by rw [List.size_toArray] <;> omega) (by omega) (by rw [hj]; simpa using ew) ⟨rfl, fin⟩) hs
theorem ix_tup : IxR X (rIxT X.K) := by
  intro value slice pins s σ H x y v u Q I rx ry h hs
  obtain ⟨p, xs, i, z, rfl, rfl, hq, he, q⟩ := h
  cases rx
  obtain ⟨t, rfl⟩ := ry
  obtain ⟨its, r, pl, hz⟩ := I.tuple hq
  obtain ⟨j, h1, h2, h3, h4, h5⟩ := atI_get he
  obtain ⟨w, ew, rw'⟩ := r.get h2
  have hl := r.length
  have hn := line63
  have fin : EP X pins σ Q w s := ⟨z, H, I, rw', q⟩
  exact subscriptTail_builtinR (x := w) pl.typeIs slot_tuple_getitem.lookup
    (getItem_tuple (j := j) (Q := fun r s' => r = w ∧ EP X pins σ Q r s') pl (by omega) (by omega) (by rw [List.size_toArray, ← hl]; exact h1) (by simpa using ew) ⟨rfl, fin⟩) hs
theorem ix_str : IxR X rIxS := by
  intro value slice pins s σ H x y v u Q I rx ry h hs
  obtain ⟨z, i, c, rfl, rfl, hz, he, q⟩ := h
  obtain ⟨t, rfl⟩ := rx
  obtain ⟨t', rfl⟩ := ry
  obtain ⟨j, h1, h2, h3, h4, h5⟩ := atI_get he
  have hl : z.cps.toList.length = z.length := by simp [Str.length]
  rw [hl] at h1 h4 h5
  have hn := line63
  exact tail_any (typeIs_str s z t) slot_str_getitem.lookup (getItem_str (c := c) (by
    have e1 : decide (i < -(2 ^ 63 : Int)) = false := decide_eq_false (by omega)
    have e2 : decide (i ≥ 2 ^ 63) = false := decide_eq_false (by omega)
    rw [e1, e2, Bool.or_false]) (by rw [h1]; simpa using h2) ⟨.str ⟨#[c]⟩, H, I.tok _, ⟨_, rfl⟩, q⟩) hs
def rIx (K : PySem.W.Frag) : R2 := fun x y H Q => rIxL K x y H Q ∨ rIxT K x y H Q ∨ rIxS x y H Q
theorem ix_seq : IxR X (rIx X.K) := ix_list.or (ix_tup.or ix_str)
theorem mapSeq_set (its : List Value) (n j : Nat) (u : Value) : Obj.mapSeq (·.setIfInBounds j u) { cls := .type "list", data := .seq its.toArray n } = { cls := .type "list", data := .seq (its.set j u).toArray n } := by
  simp [Obj.mapSeq]
theorem Inv.lst {pins : List (Addr × Obj)} {σ : St} {H : Hp} {s : Shared} {p : Addr} {xs : List V} (I : Inv X pins σ H s) (h : H p = some (.lst xs)) :
    ∃ (its : List Value) (n : Nat), Vals xs its ∧ s.heap.get? p = some { cls := .type "list", data := .seq its.toArray n } ∧ xs.length ≤ sizeLine := by
  obtain ⟨z, its, n, r, e⟩ := I.hok p _ h
  exact ⟨its, n, r, e, z⟩
theorem Inv.lstUpd {pins : List (Addr × Obj)} {σ : St} {H : Hp} {s : Shared} {p : Addr} {xs ys : List V} {its its' : List Value} {n n' : Nat} {f : Obj → Obj} (I : Inv X pins σ H s) (h : H p = some (.lst xs))
    (ho : s.heap.get? p = some { cls := .type "list", data := .seq its.toArray n }) (hf : f { cls := .type "list", data := .seq its.toArray n } = { cls := .type "list", data := .seq its'.toArray n' }) (r : Vals ys its') (hz : ys.length ≤ sizeLine) (t : Nat) :
    Inv X pins σ (upd H p (.lst ys)) { s with heap := s.heap.update p f, toks := t } := by
  have e : (s.heap.update p f).get? p = some { cls := .type "list", data := .seq its'.toArray n' } := by
    rw [Heap.get?_update_self f ho (by rw [hf] <;> rfl), hf]
  refine I.write (x := p) (e := p) (by rw [h]; trivial) (.inl rfl) (fun b u hb q => (Heap.get?_update_other _ _ (Ne.symm hb)).trans q) ⟨_, e⟩ ?_
  exact ⟨hz, its', n', r, e⟩
def rSetL : V → V → V → Hp → (Hp → Prop) → Prop := fun o i v H Q => ∃ p xs k j, o = .ref p ∧ i = .int k ∧ H p = some (.lst xs) ∧ ixN xs.length k = some j ∧ Q (upd H p (.lst (xs.set j v)))
theorem set_list : PSet X rSetL := by
  intro pins s σ H o i v ov iv u Q I ro ri rv h
  obtain ⟨p, xs, k, j, rfl, rfl, hp, hj, q⟩ := h
  cases ro
  obtain ⟨t, rfl⟩ := ri
  obtain ⟨its, n, r, ho, hz⟩ := I.lst hp
  obtain ⟨h1, h2, h3, h4⟩ := ixN_seq hj
  have hl := r.length
  have hn := line63
  have I' : Inv X pins σ (upd H p (.lst (xs.set j v))) { s with heap := s.heap.update p (Obj.mapSeq (·.setIfInBounds j u)) } :=
    I.lstUpd hp ho (mapSeq_set its n j u) (r.set rv j) (by rw [List.length_set]; exact hz) s.toks
  by_cases h0 : 0 ≤ k
  · have hk : k.toNat = j := by
      rw [seqIndex_of h0 h4] at h1
      exact Option.some.inj h1
    exact PySem.W.ki_setAt ho h0 (by omega) (by rw [List.size_toArray, ← hl]; exact h4) (by rw [hk]; exact ⟨_, I', q⟩)
  · have hk : (k + (its.toArray.size : Int)).toNat = j := by
      rw [seqIndex_neg (by omega) h3] at h1
      rw [List.size_toArray, ← hl]
      exact Option.some.inj h1
    exact PySem.W.ki_setBack ho (by omega) (by rw [List.size_toArray, ← hl]; exact h3) (by omega) (by rw [hk]; exact ⟨_, I', q⟩)
def flatV : V → Bool
  | .non => true
  | .bl _ => true
  | .int _ => true
  | .str _ => true
  | _ => false
def eqV : V → V → Bool
  | .non, .non => true
  | .bl a, .bl b => a == b
  | .bl a, .int b => (if a then 1 else 0) == b
  | .int a, .bl b => a == (if b then 1 else 0)
  | .int a, .int b => a == b
  | .str a, .str b => a == b
  | _, _ => false
theorem eqAt_V {A : Around} {s : Shared} {y x : V} {u v : Value} (ry : RelV y u) (rx : RelV x v) (fy : flatV y = true) (fx : flatV x = true) : SeqAt.EqAt A s u v (eqV y x) := by
  cases y with
  | non =>
    cases ry
    cases x with
    | non => cases rx; exact SeqAt.EqAt.same _
    | bl b => cases rx; exact SeqAt.EqAt.none_bool b
    | int b => obtain ⟨t, rfl⟩ := rx; exact SeqAt.EqAt.none_int b t
    | str b => obtain ⟨t, rfl⟩ := rx; exact SeqAt.EqAt.none_str b t
    | _ => exact absurd (show false = true from fx) Bool.false_ne_true
  | bl a =>
    cases ry
    cases x with
    | non => cases rx; exact SeqAt.EqAt.bool_none a
    | bl b => cases rx; exact SeqAt.EqAt.bool_bool a b
    | int b => obtain ⟨t, rfl⟩ := rx; exact SeqAt.EqAt.bool_int a b t
    | str b => obtain ⟨t, rfl⟩ := rx; exact SeqAt.EqAt.bool_str a b t
    | _ => exact absurd (show false = true from fx) Bool.false_ne_true
  | int a =>
    obtain ⟨t', rfl⟩ := ry
    cases x with
    | non => cases rx; exact SeqAt.EqAt.int_none a t'
    | bl b => cases rx; exact SeqAt.EqAt.int_bool a t' b
    | int b => obtain ⟨t, rfl⟩ := rx; exact SeqAt.EqAt.int_int a t' b t
    | str b => obtain ⟨t, rfl⟩ := rx; exact SeqAt.EqAt.int_str a t' b t
    | _ => exact absurd (show false = true from fx) Bool.false_ne_true
  | str a =>
    obtain ⟨t', rfl⟩ := ry
    cases x with
    | non => cases rx; exact SeqAt.EqAt.str_none a t'
    | bl b => cases rx; exact SeqAt.EqAt.str_bool a t' b
    | int b => obtain ⟨t, rfl⟩ := rx; exact SeqAt.EqAt.str_int a t' b t
    | str b => obtain ⟨t, rfl⟩ := rx; exact SeqAt.EqAt.str_str a t' b t
    | _ => exact absurd (show false = true from fx) Bool.false_ne_true
  | _ => exact absurd (show false = true from fy) Bool.false_ne_true
theorem CallR.or {f : Value} {r r' : List V → Hp → VK → Prop} (h : CallR X f r) (h' : CallR X f r') : CallR X f (fun xs H Q => r xs H Q ∨ r' xs H Q) := by
  intro pins s σ H xs us Q I rs q
  rcases q with q | q
  · exact h pins s σ H xs us Q I rs q
  · exact h' pins s σ H xs us Q I rs q
theorem call_tuple_of : CallR X (.type "tuple") (fun xs H Q => ∃ p ys, xs = [.ref p] ∧ ((SqL X.K H p ys ∧ ∀ l, H l = none → Q (.ref l) (upd H l (.tup ys))) ∨ (SqT X.K H p ys ∧ Q (.ref p) H))) := by
  intro pins s σ H xs us Q I r h
  obtain ⟨p, ys, rfl, h⟩ := h
  obtain ⟨u, rfl, rx⟩ := vals1 r
  cases rx
  rcases h with ⟨hq, q⟩ | ⟨hq, q⟩
  · obtain ⟨its, r', pl, hz⟩ := I.list hq
    have hlen := r'.length
    refine call_tuple_list pl.isList (fun h' kp => ?_) (by simp only [List.size_toArray] <;> omega)
    have I1 : Inv X pins σ H { s with heap := h' } := I.kept (t' := s.toks) kp
    have I2 : Inv X pins σ (upd H h'.objs.size (.tup ys)) { s with heap := h'.push { cls := .type "tuple", data := .seq its.toArray } } :=
      I1.laid (t' := s.toks) (fun b o e => Heap.get?_push_of_some _ e) (Nat.le_refl _) (show ObjOk X.prog X.w _ _ _ (.tup ys) from ⟨hz, its, r', IsTup.new _ _⟩)
    exact ⟨.ref h'.objs.size, _, I2, rfl, q _ (I1.hok.fresh (Nat.le_refl _))⟩
  · obtain ⟨its, r', pl, hz⟩ := I.tuple hq
    exact call_tuple_same pl ⟨.ref p, H, I, rfl, q⟩
variable {o e : Expr} {es : List Expr} {to : TE} {t : TA} {name : Str} {apos cpos : Pos} {T id : String} {r : V → List V → Hp → VK → Prop}
end
end L2
namespace L2
open PySem PySem.Spec PyProof.Rows
theorem Vals.one : ∀ {x : V} {us : List Value}, Vals [x] us → ∃ u, us = [u] ∧ RelV x u
  | _, _, .cons r .nil => ⟨_, rfl, r⟩
theorem Vals.two : ∀ {x y : V} {us : List Value}, Vals [x, y] us → ∃ u v, us = [u, v] ∧ RelV x u ∧ RelV y v
  | _, _, _, .cons r (.cons q .nil) => ⟨_, _, rfl, r, q⟩
theorem Vals.zero : ∀ {us : List Value}, Vals [] us → us = []
  | _, .nil => rfl
theorem Vals.eraseIdx : ∀ {xs : List V} {us : List Value} (i : Nat), Vals xs us → Vals (xs.eraseIdx i) (us.eraseIdx i)
  | _, _, _, .nil => .nil
  | _, _, 0, .cons _ t => t
  | _, _, i + 1, .cons r t => .cons r (Vals.eraseIdx i t)
theorem Vals.rep {xs : List V} {us : List Value} (h : Vals xs us) : ∀ k : Nat, Vals (List.replicate k xs).flatten (List.replicate k us).flatten
  | 0 => .nil
  | k + 1 => by
    rw [List.replicate_succ, List.replicate_succ, List.flatten_cons, List.flatten_cons]
    exact Vals.append h (Vals.rep h k)
section
variable {X : Cx} {pins : List (Addr × Obj)} {σ : St} {H : Hp} {s : Shared} {l b : Addr} {xs ys zs : List V}
theorem Inv.lset {its its' : List Value} {n : Nat} {f : Array Value → Array Value} {t' : Nat} (I : Inv X pins σ H s) (hH : H l = some (.lst xs))
    (e : s.heap.get? l = some { cls := .type "list", data := .seq its.toArray n }) (hf : f its.toArray = its'.toArray) (hv : Vals ys its') (hz : ys.length ≤ sizeLine) :
    Inv X pins σ (upd H l (.lst ys)) { s with heap := s.heap.update l (Obj.mapSeq f), toks := t' } := by
  have q := PySem.IsL.update e f
  rw [hf] at q
  refine I.write (x := l) (e := l) (by rw [hH]; exact trivial) (.inl rfl) (fun b' u hb hu => (Heap.get?_update_other s.heap (Obj.mapSeq f) (Ne.symm hb)).trans hu) ⟨_, q⟩ ?_
  exact ⟨hz, its', _, hv, q⟩
theorem Inv.lnew {its : List Value} {t' : Nat} (I : Inv X pins σ H s) (hv : Vals ys its) (hz : ys.length ≤ sizeLine) :
    Inv X pins σ (upd H s.heap.objs.size (.lst ys)) { s with heap := s.heap.push { cls := .type "list", data := .seq its.toArray }, toks := t' } :=
  I.laid (fun _ _ q => Heap.get?_push_of_some _ q) (Nat.le_refl _) ⟨hz, its, 0, hv, Heap.get?_push_size _ rfl⟩
theorem Inv.fresh (I : Inv X pins σ H s) : H s.heap.objs.size = none := I.hok.fresh (Nat.le_refl _)
theorem Inv.lstM (I : Inv X pins σ H s) (hH : H l = some (.lst xs)) : xs.length ≤ sizeLine ∧ ∃ (its : List Value) (n : Nat), Vals xs its ∧ xs.length = its.length ∧ s.heap.get? l = some { cls := .type "list", data := .seq its.toArray n } := by
  obtain ⟨z, its, n, r, e⟩ := I.hok l _ hH
  exact ⟨z, its, n, r, r.length, e⟩
end
section
variable {X : Cx}
def rCat : R2 := fun x y H Q => ∃ l b xs zs, x = .ref l ∧ y = .ref b ∧ H l = some (.lst xs) ∧ H b = some (.lst zs) ∧ xs.length + zs.length ≤ sizeLine ∧ ∀ p, H p = none → Q (.ref p) (upd H p (.lst (xs ++ zs)))
theorem op_cat : OpR X (binaryOp .Add) rCat := by
  intro pins s σ H x y v u Q I rx ry h
  obtain ⟨l, b, xs, zs, rfl, rfl, hH, hB, hz, q⟩ := h
  cases rx
  cases ry
  obtain ⟨z, its, n, r, hl, e⟩ := I.lstM hH
  obtain ⟨z2, its2, n2, r2, hl2, e2⟩ := I.lstM hB
  refine PySem.P.add_list e e2 ?_ (by rw [List.size_toArray, List.size_toArray]; omega)
  have ea : its.toArray ++ its2.toArray = (its ++ its2).toArray := by simp
  rw [ea]
  exact ⟨.ref _, _, I.lnew (t' := s.toks) (r.append r2) (by rw [List.length_append]; omega), rfl, q _ I.fresh⟩
end
section
variable {prog : Program} {w : World} {A : Around} {E : Value → Shared → Prop} {s : Shared}
end
section
variable {X : Cx}
end
end L2
namespace Att
open PySem PySem.W PySem.Calls PyProof.Rows
theorem ints_of_wellAll {P : Params} {h : Heap} : ∀ (ns : List Int) (vs : List Value), WellAll P h vs (ns.map WData.int) → IntsAre vs ns := by
  intro ns
  induction ns with
  | nil =>
    intro vs w
    rw [List.map_nil] at w
    cases w
    exact .nil
  | cons n ns ih =>
    intro vs w
    rw [List.map_cons] at w
    cases w with
    | cons a b =>
      cases a
      exact .cons _ _ (ih _ b)
theorem script_of {l : OpenLaw} {n : Nat} (hn : l.most = some n) {P : Params} {h : Heap} {args : List WData} {vals : List Value}
    (hpre : l.row.toRowW.claim.pre args = true) (hwl : WellAll P h vals args) :
    ∃ a vs ns, vals = [Value.ref a] ∧ args = [WData.list (ns.map WData.int)] ∧ h.get? a = some { cls := .type "list", data := .seq vs.toArray } ∧ IntsAre vs ns ∧ ns.length ≤ n := by
  have hsh : WShape.hasAll [] args [.list .int] = true := (pre_splitW hpre).1
  have hc : l.pre.holds [] { args := args } = true := (pre_splitW hpre).2
  obtain ⟨d, r, rfl, h1, h2⟩ := hasAllW_cons hsh
  obtain rfl := hasAllW_nil h2
  obtain ⟨xs, rfl, h3⟩ := hasW_list h1
  obtain ⟨ns, rfl⟩ := items_int h3
  have hlen : ns.length ≤ n := by
    unfold OpenLaw.pre at hc
    have h4 : (WTm.not (.lt (.lit (.int (n : Int))) (.len (.arg 0)))).holds [] { args := [.list (ns.map .int)] } = true := by
      have h4 := (holds_andW hc).1
      rw [hn] at h4
      exact h4
    have h5 := condW_of h4 (w_not (w_lt w_lit (w_len_list (w_arg rfl))))
    rw [List.length_map] at h5
    refine Nat.le_of_not_lt fun q => ?_
    have q' : (n : Int) < ((ns.length : Nat) : Int) := by omega
    first
      | (rw [decide_eq_true q'] at h5; exact absurd h5 (by decide))
      | (simp at h5; omega)
  cases hwl with
  | cons w1 w2 =>
    cases w2
    cases w1 with
    | list ho hall => exact ⟨_, _, ns, rfl, rfl, ho, ints_of_wellAll ns _ hall, hlen⟩
theorem post_true (l : OpenLaw) (args : List WData) : l.row.toRowW.claim.post args (.bool true) args = true :=
  postW_of (r := l.row.toRowW) (X := (true == true))
    (show WShape.has [] (.bool true) .bool = true by first | rfl | decide | simp [WShape.has, WShape.arms, WShape.armsAll])
    (show (WTm.eq .res (.lit (.bool true))).value [] { args := args, res := some (.bool true), after := args } = some (.bool (true == true)) from w_eq_bool (w_res rfl) w_lit) rfl
theorem attach_call {l : OpenLaw} {n : Nat} {q : Program} {loose : List Str} {XP : (Str → Option Value) → Heap → Prop} {YP : World → Heap → Prop} {d : DefRec}
    (hn : l.most = some n) (hdf : d.params.defaults = [])
    (call : ∀ (w : World) (s₀ s₁ : Shared) (mg mb : Str → Option Value) (fa : Addr) (o : Obj) (pm cd doc : Value) (a : Addr) (vs : List Value) (ns : List Int),
      Ground q loose [] XP w s₀ mg mb s₁.heap → YP w s₁.heap →
      s₁.heap.get? fa = some o → o.data = .func (docDef d.name d.params d.body d.scope pm cd doc) → s₁.heap.CodeRec cd d.name → mg d.name = some (.ref fa) →
      s₁.heap.get? a = some { cls := .type "list", data := .seq vs.toArray } → IntsAre vs ns → ns.length ≤ n → s₁.gens = #[] →
      codeAny (model l.prog w) callerA (.call (.ref fa) ⟨[.ref a], []⟩) (fun r s' => r = .ok (.ret (.bool true)) ∧ OldK s₁.heap s'.heap ∧ s'.os = s₁.os ∧ AllBare s'.gens) s₁) :
    WalkO q loose XP YP l.row.toRowW d [] (fun f vs => PySem.call f vs) := by
  intro w s₀ s₁ mg mb G Y fa o pm cd doc dV kV ho hd hcd hD hmg hg args vals as hpre hlay hrd hwl hlo
  obtain rfl : dV = .none := Dflts.none hD hdf
  obtain rfl : kV = .none := Dflts.noKw hD
  obtain ⟨a, vs, ns, rfl, rfl, hobj, hints, hlen⟩ := script_of hn hpre hwl
  refine enter_call (codeAny_mono (call w s₀ s₁ mg mb fa o pm cd doc a vs ns G Y ho (fd_plain hd) hcd hmg hobj hints hlen hg) fun r s' hq => ?_)
  obtain ⟨rfl, h2, h3, h4⟩ := hq
  exact ⟨.inl ⟨.bool true, .bool true, [], rfl, fun _ => rfl, .bool true, post_true l _, fun _ => ⟨List.Pairwise.nil, fun _ hm => (nomatch hm)⟩⟩, h2, h3, h4⟩
section
variable {prog : Program} {w : World} {A : Around} {E : Value → Shared → Prop} {s : Shared} {K : Frag}
end
end Att
namespace L2
open PySem PySem.Spec PyProof.Rows
theorem vals_ints : ∀ {vs : List Value} {ns : List Int}, IntsAre vs ns → Vals (ns.map V.int) vs
  | _, _, .nil => .nil
  | _, _, .cons n t h => .cons ⟨t, rfl⟩ (vals_ints h)
def Only (H : Hp) : Prop := ∀ b, H b = none ∨ ∃ o xs, H b = some (.frz o (.lst xs))
theorem law_call {P : Program} {w : World} {K : PySem.W.Frag} {mg mb : Str → Option Value} {CX : CXT} {k : Nat} {fa a : Addr} {fd : FuncData} {x : Str} {sp : Sp} {s₁ : Shared} {vs : List Value} {ns : List Int}
    (KX : K.In s₁.heap) (hns : s₁.heap.Ns mainGlobals mg) (hb : s₁.heap.Ns builtinsNs mb) (hbb : ∀ x : Str, x ≠ "__name__" → mb x = bootBuiltins x) (hlim : s₁.heap.NoLimit) (hg : s₁.gens = #[])
    (ha : s₁.heap.get? a = some { cls := .type "list", data := .seq vs.toArray }) (hi : IntsAre vs ns) (hl : ns.length ≤ sizeLine) (hr : Room k callerA)
    (F : ∀ base : Heap, K.In base → base.Ns mainGlobals mg → FnOk P w K mg base CX k fa fd [x] sp) (hbind : ∀ (s : Shared) (u : Value), BindsTo s fd ⟨[u], []⟩ [(x, u)])
    (hsp : ∀ H : Hp, Only H → SqL K H a (ns.map V.int) → sp [.ref a] H (fun v _ => v = .bl true) fun _ _ _ => False)
    (hCX : ∀ H e s', CX [] H s₁ (fun _ _ _ => False) e s' → False) :
    codeAny (model P w) callerA (.call (.ref fa) ⟨[.ref a], []⟩) (fun r s' => r = .ok (.ret (.bool true)) ∧ OldK s₁.heap s'.heap ∧ s'.os = s₁.os ∧ AllBare s'.gens) s₁ := by
  have rv := vals_ints hi
  have lenV := hi.length
  have core : ∀ H : Hp, Only H → SqL K H a (ns.map V.int) → HOk P w H s₁.heap → (∀ b, H b ≠ none → b = a) → (H a ≠ none → K.lookup a = none) →
      codeAny (model P w) callerA (.call (.ref fa) ⟨[.ref a], []⟩) (fun r s' => r = .ok (.ret (.bool true)) ∧ OldK s₁.heap s'.heap ∧ s'.os = s₁.os ∧ AllBare s'.gens) s₁ := by
    intro H hO hS hok hA hK
    have base_of : ∀ {b : Addr} {o : Obj}, s₁.heap.get? b = some o → H b = none → (hidT s₁.heap H).get? b = some o := fun e n => hidT_get e n
    have noA : ∀ {b : Addr} {o : Obj} {es : Array DictEntry} {ep : Nat}, s₁.heap.get? b = some o → o.data = .dict es ep → H b = none := fun {b o es ep} e d => by
      cases q : H b with
      | none => rfl
      | some u =>
        have e' : b = a := hA b (by rw [q]; simp)
        subst e'
        rw [ha] at e; cases e
        have d' : Data.seq vs.toArray _ = Data.dict es ep := d
        cases d'
    have nsK : ∀ {b : Addr} {m : Str → Option Value}, s₁.heap.Ns b m → (hidT s₁.heap H).Ns b m := fun {b m} ⟨o, es, ep, e, d, r⟩ => ⟨o, es, ep, base_of e (noA e d), d, r⟩
    have hKb : K.In (hidT s₁.heap H) := fun b o e => base_of (KX b o e) (by
      cases q : H b with
      | none => rfl
      | some u =>
        have e' : b = a := hA b (by rw [q]; simp)
        subst e'
        rw [hK (by rw [q]; simp)] at e; cases e)
    have hM : Mod K mg (hidT s₁.heap H) := ⟨hKb, nsK hns, ⟨mb, nsK hb, hbb⟩, let ⟨mc, h1, h2⟩ := hlim; ⟨mc, nsK h1, h2⟩⟩
    have e0 : Env0 P w K mg (hidT s₁.heap H) callerA [] s₁ H := ⟨rfl, hM, fun b o e => of_hidT e, Nat.le_of_eq (hidT_size _ _), trivial, fun b hb => absurd (show b ∈ ([] : List Addr) from hb) (by simp), hok, .of_eq hg⟩
    refine codeAny_mono ((F _ hKb (nsK hns)).run callerA [] s₁ H ⟨[.ref a], []⟩ [.ref a] [.ref a] _ _ hr e0 (hbind s₁ (.ref a)) (.cons rfl .nil) (hsp H hO hS)) fun r s' h => ?_
    cases r with
    | error e => exact (hCX H e s' h).elim
    | ok fl =>
      cases fl with
      | next => exact False.elim h
      | brk => exact False.elim h
      | cont => exact False.elim h
      | ret u =>
        obtain ⟨v, H', os, bare, un, hok', r', q⟩ := h
        have q' : v = .bl true := q
        subst q'
        obtain rfl : u = Value.bool true := r'
        refine ⟨rfl, OldK.of_keep fun b o e => ?_, os, bare⟩
        cases q : H b with
        | none => exact un.keep b o e q (by intro z; exact absurd (show b ∈ ([] : List Addr) from z) (by simp)) (by simp)
        | some u =>
          rcases hO b with z | ⟨ob, xs, z⟩
          · rw [q] at z; cases z
          · have z2 := un.frzs b ob _ z
            obtain ⟨e1, _⟩ := hok b _ z
            obtain ⟨e2, _⟩ := hok' b _ z2
            rw [e] at e1; cases e1
            exact e2
  cases hk : K.lookup a with
  | some o =>
    have e := KX a o hk
    rw [ha] at e
    cases e
    refine core (fun _ => none) (fun _ => .inl rfl) (.inr ⟨_, vs.toArray, _, hk, rfl, rfl, rfl, by rw [List.size_toArray, lenV]; exact hl, by simpa using rv⟩) (fun b u z => by have z' : (none : Option HO) = some u := z; cases z') (fun b z => absurd rfl z) fun z => absurd rfl z
  | none =>
    refine core (fun b => if b = a then some (.frz { cls := .type "list", data := .seq vs.toArray } (.lst (ns.map V.int))) else none) (fun b => ?_) (.inl (.inr ⟨{ cls := .type "list", data := .seq vs.toArray }, if_pos rfl⟩)) (fun b u z => ?_) (fun b z => ?_) fun _ => hk
    · by_cases hb : b = a
      · exact .inr ⟨_, _, if_pos hb⟩
      · exact .inl (if_neg hb)
    · by_cases hb : b = a
      · have z' := (if_pos hb).symm.trans z
        cases z'
        subst hb
        exact ⟨ha, by rw [List.length_map]; exact hl, vs, _, rv, ha⟩
      · have z' := (if_neg hb).symm.trans z
        cases z'
    · by_cases hb : b = a
      · exact hb
      · exact absurd (if_neg hb) z
end L2
namespace L2
open PySem PySem.Spec PyProof.Rows
abbrev KOf {K : PySem.W.Frag} {h : Heap} (_ : K.In h) : PySem.W.Frag := K
theorem walk_of {l : PySem.W.OpenLaw} {n k : Nat} {q : Program} {loose : List Str} {XP : (Str → Option Value) → Heap → Prop} {YP : World → Heap → Prop} {d : DefRec} {K : Params → PySem.W.Frag} {CX : World → CXT} {sp : World → Sp} {x : Str}
    (hn : l.most = some n) (hn2 : n ≤ sizeLine) (hdf : d.params.defaults = []) (hr : Room k callerA)
    (hY : ∀ (w : World) (h : Heap), YP w h → (K w.params).In h)
    (F : ∀ (w : World) (mg : Str → Option Value) (fa : Addr) (h : Heap), (K w.params).In h → h.Ns mainGlobals mg → mg d.name = some (.ref fa) →
      ∃ fd : FuncData, (∀ (s : Shared) (u : Value), BindsTo s fd ⟨[u], []⟩ [(x, u)]) ∧
        ∀ base : Heap, (K w.params).In base → base.Ns mainGlobals mg → FnOk l.prog w (K w.params) mg base (CX w) k fa fd [x] (sp w))
    (hsp : ∀ (w : World) (H : Hp) (a : Addr) (ns : List Int), ns.length ≤ n → Only H → SqL (K w.params) H a (ns.map V.int) → sp w [.ref a] H (fun v _ => v = .bl true) fun _ _ _ => False)
    (hCX : ∀ (w : World) (H : Hp) (s : Shared) (e : Value) (s' : Shared), CX w [] H s (fun _ _ _ => False) e s' → False) :
    PySem.W.WalkO q loose XP YP l.row.toRowW d [] (fun f vs => PySem.call f vs) := by
  refine Att.attach_call hn hdf fun w s₀ s₁ mg mb fa o pm cd doc a vs ns G Y ho hd hcd hmg hobj hints hlen hg => ?_
  have KX := hY w _ Y
  obtain ⟨fd, hb, hF⟩ := F w mg fa _ KX G.T.g hmg
  exact law_call KX G.T.g G.T.b G.T.builtins G.T.nolimit hg hobj hints (Nat.le_trans hlen hn2) hr hF hb (fun H hO hS => hsp w H a ns hlen hO hS) fun H e s' => hCX w H s₁ e s'
end L2
namespace L2
open PySem PySem.Spec PyProof.Rows
def inClass (s : Stmt) (j : Nat) : Stmt := match s with
  | .ClassDef _ _ _ body _ _ _ _ _ _ _ => body.getD j (.Pass ⟨0, 0, 0, 0⟩)
  | _ => .Pass ⟨0, 0, 0, 0⟩
def defArgs (s : Stmt) : Arguments := match s with
  | .FunctionDef _ a _ _ _ _ _ _ _ _ => a
  | _ => { posonlyargs := [], args := [], vararg := none, kwonlyargs := [], kw_defaults := [], kwarg := none, defaults := [] }
def defBody (s : Stmt) : List Stmt := match s with
  | .FunctionDef _ _ b _ _ _ _ _ _ _ => b
  | _ => []
def defScope (s : Stmt) : Scope := match s with
  | .FunctionDef _ _ _ _ _ _ sc _ _ _ => sc
  | _ => { kind := .function, names := [], isGenerator := false, isCoroutine := false }
abbrev CX0 : CXT := fun _ _ _ _ _ _ => False
abbrev E0 : XK := fun _ _ _ => False
theorem pass0 {X : Cx} : Passes CX0 X E0 := fun _ _ _ _ _ _ _ h => h.elim
structure Fun (K : PySem.W.Frag) (x qual : Str) (st : Stmt) (f : Addr) (fd : FuncData) : Prop where
  ex : ∃ (oc : Value) (od : Option Addr) (kV doc pm : Value) (an : Option Addr) (cdv ct : Value) (osl : Array (Option Value)),
    fd = PySem.W.fnOf x qual (defArgs st) (defBody st) (defScope st) .none kV doc pm an cdv ct ∧ K.lookup f = some ⟨oc, od, .func fd, osl⟩ ∧ PySem.W.codeIn K cdv qual = true
  kp : PySem.W.keepIn K (.ref f) = true
section
variable {P : Program} {w : World} {K : PySem.W.Frag} {mg : Str → Option Value} {base : Heap}
theorem Fun.ok {x qual : Str} {st : Stmt} {f : Addr} {fd : FuncData} {N ps : List Str} {k : Nat} {sp : Sp} (F : Fun K x qual st f fd) (S : FnScope N ps (defScope st)) (len : ∀ vs H Q E, sp vs H Q E → vs.length = ps.length)
    (hbody : ∀ (cdv : Value) (A : Around) (outer : List Env) (s : Shared) (H : Hp) (vs : List V) (Q : VK) (E : XK), Room k (A.deeper (envOfC qual (defScope st) s.heap.objs.size f cdv)) → sp vs H Q E →
      ∃ t, PSs (cxOf CX0 P w K mg base N qual (defScope st) f cdv A outer s H E).nox (defBody st) t ∧ t { nx := fun _ H' => Q .non H', rt := Q } (start N vs) H) : FnOk P w K mg base CX0 (k + 1) f fd ps sp := by
  obtain ⟨oc, od, kV, doc, pm, an, cdv, ct, osl, rfl, lk, hcd⟩ := F.ex
  refine fn_of lk hcd S len fun A outer s H vs Q E hr hsp => ?_
  obtain ⟨t, h, q⟩ := hbody cdv A outer s H vs Q E hr hsp
  exact ⟨t, h.nox, q⟩
theorem Fun.binds {x qual : Str} {st : Stmt} {f : Addr} {fd : FuncData} {ps : List Str} (F : Fun K x qual st f fd)
    (h : ∀ (kV doc pm : Value) (an : Option Addr) (cdv ct : Value) (us : List Value), us.length = ps.length → bindArgs (PySem.W.fnOf x qual (defArgs st) (defBody st) (defScope st) .none kV doc pm an cdv ct) ⟨us, []⟩ = pure (ps.zip us)) : Binds K fd ps [] := by
  obtain ⟨oc, od, kV, doc, pm, an, cdv, ct, osl, rfl, lk, hcd⟩ := F.ex
  exact .all (h kV doc pm an cdv ct)
theorem fun_mk {x qual : Str} {st : Stmt} {f : Addr} {oc : Value} {od an : Option Addr} {osl : Array (Option Value)} {kV doc pm cdv ct : Value} (l : K.lookup f = some ⟨oc, od, .func (PySem.W.fnOf x qual (defArgs st) (defBody st) (defScope st) .none kV doc pm an cdv ct), osl⟩)
    (c : PySem.W.codeIn K cdv qual = true) (k : PySem.W.keepIn K (.ref f) = true) : Fun K x qual st f (PySem.W.fnOf x qual (defArgs st) (defBody st) (defScope st) .none kV doc pm an cdv ct) := ⟨⟨oc, od, kV, doc, pm, an, cdv, ct, osl, rfl, l, c⟩, k⟩
end
theorem small1000 {n : Nat} (h : n ≤ 1000) : n < sizeLine := Nat.lt_of_le_of_lt h (by decide)
section
variable {X : Cx}
end
def Same (H H' : Hp) : Prop := ∀ b o, H b = some o → H' b = some o
theorem Same.refl (H : Hp) : Same H H := fun _ _ h => h
theorem Same.trans {H H1 H2 : Hp} (a : Same H H1) (b : Same H1 H2) : Same H H2 := fun c o h => b c o (a c o h)
theorem Same.free {H H' : Hp} (e : Same H H') {l : Addr} (h : H' l = Option.none) : H l = Option.none := by
  cases q : H l with
  | none => rfl
  | some o =>
    rw [e l o q] at h
    cases h
theorem Same.seq {K : PySem.W.Frag} {H H' : Hp} {a : Addr} {xs : List V} (e : Same H H') (h : SqL K H a xs) : SqL K H' a xs := by
  rcases h with (h | ⟨o, h⟩) | h
  · exact .inl (.inl (e _ _ h))
  · exact .inl (.inr ⟨o, e _ _ h⟩)
  · exact .inr h
end L2
namespace L2
open PySem PySem.Spec PyProof.Rows
section
variable {κ : Type} [DecidableEq κ]
def valV (kvs : List (κ × V)) (k : κ) : Option V := (kvs.find? fun kv => decide (kv.1 = k)).map (·.2)
def putK (kvs : List (κ × V)) (k : κ) (v : V) : List (κ × V) :=
  if (kvs.any fun kv => decide (kv.1 = k)) = true then kvs.map (fun kv => if kv.1 = k then (kv.1, v) else kv) else kvs ++ [(k, v)]
def dropK (kvs : List (κ × V)) (k : κ) : List (κ × V) := kvs.filter fun kv => decide (kv.1 ≠ k)
theorem valV_pos {p : κ × V} {r : List (κ × V)} {k : κ} (e : p.1 = k) : valV (p :: r) k = some p.2 := by simp [valV, List.find?_cons, e]
theorem valV_neg {p : κ × V} {r : List (κ × V)} {k : κ} (e : ¬ p.1 = k) : valV (p :: r) k = valV r k := by simp [valV, List.find?_cons, e]
theorem RelO.getD {o : Option V} {u : Option Value} {d : V} {d' : Value} (r : RelO o u) (rd : RelV d d') : RelV (o.getD d) (u.getD d') := by
  cases o with
  | none => cases u with
    | none => exact rd
    | some _ => exact (show False from r).elim
  | some _ => cases u with
    | none => exact (show False from r).elim
    | some _ => exact r
theorem KV.val {kvs : List (κ × V)} {vs : List (κ × Value)} (r : KV kvs vs) (k : κ) : RelO (valV kvs k) (valueAt vs k) := by
  unfold KV at r
  induction r with
  | nil => exact True.intro
  | @cons p q ps qs h t ih =>
    obtain ⟨h1, h2⟩ := h
    by_cases e : p.1 = k
    · have e' : q.1 = k := h1.symm.trans e
      have b : valueAt (q :: qs) k = some q.2 := by simp [valueAt, List.find?_cons, e']
      rw [valV_pos e, b]; exact h2
    · have e' : ¬ q.1 = k := fun z => e (h1.trans z)
      have b : valueAt (q :: qs) k = valueAt qs k := by simp [valueAt, List.find?_cons, e']
      rw [valV_neg e, b]; exact ih
theorem KV.any {kvs : List (κ × V)} {vs : List (κ × Value)} (r : KV kvs vs) (k : κ) : (kvs.any fun kv => decide (kv.1 = k)) = vs.any fun kv => decide (kv.1 = k) := by
  unfold KV at r
  induction r with
  | nil => rfl
  | cons h t ih => rw [List.any_cons, List.any_cons, ih, h.1]
theorem KV.drop {kvs : List (κ × V)} {vs : List (κ × Value)} (r : KV kvs vs) (k : κ) : KV (dropK kvs k) (without vs k) := by
  unfold KV at r ⊢
  unfold dropK without
  induction r with
  | nil => exact .nil
  | @cons p q ps qs h t ih =>
    obtain ⟨h1, h2⟩ := h
    rw [List.filter_cons, List.filter_cons]
    by_cases e : p.1 = k
    · have a : ¬ decide (p.1 ≠ k) = true := by simp [e]
      have b : ¬ decide (q.1 ≠ k) = true := by simp [h1.symm.trans e]
      rw [if_neg a, if_neg b]; exact ih
    · have e' : ¬ q.1 = k := fun z => e (h1.trans z)
      have a : decide (p.1 ≠ k) = true := by simp [e]
      have b : decide (q.1 ≠ k) = true := by simp [e']
      rw [if_pos a, if_pos b]; exact .cons ⟨h1, h2⟩ ih
theorem KV.keys {kvs : List (κ × V)} {vs : List (κ × Value)} (r : KV kvs vs) : kvs.map (·.1) = vs.map (·.1) := by
  unfold KV at r
  induction r with
  | nil => rfl
  | cons h t ih => rw [List.map_cons, List.map_cons, ih, h.1]
theorem KV.length {kvs : List (κ × V)} {vs : List (κ × Value)} (r : KV kvs vs) : kvs.length = vs.length := Paired.length r
end
abbrev KT (H : Hp) : List (List Key × V) → List (List Key × Addr × Value) → Prop := Paired fun p q => p.1 = q.1 ∧ H q.2.1 = some (.tup (p.1.map kV)) ∧ RelV p.2 q.2.2
theorem KT.val {H : Hp} {kvs : List (List Key × V)} {xs : List (List Key × Addr × Value)} (r : KT H kvs xs) (k : List Key) : RelO (valV kvs k) ((atKey xs k).map (·.2)) := by
  induction r with
  | nil => exact True.intro
  | @cons p q ps qs h t ih =>
    obtain ⟨h1, _, h2⟩ := h
    by_cases e : p.1 = k
    · have e' : q.1 = k := h1.symm.trans e
      have b : atKey (q :: qs) k = some q.2 := by simp [atKey, List.find?_cons, e']
      rw [valV_pos e, b]; exact h2
    · have e' : ¬ q.1 = k := fun z => e (h1.trans z)
      have b : atKey (q :: qs) k = atKey qs k := by simp [atKey, List.find?_cons, e']
      rw [valV_neg e, b]; exact ih
theorem KT.keeps {H H' : Hp} {kvs : List (List Key × V)} {xs : List (List Key × Addr × Value)} (r : KT H kvs xs) (ht : ∀ b ys, H b = some (.tup ys) → H' b = some (.tup ys)) : KT H' kvs xs :=
  Paired.mapP r fun _ _ z => ⟨z.1, ht _ _ z.2.1, z.2.2⟩
section
variable {P : Program} {w : World} {H : Hp} {h : Heap} {a : Addr}
end
def DGet (H : Hp) (a : Addr) (y : V) (r : Option V) : Prop :=
  (∃ kvs k, Rd H a (.dK kvs) ∧ y = kV k ∧ r = valV kvs k) ∨ ∃ kvs k b, Rd H a (.dT kvs) ∧ y = .ref b ∧ H b = some (.tup (k.map kV)) ∧ r = valV kvs k
def DPut (H : Hp) (a : Addr) (y v : V) (H' : Hp) : Prop :=
  (∃ kvs k, H a = some (.dK kvs) ∧ y = kV k ∧ kvs.length < sizeLine ∧ H' = upd H a (.dK (putK kvs k v))) ∨
  ∃ kvs k b, H a = some (.dT kvs) ∧ y = .ref b ∧ H b = some (.tup (k.map kV)) ∧ kvs.length < sizeLine ∧ H' = upd H a (.dT (putK kvs k v))
theorem DGet.k {H : Hp} {a : Addr} {kvs : List (Key × V)} {k : Key} (e : H a = some (.dK kvs)) : DGet H a (kV k) (valV kvs k) := .inl ⟨kvs, k, .inl e, rfl, rfl⟩
theorem DGet.t {H : Hp} {a b : Addr} {kvs : List (List Key × V)} {k : List Key} (e : H a = some (.dT kvs)) (eb : H b = some (.tup (k.map kV))) : DGet H a (.ref b) (valV kvs k) := .inr ⟨kvs, k, b, .inl e, rfl, eb, rfl⟩
theorem DPut.k {H : Hp} {a : Addr} {kvs : List (Key × V)} {k : Key} {v : V} (e : H a = some (.dK kvs)) (hl : kvs.length < sizeLine) : DPut H a (kV k) v (upd H a (.dK (putK kvs k v))) := .inl ⟨kvs, k, e, rfl, hl, rfl⟩
theorem DPut.t {H : Hp} {a b : Addr} {kvs : List (List Key × V)} {k : List Key} {v : V} (e : H a = some (.dT kvs)) (eb : H b = some (.tup (k.map kV))) (hl : kvs.length < sizeLine) :
    DPut H a (.ref b) v (upd H a (.dT (putK kvs k v))) := .inr ⟨kvs, k, b, e, rfl, eb, hl, rfl⟩
section
variable {X : Cx} {pins : List (Addr × Obj)} {σ : St} {H : Hp} {s : Shared} {a : Addr} {y v : V} {u r : Value} {o : Option V} {A : Around} {E : Value → Shared → Prop}
end
section
variable {X : Cx} {pins : List (Addr × Obj)} {σ : St} {H : Hp} {s : Shared} {a : Addr} {kvs : List (Key × V)} {k : Key} {u : Value} {A : Around} {E : Value → Shared → Prop}
end
section
variable {X : Cx} {o i e value : Expr} {pos pos' tpos : Pos} {td ty tv : TE}
end
section
variable {X : Cx} {pos : Pos}
end
def tPairs : List (TE × TE) → St → Hp → (List (V × V) → Hp → Prop) → Prop
  | [], _, H, Q => Q [] H
  | (tk, tv) :: r, σ, H, Q => tk σ H fun x H1 => tv σ H1 fun y H2 => tPairs r σ H2 fun ps H3 => Q ((x, y) :: ps) H3
abbrev VV : List (V × V) → List (Value × Value) → Prop := Paired fun p q => RelV p.1 q.1 ∧ RelV p.2 q.2
def PPs (X : Cx) (pos : Pos) (keys : List (Option Expr)) (values : List Expr) (trs : List (TE × TE)) : Prop :=
  ∀ (pins : List (Addr × Obj)) (s : Shared) (σ : St) (H : Hp) (Q : List (V × V) → Hp → Prop), Inv X pins σ H s → tPairs trs σ H Q →
    wpAny (model X.prog X.w) X.A (evalPairs (pairTrees keys values X.env pos)) (fun vs s' => ∃ ps H', Inv X pins σ H' s' ∧ VV ps vs ∧ Q ps H') X.xe s
structure M1 (X : Cx) (o : Expr) (m : Str) (apos : Pos) (e : Expr) (cpos : Pos) : Prop where
  base : attributeBase o m X.env (eval o X.env) = eval o X.env
  few : ((backTo cpos (starEach [e] X.env)).all (fun x => !x.1) && (backToKw cpos (keywordEach [] X.env)).all (fun x => x.1.isSome)
    && decide (([e] : List Expr).length + ([] : List Keyword).length + (if ([] : List Keyword).isEmpty then 0 else 1) < 30)) = true
  line : (apos.endLine == cpos.line) = true
  trees : backTo cpos (starEach [e] X.env) = [(false, eval e X.env)]
structure M2 (X : Cx) (o : Expr) (m : Str) (apos : Pos) (e f : Expr) (cpos : Pos) : Prop where
  base : attributeBase o m X.env (eval o X.env) = eval o X.env
  few : ((backTo cpos (starEach [e, f] X.env)).all (fun x => !x.1) && (backToKw cpos (keywordEach [] X.env)).all (fun x => x.1.isSome)
    && decide (([e, f] : List Expr).length + ([] : List Keyword).length + (if ([] : List Keyword).isEmpty then 0 else 1) < 30)) = true
  line : (apos.endLine == cpos.line) = true
  trees : backTo cpos (starEach [e, f] X.env) = [(false, eval e X.env), (false, eval f X.env)]
section
variable {X : Cx} {pins : List (Addr × Obj)} {σ : St} {H : Hp} {s : Shared} {a : Addr} {y d : V} {u r : Value} {o : Option V} {A : Around} {E : Value → Shared → Prop}
end
section
variable {X : Cx} {o e f : Expr} {apos cpos : Pos} {td ty tx : TE}
end
section
variable {X : Cx} {pins : List (Addr × Obj)} {σ : St} {H : Hp} {s : Shared} {a : Addr} {kvs : List (Key × V)} {A : Around} {E : Value → Shared → Prop}
end
section
variable {X : Cx} {pins : List (Addr × Obj)} {σ : St} {H : Hp} {s : Shared} {a : Addr} {y : V} {u : Value} {A : Around} {E : Value → Shared → Prop}
end
end L2
namespace L2
open PySem PySem.Spec PyProof.Rows
section
variable {X : Cx}
end
section
variable {κ : Type} [DecidableEq κ]
end
end L2
namespace L2
open PySem PySem.Spec PyProof.Rows
def closL (env : Env) : List (Str × NameKind) → List (Str × Addr) → List (Str × Addr)
  | [], cs => cs
  | (n, k) :: r, cs => closL env r (if k == .free then (match env.cells.lookup n with | some a => (n, a) :: cs | none => cs) else cs)
theorem clos_eq {env : Env} {scope : Scope} (h : ∀ p ∈ scope.names, p.2 = .free → ∃ a, env.cells.lookup p.1 = some a) : closureFor scope env = pure (closL env scope.names []) := by
  have go : ∀ (l : List (Str × NameKind)) (cs : List (Str × Addr)), (∀ p ∈ l, p.2 = .free → ∃ a, env.cells.lookup p.1 = some a) →
      (forIn l cs fun (x : Str × NameKind) (r : List (Str × Addr)) => if (x.2 == .free) = true then (do let a ← cellOf env x.1; pure (ForInStep.yield ((x.1, a) :: r))) else (pure (ForInStep.yield r) : Sem _)) = (pure (closL env l cs) : Sem _) := by
    intro l
    induction l with
    | nil => intro cs _; rfl
    | cons p r ih =>
      intro cs hp
      obtain ⟨n, k⟩ := p
      rw [List.forIn_cons]
      cases hk : k == NameKind.free with
      | false =>
        simp only [hk, Bool.false_eq_true, if_false]
        have e : closL env ((n, k) :: r) cs = closL env r cs := by simp only [closL, hk, Bool.false_eq_true, if_false]
        rw [e, ← ih cs fun q hq => hp q (List.mem_cons_of_mem _ hq)]
        rfl
      | true =>
        obtain ⟨a, ha⟩ := hp (n, k) List.mem_cons_self (by simpa using hk)
        have ha' : env.cells.lookup n = some a := ha
        have e : closL env ((n, k) :: r) cs = closL env r ((n, a) :: cs) := by simp only [closL, hk, ha', if_true]
        have ec : cellOf env n = pure a := by unfold cellOf; rw [ha']
        simp only [hk, if_true, ec]
        rw [e, ← ih ((n, a) :: cs) fun q hq => hp q (List.mem_cons_of_mem _ hq)]
        rfl
  have q := go scope.names [] h
  simp only [closureFor]
  refine Eq.trans (congrArg (fun z => z >>= fun s => pure s) q) ?_
  rfl
theorem clos_sub {env : Env} {x : Str} {c : Addr} : ∀ (l : List (Str × NameKind)) (cs : List (Str × Addr)), (cs.lookup x = some c → env.cells.lookup x = some c) → (closL env l cs).lookup x = some c → env.cells.lookup x = some c
  | [], _, h, e => h e
  | (n, k) :: r, cs, h, e => by
    unfold closL at e
    refine clos_sub r _ ?_ e
    intro q
    split at q
    · split at q
      · rename_i a ha
        rw [List.lookup_cons] at q
        split at q
        · rename_i hx
          have : x = n := by simpa using hx
          cases q
          rw [this]; exact ha
        · exact h q
      · exact h q
    · exact h q
theorem clos_has {env : Env} {x : Str} : ∀ (l : List (Str × NameKind)) (cs : List (Str × Addr)), (∀ p ∈ l, p.2 = .free → ∃ a, env.cells.lookup p.1 = some a) →
    ((∃ c, cs.lookup x = some c) ∨ (x, NameKind.free) ∈ l) → ∃ c, (closL env l cs).lookup x = some c
  | [], _, _, h => h.elim id (fun z => nomatch z)
  | (n, k) :: r, cs, hf, h => by
    unfold closL
    refine clos_has r _ (fun p hp => hf p (List.mem_cons_of_mem _ hp)) ?_
    rcases h with ⟨c, h⟩ | h
    · left
      split
      · split
        · rw [List.lookup_cons]
          split
          · exact ⟨_, rfl⟩
          · exact ⟨c, h⟩
        · exact ⟨c, h⟩
      · exact ⟨c, h⟩
    · rcases List.mem_cons.mp h with e | h
      · cases e
        left
        obtain ⟨a, ha⟩ := hf (x, .free) List.mem_cons_self rfl
        have ha' : env.cells.lookup x = some a := ha
        simp only [ha']
        refine ⟨a, ?_⟩
        show List.lookup x (if (NameKind.free == NameKind.free) = true then (x, a) :: cs else cs) = some a
        rw [if_pos (by decide), List.lookup_cons]
        simp
      · exact .inr h
def compCx (X : Cx) (N' : List Str) (scope : Scope) (cl : List (Str × Addr)) (C : Addr) (s2 : Shared) (H2 : Hp) (fp : List Addr) : Cx where
  prog := X.prog
  w := X.w
  K := X.K
  mg := X.mg
  base := X.base
  A := X.A
  N := N'
  s₀ := s2
  H₀ := H2
  env := compEnvC scope cl C X.env
  outer := X.stack
  stack := X.stack
  ex := fp
  fn := fun _ => false
  calm := X.calm
  pn := []
  xe := fun _ _ => False
def blk (js : List (Option Nat)) (σ : St) : St := js.map fun j => match j with | some j => (σ[j]?).join | none => none
def PTs (X : Cx) (ifs : List Expr) (tc : TT) : Prop :=
  ∀ (pins : List (Addr × Obj)) (s : Shared) (σ : St) (H : Hp) (Q : Bool → Hp → Prop), Inv X pins σ H s → tc σ H Q →
    wpAny (model X.prog X.w) X.A (forIn ifs true fun c r => if r = true then do let ok ← isTrue c X.env (eval c X.env); pure (ForInStep.yield ok) else pure (ForInStep.yield r)) (TP X pins σ Q) X.xe s
def tTT : TT := fun _ H Q => Q true H
theorem pts_nil {X : Cx} : PTs X [] tTT := fun _ _ _ H _ I h => wpAny_tests_nil ⟨H, I, h⟩
theorem pts_one {X : Cx} {c : Expr} {t : TT} (h : PT X c t) : PTs X [c] t := fun pins s σ H Q I hq => wpAny_tests_one (h pins s σ H Q I hq)
def CompW (J : It) (g : TG) (tc : TT) (te : TE) (σ : St) (H : Hp) (Q : List V → Hp → Prop) : Prop :=
  ∃ W : Nat → Nat → List V → St → Hp → Prop, (∃ m, W 0 m [] σ H) ∧ ∀ i m ys σ H, W i m ys σ H →
    (J.stop i H ∧ ys.length ≤ sizeLine ∧ Q ys H) ∨
    (J.go i H ∧ ys.length < sizeLine ∧ ∃ N : List V → St → Hp → Prop, (∀ ys' σ' H', N ys' σ' H' → ∃ m', m' < m ∧ W (i + 1) m' ys' σ' H') ∧
      ∀ x H', J.yld i H x H' → g x σ H' fun σ2 H2 => tc σ2 H2 fun b H3 => if b = true then te σ2 H3 fun y H4 => N (ys ++ [y]) σ2 H4 else N ys σ2 H3)
def tComp (wi : TI) (js : List (Option Nat)) (g : TG) (tc : TT) (te : TE) : TE := fun σ H Q => wi σ H fun J H1 => CompW J g tc te (blk js σ) H1 fun ys H2 => ∀ p, H2 p = none → Q (.ref p) (upd H2 p (.lst ys))
theorem comp_loop {prog : Program} {w : World} {A : Around} {R : Result → Shared → Prop} {s : Shared} {elt target iter : Expr} {ifs : List Expr} {scope : Scope} {pos : Pos} {it acc : Value} {env : Env} (I : Nat → Shared → Prop)
    (turn : ∀ n s, I n s → wpAny (model prog w) A (pyNext it) (fun r s₁ => match r with
      | none => R (.ok .next) s₁
      | some v => wpAny (model prog w) A (letOwnedTupleGo target it v) (fun _ s₁ => wpAny (model prog w) A (assign target env v) (fun _ s₂ =>
          wpAny (model prog w) A (forIn ifs true fun c r => if r = true then do let ok ← isTrue c env (eval c env); pure (ForInStep.yield ok) else pure (ForInStep.yield r)) (fun ok s₃ =>
            if ok = true then wpAny (model prog w) A (eval elt env) (fun x s₄ =>
              wpAny (model prog w) A (call (.builtin "list.append") [acc, x]) (fun _ s₅ => ∃ m, m < n ∧ I m s₅) (fun _ _ => False) s₄) (fun _ _ => False) s₃
            else ∃ m, m < n ∧ I m s₃) (fun _ _ => False) s₂) (fun _ _ => False) s₁) (fun _ _ => False) s₁) (fun _ _ => False) s)
    (n : Nat) (h : I n s) : codeAny (model prog w) A (.compLoop (.ListComp elt [⟨target, iter, ifs, 0⟩] scope pos) 0 it acc env) R s := by
  refine codeAny_loop rfl I (fun n s hI => ?_) n h
  show wpAny _ A ((compTurn (.ListComp elt [⟨target, iter, ifs, 0⟩] scope pos) 0 it acc env).onRaise (fun x => do noteFrame x env; theTreesLotGoes x)) _ _ s
  refine wpAny_noted ?_
  rw [compTurn_list]
  refine wpAny_bind (wpAny_standAt (wpAny_bind (wpAny_mono (turn n s hI) (fun r s₁ h₁ => ?_) fun _ _ h' => h'.elim)))
  cases r with
  | none => exact wpAny_pure h₁
  | some v =>
    refine wpAny_bind (wpAny_mono h₁ (fun _ s₁ h₁ => ?_) fun _ _ h' => h'.elim)
    refine wpAny_bind (wpAny_mono h₁ (fun _ s₂ h₂ => wpAny_bind (wpAny_mono h₂ (fun ok s₃ h₃ => ?_) fun _ _ h' => h'.elim)) fun _ _ h' => h'.elim)
    cases ok with
    | false => exact wpAny_pure ⟨rfl, h₃⟩
    | true =>
      exact wpAny_bind (wpAny_bind (wpAny_mono h₃ (fun x s₄ h₄ => wpAny_bind (wpAny_mono h₄ (fun _ s₅ h₅ => wpAny_pure (wpAny_pure ⟨rfl, h₅⟩)) fun _ _ h' => h'.elim)) fun _ _ h' => h'.elim))
end L2
namespace L2
open PySem PySem.Spec PyProof.Rows
section
variable {X : Cx} {pins : List (Addr × Obj)} {σ : St} {H H2 : Hp} {s2 : Shared}
theorem mem_of_lookup {α : Type} {x : Str} {k : α} : ∀ {l : List (Str × α)}, l.lookup x = some k → (x, k) ∈ l
  | [], h => by simp at h
  | (n, k') :: r, h => by
    rw [List.lookup_cons] at h
    split at h
    · rename_i hx
      have : x = n := by simpa using hx
      cases h; rw [this]; exact List.mem_cons_self
    · exact List.mem_cons_of_mem _ (mem_of_lookup h)
theorem relabel_lookup {env : Env} {x : Str} {k : NameKind} : ∀ {l : List (Str × NameKind)},
    (l.map fun (n, k) => if (k == NameKind.free && env.scope.kind == .function && env.kindOf n == some .cell) then (n, NameKind.cell) else (n, k)).lookup x = some k →
    l.lookup x = some k ∨ (k = .cell ∧ l.lookup x = some .free)
  | [], h => by simp at h
  | (n, k') :: r, h => by
    have ih := @relabel_lookup env x k r
    rw [List.map_cons, List.lookup_cons] at h
    rw [List.lookup_cons]
    by_cases hc : (k' == NameKind.free && env.scope.kind == .function && env.kindOf n == some .cell) = true
    · simp only [hc, if_true] at h
      have hk : k' = .free := by
        simp only [Bool.and_eq_true] at hc
        simpa using hc.1.1
      cases hx : x == n with
      | true => rw [hx] at h; cases h; exact .inr ⟨rfl, by rw [hk]⟩
      | false => rw [hx] at h; exact ih h
    · simp only [hc, if_false, Bool.false_eq_true] at h
      cases hx : x == n with
      | true => rw [hx] at h; exact .inl h
      | false => rw [hx] at h; exact ih h
structure CompOk (X : Cx) (N' : List Str) (js : List (Option Nat)) (scope : Scope) : Prop where
  kind : scope.kind = .function
  cell : ∀ y ∈ scope.names, y.2 ≠ .cell
  names : ∀ y ∈ scope.names, y.2 = .local → scope.names.lookup y.1 = some .local
  free : ∀ y ∈ scope.names, y.2 = .free → X.env.kindOf y.1 = some .cell ∨ X.env.kindOf y.1 = some .free
  len : js.length = N'.length
  ix : ∀ (i j : Nat) (x : Str), js[i]? = some (some j) → N'[i]? = some x → X.N[j]? = some x ∧ scope.names.lookup x = some .free
variable {N' : List Str} {js : List (Option Nat)} {scope : Scope} {fp : List Addr}
theorem CompOk.clos (K : CompOk X N' js scope) (I : Inv X pins σ H s2) : ∀ p ∈ scope.names, p.2 = .free → ∃ a, X.env.cells.lookup p.1 = some a := fun p hp hf => I.ok.has p.1 (K.free p hp hf)
theorem kindY {cl : List (Str × Addr)} {C : Addr} {x : Str} : (compEnvC scope cl C X.env).kindOf x = (scope.names.map fun (n, k) => if (k == NameKind.free && X.env.scope.kind == .function && X.env.kindOf n == some .cell) then (n, NameKind.cell) else (n, k)).lookup x := rfl
theorem CompOk.ok (K : CompOk X N' js scope) (I : Inv X pins σ H2 s2) (hf : ∀ b ∈ fp, FpOk X pins H2 b) (hfp : ∀ b ∈ fp, b < s2.heap.objs.size) {C : Addr} (hC : s2.heap.objs.size ≤ C) :
    (compCx X N' scope (closL X.env scope.names []) C s2 H2 fp).Ok := by
  have sub : ∀ x c, (closL X.env scope.names []).lookup x = some c → X.env.cells.lookup x = some c := fun x c e => clos_sub scope.names [] (fun z => by simp at z) e
  refine ⟨I.mod, K.kind, I.ok.glob, I.ok.blt, hC, fun x y c a b => I.ok.inj x y c (sub x c a) (sub y c b), fun x hk => ?_, fun x c h => (nomatch h), I.ok.hd, I.ok.frames, .inl rfl, fun b hb => ⟨?_, fun x c e => ?_⟩, I.bs, ?_, fun b o e hb => ?_, fun b hb => ?_, I.stack, I.stkFree⟩
  · refine clos_has scope.names [] (K.clos I) (.inr ?_)
    have z : ∀ k, (compEnvC scope (closL X.env scope.names []) C X.env).kindOf x = some k → k = .cell ∨ k = .free → (x, NameKind.free) ∈ scope.names := fun k e hk => by
      rw [kindY] at e
      rcases relabel_lookup e with e | ⟨_, e⟩
      · rcases hk with rfl | rfl
        · exact absurd rfl (K.cell _ (mem_of_lookup e))
        · exact mem_of_lookup e
      · exact mem_of_lookup e
    rcases hk with e | e
    · exact z _ e (.inl rfl)
    · exact z _ e (.inr rfl)
  · exact Nat.ne_of_lt (Nat.lt_of_lt_of_le (hfp b hb) hC)
  · exact (hf b hb).2.2.2.2.1 x c (sub x c e)
  · exact Nat.le_trans I.ok.bsz I.sz
  · rcases (hf b hb).2.2.2.1 with z | z
    · exact I.ok.noex b o e z
    · exact absurd (Nat.lt_of_lt_of_le (Nat.lt_of_lt_of_le (Heap.lt_size e) I.ok.bsz) z) (Nat.lt_irrefl _)
  · intro hs
    rcases List.mem_cons.mp (I.stkSub b hs) with e | e
    · exact (hf b hb).2.1 e
    · exact (hf b hb).2.2.1 e
theorem CompOk.inv (K : CompOk X N' js scope) (I : Inv X pins σ H2 s2) (hf : ∀ b ∈ fp, FpOk X pins H2 b) (hfp : ∀ b ∈ fp, b < s2.heap.objs.size) {C D : Addr} {o : Obj} {h1 : Heap} {tk : Nat} {m : Str → Option Value}
    (hD : s2.heap.objs.size ≤ D) (hC : s2.heap.objs.size ≤ C) (hDC : D ≠ C) (up : ∀ b u, s2.heap.get? b = some u → h1.get? b = some u) (hn : h1.Ns C m) (ho : h1.get? D = some o) (hcell : ∀ v, o.data ≠ .cell v) :
    Inv (compCx X N' scope (closL X.env scope.names []) C s2 H2 fp) [(D, o)] (blk js σ) H2 { s2 with heap := h1, toks := tk } := by
  have ok := K.ok I hf hfp hC
  have sub : ∀ x c, (closL X.env scope.names []).lookup x = some c → X.env.cells.lookup x = some c := fun x c e => clos_sub scope.names [] (fun z => by simp at z) e
  refine ⟨ok, rfl, I.bare, Un.kept up, ⟨m, hn, fun i x v e1 e2 e3 => ?_⟩, fun x c e => ?_, I.hok.fresh hC, fun x c e => I.freeC x c (sub x c e), fun p hp => ?_, I.hok.kept up, ?_⟩
  · have e2' : (js.map fun j => match j with | some j => (σ[j]?).join | none => none)[i]? = some (some v) := e2
    rw [List.getElem?_map] at e2'
    cases hj : js[i]? with
    | none => rw [hj] at e2'; cases e2'
    | some j =>
      rw [hj] at e2'
      cases j with
      | none => cases e2'
      | some j =>
        have e4 : (σ[j]?).join = some v := Option.some.inj e2'
        have e5 : σ[j]? = some (some v) := by
          cases q : σ[j]? with
          | none => rw [q] at e4; cases e4
          | some z => rw [q] at e4; cases z with
            | none => cases e4
            | some z => cases e4; rfl
        obtain ⟨hX, hfr⟩ := K.ix i j x hj e1
        obtain ⟨mX, hnX, hl⟩ := I.loc
        have hm := mem_of_lookup hfr
        have hk := K.free _ hm rfl
        have hv : Vis X.env.scope x := hk.elim (fun z => .inr (.inl z)) fun z => .inr (.inr z)
        obtain ⟨u, r, q⟩ := hl j x v hX e5 hv
        refine ⟨u, r, ?_⟩
        rcases q with ⟨q, _⟩ | ⟨_, c, ec, z⟩
        · rcases hk with hk | hk
          · have hk' : X.env.kindOf x = some .cell := hk
            rw [q] at hk'; cases hk'
          · have hk' : X.env.kindOf x = some .free := hk
            rw [q] at hk'; cases hk'
        · obtain ⟨c', ec'⟩ := clos_has (x := x) scope.names [] (K.clos I) (.inr hm)
          have e6 := sub x c' ec'
          rw [ec] at e6; cases e6
          obtain ⟨oz, hoz, hdz⟩ := z
          refine .inr ⟨?_, c, ec', ⟨oz, up _ _ hoz, hdz⟩⟩
          rcases e3 with e3 | e3 | e3
          · rcases relabel_lookup e3 with e | ⟨z, _⟩
            · rw [hfr] at e; cases e
            · cases z
          · exact .inl e3
          · exact .inr e3
  · obtain ⟨v, oz, hoz, hdz⟩ := I.cell x c (sub x c e)
    exact ⟨v, oz, up _ _ hoz, hdz⟩
  · have e : p = (D, o) := by
      have : p ∈ ([] : List (Addr × Obj)) ++ [(D, o)] := hp
      simpa using this
    subst e
    refine ⟨ho, I.hok.fresh hD, hDC, fun z => ?_, hcell⟩
    rcases List.mem_cons.mp (I.stkSub D z) with e | e
    · exact absurd (Nat.lt_of_lt_of_le I.lt hD) (by rw [show D = X.env.locals from e]; exact Nat.lt_irrefl _)
    · exact I.nofs hD e
  · show (js.map _).length = N'.length
    rw [List.length_map]; exact K.len
theorem comp_back (I : Inv X pins σ H2 s2) (hf : ∀ b ∈ fp, FpOk X pins H2 b) {cl : List (Str × Addr)} {C D : Addr} {o : Obj} {ys : List V} {us : List Value} {k : Nat} {σ' : St} {H4 : Hp} {s4 : Shared} {pl : List (Addr × Obj)}
    (hD : s2.heap.objs.size ≤ D) (I4 : Inv (compCx X N' scope cl C s2 H2 fp) pl σ' H4 s4) (hp : (D, o) ∈ pl) (ho : o = { cls := .type "list", data := .seq us.toArray k }) (r : Vals ys us) (hz : ys.length ≤ sizeLine) :
    Inv X pins σ (upd H4 D (.lst ys)) s4 := by
  have pD := I4.pin (D, o) (List.mem_append_right _ hp)
  have nD : H4 D = none := pD.2.1
  have eD : s4.heap.get? D = some o := pD.1
  have neD : ∀ b u, s2.heap.get? b = some u → b ≠ D := fun b u e => Nat.ne_of_lt (Nat.lt_of_lt_of_le (Heap.lt_size e) hD)
  have n2 : H2 D = none := I.hok.fresh hD
  have U := I4.base
  refine I.call' (ch := fp) I4.os ⟨fun b u e n hb hx => U.keep b u e n hb hx, fun b u e n hb hx => U.slot b u e n hb hx, fun b u e n hx => ?_, fun b u e hx => U.there b u e hx, fun b xs e => ?_, fun b u xs e => ?_, fun b ps e => ?_⟩ (fun b u e => ?_) I4.bare fun b hb => ⟨(hf b hb).2.2.2.1, (hf b hb).2.1, (hf b hb).2.2.2.2.1, (hf b hb).2.2.2.2.2⟩
  · rw [upd_ne (neD b u e)]; exact U.free b u e n hx
  · have q := U.tups b xs e
    rw [upd_ne (ne_of_none q nD)]; exact q
  · have q := U.frzs b u xs e
    rw [upd_ne (ne_of_none q nD)]; exact q
  · obtain ⟨more, q⟩ := U.tbls b ps e
    exact ⟨more, by rw [upd_ne (ne_of_none q nD)]; exact q⟩
  · by_cases hb : b = D
    · subst hb
      rw [upd_same] at e
      cases e
      exact ⟨hz, us, k, r, by rw [eD, ho]⟩
    · rw [upd_ne hb] at e
      exact (I4.hok b u e).stay (fun c v _ q => q) (fun c q => by rw [upd_ne (ne_of_none q nD)]; exact q) fun c xs q => by rw [upd_ne (ne_of_none q nD)]; exact q
end
end L2
namespace L2
open PySem PySem.Spec PyProof.Rows
section
variable {X : Cx} {pins : List (Addr × Obj)} {σ : St} {H H2 : Hp} {s2 : Shared} {N' : List Str} {js : List (Option Nat)} {scope : Scope} {fp : List Addr}
abbrev lobj (us : List Value) : Obj := { cls := .type "list", data := .seq us.toArray us.length }
theorem comp_core {tg elt iter : Expr} {ifs : List Expr} {pos : Pos} {g : TG} {tc : TT} {te : TE} {J : It} {it : Addr} {tn : Nat → Heap → Prop} {Qy : List V → Hp → Prop} {RR : Value → Addr → Result → Shared → Prop} {E : Value → Shared → Prop}
    (hc : X.calm = true) (K : CompOk X N' js scope) (I : Inv X pins σ H2 s2) (T : Turn X.prog X.w X.K tg J fp it tn) (st2 : tn 0 s2.heap) (f2 : ∀ b ∈ fp, FpOk X pins H2 b)
    (hb : ∀ C cl, PG (compCx X N' scope cl C s2 H2 fp) tg g ∧ PTs (compCx X N' scope cl C s2 H2 fp) ifs tc ∧ PE (compCx X N' scope cl C s2 H2 fp) elt te)
    (hw : CompW J g tc te (blk js σ) H2 Qy)
    (hR : ∀ D C s4 H4 ys m, Inv X pins σ (upd H4 D (.lst ys)) s4 → s4.heap.Ns C m → s2.heap.objs.size ≤ C → D ≠ C → H4 C = none → H4 D = none → Qy ys H4 → RR (.ref D) C (.ok .next) s4) :
    wpAny (model X.prog X.w) X.A (newList []) (fun acc s₃ => wpAny (model X.prog X.w) X.A (newFunctionEnv scope X.env.globals (closL X.env scope.names []) [] X.env.qual none .none (some X.env)) (fun cenv s₄ =>
      codeAny (model X.prog X.w) X.A (.compStart (.ListComp elt [⟨tg, iter, ifs, 0⟩] scope pos) 0 (.ref it) acc { cenv with scope := relabel scope X.env }) (RR acc cenv.locals) s₄) E s₃) E s2 := by
  refine wpAny_newObj_type (wpAny_newFunctionEnv K.cell (by intro y hy; simp at hy) (fun h₁ hns₁ hsb₁ => ?_) K.kind)
  dsimp only at hns₁ hsb₁ ⊢
  generalize hH2 : s2.heap.push { cls := .type "list", dict := none, data := .seq ([] : List Value).toArray } = HH at hns₁ hsb₁ ⊢
  have hC : HH.objs.size = s2.heap.objs.size + 1 := by rw [← hH2, Heap.size_push]
  have hDC : s2.heap.objs.size ≠ HH.objs.size := by rw [hC]; exact Nat.ne_of_lt (Nat.lt_succ_self _)
  have below : ∀ b, b < s2.heap.objs.size → b ≠ HH.objs.size ∧ b ≠ s2.heap.objs.size := fun b hb => ⟨by rw [hC]; exact Nat.ne_of_lt (Nat.lt_succ_of_lt hb), Nat.ne_of_lt hb⟩
  have old : ∀ b o, s2.heap.get? b = some o → h₁.get? b = some o := fun b o e => hsb₁.extBut b o (below b (Heap.lt_size e)).1 (Heap.get?_push_of_some _ (hH2 ▸ Heap.get?_push_of_some _ e))
  have hacc : h₁.get? s2.heap.objs.size = some (lobj []) := hsb₁.extBut _ _ hDC (Heap.get?_push_of_some _ (hH2 ▸ Heap.get?_push_size _ rfl))
  have hfp : ∀ b ∈ fp, b < s2.heap.objs.size := fun b hb => by obtain ⟨o, e, _⟩ := T.obj 0 _ st2 b hb; exact Heap.lt_size e
  have hCle : s2.heap.objs.size ≤ HH.objs.size := by rw [hC]; exact Nat.le_succ _
  generalize hCC : HH.objs.size = C at *
  generalize hDD : s2.heap.objs.size = D at *
  obtain ⟨W, ⟨m0, w0⟩, turn⟩ := hw
  obtain ⟨hG, hT, hE⟩ := hb C (closL X.env scope.names [])
  have st1 : tn 0 h₁ := T.keep 0 _ _ st2 fun b _ o e => old b o e
  have loop : ∀ s₃ : Shared, s₃ = { s2 with heap := h₁, toks := s2.toks + ([] : List (Str × Value)).length } →
      codeAny (model X.prog X.w) X.A (.compLoop (.ListComp elt [⟨tg, iter, ifs, 0⟩] scope pos) 0 (.ref it) (.ref D) (compEnvC scope (closL X.env scope.names []) C X.env)) (RR (.ref D) C) s₃ := by
    rintro s₃ rfl
    have I0 : Inv (compCx X N' scope (closL X.env scope.names []) C s2 H2 fp) [(D, lobj [])] (blk js σ) H2 { s2 with heap := h₁, toks := s2.toks + ([] : List (Str × Value)).length } :=
      K.inv I f2 (fun b hb => by rw [hDD]; exact hfp b hb) (by rw [hDD]; exact Nat.le_refl _) (by rw [hDD]; exact hCle) hDC old hns₁ hacc (fun v z => by cases z)
    have cfree : ∀ {σ' : St} {H' : Hp} {s' : Shared} {pl : List (Addr × Obj)}, Inv (compCx X N' scope (closL X.env scope.names []) C s2 H2 fp) pl σ' H' s' → H' C = none := fun I' => I'.free
    have stat : ∀ {H' : Hp} {us : List Value}, (∀ b ∈ fp, H' b = none) → ∀ b ∈ fp, FpOk (compCx X N' scope (closL X.env scope.names []) C s2 H2 fp) [(D, lobj us)] H' b := fun {H' us} hn b hb => by
      refine ⟨hn b hb, (below b (hfp b hb)).1, fun z => ?_, .inl hb, fun x c e => ?_, fun p hp => ?_⟩
      · rcases List.mem_cons.mp (I.stkSub b z) with e | e
        · exact (f2 b hb).2.1 e
        · exact (f2 b hb).2.2.1 e
      · exact (f2 b hb).2.2.2.2.1 x c (clos_sub scope.names [] (fun z => by simp at z) e)
      · have e : p = (D, lobj us) := by
          have hp' : p ∈ ([] : List (Addr × Obj)) ++ [(D, lobj us)] := hp
          simpa using hp'
        subst e
        exact Ne.symm (below b (hfp b hb)).2
    refine comp_loop (fun n s' => ∃ i ys us σ' H', Inv (compCx X N' scope (closL X.env scope.names []) C s2 H2 fp) [(D, lobj us)] σ' H' s' ∧ tn i s'.heap ∧ (∀ b ∈ fp, H' b = none) ∧ Vals ys us ∧ W i n ys σ' H') ?_ m0
      ⟨0, [], [], blk js σ, H2, I0, st1, fun b hb => (f2 b hb).1, .nil, w0⟩
    rintro n s3 ⟨i, ys, us, σ3, H3, I3, st3, fr3, rv, w3⟩
    rcases turn i n ys σ3 H3 w3 with ⟨stop, hz, q⟩ | ⟨go, hz, N, hN, step⟩
    · refine thn (T.done (compCx X N' scope (closL X.env scope.names []) C s2 H2 fp) rfl rfl rfl hc i _ s3 σ3 H3 _ I3 (stat fr3) st3 stop) fun r s4 ⟨hr, I4⟩ => ?_
      subst hr
      obtain ⟨mC, hnC, _⟩ := I4.loc
      exact hR D C s4 H3 ys mC (comp_back I f2 (by rw [hDD]; exact Nat.le_refl _) I4 List.mem_cons_self rfl rv hz) hnC (by first | exact hCle | (rw [hDD]; exact hCle)) hDC (cfree I4) (I4.pin (D, lobj us) (List.mem_append_right _ List.mem_cons_self)).2.1 q
    · refine thn (T.item (compCx X N' scope (closL X.env scope.names []) C s2 H2 fp) rfl rfl rfl hc i _ s3 σ3 H3 _ I3 (stat fr3) st3 go) fun r s4 ⟨u, hr, h4⟩ => ?_
      subst hr
      refine thn h4 fun _ s5 ⟨x, H5, I5, r5, y5, st5, fr5⟩ => ?_
      have I5' := I5.pinned (stat fr5) (T.obj _ _ st5)
      refine thn (hG _ s5 σ3 H5 x u _ I5' r5 (step x H5 y5)) fun _ s6 ⟨σ6, H6, I6, q6⟩ => ?_
      refine thn (hT _ s6 σ6 H6 _ I6 q6) fun ok s7 ⟨H7, I7, q7⟩ => ?_
      have again : ∀ {H8 : Hp} {s8 : Shared}, Inv (compCx X N' scope (closL X.env scope.names []) C s2 H2 fp) ([(D, lobj us)] ++ pinsAt fp s5.heap) σ6 H8 s8 → tn (i + 1) s8.heap ∧ ∀ b ∈ fp, H8 b = none := fun {H8 s8} I8 =>
        ⟨T.keep _ _ _ st5 fun b hb o e => (I8.pin (b, o) (List.mem_append_right _ (List.mem_append_right _ (mem_pinsAt hb e)))).1, fun b hb => by
          obtain ⟨o, e, d⟩ := T.obj _ _ st5 b hb
          exact (I8.pin (b, o) (List.mem_append_right _ (List.mem_append_right _ (mem_pinsAt hb e)))).2.1⟩
      cases ok with
      | false =>
        have q7' : N ys σ6 H7 := by simpa using q7
        obtain ⟨m', hm, w7⟩ := hN _ _ _ q7'
        obtain ⟨t7, fr7⟩ := again I7
        exact ⟨m', hm, i + 1, ys, us, σ6, H7, I7.unpinned, t7, fr7, rv, w7⟩
      | true =>
        have q7' : te σ6 H7 fun y H4 => N (ys ++ [y]) σ6 H4 := by simpa using q7
        refine thn (hE _ s7 σ6 H7 _ I7 q7') fun z s8 ⟨y, H8, I8, r8, q8⟩ => ?_
        obtain ⟨t8, fr8⟩ := again I8
        obtain ⟨eD, nD, neL, nf, _⟩ := I8.pin (D, lobj us) (List.mem_append_right _ (List.mem_append_left _ List.mem_cons_self))
        have hul : us.length < sizeLine := by rw [← rv.length]; exact hz
        refine append_at (hsz := by show us.toArray.size ≤ sizeLine; rw [List.size_toArray]; exact Nat.le_of_lt hul) eD fun h₉ hs₉ hD₉ => ?_
        obtain ⟨m', hm, w8⟩ := hN _ _ _ q8
        have I8' : Inv (compCx X N' scope (closL X.env scope.names []) C s2 H2 fp) [] σ6 H8 s8 := I8.pins_of fun p hp => (nomatch hp)
        have I9 : Inv (compCx X N' scope (closL X.env scope.names []) C s2 H2 fp) [] σ6 H8 { s8 with heap := h₉ } := I8'.turned (t' := s8.toks) (it := D) (fun b o hb e => (hs₉.2 b hb).trans e) nD neL (.inr (by show s2.heap.objs.size ≤ D; rw [hDD]; exact Nat.le_refl _)) (fun x c e z => by
            have e' : (closL X.env scope.names []).lookup x = some c := e
            obtain ⟨v, q⟩ := I.cell x c (clos_sub scope.names [] (fun z => by simp at z) e')
            have l := q.lt
            rw [hDD, z] at l; exact Nat.lt_irrefl _ l) (fun p hp => (nomatch hp))
        have eq9 : h₉.get? D = some (lobj (us ++ [z])) := hD₉.trans (congrArg some (by
          show ({ cls := .type "list", data := .seq (us.toArray.push z) (us.length + 1) } : Obj) = { cls := .type "list", data := .seq (us ++ [z]).toArray (us ++ [z]).length }
          rw [List.length_append, List.length_singleton, List.push_toArray]))
        refine ⟨m', hm, i + 1, ys ++ [y], us ++ [z], σ6, H8, I9.pins_of fun p hp => ?_, T.keep _ _ _ t8 fun b hb o e => (hs₉.2 b ((below b (hfp b hb)).2)).trans e, fr8, rv.append (.cons r8 .nil), w8⟩
        have e : p = (D, lobj (us ++ [z])) := by simpa using hp
        subst e
        exact ⟨eq9, nD, neL, nf, fun v z => by cases z⟩
  exact codeAny_compStart_list (loop _ rfl) (T.self X.A 0 _ _ _ st1 (loop _ rfl))
end
end L2
namespace L2
open PySem PySem.Spec PyProof.Rows
section
variable {X : Cx} {N' : List Str} {js : List (Option Nat)} {scope : Scope} {tg elt iter : Expr} {ifs : List Expr} {pos : Pos} {wi : TI} {g : TG} {tc : TT} {te : TE}
def PB (X : Cx) (N' : List Str) (scope : Scope) (tg : Expr) (ifs : List Expr) (elt : Expr) (g : TG) (tc : TT) (te : TE) : Prop :=
  ∀ s2 H2 fp C cl, PG (compCx X N' scope cl C s2 H2 fp) tg g ∧ PTs (compCx X N' scope cl C s2 H2 fp) ifs tc ∧ PE (compCx X N' scope cl C s2 H2 fp) elt te
theorem pe_comp (hc : X.calm = true) (K : CompOk X N' js scope) (hi : PI X tg iter wi) (hb : PB X N' scope tg ifs elt g tc te) (hs : ∀ x, foldedSetIterable iter X.env x = pure x := by intro _; rfl) :
    PE X (.ListComp elt [⟨tg, iter, ifs, 0⟩] scope pos) (tComp wi js g tc te) := by
  intro pins s σ H Q I h
  rw [eval_ListComp]
  refine wpAny_comprehension_free (use := none) rfl hs (clos_eq (K.clos I)) K.kind K.names (thn (hi pins s σ H _ I h) fun v s1 h1 => thn h1 fun itv s2 h2 => ?_)
  obtain ⟨it, fp, tn, J, H2, e, I2, T, st2, f2, hw⟩ := h2
  subst e
  refine comp_core hc K I2 T st2 f2 (fun C cl => hb s2 H2 fp C cl) hw fun D C s4 H4 ys m I4 hn hC hDC nC nD q => ?_
  have nC' : upd H4 D (.lst ys) C = none := by rw [upd_ne (Ne.symm hDC)]; exact nC
  obtain ⟨f0, f1, f2', f3, f4, f5⟩ := I2.fpOk (H' := upd H4 D (.lst ys)) hC nC'
  refine ⟨m, hn, fun h' hs' => ⟨.ref D, _, I4.turned (t' := s4.toks) (it := C) (fun b o hb e => (hs'.2 b hb).trans e) nC' f1 f3 f4 f5, rfl, q D nD⟩⟩
theorem ps_comp {i : Nat} {y : Str} {py spos : Pos} (hc : X.calm = true) (hN : X.N.Nodup) (hi' : X.N[i]? = some y) (hy : X.env.scope.names.lookup y = some .local) (K : CompOk X N' js scope) (hi : PI X tg iter wi) (hb : PB X N' scope tg ifs elt g tc te)
    (hsw : swapsWith (.ListComp elt [⟨tg, iter, ifs, 0⟩] scope pos) (some (.Name y py)) spos.line X.env = pure true) (hs : ∀ x, foldedSetIterable iter X.env x = pure x := by intro _; rfl) :
    PS X (.Assign [.Name y py] (.ListComp elt [⟨tg, iter, ifs, 0⟩] scope pos) spos) (tAsg (tComp wi js g tc te) (gName i)) := by
  intro pins s σ H Dn I h
  rw [exec_Assign_Name_used _ _ _ _ hsw]
  refine wpAny_bind (wpAny_standAt (wpAny_bind ?_))
  show wpAny _ _ (do let _ ← comprehension (.ListComp elt [⟨tg, iter, ifs, 0⟩] scope pos) scope X.env _ (newList []) false (eval iter X.env) (some (assign (.Name y py) X.env))) _ _ s
  refine wpAny_bind (wpAny_mono (wpAny_comprehension_free (use := some (assign (.Name y py) X.env)) (Q := fun _ s' => SP X pins Dn .next s') rfl hs (clos_eq (K.clos I)) K.kind K.names
    (thn (hi pins s σ H _ I h) fun v s1 h1 => thn h1 fun itv s2 h2 => ?_)) (fun _ s' hq => wpAny_pure (wpAny_pure hq)) fun _ _ e => e)
  obtain ⟨it, fp, tn, J, H2, e, I2, T, st2, f2, hw⟩ := h2
  subst e
  refine comp_core hc K I2 T st2 f2 (fun C cl => hb s2 H2 fp C cl) hw fun D C s4 H4 ys m I4 hn hC hDC nC nD q => ?_
  have nC' : upd H4 D (.lst ys) C = none := by rw [upd_ne (Ne.symm hDC)]; exact nC
  obtain ⟨f0, f1, f2', f3, f4, f5⟩ := I2.fpOk (H' := upd H4 D (.lst ys)) hC nC'
  show wpAny _ _ (assign (.Name y py) X.env (.ref D)) _ _ _
  refine wpAny_assign_Name (store_ok2 (v := .ref D) I4 hN hi' (.inl hy) rfl (fun s5 I5 ⟨a, sb, ha⟩ => ?_) (.inr hy))
  have nCa : C ≠ a := by
    rcases ha with e | e
    · rw [e]; exact f1
    · exact fun z => f4 y a e z.symm
  exact ⟨m, hn.sameBut sb nCa, fun h' hs' => ⟨_, _, I5.turned (t' := s5.toks) (it := C) (fun b o hb e => (hs'.2 b hb).trans e) nC' f1 f3 f4 f5, q D nD⟩⟩
end
section
variable {g : TG} {tc : TT} {te : TE} {σ : St} {H : Hp} {Q : List V → Hp → Prop}
end
end L2
namespace L2
open PySem PySem.Spec PyProof.Rows
section
variable {X : Cx}
theorem op_le_str : OpR X (compareOp .LtE) (fun x y H Q => ∃ i j, x = .str i ∧ y = .str j ∧ Q (.bl (!(decide (j.cps.toList < i.cps.toList)))) H) := by
  intro pins s σ H x y v u Q I rx ry h
  obtain ⟨i, j, rfl, rfl, q⟩ := h
  obtain ⟨t, rfl⟩ := rx
  obtain ⟨t', rfl⟩ := ry
  exact PySem.P.le_str (fin_bl I q rfl)
def Its (x : Str) : It := ⟨fun i _ => i < x.cps.size, fun i H v H' => H' = H ∧ ∃ c, x.cps[i]? = some c ∧ v = .str ⟨#[c]⟩, fun i _ => i = x.cps.size⟩
theorem turn_str {P : Program} {w : World} {K : PySem.W.Frag} {tg : Expr} (it : Addr) (x : Str) (t : Tok) (T : String) (hT : T = "str_ascii_iterator" ∨ T = "str_iterator") : Turn P w K tg (Its x) [it] it (fun i h => h.IsStrIter it T x t i) where
  mem := by simp
  obj := fun i h st b hb => by
    have e : b = it := by simpa using hb
    subst e
    obtain ⟨o, e, c, d⟩ := st
    exact ⟨o, e, fun v z => by rw [d] at z; cases z⟩
  keep := fun i h h' st k => by obtain ⟨o, e, r⟩ := st; exact ⟨o, k it (by simp) o e, r⟩
  item := by
    intro X hP hw hK hc i pins s σ H E I hf st hg
    subst hP hw hK
    obtain ⟨f0, f1, f2, f3, f4, f5⟩ := hf it (by simp)
    have fin : ∀ v h' tk, SignAt x i v → h'.IsStrIter it T x t (i + 1) → (∀ b o, b ∉ [it] → s.heap.get? b = some o → h'.get? b = some o) → ∃ u, some v = some u ∧
        wpAny (model X.prog X.w) X.A (letOwnedTupleGo tg (.ref it) u) (fun _ s2 => ∃ y H', Inv X pins σ H' s2 ∧ RelV y u ∧ (Its x).yld i H y H' ∧ s2.heap.IsStrIter it T x t (i + 1) ∧ ∀ b ∈ [it], H' b = none) E { s with heap := h', toks := tk } := by
      intro v h' tk hv st' kk
      obtain ⟨c, u, hcu, rfl⟩ := hv
      have I1 : Inv X pins σ H { s with heap := h', toks := tk } := I.turned (fun b o hb e => kk b o (by simpa using hb) e) f0 f1 f3 f4 f5
      obtain ⟨o, e, cc, d⟩ := id st'
      refine ⟨_, rfl, go_of (s := { s with heap := h', toks := tk }) e cc d ?_ ⟨.str ⟨#[c]⟩, H, I1, ⟨u, rfl⟩, ⟨rfl, c, hcu, rfl⟩, st', fun b hb => (hf b hb).1⟩⟩
      rcases hT with rfl | rfl <;> decide
    rcases hT with rfl | rfl
    · exact (Walks.strAscii (prog := X.prog) (w := X.w) (I.ok.hd hc) it x t).item i s _ _ hg st fin
    · exact (Walks.strWide (prog := X.prog) (w := X.w) (I.ok.hd hc) it x t).item i s _ _ hg st fin
  done := by
    intro X hP hw hK hc i pins s σ H E I hf st hg
    subst hP hw hK
    obtain ⟨f0, f1, f2, f3, f4, f5⟩ := hf it (by simp)
    have hg' : i = x.cps.size := hg
    subst hg'
    have fin : ∀ (h' : Heap) (tk : Nat), (∀ b o, b ∉ [it] → s.heap.get? b = some o → h'.get? b = some o) → (none : Option Value) = none ∧ Inv X pins σ H { s with heap := h', toks := tk } := fun h' tk kk =>
      ⟨rfl, I.turned (fun b o hb e => kk b o (by simpa using hb) e) f0 f1 f3 f4 f5⟩
    rcases hT with rfl | rfl
    · exact (Walks.strAscii (prog := X.prog) (w := X.w) (I.ok.hd hc) it x t).done s _ _ st fin
    · exact (Walks.strWide (prog := X.prog) (w := X.w) (I.ok.hd hc) it x t).done s _ _ st fin
  self := fun A i s Q E st h => by
    rcases hT with rfl | rfl
    · exact wpAny_pyIter_striter_ascii st h
    · exact wpAny_pyIter_striter_wide st h
def iStr (tl : TE) : TI := fun σ H R => tl σ H fun x H1 => ∃ z, x = .str z ∧ R (Its z) H1
theorem pi_str {tg l : Expr} {tl : TE} (hl : PE X l tl) : PI X tg l (iStr tl) := by
  intro pins s σ H R I h
  refine thn (hl pins s σ H _ I h) fun v s1 ⟨x, H1, I1, r1, q1⟩ => ?_
  obtain ⟨z, e, q⟩ := q1
  subst e
  obtain ⟨t, rfl⟩ := r1
  have fin : ∀ (o : Obj) (T : String), T = "str_ascii_iterator" ∨ T = "str_iterator" → o.cls = .type T → o.data = .fields #[.str z t, .int 0 0] → PIE X pins σ tg R (.ref s1.heap.objs.size) { s1 with heap := s1.heap.push o } := fun o T hT hc hd => by
    refine ⟨s1.heap.objs.size, [s1.heap.objs.size], _, _, H1, rfl, I1.kept (t' := s1.toks) fun b o e => Heap.get?_push_of_some _ e, turn_str _ z t T hT, ⟨o, Heap.get?_push_size _ (by obtain ⟨c0, d0, dt0, sl0⟩ := o; cases hd; rfl), hc, hd⟩, fun b hb => ?_, q⟩
    have e : b = s1.heap.objs.size := by simpa using hb
    subst e
    exact I1.fpOk (Nat.le_refl _) (I1.hok.fresh (Nat.le_refl _))
  cases ha : z.cps.all (· < 128)
  · exact wpAny_pyIter_wide ha (fin _ "str_iterator" (.inr rfl) rfl rfl)
  · exact wpAny_pyIter_ascii ha (fin _ "str_ascii_iterator" (.inl rfl) rfl rfl)
theorem call_all (hc : X.calm = true) : CallR X (.builtin "all") (fun xs H Q => ∃ (a : Addr) (bs : List Bool), xs = [.ref a] ∧ SqL X.K H a (bs.map V.bl) ∧ Q (.bl (bs.all id)) H) := by
  intro pins s σ H xs us Q I rv h
  obtain ⟨a, bs, rfl, hq, q⟩ := h
  obtain ⟨u, rfl, ru⟩ := rv.one
  cases ru
  obtain ⟨its, r, pl, hz⟩ := I.list hq
  have hlt : a < s.heap.objs.size := by obtain ⟨o, n, e, _⟩ := pl; exact Heap.lt_size e
  refine call_all_walk (wpAny_pyIter_list pl.isList ⟨_, _, _, _, _, _, fun i => bs.getD i true, rfl, Walks.list (by simpa using I.ok.hd hc) s.heap.objs.size a (Nat.ne_of_lt hlt) its.toArray, ⟨⟨_, Heap.get?_push_size _ rfl, rfl, rfl⟩, pl.isList.push _⟩, ?_, ?_⟩)
  · intro i v s' Q' E' hP hQ
    have hv : its[i]? = some v := by simpa using hP
    have hi : i < its.length := (List.getElem?_eq_some_iff.mp hv).1
    have hl := r.length
    rw [List.length_map] at hl
    obtain ⟨u, hu, ru⟩ := r.get (i := i) (x := .bl (bs.getD i true)) (by
      rw [List.getElem?_map, List.getElem?_eq_getElem (by omega), List.getD_eq_getElem?_getD, List.getElem?_eq_getElem (by omega)]; rfl)
    rw [hv] at hu; cases hu; cases ru
    exact wpAny_truthy_bool hQ
  · intro h' tk kk
    have hl := r.length
    rw [List.length_map] at hl
    have e : (List.range its.toArray.size).all (fun i => bs.getD i true) = bs.all id := by
      rw [List.size_toArray, ← hl]
      rw [Bool.eq_iff_iff, List.all_eq_true, List.all_eq_true]
      constructor
      · intro z b hb
        obtain ⟨i, hi, e⟩ := List.mem_iff_getElem.mp hb
        have z' := z i (List.mem_range.mpr hi)
        rw [List.getD_eq_getElem?_getD, List.getElem?_eq_getElem hi, e] at z'
        exact z'
      · intro z i hi
        have hi' := List.mem_range.mp hi
        rw [List.getD_eq_getElem?_getD, List.getElem?_eq_getElem hi']
        exact z _ (List.getElem_mem hi')
    have I1 : Inv X pins σ H { s with heap := h', toks := tk } := I.kept fun b o e => kk b o (by simp only [List.mem_singleton]; exact Nat.ne_of_lt (Heap.lt_size e)) (Heap.get?_push_of_some _ e)
    refine ⟨.bl (bs.all id), H, I1, ?_, q⟩
    rw [e]; rfl
end
end L2
namespace L2
open PySem PySem.Spec PyProof.Rows
section
variable {prog : Program} {w : World} {A : Around} {R : Result → Shared → Prop}
end
end L2
namespace L2
open PySem PySem.Spec PyProof.Rows
section
variable {prog : Program} {w : World} {A : Around} {E : Value → Shared → Prop} {s : Shared}
abbrev newSetO (led : Bool) : Obj := { cls := .type "set", dict := none, data := .set #[] 0 (.fresh 0 0 led) }
end
end L2
namespace L2
open PySem PySem.Spec PyProof.Rows
section
variable {X : Cx}
def DictO (a : Addr) : HO := .ext fun h => ∃ o, h.get? a = some o ∧ o.cls = .type "dict"
inductive TyOf2 (K : PySem.W.Frag) (H : Hp) : V → Value → Prop where
  | of {x : V} {t : Value} (h : TyOf K H x t) : TyOf2 K H x t
  | dict {a : Addr} (e : H a = some (DictO a)) : TyOf2 K H (.ref a) (.type "dict")
theorem call_isinst2 : CallR X (.builtin "isinstance") (fun xs H Q => ∃ x t c b, xs = [x, .ty c] ∧ TyOf2 X.K H x t ∧ PySem.W.kitOne X.K t (.type c) = some b ∧ Q (.bl b) H) := by
  intro pins s σ H xs us Q I rv h
  obtain ⟨x, t, c, b, rfl, ht, hk, q⟩ := h
  obtain ⟨u, u', rfl, ru, ru'⟩ := rv.two
  cases ru'
  cases ht with
  | of ht => exact isinst_ok I ru ht hk fun tk => ⟨.bl b, H, I.tok tk, rfl, q⟩
  | @dict a e =>
    cases (show u = Value.ref a from ru)
    obtain ⟨⟨o, ho, hc⟩, _, _⟩ := (show ObjOk X.prog X.w H s.heap a (DictO a) from I.hok a _ e)
    exact PySem.W.kia_one PySem.W.kitx_dict I.kIn ⟨o, ho, hc⟩ hk (fun z => nomatch z) fun tk => ⟨.bl b, H, I.tok tk, rfl, q⟩
end
end L2
namespace L2
open PySem PySem.Spec PyProof.Rows
def compOkB (names outer : List (Str × NameKind)) (N' N : List Str) (js : List (Option Nat)) : Bool :=
  names.all (fun y => decide (y.2 ≠ .cell) && (decide (y.2 ≠ .local) || decide (names.lookup y.1 = some .local)) && (decide (y.2 ≠ .free) || (decide (outer.lookup y.1 = some .cell) || decide (outer.lookup y.1 = some .free))))
  && decide (js.length = N'.length) && (js.zip N').all fun p => match p.1 with | none => true | some j => decide (N[j]? = some p.2) && decide (names.lookup p.2 = some .free)
theorem CompOk.of_b {X : Cx} {N' : List Str} {js : List (Option Nat)} {scope : Scope} (hk : scope.kind = .function) (h : compOkB scope.names X.env.scope.names N' X.N js = true) : CompOk X N' js scope := by
  unfold compOkB at h
  simp only [Bool.and_eq_true, List.all_eq_true, Bool.or_eq_true, decide_eq_true_eq] at h
  obtain ⟨⟨h1, h2⟩, h3⟩ := h
  refine ⟨hk, fun y hy => (h1 y hy).1.1, fun y hy e => (h1 y hy).1.2.elim (fun z => absurd e z) id, fun y hy e => (h1 y hy).2.elim (fun z => absurd e z) id, h2, fun i j x e1 e2 => ?_⟩
  have hm : (some j, x) ∈ js.zip N' := by
    refine List.mem_iff_getElem?.mpr ⟨i, ?_⟩
    rw [List.getElem?_zip_eq_some]
    exact ⟨e1, e2⟩
  have q := h3 _ hm
  simp only [Bool.and_eq_true, decide_eq_true_eq] at q
  exact q
def Has (P : Program) (w : World) (K : PySem.W.Frag) (mg : Str → Option Value) (base : Heap) (x : Str) (k : Nat) (ps : List Str) (sp : Sp) : Prop :=
  ∃ f fd, FnOk P w K mg base CX0 k f fd ps sp ∧ Binds K fd ps [] ∧ PySem.W.keepIn K (.ref f) = true ∧ mg x = some (.ref f)
section
variable {X : Cx} {x : Str} {k : Nat} {ps : List Str} {sp : Sp} {p pos : Pos} {e : Expr} {es : List Expr} {t : TA}
theorem pe_callH (h : Has X.prog X.w X.K X.mg X.base x k ps sp) (hr : Room k X.A) (hg : Gl X x) (ha : PA X (e :: es) t) (hd : (x == ("__debug__" : Str)) = false := by decide)
    (hs : starEach (e :: es) X.env = (false, eval e X.env) :: starEach es X.env := by rfl) (hp : (backTo pos (starEach es X.env)).any (·.1) = false := by rfl) :
    PE X (.Call (.Name x p) (e :: es) [] pos) (tCall sp [] E0 t) := by
  obtain ⟨f, fd, G, b, kp, m⟩ := h
  exact pe_call G hr hg m kp b .nil pass0 ha hd hs hp
end
end L2
namespace L2
open PySem PySem.Spec PyProof.Rows
structure WE (X : Cx) (e : Expr) (t : TE) : Prop where
  h : PE X e t
structure WT (X : Cx) (e : Expr) (t : TT) : Prop where
  h : PT X e t
structure WW (X : Cx) (e : Expr) (t : TT) : Prop where
  h : PW X e t
structure WA (X : Cx) (e : List Expr) (t : TA) : Prop where
  h : PA X e t
structure WS (X : Cx) (e : Stmt) (t : TS) : Prop where
  h : PS X e t
structure WSs (X : Cx) (e : List Stmt) (t : TS) : Prop where
  h : PSs X e t
structure WG (X : Cx) (e : Expr) (t : TG) : Prop where
  h : PG X e t
structure WGs (X : Cx) (e : List Expr) (t : TGs) : Prop where
  h : PGs X e t
structure WO (X : Cx) (e : Option Expr) (t : TO) : Prop where
  h : PO X e t
structure WTs (X : Cx) (e : List Expr) (t : TT) : Prop where
  h : PTs X e t
structure WK (X : Cx) (e : List Keyword) (t : TA) : Prop where
  h : PK X e t
structure WI (X : Cx) (tg iter : Expr) (wi : TI) : Prop where
  h : PI X tg iter wi
structure WC (X : Cx) (op : CmpOp) (a b : Expr) (t : TE) : Prop where
  h : PC X op a b t
structure WPs (X : Cx) (pos : Pos) (keys : List (Option Expr)) (values : List Expr) (trs : List (TE × TE)) : Prop where
  h : PPs X pos keys values trs
structure WB (X : Cx) (N' : List Str) (scope : Scope) (tg : Expr) (ifs : List Expr) (elt : Expr) (g : TG) (tc : TT) (te : TE) : Prop where
  h : PB X N' scope tg ifs elt g tc te
section
variable {X : Cx} {N' : List Str} {js : List (Option Nat)} {scope : Scope} {tg elt iter : Expr} {ifs : List Expr} {pos : Pos} {wi : TI} {g : TG} {tc : TT} {te : TE}
end
end L2
namespace L2
open PySem PySem.Spec PyProof.Rows
section
variable {prog : Program} {w : World} {A : Around} {E : Value → Shared → Prop}
end
section
variable {X : Cx}
end
end L2
namespace L2
open PySem PySem.Spec PyProof.Rows
def Fly (h0 : Heap) (H : Hp) (h : Heap) (e : Addr) (cls a0 : Value) : Prop :=
  (h0.get? e = none ∧ H e = none) ∧ ∃ oe vs T oT ts, h.get? e = some oe ∧ (oe.cls = cls ∧ vs[0]? = some a0) ∧ oe.data = .fields vs ∧ vs[1]? = some (.ref T) ∧
    (h0.get? T = none ∧ H T = none) ∧ T ≠ e ∧ h.get? T = some oT ∧ oT.data = .fields ts ∧ ts[3]? = some .none
def CX1 (P : Program) (w : World) : CXT := fun outer H s E e s' => ∃ ea cls a0 H', e = .ref ea ∧ s'.os = s.os ∧ AllBare s'.gens ∧ Un (frs outer) [] H H' s.heap s'.heap ∧ HOk P w H' s'.heap ∧
  Fly s.heap H' s'.heap ea cls a0 ∧ E cls none H'
theorem ObjOk.obj {P : Program} {w : World} {H : Hp} {h : Heap} {a : Addr} {o : HO} (x : ObjOk P w H h a o) : ∃ u, h.get? a = some u := by
  cases o with
  | lst xs => obtain ⟨_, _, _, _, e⟩ := x; exact ⟨_, e⟩
  | tup xs => obtain ⟨_, _, _, p⟩ := x; obtain ⟨_, e, _⟩ := p; exact ⟨_, e⟩
  | dK kvs => obtain ⟨_, _, _, _, o, _, _, e, _⟩ := x; exact ⟨_, e⟩
  | dT kvs => obtain ⟨_, _, _, _, o, _, _, e, _⟩ := x; exact ⟨_, e⟩
  | set S n => obtain ⟨o, _, _, _, e, _⟩ := x; exact ⟨_, e⟩
  | ins C dx fs => obtain ⟨_, _, _, e, _⟩ := x; exact ⟨_, e⟩
  | own y => obtain ⟨_, e⟩ := x; exact ⟨_, e⟩
  | xd fs => obtain ⟨_, ⟨_, _, _, e, _⟩, _⟩ := x; exact ⟨_, e⟩
  | rng lo hi => obtain ⟨_, _, _, e⟩ := x; exact ⟨_, e⟩
  | frz ob u => obtain ⟨e, _⟩ := x; exact ⟨_, e⟩
  | tbl ps => exact ⟨_, (show h.get? a = some _ from x)⟩
  | met f y => exact ⟨_, (show h.get? a = some _ from x)⟩
  | ext φ => obtain ⟨_, e, _⟩ := x; exact e
section
variable {X : Cx} {pins : List (Addr × Obj)} {σ : St} {H : Hp} {s : Shared}
theorem funs_re {h base B : Heap} : ∀ {l : List Env}, h.FunFrames base l → (∀ b ∈ frs l, B.get? b = none) → h.FunFrames B l
  | [], _, _ => trivial
  | env :: r, hl, hB => by
    obtain ⟨hk, ⟨L, o, hf, hn, ho, hd⟩, hr⟩ := hl
    have hL : L ∈ frs (env :: r) := by unfold frs; rw [List.filterMap_cons, hf]; exact List.mem_cons_self
    exact ⟨hk, ⟨L, o, hf, hB L hL, ho, hd⟩, funs_re hr fun b hb => hB b (by unfold frs; rw [List.filterMap_cons, hf]; exact List.mem_cons_of_mem _ hb)⟩
theorem Inv.gone (I : Inv X pins σ H s) (hx : X.ex = []) {b : Addr} (h : s.heap.get? b = none) : X.s₀.heap.get? b = none ∧ H b = none := by
  constructor
  · cases q : X.s₀.heap.get? b with
    | none => rfl
    | some o =>
      obtain ⟨o', e⟩ := I.base.there b o q (by rw [hx]; simp)
      rw [h] at e; cases e
  · cases q : H b with
    | none => rfl
    | some o =>
      have z := I.hok b o q
      obtain ⟨u, e⟩ := z.obj
      rw [h] at e; cases e
theorem fin_leave (I : Inv X pins σ H s) (hx : X.ex = []) {D : List Addr} {h' : Heap} {e : Addr} {cls a0 : Value} (hD : ∀ b ∈ D, b ∈ frs X.stack ∨ (X.s₀.heap.get? b = none ∧ H b = none))
    (F : (PySem.W.hideAll s.heap D).FlyingW X.outer e cls a0 h') (U : s.heap.UpToSlots h') (he : X.s₀.heap.get? e = none ∧ H e = none) :
    Un X.fs [] X.H₀ H X.s₀.heap h' ∧ HOk X.prog X.w H h' ∧ Fly X.s₀.heap H h' e cls a0 := by
  have nx : ∀ b, b ∉ X.ex := fun b => by rw [hx]; simp
  have st : ∀ b o, s.heap.get? b = some o → b ∉ D → h'.get? b = some o := fun b o q n => F.1 b o (PySem.W.hideAll_get _ q n)
  have fr : ∀ b, b ∈ frs X.stack → ∃ o sl, s.heap.get? b = some o ∧ (∀ vs, o.data ≠ .fields vs) ∧ h'.get? b = some { o with slots := sl } := fun b hb => by
    obtain ⟨_, o, ho, hd⟩ := I.stack.mem hb
    obtain ⟨sl, q⟩ := U b o ho hd
    exact ⟨o, sl, ho, hd, q⟩
  refine ⟨⟨fun b o q n hf _ => ?_, fun b o q n hf _ => ?_, fun b o q n _ => I.base.free b o q n (nx b), fun b o q _ => ?_, I.base.tups, I.base.frzs, I.base.tbls⟩, fun a o q => ?_, he, ?_⟩
  · refine st b o (I.base.keep b o q n hf (nx b)) fun hb => ?_
    rcases hD b hb with hb | hb
    · rcases List.mem_cons.mp (I.stkSub b hb) with z | z
      · exact absurd (Nat.lt_of_lt_of_le (Heap.lt_size q) I.ok.above) (by rw [z]; exact Nat.lt_irrefl _)
      · exact hf z
    · rw [hb.1] at q; cases q
  · obtain ⟨sl, q1⟩ := I.base.slot b o q n hf (nx b)
    obtain ⟨_, o2, ho2, hd2⟩ := I.ok.funs.mem hf
    rw [q] at ho2; cases ho2
    obtain ⟨sl', q2⟩ := U b _ q1 hd2
    exact ⟨sl', q2⟩
  · obtain ⟨o', q1⟩ := I.base.there b o q (nx b)
    by_cases hb : b ∈ D
    · rcases hD b hb with hb | hb
      · obtain ⟨_, sl, _, _, q2⟩ := fr b hb
        exact ⟨_, q2⟩
      · rw [hb.1] at q; cases q
    · exact ⟨o', st b o' q1 hb⟩
  · refine (I.hok a o q).stay (fun b u hb q1 => st b u q1 fun hd => ?_) (fun _ z => z) fun _ _ z => z
    have hn : H b = none := by
      rcases hD b hd with z | z
      · exact I.stkFree b z
      · exact z.2
    rcases hb with rfl | hb
    · rw [q] at hn; cases hn
    · rw [hb] at hn; cases hn
  · obtain ⟨oe, vs, T, oT, ts, h1, h2, h3, h4, h5, h6, h7, h8, h9⟩ := F.2.2.2
    refine ⟨oe, vs, T, oT, ts, h1, h2, h3, h4, ?_, h6, h7, h8, h9⟩
    cases q : s.heap.get? T with
    | none => exact I.gone hx q
    | some o =>
      by_cases hT : T ∈ D
      · rcases hD T hT with z | z
        · obtain ⟨o2, sl, q2, hd, q3⟩ := fr T z
          rw [h7] at q3; cases q3
          exact absurd h8 (hd _)
        · exact z
      · rw [PySem.W.hideAll_get _ q hT] at h5; cases h5
end
section
variable {P : Program} {w : World} {K : PySem.W.Frag} {mg : Str → Option Value} {base : Heap} {N : List Str} {qual : Str} {scope : Scope} {f : Addr} {cd : Value} {A : Around} {outer : List Env} {s₀ : Shared} {H₀ : Hp} {E E₀ : XK}
theorem Inv.after1 {X : Cx} {pins : List (Addr × Obj)} {σ : St} {H H' : Hp} {s s' : Shared} (I : Inv X pins σ H s) (os : s'.os = s.os) (bare : AllBare s'.gens) (un : Un (frs X.stack) [] H H' s.heap s'.heap) (hok : HOk X.prog X.w H' s'.heap) : Inv X pins σ H' s' := by
  obtain ⟨hh, g, d, t, os'⟩ := s'
  obtain rfl : os' = s.os := os
  exact I.call (h' := hh) (g' := g) (d' := d) (t' := t) (ch := []) un hok bare fun b z => absurd z (by simp)
theorem pass1 (hE : ∀ cls H', E cls none H' → E₀ cls none H') : Passes (CX1 P w) (cxOf (CX1 P w) P w K mg base N qual scope f cd A outer s₀ H₀ E₀) E := fun pins σ H s e s' I h => by
  obtain ⟨ea, cls, a0, H', rfl, os, bare, un, hok, fly, hq⟩ := h
  have J := I.after1 os bare un hok
  obtain ⟨⟨f1, f2⟩, oe, vs, T, oT, ts, h1, h2, h3, h4, ⟨h5, h5'⟩, h6, h7, h8, h9⟩ := fly
  have g1 := (I.gone rfl f1).1
  have g2 := (I.gone rfl h5).1
  refine wpAny_leaves_onW (base := PySem.W.hideAll s'.heap (ea :: T :: frs (cxOf (CX1 P w) P w K mg base N qual scope f cd A outer s₀ H₀ E₀).stack)) (cls := cls) (a0 := a0) I.ok.frames rfl ⟨fun b o q => PySem.W.of_hideAll _ q, PySem.W.hideAll_none _ List.mem_cons_self,
    funs_re J.stack fun b hb => PySem.W.hideAll_none _ (List.mem_cons_of_mem _ (List.mem_cons_of_mem _ hb)), oe, vs, T, oT, ts, h1, h2, h3, h4, PySem.W.hideAll_none _ (List.mem_cons_of_mem _ List.mem_cons_self), h6, h7, h8, h9⟩ fun h' F U => ?_
  obtain ⟨u1, u2, u3⟩ := fin_leave J rfl (fun b hb => by
    rcases List.mem_cons.mp hb with rfl | hb
    · exact .inr ⟨g1, f2⟩
    · rcases List.mem_cons.mp hb with rfl | hb
      · exact .inr ⟨g2, h5'⟩
      · exact .inl hb) F U ⟨g1, f2⟩
  exact ⟨ea, cls, a0, H', rfl, J.os, bare, u1, u2, u3, hE _ _ hq⟩
end
theorem exc_obj {K : PySem.W.Frag} {h : Heap} {C : Addr} {bmB : List Value} {newId : String} (X : K.In h) (q : PySem.W.excIn K C bmB newId = true) :
    ∃ bm N nm q bs hdct sn sub ab col dd k0 k1 k2 k3 k5 mN, h.get? C = some (excClassObj nm q C N bs bm hdct sn sub ab col dd k0 k1 k2 k3 k5 newId) ∧ h.Ns N mN ∧ mN (Str.ofString "__init__") = none ∧ OwnTail h bmB bm := by
  unfold PySem.W.excIn at q
  split at q
  · rename_i dict cd sl heq
    split at q
    · rename_i C' bm a0 a1 a2 a3 n a5 hm hs
      simp only [Bool.and_eq_true, beq_iff_eq, Bool.not_eq_true'] at q
      obtain ⟨⟨⟨⟨⟨e1, e2⟩, hdel⟩, ht⟩, hok⟩, hni⟩ := q
      subst e1 e2
      have ho := X _ _ heq
      obtain ⟨nm, bs, mro, ns, qn, hd, sn, sub, ab, col, del⟩ := cd
      have hsl : sl = #[a0, a1, a2, a3, some (.builtin n), a5] := by rw [← Array.toArray_toList (xs := sl), hs]
      subst hsl
      dsimp only at hm hdel hok hni
      subst hm hdel
      exact ⟨bm, ns, nm, qn, bs, hd, sn, sub, ab, col, dict, a0, a1, a2, a3, a5, h.nsMap ns, ho, .of_isNs (PySem.W.isNs_of_in X hok), PySem.W.nsMap_none_of_in X hok hni, PySem.W.tail_of_in X ht⟩
    · cases q
  · cases q
def RaiseOk (X : Cx) (E : XK) : Prop := ∀ (pins : List (Addr × Obj)) (σ : St) (H : Hp) (s : Shared) (h' : Heap) (e C : Addr) (vs : List Value), Inv X pins σ H s → s.heap.MadeExcOf h' e (.ref C) vs → E (.ref C) none H → X.xe (.ref e) { s with heap := h' }
theorem raise1 {P : Program} {w : World} {K : PySem.W.Frag} {mg : Str → Option Value} {base : Heap} {N : List Str} {qual : Str} {scope : Scope} {f : Addr} {cd : Value} {A : Around} {outer : List Env} {s₀ : Shared} {H₀ : Hp} {E₀ : XK} :
    RaiseOk (cxOf (CX1 P w) P w K mg base N qual scope f cd A outer s₀ H₀ E₀) E₀ := fun pins σ H s h' e C vs I M hE => by
  refine wpAny_leaves_madeW (h := s.heap) (base := PySem.W.hideAll s.heap (frs (cxOf (CX1 P w) P w K mg base N qual scope f cd A outer s₀ H₀ E₀).stack)) (cls := .ref C) (args := vs) I.ok.frames rfl (fun b o q => PySem.W.of_hideAll _ q)
    (funs_re I.stack fun b hb => PySem.W.hideAll_none _ hb) M fun h'' t F tup _ U => ?_
  have U' : s.heap.UpToSlots h'' := fun b o q hd => U b o (M.keeps b o q) hd
  obtain ⟨u1, u2, u3⟩ := fin_leave I rfl (fun b hb => .inl hb) F U' (I.gone rfl M.new)
  exact ⟨e, .ref C, .ref t, H, rfl, I.os, I.bare, u1, u2, u3, hE⟩
def tRaise (C : Addr) (E : XK) (t : TA) : TS := fun _ σ H => t σ H fun vs H1 => vs.length ≤ 1000 ∧ E (.ref C) none H1
theorem ps_raise {X : Cx} {E : XK} {C : Addr} {x : Str} {bmB : List Value} {B newId initId : String} {np cpos pos : Pos} {a : Expr} {es : List Expr} {t : TA} (hx : RaiseOk X E) (hc : X.calm = true) (hg : Gl X x) (hm : X.mg x = some (.ref C)) (hex : PySem.W.excIn X.K C bmB newId = true) (fB : ExcBaseFacts B newId initId bmB)
    (ha : PA X (a :: es) t) (hd : (x == ("__debug__" : Str)) = false := by decide)
    (he : starEach (a :: es) X.env = (false, eval a X.env) :: starEach es X.env := by rfl) (hpl : (backTo cpos (starEach es X.env)).any (·.1) = false := by rfl) :
    PS X (.Raise (some (.Call (.Name x np) (a :: es) [] cpos)) none pos) (tRaise C E t) := by
  intro pins s σ H D I h
  obtain ⟨bm, NN, nm, qn, bs, hdct, sn, sub, ab, col, dd, k0, k1, k2, k3, k5, mN, hC, hN, hi, hO⟩ := exc_obj I.ok.mod.kin hex
  have hbase : bm.contains (.type "BaseException") = true := hO.hasType fB.hasBase
  have e1 : backTo cpos (starEach (a :: es) X.env) = (false, eval a X.env) :: backTo cpos (starEach es X.env) := by rw [he]; rfl
  have hany : ((backTo cpos (starEach (a :: es) X.env)).any fun x => x.fst) = false := by
    rw [e1, List.any_cons, hpl]; rfl
  refine wpAny_Raise_call_subT (nm := nm) (q := qn) (N := NN) (bs := bs) (bm := bm) (hdct := hdct) (sn := sn) (sub := sub) (ab := ab) (col := col) (dd := dd) (k0 := k0) (k1 := k1) (k2 := k2) (k3 := k3) (k5 := k5) (mN := mN) fB hbase (I.ok.hd hc) hany hi (ld_glob I hg hm ⟨rfl, ?_⟩ hd)
  have A1 := ha cpos pins s σ H _ I h
  rw [e1] at A1 ⊢
  refine Calls.evalArgs_plain (thn A1 fun us s1 ⟨vs, H1, I1, r, q⟩ => ⟨rfl, ?_, I1.bk _ _ hC, hN.keeps I1.bk, hO.keeps I1.bk, fun h' e M => hx pins σ H1 s1 h' e C us I1 M q.2⟩)
  rw [← r.length]
  exact Nat.le_of_lt (small1000 q.1)
end L2
namespace L2
open PySem PySem.Spec PyProof.Rows
def ExcO (e : Addr) (cls : Value) (h : Heap) : Prop := ∃ oe vs, h.get? e = some oe ∧ oe.cls = cls ∧ oe.data = .fields vs
theorem excO_ok {P : Program} {w : World} {H : Hp} {h : Heap} {e : Addr} {cls : Value} (x : ExcO e cls h) : ObjOk P w H h e (.ext (ExcO e cls)) := by
  obtain ⟨oe, vs, a, b, c⟩ := id x
  exact ⟨x, ⟨oe, a⟩, fun h1 h2 ⟨o1, v1, a1, b1, c1⟩ k => ⟨o1, v1, k _ a1, b1, c1⟩⟩
section
variable {X : Cx} {pins : List (Addr × Obj)} {σ : St} {H : Hp} {s : Shared}
def Nw (X : Cx) (pins : List (Addr × Obj)) (H : Hp) (b : Addr) : Prop := X.s₀.heap.get? b = none ∧ H b = none ∧ b ≠ X.env.locals ∧ (∀ x c, X.env.cells.lookup x = some c → c ≠ b) ∧ ∀ p ∈ X.pn ++ pins, p.1 ≠ b
theorem inv_land {D : List Addr} {h' : Heap} {ea : Addr} {φ : Heap → Prop} {tk : Nat} (I : Inv X pins σ H s) (hx : X.ex = []) (hD : ∀ b ∈ D, b ∈ frs X.stack ∨ Nw X pins H b) (hn : Nw X pins H ea)
    (F : (PySem.W.hideAll s.heap D).StaysIn h') (U : s.heap.UpToSlots h') (ok : ObjOk X.prog X.w (upd H ea (.ext φ)) h' ea (.ext φ)) : Inv X pins σ (upd H ea (.ext φ)) { s with heap := h', toks := tk } := by
  have nx : ∀ b, b ∉ X.ex := fun b => by rw [hx]; simp
  have st : ∀ b o, s.heap.get? b = some o → b ∉ D → h'.get? b = some o := fun b o q n => F b o (PySem.W.hideAll_get _ q n)
  have up : ∀ b, b ≠ ea → upd H ea (.ext φ) b = H b := fun b z => by unfold upd; rw [if_neg z]
  have fr : ∀ b, b ∈ frs X.stack → ∃ o sl, s.heap.get? b = some o ∧ (∀ vs, o.data ≠ .fields vs) ∧ h'.get? b = some { o with slots := sl } := fun b hb => by
    obtain ⟨_, o, ho, hd⟩ := I.stack.mem hb
    obtain ⟨sl, q⟩ := U b o ho hd
    exact ⟨o, sl, ho, hd, q⟩
  have old : ∀ b o, X.s₀.heap.get? b = some o → b ≠ ea := fun b o q z => by rw [z, hn.1] at q; cases q
  have cellK : ∀ x c, X.env.cells.lookup x = some c → ∀ v, s.heap.IsCell c v → h'.IsCell c v := fun x c e v ⟨o, ho, hd⟩ => by
    by_cases hc : c ∈ D
    · rcases hD c hc with z | z
      · obtain ⟨o2, sl, q, _, q2⟩ := fr c z
        rw [ho] at q; cases q
        exact ⟨_, q2, hd⟩
      · exact absurd rfl (z.2.2.2.1 x c e)
    · exact ⟨o, st c o ho hc, hd⟩
  refine ⟨I.ok, I.os, I.bare, ⟨fun b o q n hf hx => ?_, fun b o q n hf hx => ?_, fun b o q n hx => ?_, fun b o q hx => ?_, fun b xs e => ?_, fun b o u e => ?_, fun b ps e => ?_⟩, ?_, fun x c e => ?_, ?_, fun x c e => ?_, fun p hp => ?_, fun a o q => ?_, I.len⟩
  · refine st b o (I.base.keep b o q n hf hx) fun hb => ?_
    rcases hD b hb with hb | hb
    · rcases List.mem_cons.mp (I.stkSub b hb) with z | z
      · exact absurd (Nat.lt_of_lt_of_le (Heap.lt_size q) I.ok.above) (by rw [z]; exact Nat.lt_irrefl _)
      · exact hf z
    · rw [hb.1] at q; cases q
  · obtain ⟨sl, q1⟩ := I.base.slot b o q n hf hx
    obtain ⟨_, o2, ho2, hd2⟩ := I.ok.funs.mem hf
    rw [q] at ho2; cases ho2
    obtain ⟨sl', q2⟩ := U b _ q1 hd2
    exact ⟨sl', q2⟩
  · rw [up b (old b o q)]; exact I.base.free b o q n hx
  · obtain ⟨o', q1⟩ := I.base.there b o q hx
    by_cases hb : b ∈ D
    · rcases hD b hb with hb | hb
      · obtain ⟨_, sl, _, _, q2⟩ := fr b hb
        exact ⟨_, q2⟩
      · rw [hb.1] at q; cases q
    · exact ⟨o', st b o' q1 hb⟩
  · have z := I.base.tups b xs e
    rw [up b fun q => by rw [q, hn.2.1] at z; cases z]; exact z
  · have z := I.base.frzs b o u e
    rw [up b fun q => by rw [q, hn.2.1] at z; cases z]; exact z
  · obtain ⟨more, z⟩ := I.base.tbls b ps e
    exact ⟨more, by rw [up b fun q => by rw [q, hn.2.1] at z; cases z]; exact z⟩
  · obtain ⟨m, ⟨o, es, ep, ho, hd, r⟩, hl⟩ := I.loc
    obtain ⟨sl, q⟩ := U _ o ho fun vs z => by rw [hd] at z; cases z
    refine ⟨m, ⟨_, es, ep, q, hd, r⟩, fun i x v e1 e2 e3 => ?_⟩
    obtain ⟨u, r, l⟩ := hl i x v e1 e2 e3
    refine ⟨u, r, ?_⟩
    rcases l with l | ⟨k, c, e, z⟩
    · exact .inl l
    · exact .inr ⟨k, c, e, cellK x c e _ z⟩
  · obtain ⟨v, z⟩ := I.cell x c e
    exact ⟨v, cellK x c e v z⟩
  · rw [up _ (Ne.symm hn.2.2.1)]; exact I.free
  · rw [up _ (hn.2.2.2.1 x c e)]; exact I.freeC x c e
  · obtain ⟨e, n, ne, nf, d⟩ := I.pin p hp
    refine ⟨st p.1 p.2 e fun hb => ?_, by rw [up _ (hn.2.2.2.2 p hp)]; exact n, ne, nf, d⟩
    rcases hD _ hb with z | z
    · rcases List.mem_cons.mp (I.stkSub _ z) with z | z
      · exact ne z
      · exact nf z
    · exact z.2.2.2.2 p hp rfl
  · by_cases z : a = ea
    · subst z
      have : upd H a (.ext φ) a = some (.ext φ) := by unfold upd; rw [if_pos rfl]
      rw [this] at q; cases q
      exact ok
    · rw [up a z] at q
      refine (I.hok a o q).stay (fun b u hb q1 => st b u q1 fun hd => ?_) (fun b e => ?_) fun b xs e => ?_
      · have hz : H b = none := by
          rcases hD b hd with z | z
          · exact I.stkFree b z
          · exact z.2.1
        rcases hb with rfl | hb
        · rw [q] at hz; cases hz
        · rw [hb] at hz; cases hz
      · rw [up b fun z => by rw [z, hn.2.1] at e; cases e]; exact e
      · rw [up b fun z => by rw [z, hn.2.1] at e; cases e]; exact e
theorem Inv.goes {i : Nat} {x : Str} {h' : Heap} {v : Option Value} {m : Str → Option Value} {tk : Nat} (I : Inv X pins σ H s) (hN : X.N.Nodup) (hi : X.N[i]? = some x) (hn : s.heap.Ns X.env.locals m) (hn' : h'.Ns X.env.locals fun y => if y = x then v else m y) (hs : Heap.SameBut X.env.locals s.heap h') :
    Inv X pins (σ.set i none) H { s with heap := h', toks := tk } := by
  obtain ⟨m0, hn0, hl⟩ := id I.loc
  obtain ⟨oL, _, _, hoL, _⟩ := id hn
  have hm : m0 = m := by
    obtain ⟨o1, e1, p1, a1, b1, _, c1⟩ := hn0
    obtain ⟨o2, e2, p2, a2, b2, _, c2⟩ := id hn
    rw [a1] at a2; cases a2
    rw [b1] at b2; cases b2
    funext y
    rw [← c1 y, ← c2 y]
  subst hm
  have ne : ∀ b o, X.s₀.heap.get? b = some o → b ≠ X.env.locals := fun b o e => Nat.ne_of_lt (Nat.lt_of_lt_of_le (Heap.lt_size e) I.ok.above)
  refine ⟨I.ok, I.os, I.bare, ⟨fun b o e n hb hx => ?_, fun b o e n hb hx => ?_, I.base.free, fun b o e hx => ?_, I.base.tups, I.base.frzs, I.base.tbls⟩, ⟨_, hn', fun j y v' e1 e2 e3 => ?_⟩, fun y c e => ?_, I.free, I.freeC, fun p hp => ?_, fun b ob e => ?_, by simpa using I.len⟩
  · exact (hs.2 b (ne b o e)).trans (I.base.keep b o e n hb hx)
  · obtain ⟨sl, e1⟩ := I.base.slot b o e n hb hx
    exact ⟨sl, (hs.2 b (ne b o e)).trans e1⟩
  · obtain ⟨o', e1⟩ := I.base.there b o e hx
    exact ⟨o', (hs.2 b (ne b o e)).trans e1⟩
  · by_cases hj : i = j
    · subst hj
      have hiσ : i < σ.length := by rw [I.len]; exact (List.getElem?_eq_some_iff.mp hi).1
      rw [List.getElem?_set_self hiσ] at e2; cases e2
    · rw [List.getElem?_set_ne hj] at e2
      obtain ⟨u', r', q⟩ := hl j y v' e1 e2 e3
      refine ⟨u', r', ?_⟩
      rcases q with ⟨k, e⟩ | ⟨k, c, e, z⟩
      · refine .inl ⟨k, ?_⟩
        have : y ≠ x := fun e => hj (nodup_ix hN (e ▸ hi) e1)
        simp [this, e]
      · exact .inr ⟨k, c, e, z.sameBut hs (I.cne y c e)⟩
  · obtain ⟨w', z⟩ := I.cell y c e
    exact ⟨w', z.sameBut hs (I.cne y c e)⟩
  · obtain ⟨e, n, ne, nf, d⟩ := I.pin p hp
    exact ⟨(hs.2 p.1 ne).trans e, n, ne, nf, d⟩
  · refine (I.hok b ob e).stay (fun c w' hc q => (hs.2 c ?_).trans q) (fun _ q => q) fun _ _ q => q
    rintro rfl
    rcases hc with rfl | hc
    · rw [I.free] at e; cases e
    · rw [I.free] at hc; cases hc
def Cx.within (X : Cx) (e : Value) : Cx := { X with A := X.A.mark (some e), calm := false, xe := fun _ _ => False }
theorem Inv.within (I : Inv X pins σ H s) (e : Value) : Inv (X.within e) pins σ H s :=
  ⟨⟨I.ok.mod, I.ok.kind, I.ok.glob, I.ok.blt, I.ok.above, I.ok.inj, I.ok.has, I.ok.cab, (fun z => by cases z), I.ok.frames, I.ok.stk, I.ok.exf, I.ok.bs, I.ok.bsz, I.ok.noex, I.ok.exfs, I.ok.funs, I.ok.frf⟩, I.os, I.bare, I.base, I.loc, I.cell, I.free, I.freeC, I.pin, I.hok, I.len⟩
theorem Inv.out {e : Value} (I : Inv (X.within e) pins σ H s) (ok : X.Ok) : Inv X pins σ H s := ⟨ok, I.os, I.bare, I.base, I.loc, I.cell, I.free, I.freeC, I.pin, I.hok, I.len⟩
def Ends.goes (D : Ends) (i : Nat) : Ends := { nx := fun σ H => D.nx (σ.set i none) H, rt := D.rt, bk := fun σ H => D.bk (σ.set i none) H, ct := fun σ H => D.ct (σ.set i none) H }
def tHand (K : PySem.W.Frag) (c : Value) (i : Nat) (t : TS) (D : Ends) : St → XK := fun σ cls _ H => PySem.W.exmOne K cls c = some true ∧ ∀ ea, H ea = none → t (D.goes i) (σ.set i (some (.ref ea))) (upd H ea (.ext (ExcO ea cls)))
theorem caught {D : Ends} {x n : Str} {c : Addr} {i : Nat} {b₀ : Stmt} {suite : List Stmt} {t : TS} {np pos : Pos} {e : Value} {s' : Shared} (hx : X.ex = []) (hst : X.stack = X.env :: X.outer) (hf : X.env.frame = some X.env.locals) (hg : Gl X x) (hm : X.mg x = some (.ref c))
    (hN : X.N.Nodup) (hi : X.N[i]? = some n) (hloc : X.env.scope.names.lookup n = some .local) (hk : X.env.kindOf n = some .local) (hd : (x == ("__debug__" : Str)) = false) (hS : ∀ ea, PSs (X.within (.ref ea)) (b₀ :: suite) t)
    (I : Inv X pins σ H s) (h : CX1 X.prog X.w X.stack H s (tHand X.K (.ref c) i t D σ) e s') :
    wpAny (model X.prog X.w) X.A (noteFrame e X.env) (fun _ s₂ => wpAny (model X.prog X.w) X.A (setFlight e none) (fun _ s₃ => wpAny (model X.prog X.w) X.A (handleBy e X.env [.ExceptHandler (some (.Name x np)) (some n) (b₀ :: suite) pos]) (SP X pins D) X.xe s₃) X.xe s₂) X.xe s' := by
  obtain ⟨ea, cls, a0, H', rfl, os, bare, un, hok, fly, hex, hq⟩ := h
  have J := I.after1 os bare un hok
  obtain ⟨⟨f1, f2⟩, oe, vs, T, oT, ts, h1, h2, h3, h4, ⟨h5, h5'⟩, h6, h7, h8, h9⟩ := fly
  have nw : ∀ b, s.heap.get? b = none → H' b = none → Nw X pins H' b := fun b q q' => by
    refine ⟨(I.gone hx q).1, q', fun z => ?_, fun y c e z => ?_, fun p hp z => ?_⟩
    · obtain ⟨m, ⟨o, _, _, ho, _⟩, _⟩ := I.loc
      rw [z, ho] at q; cases q
    · obtain ⟨v, o, ho, _⟩ := I.cell y c e
      rw [← z, ho] at q; cases q
    · have := (I.pin p hp).1
      rw [z, q] at this; cases this
  have n1 := nw ea f1 f2
  have n2 := nw T h5 h5'
  have hD : ∀ b ∈ ea :: T :: frs X.stack, b ∈ frs X.stack ∨ Nw X pins H' b := fun b hb => by
    rcases List.mem_cons.mp hb with rfl | hb
    · exact .inr n1
    · rcases List.mem_cons.mp hb with rfl | hb
      · exact .inr n2
      · exact .inl hb
  have FL : (PySem.W.hideAll s'.heap (ea :: T :: frs X.stack)).FlyingW (X.env :: X.outer) ea cls a0 s'.heap := ⟨fun b o q => PySem.W.of_hideAll _ q, PySem.W.hideAll_none _ List.mem_cons_self,
    by rw [← hst]; exact funs_re J.stack fun b hb => PySem.W.hideAll_none _ (List.mem_cons_of_mem _ (List.mem_cons_of_mem _ hb)), oe, vs, T, oT, ts, h1, h2, h3, h4, PySem.W.hideAll_none _ (List.mem_cons_of_mem _ List.mem_cons_self), h6, h7, h8, h9⟩
  have land : ∀ (h' : Heap) (tk : Nat), (PySem.W.hideAll s'.heap (ea :: T :: frs X.stack)).FlyingW (X.env :: X.outer) ea cls a0 h' → s'.heap.UpToSlots h' → Inv (X.within (.ref ea)) pins σ (upd H' ea (.ext (ExcO ea cls))) { s' with heap := h', toks := tk } := fun h' tk F U => by
    obtain ⟨o, ws, q1, q2, q3, _⟩ := F.first
    exact (inv_land J hx hD n1 F.1 U (excO_ok ⟨o, ws, q1, q2, q3⟩)).within _
  refine wpAny_looks_onW (by rw [← hst]; exact I.ok.frames) hf FL fun k1 F1 U1 => ?_
  refine wpAny_landsW F1 fun k2 F2 U2 => ?_
  have J2 := land k2 s'.toks F2 (U1.trans U2)
  refine wpAny_handleBy_cons ?_ (by intro z; cases z)
  refine codeAny_handlers_test ?_
  refine ld_glob (X := X.within (.ref ea)) J2 hg hm ?_ hd
  obtain ⟨o, ws, q1, q2, q3, _⟩ := F2.first
  have ty : ∀ M, PySem.W.Looks M k2 (typeOf (.ref ea)) cls := fun M A Q E s k hq => wpAny_typeOf_ref (k _ _ q1) (by rw [q2]; exact hq)
  refine PySem.W.exm_one J2.kIn (ty _) hex _ _ _ _ (fun _ _ z => z) ?_
  show codeAny _ _ _ _ _
  refine codeAny_handlers_suite_as ?_
  refine lands_againW F2 fun k3 F3 U3 => ?_
  have J3 := land k3 s'.toks F3 ((U1.trans U2).trans U3)
  refine store_ok (X := X.within (.ref ea)) (v := .ref ea) J3 hN hi (.inl hloc) rfl (fun s4 J4 => ?_) (.inr hloc)
  refine wpAny_mono (hS ea pins s4 _ _ (D.goes i) J4 (hq ea f2)) (fun fl s5 q5 => ?_) fun _ _ z => z.elim
  have fin : ∀ {σ' : St} {H'' : Hp}, Inv (X.within (.ref ea)) pins σ' H'' s5 → (∀ s6, Inv X pins (σ'.set i none) H'' s6 → SP X pins D fl s6) → wpAny (model X.prog X.w) X.A (do bindName X.env n Value.none; unbindBehindTheSuite X.env n pos) (fun _ s₃ => SP X pins D fl s₃) X.xe s5 := fun {σ' H''} J5 k => by
    obtain ⟨m, hn, _⟩ := J5.loc
    refine wpAny_nameGoes_keeps (m := m) hk hn (by rw [I.ok.kind]; rfl) fun h' v hn' hs => k _ ((J5.out I.ok).goes hN hi hn hn' hs)
  cases fl with
  | next => obtain ⟨σ', H'', J5, q⟩ := q5; exact fin J5 fun s6 J6 => ⟨_, _, J6, q⟩
  | brk => obtain ⟨σ', H'', J5, q⟩ := q5; exact fin J5 fun s6 J6 => ⟨_, _, J6, q⟩
  | cont => obtain ⟨σ', H'', J5, q⟩ := q5; exact fin J5 fun s6 J6 => ⟨_, _, J6, q⟩
  | ret u => obtain ⟨v, σ', H'', J5, r, q⟩ := q5; exact fin J5 fun s6 J6 => ⟨v, _, _, J6, r, q⟩
end
def PassesX (CX : CXT) (X : Cx) (E : St → XK) : Prop := ∀ (pins : List (Addr × Obj)) (σ : St) (H : Hp) (s : Shared) (e : Value) (s' : Shared), Inv X pins σ H s → CX X.stack H s (E σ) e s' → X.xe e s'
def tCallX (sp : Sp) (dvs : List V) (E : St → XK) (t : TA) : TE := fun σ H Q => t σ H fun vs H1 => sp (vs ++ dvs) H1 Q (E σ)
def tMakeX (C : Addr) (sp : Sp) (dvs : List V) (E : St → XK) (t : TA) : TE := fun σ H Q => t σ H fun vs H1 => ∀ x dx, H1 x = none → H1 dx = none → dx ≠ x →
  sp (.ref x :: (vs ++ dvs)) (upd (upd H1 dx (.own x)) x (.ins C dx [])) (fun v H2 => v = .non ∧ Q (.ref x) H2) (E σ)
section
variable {X : Cx} {CX : CXT} {k : Nat} {f C : Addr} {fd : FuncData} {ps : List Str} {sp : Sp} {dvs : List V} {ds : List Value} {E : St → XK} {x m : Str} {p pos apos : Pos} {e o : Expr} {es : List Expr} {ta : TE} {t : TA}
theorem run_fnX {pins : List (Addr × Obj)} {σ : St} {H : Hp} {s : Shared} {Q : VK} {us : List Value} {vs : List V} (F : FnOk X.prog X.w X.K X.mg X.base CX k f fd ps sp) (hr : Room k X.A) (hb : Binds X.K fd ps ds) (hd : Vals dvs ds) (hx : PassesX CX X E)
    (I : Inv X pins σ H s) (r : Vals vs us) (h : sp (vs ++ dvs) H Q (E σ)) : wpAny (model X.prog X.w) X.A (call (.ref f) us) (EP X pins σ Q) X.xe s := by
  have r2 : Vals (vs ++ dvs) (us ++ ds) := r.append hd
  have hl : (us ++ ds).length = ps.length := by rw [← r2.length]; exact F.len _ _ _ _ h
  refine wpAny_call (codeAny_mono (F.run X.A X.stack s H ⟨us, []⟩ (us ++ ds) (vs ++ dvs) Q (E σ) hr I.env0 (hb s us I.kIn hl) r2 h) fun r s' hq => ?_)
  cases r with
  | error e => exact hx pins σ H s e s' I hq
  | ok fl =>
    cases fl with
    | ret u => exact I.after hq
    | next => exact False.elim hq
    | brk => exact False.elim hq
    | cont => exact False.elim hq
theorem pe_callX (F : FnOk X.prog X.w X.K X.mg X.base CX k f fd ps sp) (hr : Room k X.A) (hg : Gl X x) (hm : X.mg x = some (.ref f)) (hk : PySem.W.keepIn X.K (.ref f) = true) (hb : Binds X.K fd ps ds) (hd : Vals dvs ds) (hx : PassesX CX X E)
    (ha : PA X (e :: es) t) (hdb : (x == ("__debug__" : Str)) = false := by decide) (he : starEach (e :: es) X.env = (false, eval e X.env) :: starEach es X.env := by rfl) (hpl : (backTo pos (starEach es X.env)).any (·.1) = false := by rfl) :
    PE X (.Call (.Name x p) (e :: es) [] pos) (tCallX sp dvs E t) := by
  intro pins s σ H Q I h
  refine wpAny_Call_Name_kw (ld_glob I hg hm ?_ hdb)
  refine PySem.W.callWith_K (h₀ := X.base) I.ok.mod.kin hk (thn (ha pos pins s σ H _ I h) fun us s1 ⟨vs, H1, I1, r, q⟩ => ⟨I1.kIn, ?_⟩) he hpl
  exact run_fnX F hr hb hd hx I1 r q
theorem run_makeX {pins : List (Addr × Obj)} {σ : St} {H : Hp} {s : Shared} {Q : VK} {us : List Value} {vs : List V} (M : Mk X.K C f) (F : FnOk X.prog X.w X.K X.mg X.base CX k f fd ps sp) (hr : Room (k + 1) X.A) (hb : Binds X.K fd ps ds) (hd : Vals dvs ds)
    (hx : PassesX CX X E) (I : Inv X pins σ H s) (r : Vals vs us)
    (h : ∀ x dx, H x = none → H dx = none → dx ≠ x → sp (.ref x :: (vs ++ dvs)) (upd (upd H dx (.own x)) x (.ins C dx [])) (fun v H2 => v = .non ∧ Q (.ref x) H2) (E σ)) :
    wpAny (model X.prog X.w) X.A (call (.ref C) us) (EP X pins σ Q) X.xe s := by
  have hq := h (s.heap.objs.size + 1) s.heap.objs.size (I.hok.fresh (Nat.le_succ _)) (I.hok.fresh (Nat.le_refl _)) (Nat.ne_of_lt (Nat.lt_succ_self _))
  have I2 := Inv.made (C := C) I
  have r2 : Vals (V.ref (s.heap.objs.size + 1) :: (vs ++ dvs)) (Value.ref (s.heap.objs.size + 1) :: (us ++ ds)) := .cons rfl (r.append hd)
  have hl : (Value.ref (s.heap.objs.size + 1) :: us ++ ds).length = ps.length := by
    have e := r2.length
    rw [F.len _ _ _ _ hq] at e
    exact e.symm
  refine wpAny_call (make_map (f := f) I.kIn M.makes M.init (beq_iff_eq.mp M.fn) (codeAny_mono (F.run _ X.stack _ _ ⟨Value.ref (s.heap.objs.size + 1) :: us, []⟩ (Value.ref (s.heap.objs.size + 1) :: (us ++ ds)) _ _ (E σ) (hr.make C us [])
    (I2.env0.make C us []) (hb _ (Value.ref (s.heap.objs.size + 1) :: us) I2.kIn hl) r2 hq) fun r s' hq' => ?_))
  cases r with
  | error e => exact hx pins σ _ _ e s' I2 hq'
  | ok fl =>
    cases fl with
    | ret u =>
      obtain ⟨v, H', I3, rv, ev, q3⟩ := I2.after hq'
      subst ev
      exact ⟨rv, ⟨V.ref (s.heap.objs.size + 1), H', I3, rfl, q3⟩⟩
    | next => exact False.elim hq'
    | brk => exact False.elim hq'
    | cont => exact False.elim hq'
theorem pe_makeX (M : Mk X.K C f) (F : FnOk X.prog X.w X.K X.mg X.base CX k f fd ps sp) (hr : Room (k + 1) X.A) (hg : Gl X x) (hm : X.mg x = some (.ref C)) (hb : Binds X.K fd ps ds) (hd : Vals dvs ds) (hx : PassesX CX X E)
    (ha : PA X (e :: es) t) (hdb : (x == ("__debug__" : Str)) = false := by decide) (he : starEach (e :: es) X.env = (false, eval e X.env) :: starEach es X.env := by rfl) (hpl : (backTo pos (starEach es X.env)).any (·.1) = false := by rfl) :
    PE X (.Call (.Name x p) (e :: es) [] pos) (tMakeX C sp dvs E t) := by
  intro pins s σ H Q I h
  refine wpAny_Call_Name_kw (ld_glob I hg hm ?_ hdb)
  refine PySem.W.callWith_K (h₀ := X.base) I.ok.mod.kin M.kp (thn (ha pos pins s σ H _ I h) fun us s1 ⟨vs, H1, I1, r, q⟩ => ⟨I1.kIn, ?_⟩) he hpl
  exact run_makeX M F hr hb hd hx I1 r q
end
def tTry (K : PySem.W.Frag) (c : Value) (i : Nat) (b : (St → XK) → TS) (t : TS) : TS := fun D σ H => b (tHand K c i t D) D σ H
def Cx.tried (X : Cx) (pn : List (Addr × Obj)) (xe : Value → Shared → Prop) : Cx := { X with pn := pn, xe := xe }
theorem ps_try {X : Cx} {body : List Stmt} {b : (St → XK) → TS} {t : TS} {x n : Str} {c : Addr} {i : Nat} {b₀ : Stmt} {suite : List Stmt} {np hpos pos : Pos} (hx : X.ex = []) (hst : X.stack = X.env :: X.outer) (hf : X.env.frame = some X.env.locals) (hg : Gl X x) (hm : X.mg x = some (.ref c))
    (hN : X.N.Nodup) (hi : X.N[i]? = some n) (hloc : X.env.scope.names.lookup n = some .local) (hk : X.env.kindOf n = some .local) (hb : ∀ pn xe E, PassesX (CX1 X.prog X.w) (X.tried pn xe) E → PSs (X.tried pn xe) body (b E)) (hS : ∀ ea, PSs (X.within (.ref ea)) (b₀ :: suite) t)
    (hd : (x == ("__debug__" : Str)) = false := by decide) :
    PS X (.Try body [.ExceptHandler (some (.Name x np)) (some n) (b₀ :: suite) hpos] [] [] pos) (tTry X.K (.ref c) i b t) := by
  intro pins s σ H D I h
  have inn : ∀ {pins' σ H s}, Inv (X.tried (X.pn ++ pins) X.xe) pins' σ H s → Inv X pins σ H s := fun I => ⟨⟨I.ok.mod, I.ok.kind, I.ok.glob, I.ok.blt, I.ok.above, I.ok.inj, I.ok.has, I.ok.cab, I.ok.hd, I.ok.frames, I.ok.stk, I.ok.exf, I.ok.bs, I.ok.bsz, I.ok.noex, I.ok.exfs, I.ok.funs, I.ok.frf⟩,
    I.os, I.bare, I.base, I.loc, I.cell, I.free, I.freeC, fun p hp => I.pin p (List.mem_append_left _ hp), I.hok, I.len⟩
  refine wpAny_Try_except ?_
  let xe' : Value → Shared → Prop := fun e s₁ => wpAny (model X.prog X.w) X.A (noteFrame e X.env) (fun _ s₂ => wpAny (model X.prog X.w) X.A (setFlight e none) (fun _ s₃ => wpAny (model X.prog X.w) X.A (handleBy e X.env [.ExceptHandler (some (.Name x np)) (some n) (b₀ :: suite) hpos]) (SP X pins D) X.xe s₃) X.xe s₂) X.xe s₁
  have inn' : ∀ {pins' σ H s}, Inv (X.tried (X.pn ++ pins) xe') pins' σ H s → Inv X pins σ H s := fun I => ⟨⟨I.ok.mod, I.ok.kind, I.ok.glob, I.ok.blt, I.ok.above, I.ok.inj, I.ok.has, I.ok.cab, I.ok.hd, I.ok.frames, I.ok.stk, I.ok.exf, I.ok.bs, I.ok.bsz, I.ok.noex, I.ok.exfs, I.ok.funs, I.ok.frf⟩,
    I.os, I.bare, I.base, I.loc, I.cell, I.free, I.freeC, fun p hp => I.pin p (List.mem_append_left _ hp), I.hok, I.len⟩
  have I' : Inv (X.tried (X.pn ++ pins) xe') [] σ H s := ⟨⟨I.ok.mod, I.ok.kind, I.ok.glob, I.ok.blt, I.ok.above, I.ok.inj, I.ok.has, I.ok.cab, I.ok.hd, I.ok.frames, I.ok.stk, I.ok.exf, I.ok.bs, I.ok.bsz, I.ok.noex, I.ok.exfs, I.ok.funs, I.ok.frf⟩,
    I.os, I.bare, I.base, I.loc, I.cell, I.free, I.freeC, fun p hp => I.pin p (by rw [List.append_nil] at hp; exact hp), I.hok, I.len⟩
  have P : PassesX (CX1 X.prog X.w) (X.tried (X.pn ++ pins) xe') (tHand X.K (.ref c) i t D) := fun pins' σ' H' s1 e s' I1 hc => caught hx hst hf hg hm hN hi hloc hk hd hS (inn' I1) hc
  refine wpAny_mono (hb _ _ _ P [] s σ H D I' h) (fun fl s1 q => ?_) fun e s1 q => q
  cases fl with
  | next => obtain ⟨σ', H'', J, q⟩ := q; exact wpAny_execs_nil ⟨σ', H'', inn' J, q⟩
  | brk => obtain ⟨σ', H'', J, q⟩ := q; exact ⟨σ', H'', inn' J, q⟩
  | cont => obtain ⟨σ', H'', J, q⟩ := q; exact ⟨σ', H'', inn' J, q⟩
  | ret u => obtain ⟨v, σ', H'', J, r, q⟩ := q; exact ⟨v, σ', H'', inn' J, r, q⟩
end L2
namespace L2
open PySem PySem.Spec PyProof.Rows
theorem exc_class_get {prog : Program} {w : World} {A : Around} {s : Shared} {K : PySem.W.Frag} {x C : Addr} {R : Result → Shared → Prop} {tp : Value} (X : K.In s.heap) (L0 : ∀ M, PySem.W.Looks M s.heap (typeOf (.ref x)) (.ref C)) (hm : PySem.W.mroIn K C (.type "object") = some true)
    (h : R (.ok (.ret (.ref C))) s) : codeAny (model prog w) A (.call (.builtin "getset_descriptor.__get__") { pos := [.builtin "object.__class__", .ref x, tp] }) R s := by
  obtain ⟨hh, g, dr, t, os⟩ := s
  have L1 : ∀ M, PySem.W.Looks M hh (isSubtype (.ref C) (.type "object")) true := fun M => PySem.W.looks_mroIn X hm
  refine codeAny_call_builtin PySem.W.KF.slot_gs.plain PySem.W.KF.entry_gs (PySem.W.KF.slot_gs.check _ _ _ _ (.builtin "object.__class__") [.ref x, tp] [] _ PySem.W.KF.type_class (PySem.W.KF.args_gs _ _ _) ?_)
  show wpAny _ _ (Builtin.«getset_descriptor.__get__» _) _ _ _
  unfold Builtin.«getset_descriptor.__get__» Builtin.Getset_descriptor.descrGet
  rw [PySem.W.dga_obj]
  refine wpAny_bind (wpAny_pure ?_)
  show wpAny _ _ (Builtin.Getset_descriptor.descrGetter _ _) _ _ _
  unfold Builtin.Getset_descriptor.descrGetter
  show wpAny _ _ (do
      Builtin.Getset_descriptor.descrCheckInstance (Value.builtin "object.__class__") (.ref x)
      again (Code.builtin "object.__class__" { pos := [.ref x] })) _ _ _
  unfold Builtin.Getset_descriptor.descrCheckInstance
  have e1 : Builtin.Getset_descriptor.descrNameAndClass (.builtin "object.__class__") = pure (Str.ofString "__class__", Value.type "object") := by
    unfold Builtin.Getset_descriptor.descrNameAndClass
    show pure (Str.ofString (Builtin.Getset_descriptor.descrOwnerAndName "object.__class__").2, Value.type (Builtin.Getset_descriptor.descrOwnerAndName "object.__class__").1) = _
    rw [PySem.W.KF.owner_class]
  rw [e1]
  refine wpAny_bind (wpAny_bind (wpAny_pure ?_))
  refine wpAny_bind (wpAny_bind ((L0 _).at ((L1 _).at ?_)))
  refine wpAny_pure ?_
  refine wpAny_pure ?_
  refine ⟨Code.quiet_builtin _ (by decide +kernel), codeAny_builtin PySem.W.KF.entry_class ?_⟩
  unfold Builtin.«object.__class__»
  refine wpAny_bind ?_
  unfold shownTypeOf
  refine wpAny_bind ((L0 _).at ?_)
  exact wpAny_ite_false rfl (wpAny_pure (wpAny_pure h))
structure ExcCls (K : PySem.W.Frag) (C : Addr) : Prop where
  ga : PySem.W.findIn K (.ref C) "__getattribute__" = some (some (.builtin "BaseException.__getattribute__"))
  gt : PySem.W.findIn K (.ref C) "__getattr__" = some none
  cl : PySem.W.findIn K (.ref C) "__class__" = some (some (.builtin "object.__class__"))
  gg : PySem.W.specialIn K (.builtin "object.__class__") "__get__" = some (some (.builtin "getset_descriptor.__get__"))
  tk : PySem.W.takesIn K (.builtin "object.__class__") = some true
  ob : PySem.W.mroIn K C (.type "object") = some true
  be : PySem.W.mroIn K C (.type "BaseException") = some true
  it : (PySem.W.clsIn K C).isSome = true
theorem exc_find {M : Model} {h : Heap} {K : PySem.W.Frag} {x C : Addr} (X : K.In h) (c : ExcCls K C) : PySem.W.Looks M h (Builtin.ObjectAttr.find (.ref x) (.ref C) "__class__") (.bind (.builtin "getset_descriptor.__get__") (.builtin "object.__class__")) := by
  unfold Builtin.ObjectAttr.find
  refine (PySem.W.looks_findIn X c.cl).andThen ((PySem.W.looks_specialIn X c.gg).andThen ?_)
  have L : PySem.W.Looks M h (Builtin.ObjectAttr.dataDescriptor? (some (.builtin "object.__class__")) (some (.builtin "getset_descriptor.__get__"))) (some (.builtin "getset_descriptor.__get__", .builtin "object.__class__")) := by
    unfold Builtin.ObjectAttr.dataDescriptor?
    exact (PySem.W.looks_takesIn X c.tk).andThen PySem.W.Looks.now
  refine L.andThen ?_
  intro A Q E s k q
  exact wpAny_bind (wpAny_rule (wpAny_pure q))
theorem exc_entry {prog : Program} {w : World} {A : Around} {E : Value → Shared → Prop} {s : Shared} {K : PySem.W.Frag} {x C : Addr} {tk : Tok} {Q : PySem.Fin → Shared → Prop} (X : K.In s.heap) (c : ExcCls K C) (L0 : ∀ M, PySem.W.Looks M s.heap (typeOf (.ref x)) (.ref C)) (h : Q (.done (.ret (.ref C))) s) :
    wpAny (model prog w) A (Builtin.«object.__getattribute__» { pos := [.ref x, .str "__class__" tk] }) Q E s := by
  obtain ⟨hh, g, dr, t, os⟩ := s
  unfold Builtin.«object.__getattribute__»
  refine wpAny_bind ?_
  unfold slotArgs
  refine wpAny_ite_false rfl (wpAny_ite_false rfl (wpAny_pure ?_))
  refine wpAny_bind (wpAny_pure ?_)
  refine wpAny_bind ((L0 _).at ?_)
  refine wpAny_bind ((exc_find X c).at ?_)
  show wpAny _ _ (Builtin.ObjectAttr.bindTo _ _ _ _) _ _ _
  unfold Builtin.ObjectAttr.bindTo
  refine wpAny_bind (wpAny_holding (wpAny_call (exc_class_get X L0 c.ob ?_)))
  exact wpAny_pure h
theorem exc_check {M : Model} {A : Around} {E : Value → Shared → Prop} {s : Shared} {K : PySem.W.Frag} {x C : Addr} {v : Value} {Q : Unit → Shared → Prop} (X : K.In s.heap) (c : ExcCls K C) (L0 : PySem.W.Looks M s.heap (typeOf (.ref x)) (.ref C)) (h : Q () s) :
    wpAny M A (checkBuiltinCall "BaseException.__getattribute__" { pos := [.ref x, v] }) Q E s := by
  obtain ⟨hh, g, dr, t, os⟩ := s
  have hk : builtinKind "BaseException.__getattribute__" = some .slot := by decide +kernel
  have hs : splitId "BaseException.__getattribute__" = some ("BaseException", "__getattribute__") := by decide +kernel
  unfold checkBuiltinCall
  rw [hk, hs]
  refine wpAny_bind (wpAny_bind (L0.at ((PySem.W.looks_mroIn X c.be).at ?_)))
  refine wpAny_ite_false rfl ?_
  have ha := F.args_bexc_ga (.ref x) v
  exact wpAny_of_eq ha h
theorem exc_by {prog : Program} {w : World} {A : Around} {E : Value → Shared → Prop} {s : Shared} {K : PySem.W.Frag} {x C : Addr} {tk : Tok} {Q : Value → Shared → Prop} (X : K.In s.heap) (c : ExcCls K C) (L0 : ∀ M, PySem.W.Looks M s.heap (typeOf (.ref x)) (.ref C)) (h : Q (.ref C) s) :
    wpAny (model prog w) A (getAttrBy (.ref x) (.str "__class__" tk) false) Q E s := by
  obtain ⟨hh, g, dr, t, os⟩ := s
  unfold getAttrBy
  refine wpAny_holding (wpAny_bind ((L0 _).at (wpAny_bind ((PySem.W.looks_findIn X c.ga).at ?_))))
  refine wpAny_ite_false rfl ?_
  unfold getAttrByItsOwn
  refine wpAny_bind ?_
  unfold hookBefore
  refine wpAny_ite_true rfl ((PySem.W.looks_findIn X c.gt).at (wpAny_bind (wpAny_attempt (wpAny_holding ?_))))
  unfold callGetattribute
  refine wpAny_ite_false rfl ?_
  unfold boundAndCalled
  refine wpAny_bind (wpAny_of_eq (F.attrBase_ValueError.ga.bind (.ref x)) ?_)
  refine wpAny_call ?_
  refine codeAny_call_builtin F.attrBase_ValueError.ga.plain F.entry_bexc_ga ?_
  refine exc_check X c (L0 _) ?_
  refine exc_entry X c L0 ?_
  exact PySem.W.handed_on rfl h
theorem exc_class {prog : Program} {w : World} {A : Around} {E : Value → Shared → Prop} {s : Shared} {K : PySem.W.Frag} {x C : Addr} {Q : Option Value → Shared → Prop} (X : K.In s.heap) (c : ExcCls K C) (L0 : ∀ M, PySem.W.Looks M s.heap (typeOf (.ref x)) (.ref C)) (h : Q (some (.ref C)) { s with toks := s.toks + 1 }) :
    wpAny (model prog w) A (getAttr? (.ref x) "__class__") Q E s := by
  unfold getAttr?
  refine wpAny_bind (wpAny_mkText ?_)
  unfold getAttrBy?
  refine wpAny_bind (wpAny_attempt (exc_by (s := { s with toks := s.toks + 1 }) X c L0 ?_))
  exact wpAny_pure h
theorem kitx_exc {K : PySem.W.Frag} {e C : Addr} (c : ExcCls K C) : PySem.W.KitX K (.ref e) (.ref C) (ExcO e (.ref C)) where
  ty := fun M h _ ⟨oe, vs, a, b, _⟩ A Q E s k q => wpAny_typeOf_ref (k _ _ a) (by rw [b]; exact q)
  it := fun M h X _ => by
    obtain ⟨cd, hc⟩ := Option.isSome_iff_exists.mp c.it
    unfold PySem.W.clsIn at hc
    split at hc
    · rename_i cls dict cd' sl heq
      intro A Q E s k q
      unfold isType
      exact wpAny_bind (wpAny_loadPart (k _ _ (X _ _ heq)) (wpAny_pure q))
    · cases hc
  ne := fun h tp dd its n sl X htp => by
    obtain ⟨cd, hc⟩ := Option.isSome_iff_exists.mp c.it
    unfold PySem.W.clsIn at hc
    split at hc
    · rename_i cls dict cd' sl' heq
      refine Bool.eq_false_iff.mpr fun q => ?_
      have e := Value.ref.inj (beq_iff_eq.mp q)
      subst e
      have := (X _ _ heq).symm.trans htp
      cases this
    · cases hc
  ca := fun X x h => exc_class X c (fun M A Q E s k q => let ⟨oe, vs, a, b, _⟩ := x; wpAny_typeOf_ref (k _ _ a) (by rw [b]; exact q)) h
theorem vals_refs : ∀ {ds : List Addr} {its : List Value}, Vals (ds.map V.ref) its → its = ds.map Value.ref
  | [], _, .nil => rfl
  | d :: ds, _, .cons r t => by rw [vals_refs t]; cases r; rfl
section
variable {X : Cx}
theorem call_isexc : CallR X (.builtin "isinstance") (fun xs H Q => ∃ ea C D b, xs = [.ref ea, .ref D] ∧ ExcCls X.K C ∧ H ea = some (.ext (ExcO ea (.ref C))) ∧ PySem.W.kitOne X.K (.ref C) (.ref D) = some b ∧ Q (.bl b) H) := by
  intro pins s σ H xs us Q I rv h
  obtain ⟨ea, C, D, b, rfl, c, he, hk, q⟩ := h
  obtain ⟨u, u', rfl, ru, ru'⟩ := rv.two
  cases ru; cases ru'
  have hx : ExcO ea (.ref C) s.heap := (I.hok ea _ he).1
  exact PySem.W.kia_one (kitx_exc c) I.kIn hx hk (by intro z; cases z) fun tk => ⟨.bl b, H, I.tok tk, rfl, q⟩
theorem call_isexcT : CallR X (.builtin "isinstance") (fun xs H Q => ∃ ea C T b, xs = [.ref ea, .ty T] ∧ ExcCls X.K C ∧ H ea = some (.ext (ExcO ea (.ref C))) ∧ PySem.W.kitOne X.K (.ref C) (.type T) = some b ∧ Q (.bl b) H) := by
  intro pins s σ H xs us Q I rv h
  obtain ⟨ea, C, T, b, rfl, c, he, hk, q⟩ := h
  obtain ⟨u, u', rfl, ru, ru'⟩ := rv.two
  cases ru; cases ru'
  have hx : ExcO ea (.ref C) s.heap := (I.hok ea _ he).1
  exact PySem.W.kia_one (kitx_exc c) I.kIn hx hk (by intro z; cases z) fun tk => ⟨.bl b, H, I.tok tk, rfl, q⟩
theorem call_isexcs : CallR X (.builtin "isinstance") (fun xs H Q => ∃ ea C tp, ∃ (ds : List Addr) (b : Bool), xs = [.ref ea, .ref tp] ∧ ExcCls X.K C ∧ H ea = some (.ext (ExcO ea (.ref C))) ∧ H tp = some (.tup (ds.map V.ref)) ∧ PySem.W.kitAny X.K (.ref C) (ds.map Value.ref) = some b ∧ Q (.bl b) H) := by
  intro pins s σ H xs us Q I rv h
  obtain ⟨ea, C, tp, ds, b, rfl, c, he, ht, hk, q⟩ := h
  obtain ⟨u, u', rfl, ru, ru'⟩ := rv.two
  cases ru; cases ru'
  have hx : ExcO ea (.ref C) s.heap := (I.hok ea _ he).1
  obtain ⟨_, its, r, p⟩ := I.hok tp _ ht
  have e : its = ds.map Value.ref := vals_refs r
  subst e
  obtain ⟨⟨oc, od, odt, osl⟩, p1, p2, n, p3⟩ := p
  dsimp only at p2 p3
  subst p2 p3
  exact PySem.W.kia_tup (kitx_exc c) I.kIn hx p1 hk (by intro z; cases z) fun tk => ⟨.bl b, H, I.tok tk, rfl, q⟩
end
end L2
namespace L2
open PySem PySem.Spec PyProof.Rows
inductive DQ (H : Hp) : Nat → V → V → Bool → Prop where
  | fl {n : Nat} {x y : V} (fx : flatV x = true) (fy : flatV y = true) : DQ H n x y (eqV x y)
  | ll {n : Nat} {a b : Addr} {xs ys : List V} (e : Nat → Bool) (ha : H a = some (.lst xs)) (hb : H b = some (.lst ys)) (hl : xs.length = ys.length) (h : ∀ (j : Nat) x y, xs[j]? = some x → ys[j]? = some y → DQ H n x y (e j)) : DQ H (n + 1) (.ref a) (.ref b) ((List.range xs.length).all e)
  | ln {n : Nat} {a b : Addr} {xs ys : List V} (ha : H a = some (.lst xs)) (hb : H b = some (.lst ys)) (hl : xs.length ≠ ys.length) : DQ H (n + 1) (.ref a) (.ref b) false
  | tt {n : Nat} {a b : Addr} {xs ys : List V} (e : Nat → Bool) (ha : H a = some (.tup xs)) (hb : H b = some (.tup ys)) (h : ∀ (j : Nat) x y, xs[j]? = some x → ys[j]? = some y → DQ H n x y (e j)) : DQ H (n + 1) (.ref a) (.ref b) ((List.range (min xs.length ys.length)).all e && xs.length == ys.length)
  | lt {n : Nat} {a b : Addr} {xs ys : List V} (ha : H a = some (.lst xs)) (hb : H b = some (.tup ys)) : DQ H (n + 1) (.ref a) (.ref b) false
  | tl {n : Nat} {a b : Addr} {xs ys : List V} (ha : H a = some (.tup xs)) (hb : H b = some (.lst ys)) : DQ H (n + 1) (.ref a) (.ref b) false
theorem eqV_self {x : V} (h : flatV x = true) : eqV x x = true := by
  cases x with
  | non => rfl
  | bl b => simp [eqV]
  | int b => simp [eqV]
  | str b => simp [eqV]
  | _ => cases h
theorem dq_self {H : Hp} {n : Nat} {x y : V} {b : Bool} (h : DQ H n x y b) : x = y → b = true := by
  induction h with
  | fl fx fy => intro e; subst e; exact eqV_self fx
  | ll e ha hb hl h ih =>
    intro z; cases z
    rw [ha] at hb; cases hb
    rw [List.all_eq_true]
    intro j hj
    have hj := List.mem_range.mp hj
    exact ih j _ _ (List.getElem?_eq_getElem hj) (List.getElem?_eq_getElem hj) rfl
  | ln ha hb hl => intro z; cases z; rw [ha] at hb; cases hb; exact absurd rfl hl
  | tt e ha hb h ih =>
    intro z; cases z
    rw [ha] at hb; cases hb
    rw [Nat.min_self, Bool.and_eq_true]
    refine ⟨?_, by simp⟩
    rw [List.all_eq_true]
    intro j hj
    have hj := List.mem_range.mp hj
    exact ih j _ _ (List.getElem?_eq_getElem hj) (List.getElem?_eq_getElem hj) rfl
  | lt ha hb => intro z; cases z; rw [ha] at hb; cases hb
  | tl ha hb => intro z; cases z; rw [ha] at hb; cases hb
section
variable {X : Cx} {pins : List (Addr × Obj)} {σ : St} {H : Hp} {s : Shared}
theorem items_at {A : Around} {xs ys : List V} {us ws : List Value} {e : Nat → Bool} (rx : Vals xs us) (ry : Vals ys ws) (h : ∀ (j : Nat) x y u v, xs[j]? = some x → ys[j]? = some y → RelV x u → RelV y v → SeqAt.EqAt A s u v (e j)) (j : Nat) (h1 : j < us.toArray.size) (h2 : j < ws.toArray.size) :
    SeqAt.EqAt A s us.toArray[j] ws.toArray[j] (e j) := by
  have l1 : j < us.length := by simpa using h1
  have l2 : j < ws.length := by simpa using h2
  have e1 := rx.length
  have e2 := ry.length
  obtain ⟨u, hu, ru⟩ := rx.get (i := j) (x := xs[j]'(by omega)) (List.getElem?_eq_getElem _)
  obtain ⟨v, hv, rv⟩ := ry.get (i := j) (x := ys[j]'(by omega)) (List.getElem?_eq_getElem _)
  have q1 : us.toArray[j] = u := by
    have : us[j]? = some us[j] := List.getElem?_eq_getElem l1
    rw [hu] at this; cases this; simp
  have q2 : ws.toArray[j] = v := by
    have : ws[j]? = some ws[j] := List.getElem?_eq_getElem l2
    rw [hv] at this; cases this; simp
  rw [q1, q2]
  exact h j _ _ u v (List.getElem?_eq_getElem (by omega)) (List.getElem?_eq_getElem (by omega)) ru rv
theorem dq_at (I : Inv X pins σ H s) {n : Nat} {x y : V} {b : Bool} (h : DQ H n x y b) : ∀ (A : Around) (u v : Value), A.units + n < cLine → RelV x u → RelV y v → SeqAt.EqAt A s u v b := by
  induction h with
  | fl fx fy => intro A u v _ ru rv; exact eqAt_V ru rv fx fy
  | @ll n a c xs ys e ha hb hl h ih =>
    intro A u v hu ru rv
    have self := dq_self (DQ.ll e ha hb hl h)
    cases ru; cases rv
    by_cases z : a = c
    · subst z
      rw [self rfl]; exact SeqAt.EqAt.same _
    · obtain ⟨us, ra, pa, za⟩ := I.list (.inl (.inl ha))
      obtain ⟨ws, rb, pb, zb⟩ := I.list (.inl (.inl hb))
      have e1 := ra.length
      have e2 := rb.length
      have := SeqAt.RcAt.lists (A := A) pa.isList pb.isList (by simp; omega) (by omega) (items_at ra rb fun j x y u v h1 h2 r1 r2 => ih j x y h1 h2 A.in1 u v (by rw [Around.in1_units]; omega) r1 r2)
      rw [List.size_toArray, ← e1] at this
      exact SeqAt.EqAt.of_refs z this
  | @ln n a c xs ys ha hb hl =>
    intro A u v hu ru rv
    cases ru; cases rv
    have z : a ≠ c := fun z => by subst z; rw [ha] at hb; cases hb; exact hl rfl
    obtain ⟨us, ra, pa, za⟩ := I.list (.inl (.inl ha))
    obtain ⟨ws, rb, pb, zb⟩ := I.list (.inl (.inl hb))
    have e1 := ra.length
    have e2 := rb.length
    exact SeqAt.EqAt.of_refs z (SeqAt.RcAt.lists_lengths pa.isList pb.isList (by simp; omega) (by omega))
  | @tt n a c xs ys e ha hb h ih =>
    intro A u v hu ru rv
    have self := dq_self (DQ.tt e ha hb h)
    cases ru; cases rv
    by_cases z : a = c
    · subst z
      rw [self rfl]; exact SeqAt.EqAt.same _
    · obtain ⟨us, ra, pa, za⟩ := I.tuple (.inl (.inl ha))
      obtain ⟨ws, rb, pb, zb⟩ := I.tuple (.inl (.inl hb))
      have e1 := ra.length
      have e2 := rb.length
      have := SeqAt.RcAt.tuples (A := A) pa pb (by omega) (items_at ra rb fun j x y u v h1 h2 r1 r2 => ih j x y h1 h2 A.in1 u v (by rw [Around.in1_units]; omega) r1 r2)
      rw [List.size_toArray, List.size_toArray, ← e1, ← e2] at this
      exact SeqAt.EqAt.of_refs z this
  | @lt n a c xs ys ha hb =>
    intro A u v hu ru rv
    cases ru; cases rv
    obtain ⟨us, ra, pa, za⟩ := I.list (.inl (.inl ha))
    obtain ⟨ws, rb, pb, zb⟩ := I.tuple (.inl (.inl hb))
    exact SeqAt.EqAt.list_tuple pa.isList pb (by omega)
  | @tl n a c xs ys ha hb =>
    intro A u v hu ru rv
    cases ru; cases rv
    obtain ⟨us, ra, pa, za⟩ := I.tuple (.inl (.inl ha))
    obtain ⟨ws, rb, pb, zb⟩ := I.list (.inl (.inl hb))
    exact SeqAt.EqAt.tuple_list pa pb.isList (by omega)
def isRef : V → Bool | .ref _ => true | _ => false
def rEqD (neg : Bool) : R2 := fun x y H Q => ∃ b, DQ H 40 x y b ∧ isRef x = true ∧ isRef y = true ∧ Q (.bl (if neg then !b else b)) H
theorem op_neD (hu : X.A.units + 41 < cLine) : OpR X (compareOp .NotEq) (rEqD true) := by
  intro pins s σ H x y v u Q I rx ry h
  obtain ⟨b, hd, i1, i2, q⟩ := h
  cases hd with
  | fl fx fy =>
    cases x with
    | ref a => cases fx
    | _ => cases i1
  | @ll n a c xs ys e ha hb hl h =>
    cases rx; cases ry
    obtain ⟨us, ra, pa, za⟩ := I.list (.inl (.inl ha))
    obtain ⟨ws, rb, pb, zb⟩ := I.list (.inl (.inl hb))
    have e1 := ra.length
    have e2 := rb.length
    have := SeqAt.RcNeAt.lists (A := X.A) pa.isList pb.isList (by simp; omega) (by omega) (items_at ra rb fun j x y u v h1 h2 r1 r2 => dq_at I (h j x y h1 h2) X.A.in1 u v (by rw [Around.in1_units]; omega) r1 r2)
    exact this X.prog X.w X.xe _ (fin_bl I q (by rw [List.size_toArray, ← e1]; rfl))
  | @ln n a c xs ys ha hb hl =>
    cases rx; cases ry
    obtain ⟨us, ra, pa, za⟩ := I.list (.inl (.inl ha))
    obtain ⟨ws, rb, pb, zb⟩ := I.list (.inl (.inl hb))
    have e1 := ra.length
    have e2 := rb.length
    exact SeqAt.RcNeAt.lists_lengths pa.isList pb.isList (by simp; omega) (by omega) X.prog X.w X.xe _ (fin_bl I q rfl)
  | @tt n a c xs ys e ha hb h =>
    cases rx; cases ry
    obtain ⟨us, ra, pa, za⟩ := I.tuple (.inl (.inl ha))
    obtain ⟨ws, rb, pb, zb⟩ := I.tuple (.inl (.inl hb))
    have e1 := ra.length
    have e2 := rb.length
    have := SeqAt.RcNeAt.tuples (A := X.A) pa pb (by omega) (items_at ra rb fun j x y u v h1 h2 r1 r2 => dq_at I (h j x y h1 h2) X.A.in1 u v (by rw [Around.in1_units]; omega) r1 r2)
    exact this X.prog X.w X.xe _ (fin_bl I q (by rw [List.size_toArray, List.size_toArray, ← e1, ← e2]; rfl))
  | @lt n a c xs ys ha hb =>
    cases rx; cases ry
    obtain ⟨us, ra, pa, za⟩ := I.list (.inl (.inl ha))
    obtain ⟨ws, rb, pb, zb⟩ := I.tuple (.inl (.inl hb))
    exact SeqAt.RcNeAt.list_tuple pa.isList pb (by omega) X.prog X.w X.xe _ (fin_bl I q rfl)
  | @tl n a c xs ys ha hb =>
    cases rx; cases ry
    obtain ⟨us, ra, pa, za⟩ := I.tuple (.inl (.inl ha))
    obtain ⟨ws, rb, pb, zb⟩ := I.list (.inl (.inl hb))
    exact SeqAt.RcNeAt.tuple_list pa pb.isList (by omega) X.prog X.w X.xe _ (fin_bl I q rfl)
def rInS (neg : Bool) : R2 := fun x y H Q => ∃ a b, x = .str a ∧ y = .str b ∧ Q (.bl (if neg then !Txt.contains b a else Txt.contains b a)) H
theorem op_notInS : OpR X (compareOp .NotIn) (rInS true) := by
  intro pins s σ H x y v u Q I rx ry h
  obtain ⟨a, b, rfl, rfl, q⟩ := h
  obtain ⟨t, rfl⟩ := rx
  obtain ⟨t', rfl⟩ := ry
  exact SB.notContains (fin_bl I q rfl)
end
end L2
namespace M
open PySem L2
inductive D where
  | non | bl (b : Bool) | int (i : Int) | str (x : Str) | ty (n : String)
  | lst (xs : List D) | tup (xs : List D) | fz (ns : List Int)
  | dK (kvs : List (Key × D)) | dT (kvs : List (List Key × D))
  | obj (c : Nat) (fs : List (Nat × D))
  | exc (k : Nat)
inductive Slot where
  | no | val (d : D) | own (o : D)
abbrev Env := List Slot
def fNames : List Str := ["many", "names", "least", "pairs", "each", "houses", "wishes", "one", "other", "name", "ask", "value", "stamp", "seal", "at"]
def fnm (n : Nat) : Str := fNames.getD n ""
theorem fnm_inj (a f : Nat) (hf : f < fNames.length) (h : fnm a = fnm f) : a = f := by
  by_cases ha : a < fNames.length
  · have : ∀ a, a < 15 → ∀ f, f < 15 → fnm a = fnm f → a = f := by decide +kernel
    exact this a ha f hf h
  · have e : fnm a = "" := by
      unfold fnm
      rw [List.getD_eq_getElem?_getD, List.getElem?_eq_none (by omega)]; rfl
    have : ∀ f, f < 15 → fnm f ≠ "" := by decide +kernel
    exact absurd (h.symm.trans e) (this f hf)
structure Cn where
  K : PySem.W.Frag
  cls : Nat → Option Addr
def KnL (K : PySem.W.Frag) (a : Addr) (xs : List V) : Prop :=
  ∃ (o : Obj) (its : Array Value) (n : Nat), K.lookup a = some o ∧ o.cls = .type "list" ∧ o.dict = none ∧ o.data = .seq its n ∧ its.size ≤ sizeLine ∧ Vals xs its.toList
inductive Rep (Γ : Cn) (E : Addr → Prop) (H : Hp) : V → D → Prop where
  | non : Rep Γ E H .non .non
  | bl (b : Bool) : Rep Γ E H (.bl b) (.bl b)
  | int (i : Int) : Rep Γ E H (.int i) (.int i)
  | str (x : Str) : Rep Γ E H (.str x) (.str x)
  | ty (n : String) : Rep Γ E H (.ty n) (.ty n)
  | lst {a : Addr} {xs : List V} {ds : List D} (ne : ¬ E a) (h : H a = some (.lst xs)) (l : xs.length = ds.length) (r : ∀ (i : Nat) v d, xs[i]? = some v → ds[i]? = some d → Rep Γ E H v d) : Rep Γ E H (.ref a) (.lst ds)
  | fz {a : Addr} {ns : List Int} (h : (¬ E a ∧ Rd H a (.lst (ns.map V.int))) ∨ KnL Γ.K a (ns.map V.int)) : Rep Γ E H (.ref a) (.fz ns)
  | tup {a : Addr} {xs : List V} {ds : List D} (ne : ¬ E a) (h : H a = some (.tup xs)) (l : xs.length = ds.length) (r : ∀ (i : Nat) v d, xs[i]? = some v → ds[i]? = some d → Rep Γ E H v d) : Rep Γ E H (.ref a) (.tup ds)
  | dK {a : Addr} {ks : List (Key × V)} {ds : List (Key × D)} (ne : ¬ E a) (h : H a = some (.dK ks)) (l : ks.map (·.1) = ds.map (·.1)) (r : ∀ (i : Nat) v d, (ks.map (·.2))[i]? = some v → (ds.map (·.2))[i]? = some d → Rep Γ E H v d) : Rep Γ E H (.ref a) (.dK ds)
  | dT {a : Addr} {ks : List (List Key × V)} {ds : List (List Key × D)} (ne : ¬ E a) (h : H a = some (.dT ks)) (l : ks.map (·.1) = ds.map (·.1)) (r : ∀ (i : Nat) v d, (ks.map (·.2))[i]? = some v → (ds.map (·.2))[i]? = some d → Rep Γ E H v d) : Rep Γ E H (.ref a) (.dT ds)
  | obj {a C dx : Addr} {c : Nat} {gs : List (Str × V)} {fs : List (Nat × D)} (ne : ¬ E a) (hc : Γ.cls c = some C) (h : H a = some (.ins C dx gs)) (l : gs.map (·.1) = fs.map fun x => fnm x.1) (r : ∀ (i : Nat) v d, (gs.map (·.2))[i]? = some v → (fs.map (·.2))[i]? = some d → Rep Γ E H v d) : Rep Γ E H (.ref a) (.obj c fs)
  | exc {a C : Addr} {k : Nat} (ne : ¬ E a) (hc : Γ.cls k = some C) (h : H a = some (.ext (ExcO a (.ref C)))) : Rep Γ E H (.ref a) (.exc k)
def Reps (Γ : Cn) (E : Addr → Prop) (H : Hp) (xs : List V) (ds : List D) : Prop := xs.length = ds.length ∧ ∀ (i : Nat) v d, xs[i]? = some v → ds[i]? = some d → Rep Γ E H v d
section
variable {Γ : Cn} {E E' : Addr → Prop} {H H' : Hp}
theorem rd_ne {a : Addr} {u : HO} (h : Rd H a u) : H a ≠ none := by
  rcases h with h | ⟨o, h⟩ <;> rw [h] <;> simp
theorem rd_keep {a : Addr} {u : HO} (h : Rd H a u) (k : ∀ o, H a = some o → H' a = some o) : Rd H' a u := by
  rcases h with h | ⟨o, h⟩
  · exact .inl (k _ h)
  · exact .inr ⟨o, k _ h⟩
theorem Rep.up {v : V} {d : D} (r : Rep Γ E H v d) (he : ∀ b, H b ≠ none → E' b → E b) (k : ∀ b o, ¬ E b → H b = some o → H' b = some o) : Rep Γ E' H' v d := by
  induction r with
  | non => exact .non
  | bl b => exact .bl b
  | int i => exact .int i
  | str x => exact .str x
  | ty n => exact .ty n
  | lst ne h l _ ih => exact .lst (fun z => ne (he _ (by rw [h]; simp) z)) (k _ _ ne h) l ih
  | fz h => exact .fz (h.imp (fun ⟨ne, h⟩ => ⟨fun z => ne (he _ (rd_ne h) z), rd_keep h fun o => k _ o ne⟩) id)
  | tup ne h l _ ih => exact .tup (fun z => ne (he _ (by rw [h]; simp) z)) (k _ _ ne h) l ih
  | dK ne h l _ ih => exact .dK (fun z => ne (he _ (by rw [h]; simp) z)) (k _ _ ne h) l ih
  | dT ne h l _ ih => exact .dT (fun z => ne (he _ (by rw [h]; simp) z)) (k _ _ ne h) l ih
  | obj ne hc h l _ ih => exact .obj (fun z => ne (he _ (by rw [h]; simp) z)) hc (k _ _ ne h) l ih
  | exc ne hc h => exact .exc (fun z => ne (he _ (by rw [h]; simp) z)) hc (k _ _ ne h)
theorem Reps.up {xs : List V} {ds : List D} (r : Reps Γ E H xs ds) (he : ∀ b, H b ≠ none → E' b → E b) (k : ∀ b o, ¬ E b → H b = some o → H' b = some o) : Reps Γ E' H' xs ds := ⟨r.1, fun i v d h1 h2 => (r.2 i v d h1 h2).up he k⟩
theorem Reps.nil : Reps Γ E H [] [] := ⟨rfl, fun i v d h => by simp at h⟩
theorem Reps.cons {v : V} {d : D} {xs : List V} {ds : List D} (h : Rep Γ E H v d) (r : Reps Γ E H xs ds) : Reps Γ E H (v :: xs) (d :: ds) := by
  refine ⟨by simp [r.1], fun i v' d' h1 h2 => ?_⟩
  cases i with
  | zero => simp at h1 h2; subst h1 h2; exact h
  | succ i => simp at h1 h2; exact r.2 i v' d' h1 h2
theorem Reps.head {v : V} {d : D} {xs : List V} {ds : List D} (r : Reps Γ E H (v :: xs) (d :: ds)) : Rep Γ E H v d := r.2 0 v d rfl rfl
theorem Reps.tail {v : V} {d : D} {xs : List V} {ds : List D} (r : Reps Γ E H (v :: xs) (d :: ds)) : Reps Γ E H xs ds := ⟨by simpa using r.1, fun i v' d' h1 h2 => r.2 (i + 1) v' d' (by simpa using h1) (by simpa using h2)⟩
theorem Reps.append {xs ys : List V} {ds es : List D} (a : Reps Γ E H xs ds) (b : Reps Γ E H ys es) : Reps Γ E H (xs ++ ys) (ds ++ es) := by
  induction xs generalizing ds with
  | nil => have h := a.1; cases ds with | nil => exact b | cons _ _ => simp at h
  | cons x xs ih => cases ds with | nil => have h := a.1; simp at h | cons d ds => exact .cons a.head (ih a.tail)
theorem Reps.get {xs : List V} {ds : List D} {i : Nat} {d : D} (r : Reps Γ E H xs ds) (h : ds[i]? = some d) : ∃ v, xs[i]? = some v ∧ Rep Γ E H v d := by
  have hl := r.1
  have hi : i < xs.length := by rw [hl]; exact (List.getElem?_eq_some_iff.mp h).1
  exact ⟨xs[i], List.getElem?_eq_getElem hi, r.2 i _ d (List.getElem?_eq_getElem hi) h⟩
theorem Reps.sub {xs : List V} {ds : List D} {xs' : List V} {ds' : List D} (r : Reps Γ E H xs ds) (hl : xs'.length = ds'.length) (h : ∀ (i : Nat) v d, xs'[i]? = some v → ds'[i]? = some d → ∃ (j : Nat), xs[j]? = some v ∧ ds[j]? = some d) : Reps Γ E H xs' ds' :=
  ⟨hl, fun i v d h1 h2 => let ⟨j, a, b⟩ := h i v d h1 h2; r.2 j v d a b⟩
theorem Reps.drop {xs : List V} {ds : List D} (r : Reps Γ E H xs ds) (n : Nat) : Reps Γ E H (xs.drop n) (ds.drop n) :=
  r.sub (by simp [r.1]) fun i v d h1 h2 => ⟨n + i, by simpa using h1, by simpa using h2⟩
theorem Reps.take {xs : List V} {ds : List D} (r : Reps Γ E H xs ds) (n : Nat) : Reps Γ E H (xs.take n) (ds.take n) :=
  r.sub (by simp [r.1]) fun i v d h1 h2 => by
    rw [List.getElem?_take] at h1 h2
    split at h1
    · rename_i hi; rw [if_pos hi] at h2; exact ⟨i, h1, h2⟩
    · cases h1
theorem Reps.set {xs : List V} {ds : List D} {v : V} {d : D} (r : Reps Γ E H xs ds) (j : Nat) (h : Rep Γ E H v d) : Reps Γ E H (xs.set j v) (ds.set j d) := by
  refine ⟨by simp [r.1], fun i v' d' h1 h2 => ?_⟩
  rw [List.getElem?_set] at h1 h2
  by_cases e : j = i
  · subst e
    rw [if_pos rfl] at h1 h2
    split at h1
    · split at h2
      · cases h1; cases h2; exact h
      · cases h2
    · cases h1
  · rw [if_neg e] at h1 h2
    exact r.2 i v' d' h1 h2
theorem Reps.eraseIdx {xs : List V} {ds : List D} (r : Reps Γ E H xs ds) (j : Nat) : Reps Γ E H (xs.eraseIdx j) (ds.eraseIdx j) := by
  rw [List.eraseIdx_eq_take_drop_succ, List.eraseIdx_eq_take_drop_succ]
  exact (r.take j).append (r.drop (j + 1))
theorem Rep.list {ds : List D} {v : V} (r : Rep Γ E H v (.lst ds)) : ∃ a xs, v = .ref a ∧ H a = some (.lst xs) ∧ Reps Γ E H xs ds := by
  cases r with
  | lst ne h l r => exact ⟨_, _, rfl, h, l, r⟩
theorem Rep.script {ns : List Int} {v : V} (r : Rep Γ E H v (.fz ns)) : ∃ a, v = .ref a ∧ SqL Γ.K H a (ns.map V.int) := by
  cases r with
  | fz h => exact ⟨_, rfl, h.imp (fun z => z.2) id⟩
theorem Rep.tuple {ds : List D} {v : V} (r : Rep Γ E H v (.tup ds)) : ∃ a xs, v = .ref a ∧ H a = some (.tup xs) ∧ Reps Γ E H xs ds := by
  cases r with
  | tup ne h l r => exact ⟨_, _, rfl, h, l, r⟩
end
def OwnAt (Γ : Cn) (E : Addr → Prop) (H : Hp) (p : Addr) : D → Prop
  | .lst ds => ∃ xs, H p = some (.lst xs) ∧ Reps Γ E H xs ds
  | .dK ds => ∃ ks, H p = some (.dK ks) ∧ ks.map (·.1) = ds.map (·.1) ∧ Reps Γ E H (ks.map (·.2)) (ds.map (·.2))
  | .dT ds => ∃ ks, H p = some (.dT ks) ∧ ks.map (·.1) = ds.map (·.1) ∧ Reps Γ E H (ks.map (·.2)) (ds.map (·.2))
  | .obj c fs => ∃ C dx gs, Γ.cls c = some C ∧ H p = some (.ins C dx gs) ∧ (gs.map (·.1) = fs.map fun x => fnm x.1) ∧ Reps Γ E H (gs.map (·.2)) (fs.map (·.2))
  | _ => False
section
variable {Γ : Cn} {E E' : Addr → Prop} {H H' : Hp} {p : Addr} {o : D}
theorem OwnAt.ne0 (h : OwnAt Γ E H p o) : H p ≠ none := by
  cases o with
  | lst ds => obtain ⟨_, e, _⟩ := h; rw [e]; simp
  | dK ds => obtain ⟨_, e, _⟩ := h; rw [e]; simp
  | dT ds => obtain ⟨_, e, _⟩ := h; rw [e]; simp
  | obj c fs => obtain ⟨_, _, _, _, e, _⟩ := h; rw [e]; simp
  | _ => exact False.elim h
theorem OwnAt.up (h : OwnAt Γ E H p o) (hp : ∀ u, H p = some u → H' p = some u) (he : ∀ b, H b ≠ none → E' b → E b) (k : ∀ b o, ¬ E b → H b = some o → H' b = some o) : OwnAt Γ E' H' p o := by
  cases o with
  | lst ds => obtain ⟨xs, e, r⟩ := h; exact ⟨xs, hp _ e, r.up he k⟩
  | dK ds => obtain ⟨xs, e, l, r⟩ := h; exact ⟨xs, hp _ e, l, r.up he k⟩
  | dT ds => obtain ⟨xs, e, l, r⟩ := h; exact ⟨xs, hp _ e, l, r.up he k⟩
  | obj c fs => obtain ⟨C, dx, gs, hc, e, l, r⟩ := h; exact ⟨C, dx, gs, hc, hp _ e, l, r.up he k⟩
  | _ => exact False.elim h
theorem OwnAt.rep (h : OwnAt Γ E H p o) (ne : ¬ E p) : Rep Γ E H (.ref p) o := by
  cases o with
  | lst ds => obtain ⟨xs, e, r⟩ := h; exact .lst ne e r.1 r.2
  | dK ds => obtain ⟨xs, e, l, r⟩ := h; exact .dK ne e l r.2
  | dT ds => obtain ⟨xs, e, l, r⟩ := h; exact .dT ne e l r.2
  | obj c fs => obtain ⟨C, dx, gs, hc, e, l, r⟩ := h; exact .obj ne hc e l r.2
  | _ => exact False.elim h
end
structure Fs where
  C : Addr → Prop
  H0 : Hp
  pin : Nat → Option Addr
def Fs.add (S : Fs) (p : Addr) : Fs := { S with C := fun a => S.C a ∨ a = p }
def isOwn (ρ : Env) (i : Nat) : Prop := ∃ o, ρ[i]? = some (.own o)
def exA (S : Fs) (σ : St) (ρ : Env) (a : Addr) : Prop := S.C a ∨ ∃ i, isOwn ρ i ∧ σ[i]? = some (some (.ref a))
structure Rel (Γ : Cn) (S : Fs) (H : Hp) (σ : St) (ρ : Env) (τ : List (V × D)) : Prop where
  len : σ.length = ρ.length
  val : ∀ (i : Nat) d, ρ[i]? = some (.val d) → ∃ v, σ[i]? = some (some v) ∧ Rep Γ (exA S σ ρ) H v d
  own : ∀ (i : Nat) o, ρ[i]? = some (.own o) → ∃ p, σ[i]? = some (some (.ref p)) ∧ OwnAt Γ (exA S σ ρ) H p o ∧ ¬ S.C p ∧ (S.pin i = some p ∨ (S.pin i = none ∧ S.H0 p = none))
  pin : ∀ i p, S.pin i = some p → σ[i]? = some (some (.ref p)) ∧ isOwn ρ i
  inj : ∀ i j p, isOwn ρ i → isOwn ρ j → σ[i]? = some (some (.ref p)) → σ[j]? = some (some (.ref p)) → i = j
  dom : ∀ a, S.C a → H a ≠ none
  fr : ∀ b o, S.H0 b = some o → (∀ i, S.pin i ≠ some b) → H b = some o
  tmp : ∀ x ∈ τ, Rep Γ (exA S σ ρ) H x.1 x.2
section
variable {Γ : Cn} {S : Fs} {H H' : Hp} {σ : St} {ρ : Env} {τ : List (V × D)}
theorem Rel.grow (R : Rel Γ S H σ ρ τ) (g : Same H H') : Rel Γ S H' σ ρ τ where
  len := R.len
  val := fun i d h => let ⟨v, e, r⟩ := R.val i d h; ⟨v, e, r.up (fun _ _ z => z) fun b o _ q => g b o q⟩
  own := fun i o h => let ⟨p, e, r, q⟩ := R.own i o h; ⟨p, e, r.up (fun u => g p u) (fun _ _ z => z) fun b o _ q => g b o q, q⟩
  pin := R.pin
  inj := R.inj
  dom := fun a h z => by
    cases e : H a with
    | none => exact R.dom a h e
    | some o => rw [g a o e] at z; cases z
  fr := fun b o h n => g b o (R.fr b o h n)
  tmp := fun x hx => (R.tmp x hx).up (fun _ _ z => z) fun b o _ q => g b o q
theorem Rel.push (R : Rel Γ S H σ ρ τ) {v : V} {d : D} (h : Rep Γ (exA S σ ρ) H v d) : Rel Γ S H σ ρ ((v, d) :: τ) :=
  { R with tmp := fun x hx => (List.mem_cons.mp hx).elim (fun e => by subst e; exact h) (R.tmp x) }
theorem Rel.pop {x : V × D} (R : Rel Γ S H σ ρ (x :: τ)) : Rel Γ S H σ ρ τ ∧ Rep Γ (exA S σ ρ) H x.1 x.2 :=
  ⟨{ R with tmp := fun y hy => R.tmp y (List.mem_cons_of_mem _ hy) }, R.tmp x List.mem_cons_self⟩
theorem exA_some (R : Rel Γ S H σ ρ τ) {a : Addr} (h : exA S σ ρ a) : H a ≠ none := by
  rcases h with h | ⟨i, ⟨o, ho⟩, e⟩
  · exact R.dom a h
  · obtain ⟨p, e', r, _⟩ := R.own i o ho
    rw [e] at e'; cases e'
    exact r.ne0
theorem Rel.add (R : Rel Γ S H σ ρ τ) {p : Addr} {u : HO} (hp : H p = none) (h0 : S.H0 p = none) : Rel Γ (S.add p) (upd H p u) σ ρ τ := by
  have g : Same H (upd H p u) := fun b o q => by rw [upd_ne (ne_of_none q hp)]; exact q
  have he : ∀ b, H b ≠ none → exA (S.add p) σ ρ b → exA S σ ρ b := fun b hb h => by
    rcases h with (h | h) | h
    · exact .inl h
    · subst h; exact absurd hp hb
    · exact .inr h
  exact {
    len := R.len
    val := fun i d h => let ⟨v, e, r⟩ := R.val i d h; ⟨v, e, r.up he fun b o _ q => g b o q⟩
    own := fun i o h => by
      obtain ⟨q, e, r, n, pn⟩ := R.own i o h
      refine ⟨q, e, r.up (fun u => g q u) he fun b o _ q => g b o q, ?_, pn⟩
      rintro (z | z)
      · exact n z
      · subst z; exact r.ne0 hp
    pin := R.pin
    inj := R.inj
    dom := fun a h => by
      rcases h with h | h
      · have := R.dom a h
        have hne : a ≠ p := fun z => by subst z; exact this hp
        rw [upd_ne hne]; exact this
      · subst h; rw [upd_same]; simp
    fr := fun b o h n => g b o (R.fr b o h n)
    tmp := fun x hx => (R.tmp x hx).up he fun b o _ q => g b o q }
theorem Rel.unadd {p : Addr} (R : Rel Γ (S.add p) H σ ρ τ) : Rel Γ S H σ ρ τ := by
  have he : ∀ b, H b ≠ none → exA S σ ρ b → exA (S.add p) σ ρ b := fun b _ h => h.elim (fun z => .inl (.inl z)) .inr
  exact {
    len := R.len
    val := fun i d h => let ⟨v, e, r⟩ := R.val i d h; ⟨v, e, r.up he fun _ _ _ q => q⟩
    own := fun i o h => let ⟨q, e, r, n, pn⟩ := R.own i o h; ⟨q, e, r.up (fun _ q => q) he fun _ _ _ q => q, fun z => n (.inl z), pn⟩
    pin := R.pin
    inj := R.inj
    dom := fun a h => R.dom a (.inl h)
    fr := R.fr
    tmp := fun x hx => (R.tmp x hx).up he fun _ _ _ q => q }
theorem Rel.new (R : Rel Γ S H σ ρ τ) {p : Addr} (hp : H p = none) : S.H0 p = none := by
  cases e : S.H0 p with
  | none => rfl
  | some o =>
    by_cases h : ∃ i, S.pin i = some p
    · obtain ⟨i, hi⟩ := h
      obtain ⟨e1, o', ho⟩ := R.pin i p hi
      obtain ⟨q, e2, r, _⟩ := R.own i o' ho
      rw [e1] at e2; cases e2
      exact absurd hp r.ne0
    · have := R.fr p o e fun i z => h ⟨i, z⟩
      rw [hp] at this; cases this
theorem getElem?_set_ne {α : Type} {l : List α} {i j : Nat} {x : α} (h : i ≠ j) : (l.set i x)[j]? = l[j]? := by rw [List.getElem?_set, if_neg h]
theorem getElem?_set_here {α : Type} {l : List α} {i : Nat} {x y : α} (h : (l.set i x)[i]? = some y) : y = x := by
  rw [List.getElem?_set, if_pos rfl] at h
  split at h
  · cases h; rfl
  · cases h
theorem Rel.asg (R : Rel Γ S H σ ρ τ) {i : Nat} {v : V} {d : D} (hi : S.pin i = none) (h : Rep Γ (exA S σ ρ) H v d) : Rel Γ S H (σ.set i (some v)) (ρ.set i (.val d)) τ := by
  have own_ne : ∀ j, isOwn (ρ.set i (.val d)) j → j ≠ i ∧ isOwn ρ j := fun j ⟨o, ho⟩ => by
    by_cases e : i = j
    · subst e; cases getElem?_set_here ho
    · rw [getElem?_set_ne e] at ho; exact ⟨Ne.symm e, o, ho⟩
  have he : ∀ b, H b ≠ none → exA S (σ.set i (some v)) (ρ.set i (.val d)) b → exA S σ ρ b := fun b _ h => by
    rcases h with h | ⟨j, hj, e⟩
    · exact .inl h
    · obtain ⟨ne, oj⟩ := own_ne j hj
      rw [getElem?_set_ne (Ne.symm ne)] at e
      exact .inr ⟨j, oj, e⟩
  have keep : ∀ b o, ¬ exA S σ ρ b → H b = some o → H b = some o := fun _ _ _ q => q
  exact {
    len := by simp [R.len]
    val := fun j e hj => by
      by_cases eq : i = j
      · subst eq
        have e1 := getElem?_set_here hj
        cases e1
        have hl : i < σ.length := by
          rw [R.len]
          have := (List.getElem?_eq_some_iff.mp hj).1
          simpa using this
        exact ⟨v, by rw [List.getElem?_set, if_pos rfl, if_pos hl], h.up he keep⟩
      · rw [getElem?_set_ne eq] at hj
        obtain ⟨w, e1, r⟩ := R.val j e hj
        exact ⟨w, by rw [getElem?_set_ne eq]; exact e1, r.up he keep⟩
    own := fun j o hj => by
      have ne := (own_ne j ⟨o, hj⟩).1
      rw [getElem?_set_ne (Ne.symm ne)] at hj
      obtain ⟨p, e1, r, n, pn⟩ := R.own j o hj
      exact ⟨p, by rw [getElem?_set_ne (Ne.symm ne)]; exact e1, r.up (fun _ q => q) he keep, n, pn⟩
    pin := fun j p hj => by
      have ne : i ≠ j := fun z => by subst z; rw [hi] at hj; cases hj
      obtain ⟨a, o, b⟩ := R.pin j p hj
      exact ⟨by rw [getElem?_set_ne ne]; exact a, o, by rw [getElem?_set_ne ne]; exact b⟩
    inj := fun j k p hj hk e1 e2 => by
      obtain ⟨nj, oj⟩ := own_ne j hj
      obtain ⟨nk, ok⟩ := own_ne k hk
      rw [getElem?_set_ne (Ne.symm nj)] at e1
      rw [getElem?_set_ne (Ne.symm nk)] at e2
      exact R.inj j k p oj ok e1 e2
    dom := R.dom
    fr := R.fr
    tmp := fun x hx => (R.tmp x hx).up he keep }
theorem Rel.asgOwn {p : Addr} (R : Rel Γ (S.add p) H σ ρ τ) {i : Nat} {o : D} (hi : S.pin i = none) (h : OwnAt Γ (exA (S.add p) σ ρ) H p o) (h0 : S.H0 p = none) (hp : ¬ S.C p) : Rel Γ S H (σ.set i (some (.ref p))) (ρ.set i (.own o)) τ := by
  have own_ne : ∀ j, j ≠ i → isOwn (ρ.set i (.own o)) j → isOwn ρ j := fun j hj ⟨o', ho⟩ => by
    rw [getElem?_set_ne (Ne.symm hj)] at ho; exact ⟨o', ho⟩
  have notp : ∀ j q, isOwn ρ j → σ[j]? = some (some (.ref q)) → q ≠ p := fun j q ⟨o', ho⟩ e z => by
    obtain ⟨q', e1, _, n, _⟩ := R.own j o' ho
    rw [e] at e1; cases e1
    exact n (.inr z)
  have he : ∀ b, H b ≠ none → exA S (σ.set i (some (.ref p))) (ρ.set i (.own o)) b → exA (S.add p) σ ρ b := fun b _ h => by
    rcases h with h | ⟨j, hj, e⟩
    · exact .inl (.inl h)
    · by_cases ne : j = i
      · subst ne
        rw [List.getElem?_set, if_pos rfl] at e
        split at e
        · cases e; exact .inl (.inr rfl)
        · cases e
      · rw [getElem?_set_ne (Ne.symm ne)] at e
        exact .inr ⟨j, own_ne j ne hj, e⟩
  have keep : ∀ b o, ¬ exA (S.add p) σ ρ b → H b = some o → H b = some o := fun _ _ _ q => q
  exact {
    len := by simp [R.len]
    val := fun j e hj => by
      by_cases eq : i = j
      · subst eq; cases getElem?_set_here hj
      · rw [getElem?_set_ne eq] at hj
        obtain ⟨w, e1, r⟩ := R.val j e hj
        exact ⟨w, by rw [getElem?_set_ne eq]; exact e1, r.up he keep⟩
    own := fun j o' hj => by
      by_cases eq : i = j
      · subst eq
        have e1 := getElem?_set_here hj
        cases e1
        have hl : i < σ.length := by
          rw [R.len]
          have := (List.getElem?_eq_some_iff.mp hj).1
          simpa using this
        exact ⟨p, by rw [List.getElem?_set, if_pos rfl, if_pos hl], h.up (fun _ q => q) he keep, hp, .inr ⟨hi, h0⟩⟩
      · rw [getElem?_set_ne eq] at hj
        obtain ⟨q, e1, r, n, pn⟩ := R.own j o' hj
        exact ⟨q, by rw [getElem?_set_ne eq]; exact e1, r.up (fun _ q => q) he keep, fun z => n (.inl z), pn⟩
    pin := fun j q hj => by
      have ne : i ≠ j := fun z => by subst z; rw [hi] at hj; cases hj
      obtain ⟨a, o', b⟩ := R.pin j q hj
      exact ⟨by rw [getElem?_set_ne ne]; exact a, o', by rw [getElem?_set_ne ne]; exact b⟩
    inj := fun j k q hj hk e1 e2 => by
      by_cases ej : j = i
      · by_cases ek : k = i
        · rw [ej, ek]
        · subst ej
          rw [List.getElem?_set, if_pos rfl] at e1
          split at e1
          · cases e1
            rw [getElem?_set_ne (Ne.symm ek)] at e2
            exact absurd rfl (notp k _ (own_ne k ek hk) e2)
          · cases e1
      · by_cases ek : k = i
        · subst ek
          rw [List.getElem?_set, if_pos rfl] at e2
          split at e2
          · cases e2
            rw [getElem?_set_ne (Ne.symm ej)] at e1
            exact absurd rfl (notp j _ (own_ne j ej hj) e1)
          · cases e2
        · rw [getElem?_set_ne (Ne.symm ej)] at e1
          rw [getElem?_set_ne (Ne.symm ek)] at e2
          exact R.inj j k q (own_ne j ej hj) (own_ne k ek hk) e1 e2
    dom := fun a h => R.dom a (.inl h)
    fr := R.fr
    tmp := fun x hx => (R.tmp x hx).up he keep }
theorem Rel.freeze (R : Rel Γ S H σ ρ τ) {i : Nat} {o : D} (hi : S.pin i = none) (h : ρ[i]? = some (.own o)) : ∃ v, σ[i]? = some (some v) ∧ Rep Γ (exA S σ (ρ.set i (.val o))) H v o ∧ Rel Γ S H σ (ρ.set i (.val o)) τ := by
  obtain ⟨p, e, r, n, _⟩ := R.own i o h
  have own_ne : ∀ j, isOwn (ρ.set i (.val o)) j → j ≠ i ∧ isOwn ρ j := fun j ⟨o, ho⟩ => by
    by_cases e : i = j
    · subst e; cases getElem?_set_here ho
    · rw [getElem?_set_ne e] at ho; exact ⟨Ne.symm e, o, ho⟩
  have he : ∀ b, H b ≠ none → exA S σ (ρ.set i (.val o)) b → exA S σ ρ b := fun b _ h => by
    rcases h with h | ⟨j, hj, e⟩
    · exact .inl h
    · exact .inr ⟨j, (own_ne j hj).2, e⟩
  have keep : ∀ b o, ¬ exA S σ ρ b → H b = some o → H b = some o := fun _ _ _ q => q
  have hp : ¬ exA S σ (ρ.set i (.val o)) p := by
    rintro (z | ⟨j, hj, ej⟩)
    · exact n z
    · obtain ⟨ne, oj⟩ := own_ne j hj
      exact ne (R.inj j i p oj ⟨o, h⟩ ej e)
  have rep := (r.up (fun _ q => q) he keep).rep hp
  refine ⟨_, e, rep, ?_⟩
  exact {
    len := by simp [R.len]
    val := fun j d hj => by
      by_cases eq : i = j
      · subst eq
        have e1 := getElem?_set_here hj
        cases e1
        exact ⟨_, e, rep⟩
      · rw [getElem?_set_ne eq] at hj
        obtain ⟨w, e1, r⟩ := R.val j d hj
        exact ⟨w, e1, r.up he keep⟩
    own := fun j o' hj => by
      have ne := (own_ne j ⟨o', hj⟩).1
      rw [getElem?_set_ne (Ne.symm ne)] at hj
      obtain ⟨q, e1, r, n, pn⟩ := R.own j o' hj
      exact ⟨q, e1, r.up (fun _ q => q) he keep, n, pn⟩
    pin := fun j p hj => by
      have ne : i ≠ j := fun z => by subst z; rw [hi] at hj; cases hj
      obtain ⟨a, o', b⟩ := R.pin j p hj
      exact ⟨a, o', by rw [getElem?_set_ne ne]; exact b⟩
    inj := fun j k p hj hk e1 e2 => R.inj j k p (own_ne j hj).2 (own_ne k hk).2 e1 e2
    dom := R.dom
    fr := R.fr
    tmp := fun x hx => (R.tmp x hx).up he keep }
theorem Rel.write (R : Rel Γ S H σ ρ τ) {i : Nat} {p : Addr} {o o' : D} (h : ρ[i]? = some (.own o)) (e : σ[i]? = some (some (.ref p))) (hk : ∀ b u, b ≠ p → H b = some u → H' b = some u)
    (hn : OwnAt Γ (exA S σ ρ) H' p o') : Rel Γ S H' σ (ρ.set i (.own o')) τ := by
  have iff : ∀ j, isOwn (ρ.set i (.own o')) j → isOwn ρ j := fun j ⟨q, hq⟩ => by
    by_cases z : i = j
    · subst z; exact ⟨o, h⟩
    · rw [getElem?_set_ne z] at hq; exact ⟨q, hq⟩
  have he : ∀ b, H b ≠ none → exA S σ (ρ.set i (.own o')) b → exA S σ ρ b := fun b _ h => by
    rcases h with h | ⟨j, hj, e⟩
    · exact .inl h
    · exact .inr ⟨j, iff j hj, e⟩
  have pex : exA S σ ρ p := .inr ⟨i, ⟨o, h⟩, e⟩
  have keep : ∀ b u, ¬ exA S σ ρ b → H b = some u → H' b = some u := fun b u n q => hk b u (fun z => n (by rw [z]; exact pex)) q
  obtain ⟨p', e', _, n0, pn0⟩ := R.own i o h
  rw [e] at e'; cases e'
  exact {
    len := by simp [R.len]
    val := fun j d hj => by
      by_cases eq : i = j
      · subst eq; cases getElem?_set_here hj
      · rw [getElem?_set_ne eq] at hj
        obtain ⟨w, e1, r⟩ := R.val j d hj
        exact ⟨w, e1, r.up he keep⟩
    own := fun j q hj => by
      by_cases eq : i = j
      · subst eq
        have e1 := getElem?_set_here hj
        cases e1
        refine ⟨p, e, hn.up (fun _ q => q) (fun b _ z => ?_) (fun _ _ _ q => q), n0, pn0⟩
        rcases z with z | ⟨k, hk, ek⟩
        · exact .inl z
        · exact .inr ⟨k, iff k hk, ek⟩
      · rw [getElem?_set_ne eq] at hj
        obtain ⟨q', e1, r, n, pn⟩ := R.own j q hj
        refine ⟨q', e1, r.up (fun u hu => hk _ u (fun z => ?_) hu) he keep, n, pn⟩
        subst z
        exact eq (R.inj i j _ ⟨o, h⟩ ⟨q, hj⟩ e e1)
    pin := fun j q hj => by
      obtain ⟨a, o', b⟩ := R.pin j q hj
      refine ⟨a, ?_⟩
      by_cases eq : i = j
      · subst eq
        have hl : i < ρ.length := (List.getElem?_eq_some_iff.mp h).1
        exact ⟨_, by rw [List.getElem?_set, if_pos rfl, if_pos hl]⟩
      · exact ⟨o', by rw [getElem?_set_ne eq]; exact b⟩
    inj := fun j k p hj hk e1 e2 => R.inj j k p (iff j hj) (iff k hk) e1 e2
    dom := fun a ha => by
      have := R.dom a ha
      by_cases z : a = p
      · subst z; exact absurd ha n0
      · cases q : H a with
        | none => exact absurd q this
        | some u => rw [hk a u z q]; simp
    fr := fun b u h0 n => by
      refine hk b u (fun z => ?_) (R.fr b u h0 n)
      subst z
      rcases pn0 with q | ⟨_, q⟩
      · exact n i q
      · rw [q] at h0; cases h0
    tmp := fun x hx => (R.tmp x hx).up he keep }
end
end M
namespace M
open PySem L2
abbrev EK := D → Env → Prop
abbrev ME := Env → EK → Prop
abbrev MT := Env → (Bool → Env → Prop) → Prop
abbrev MA := Env → (List D → Env → Prop) → Prop
structure MEnds where
  nx : Env → Prop
  rt : EK
  bk : Env → Prop
  ct : Env → Prop
abbrev MS := MEnds → Env → Prop
def PinOk (pn : List Nat) (S : Fs) : Prop := ∀ i, i ∉ pn → S.pin i = none
def JE (Γ : Cn) (pn : List Nat) (t : TE) (m : ME) : Prop :=
  ∀ (S : Fs) (σ : St) (ρ : Env) (H : Hp) (τ : List (V × D)) (Q : VK) (q : EK), PinOk pn S → Rel Γ S H σ ρ τ → m ρ q → (∀ v d H' ρ', Rel Γ S H' σ ρ' τ → Rep Γ (exA S σ ρ') H' v d → q d ρ' → Q v H') → t σ H Q
def JT (Γ : Cn) (pn : List Nat) (t : TT) (m : MT) : Prop :=
  ∀ (S : Fs) (σ : St) (ρ : Env) (H : Hp) (τ : List (V × D)) (Q : Bool → Hp → Prop) (q : Bool → Env → Prop), PinOk pn S → Rel Γ S H σ ρ τ → m ρ q → (∀ b H' ρ', Rel Γ S H' σ ρ' τ → q b ρ' → Q b H') → t σ H Q
def JA (Γ : Cn) (pn : List Nat) (t : TA) (m : MA) : Prop :=
  ∀ (S : Fs) (σ : St) (ρ : Env) (H : Hp) (τ : List (V × D)) (Q : List V → Hp → Prop) (q : List D → Env → Prop), PinOk pn S → Rel Γ S H σ ρ τ → m ρ q → (∀ vs ds H' ρ', Rel Γ S H' σ ρ' τ → Reps Γ (exA S σ ρ') H' vs ds → q ds ρ' → Q vs H') → t σ H Q
def JF (Γ : Cn) (pn : List Nat) (t : TE) (m : ME) : Prop :=
  ∀ (S : Fs) (σ : St) (ρ : Env) (H : Hp) (τ : List (V × D)) (Q : VK) (q : EK), PinOk pn S → Rel Γ S H σ ρ τ → m ρ q →
    (∀ p o H' ρ', Rel Γ (S.add p) H' σ ρ' τ → OwnAt Γ (exA (S.add p) σ ρ') H' p o → S.H0 p = none → ¬ exA S σ ρ' p → q o ρ' → Q (.ref p) H') → t σ H Q
def RR (Γ : Cn) (fr : Bool) (S : Fs) (σ : St) (ρ : Env) (H : Hp) (τ : List (V × D)) (v : V) (d : D) : Prop := match fr with
  | false => Rel Γ S H σ ρ τ ∧ Rep Γ (exA S σ ρ) H v d
  | true => ∃ p, v = .ref p ∧ Rel Γ (S.add p) H σ ρ τ ∧ OwnAt Γ (exA (S.add p) σ ρ) H p d ∧ S.H0 p = none ∧ ¬ exA S σ ρ p
def JS (Γ : Cn) (pn : List Nat) (fr : Bool) (t : TS) (m : MS) : Prop :=
  ∀ (S : Fs) (σ : St) (ρ : Env) (H : Hp) (τ : List (V × D)) (D : Ends) (N : MEnds), PinOk pn S → Rel Γ S H σ ρ τ → m N ρ → (∀ σ' H' ρ', Rel Γ S H' σ' ρ' τ → N.nx ρ' → D.nx σ' H') →
    (∀ v d σ' H' ρ', RR Γ fr S σ' ρ' H' τ v d → N.rt d ρ' → D.rt v H') → (∀ σ' H' ρ', Rel Γ S H' σ' ρ' τ → N.bk ρ' → D.bk σ' H') → (∀ σ' H' ρ', Rel Γ S H' σ' ρ' τ → N.ct ρ' → D.ct σ' H') → t D σ H
inductive Opd where
  | d (x : D) | v (i : Nat)
def slotD : Option Slot → (D → Prop) → Prop
  | some (.val d), k => k d
  | some (.own d), k => k d
  | _, _ => False
def Opd.on (r : Opd) (ρ : Env) (k : D → Prop) : Prop := match r with
  | .d x => k x
  | .v i => slotD ρ[i]? k
abbrev MO := Env → (Opd → Env → Prop) → Prop
def OpIn (σ : St) (τ : List (V × D)) (v : V) (r : Opd) : Prop := match r with
  | .d x => (v, x) ∈ τ
  | .v i => σ[i]? = some (some v)
def JO (Γ : Cn) (pn : List Nat) (t : TE) (m : MO) : Prop :=
  ∀ (S : Fs) (σ : St) (ρ : Env) (H : Hp) (τ : List (V × D)) (Q : VK) (q : Opd → Env → Prop), PinOk pn S → Rel Γ S H σ ρ τ → m ρ q → (∀ v r H' ρ' τ', Rel Γ S H' σ ρ' (τ' ++ τ) → OpIn σ (τ' ++ τ) v r → q r ρ' → Q v H') → t σ H Q
def RepB (Γ : Cn) (E : Addr → Prop) (H : Hp) (v : V) : D → Prop
  | .lst ds => ∃ a xs, v = .ref a ∧ H a = some (.lst xs) ∧ Reps Γ E H xs ds
  | .dK ds => ∃ a ks, v = .ref a ∧ H a = some (.dK ks) ∧ ks.map (·.1) = ds.map (·.1) ∧ Reps Γ E H (ks.map (·.2)) (ds.map (·.2))
  | .dT ds => ∃ a ks, v = .ref a ∧ H a = some (.dT ks) ∧ ks.map (·.1) = ds.map (·.1) ∧ Reps Γ E H (ks.map (·.2)) (ds.map (·.2))
  | .obj c fs => ∃ a C dx gs, v = .ref a ∧ Γ.cls c = some C ∧ H a = some (.ins C dx gs) ∧ (gs.map (·.1) = fs.map fun x => fnm x.1) ∧ Reps Γ E H (gs.map (·.2)) (fs.map (·.2))
  | d => Rep Γ E H v d
section
variable {Γ : Cn} {E E' : Addr → Prop} {H H' : Hp} {v : V} {d : D}
theorem Rep.b (r : Rep Γ E H v d) : RepB Γ E H v d := by
  cases r with
  | non => exact .non
  | bl b => exact .bl b
  | int i => exact .int i
  | str x => exact .str x
  | ty n => exact .ty n
  | lst ne h l r => exact ⟨_, _, rfl, h, l, r⟩
  | fz h => exact .fz h
  | tup ne h l r => exact .tup ne h l r
  | dK ne h l r => exact ⟨_, _, rfl, h, l, by have := congrArg List.length l; simpa using this, r⟩
  | dT ne h l r => exact ⟨_, _, rfl, h, l, by have := congrArg List.length l; simpa using this, r⟩
  | obj ne hc h l r => exact ⟨_, _, _, _, rfl, hc, h, l, by have := congrArg List.length l; simpa using this, r⟩
  | exc ne hc h => exact .exc ne hc h
theorem OwnAt.b {p : Addr} (h : OwnAt Γ E H p d) : RepB Γ E H (.ref p) d := by
  cases d with
  | lst ds => obtain ⟨xs, e, r⟩ := h; exact ⟨p, xs, rfl, e, r⟩
  | dK ds => obtain ⟨xs, e, l, r⟩ := h; exact ⟨p, xs, rfl, e, l, r⟩
  | dT ds => obtain ⟨xs, e, l, r⟩ := h; exact ⟨p, xs, rfl, e, l, r⟩
  | obj c fs => obtain ⟨C, dx, gs, hc, e, l, r⟩ := h; exact ⟨p, C, dx, gs, rfl, hc, e, l, r⟩
  | _ => exact False.elim h
theorem Rel.read {S : Fs} {σ : St} {ρ : Env} {τ : List (V × D)} {r : Opd} {k : D → Prop} (R : Rel Γ S H σ ρ τ) (h : OpIn σ τ v r) (hk : r.on ρ k) : ∃ d, RepB Γ (exA S σ ρ) H v d ∧ k d := by
  cases r with
  | d x => exact ⟨x, (R.tmp _ h).b, hk⟩
  | v i =>
    have e : σ[i]? = some (some v) := h
    have hk : slotD ρ[i]? k := hk
    cases q : ρ[i]? with
    | none => rw [q] at hk; exact False.elim hk
    | some s =>
      rw [q] at hk
      cases s with
      | no => exact False.elim hk
      | val d =>
        obtain ⟨w, e', r⟩ := R.val i d q
        rw [e] at e'; cases e'
        exact ⟨d, r.b, hk⟩
      | own o =>
        obtain ⟨p, e', r, _⟩ := R.own i o q
        rw [e] at e'; cases e'
        exact ⟨o, r.b, hk⟩
end
section
variable {Γ : Cn} {pn : List Nat} {fr : Bool}
def mC (d : D) : ME := fun ρ q => q d ρ
def flatD : D → Bool
  | .non => true | .bl _ => true | .int _ => true | .str _ => true | .ty _ => true | _ => false
def vD : D → V
  | .non => .non | .bl b => .bl b | .int i => .int i | .str x => .str x | .ty n => .ty n | _ => .non
theorem rep_flat {E : Addr → Prop} {H : Hp} {d : D} (h : flatD d = true) : Rep Γ E H (vD d) d := by
  cases d with
  | non => exact .non
  | bl b => exact .bl b
  | int i => exact .int i
  | str x => exact .str x
  | ty n => exact .ty n
  | _ => cases h
theorem Rep.flat {E : Addr → Prop} {H : Hp} {v : V} {d : D} (r : Rep Γ E H v d) (h : flatD d = true) : v = vD d := by
  cases r <;> first | rfl | cases h
theorem je_c {v : V} {d : D} (h : flatD d = true) (e : v = vD d) : JE Γ pn (tC v) (mC d) := fun S σ ρ H τ Q q _ R hm hq => by
  subst e; exact hq _ _ _ _ R (rep_flat h) hm
def mVar (i : Nat) : ME := fun ρ q => match ρ[i]? with
  | some (.val d) => q d ρ
  | some (.own o) => q o (ρ.set i (.val o))
  | _ => False
theorem je_var {i : Nat} (hi : i ∉ pn) : JE Γ pn (tVar i) (mVar i) := fun S σ ρ H τ Q q hp R hm hq => by
  unfold mVar at hm
  cases e : ρ[i]? with
  | none => rw [e] at hm; exact False.elim hm
  | some s =>
    rw [e] at hm
    cases s with
    | no => exact False.elim hm
    | val d =>
      obtain ⟨v, e1, r⟩ := R.val i d e
      exact ⟨v, e1, hq v d H ρ R r hm⟩
    | own o =>
      obtain ⟨v, e1, r, R'⟩ := R.freeze (hp i hi) e
      exact ⟨v, e1, hq v o H _ R' r hm⟩
def mVarP (i : Nat) : ME := fun ρ q => match ρ[i]? with
  | some (.val d) => q d ρ
  | _ => False
theorem je_varP {i : Nat} : JE Γ pn (tVar i) (mVarP i) := fun S σ ρ H τ Q q hp R hm hq => by
  unfold mVarP at hm
  cases e : ρ[i]? with
  | none => rw [e] at hm; exact False.elim hm
  | some s =>
    rw [e] at hm
    cases s with
    | no => exact False.elim hm
    | val d =>
      obtain ⟨v, e1, r⟩ := R.val i d e
      exact ⟨v, e1, hq v d H ρ R r hm⟩
    | own o => exact False.elim hm
def mOv (i : Nat) : MO := fun ρ q => match ρ[i]? with
  | some (.val _) => q (.v i) ρ
  | some (.own _) => q (.v i) ρ
  | _ => False
theorem jo_var {i : Nat} : JO Γ pn (tVar i) (mOv i) := fun S σ ρ H τ Q q hp R hm hq => by
  unfold mOv at hm
  cases e : ρ[i]? with
  | none => rw [e] at hm; exact False.elim hm
  | some s =>
    rw [e] at hm
    cases s with
    | no => exact False.elim hm
    | val d =>
      obtain ⟨v, e1, r⟩ := R.val i d e
      exact ⟨v, e1, hq v (.v i) H ρ [] R e1 hm⟩
    | own o =>
      obtain ⟨p, e1, r⟩ := R.own i o e
      exact ⟨_, e1, hq _ (.v i) H ρ [] R e1 hm⟩
def mO (m : ME) : MO := fun ρ q => m ρ fun d ρ' => q (.d d) ρ'
theorem jo_of {t : TE} {m : ME} (h : JE Γ pn t m) : JO Γ pn t (mO m) := fun S σ ρ H τ Q q hp R hm hq =>
  h S σ ρ H τ Q _ hp R hm fun v d H' ρ' R' r q' => hq v (.d d) H' ρ' [(v, d)] (R'.push r) (by show (v, d) ∈ _; simp) q'
theorem je_of_fresh {t : TE} {m : ME} (h : JF Γ pn t m) : JE Γ pn t m := fun S σ ρ H τ Q q hp R hm hq =>
  h S σ ρ H τ Q q hp R hm fun p o H' ρ' R' ow _ ne q' => by
    have ow' : OwnAt Γ (exA S σ ρ') H' p o := ow.up (fun _ z => z) (fun b _ z => z.elim (fun z => .inl (.inl z)) .inr) fun _ _ _ z => z
    exact hq _ o H' ρ' R'.unadd (ow'.rep ne) q'
def mNil : MA := fun ρ q => q [] ρ
def mCons (a : ME) (r : MA) : MA := fun ρ q => a ρ fun d ρ1 => r ρ1 fun ds ρ2 => q (d :: ds) ρ2
theorem ja_nil : JA Γ pn tNil mNil := fun S σ ρ H τ Q q _ R hm hq => hq [] [] H ρ R .nil hm
theorem ja_cons {t : TE} {m : ME} {u : TA} {n : MA} (h1 : JE Γ pn t m) (h2 : JA Γ pn u n) : JA Γ pn (tCons t u) (mCons m n) := fun S σ ρ H τ Q q hp R hm hq =>
  h1 S σ ρ H τ _ _ hp R hm fun v d H1 ρ1 R1 r1 q1 => h2 S σ ρ1 H1 ((v, d) :: τ) _ _ hp (R1.push r1) q1 fun vs ds H2 ρ2 R2 r2 q2 =>
    hq _ _ H2 ρ2 R2.pop.1 (.cons R2.pop.2 r2) q2
def mStrs (ss : List Str) : MA := fun ρ q => q (ss.map D.str) ρ
theorem fresh_lst {S : Fs} {σ : St} {ρ : Env} {H : Hp} {τ : List (V × D)} {xs : List V} {ds : List D} {p : Addr} (R : Rel Γ S H σ ρ τ) (r : Reps Γ (exA S σ ρ) H xs ds) (hp : H p = none) :
    Rel Γ (S.add p) (upd H p (.lst xs)) σ ρ τ ∧ OwnAt Γ (exA (S.add p) σ ρ) (upd H p (.lst xs)) p (.lst ds) ∧ S.H0 p = none ∧ ¬ exA S σ ρ p := by
  have h0 := R.new hp
  refine ⟨R.add hp h0, ⟨xs, upd_same, r.up (fun b hb z => ?_) fun b o _ q => by rw [upd_ne (ne_of_none q hp)]; exact q⟩, h0, fun z => exA_some R z hp⟩
  rcases z with (z | z) | z
  · exact .inl z
  · subst z; exact absurd hp hb
  · exact .inr z
def mLst (m : MA) : ME := fun ρ q => m ρ fun ds ρ' => ds.length ≤ 1000 ∧ q (.lst ds) ρ'
theorem le_line {n : Nat} (h : n ≤ 1000) : n ≤ sizeLine := Nat.le_trans h (by decide)
theorem jf_lst {t : TA} {m : MA} (h : JA Γ pn t m) : JF Γ pn (tLst t) (mLst m) := fun S σ ρ H τ Q q hp R hm hq =>
  h S σ ρ H τ _ _ hp R hm fun vs ds H1 ρ1 R1 r1 ⟨l1, q1⟩ => ⟨by rw [r1.1]; exact le_line l1, fun p hn => by
    obtain ⟨a, b, c, d⟩ := fresh_lst R1 r1 hn
    exact hq p _ _ ρ1 a b c d q1⟩
def mTup (m : MA) : ME := fun ρ q => m ρ fun ds ρ' => ds.length ≤ 1000 ∧ q (.tup ds) ρ'
theorem same_new {H : Hp} {p : Addr} (h : H p = none) (o : HO) : Same H (upd H p o) := fun b u q => by rw [upd_ne (ne_of_none q h)]; exact q
theorem new_tup {S : Fs} {σ : St} {ρ : Env} {H : Hp} {τ : List (V × D)} {xs : List V} {ds : List D} {p : Addr} (R : Rel Γ S H σ ρ τ) (r : Reps Γ (exA S σ ρ) H xs ds) (hp : H p = none) :
    Rel Γ S (upd H p (.tup xs)) σ ρ τ ∧ Rep Γ (exA S σ ρ) (upd H p (.tup xs)) (.ref p) (.tup ds) := by
  have g := same_new hp (.tup xs)
  have r' := r.up (E' := exA S σ ρ) (H' := upd H p (.tup xs)) (fun _ _ z => z) fun b o _ q => g b o q
  exact ⟨R.grow g, .tup (fun z => exA_some R z hp) upd_same r'.1 r'.2⟩
theorem je_tup {t : TA} {m : MA} (h : JA Γ pn t m) : JE Γ pn (tTup t) (mTup m) := fun S σ ρ H τ Q q hp R hm hq =>
  h S σ ρ H τ _ _ hp R hm fun vs ds H1 ρ1 R1 r1 ⟨l1, q1⟩ => ⟨by rw [r1.1]; exact le_line l1, fun p hn => by
    obtain ⟨a, b⟩ := new_tup R1 r1 hn
    exact hq _ _ _ ρ1 a b q1⟩
abbrev F2 := D → D → (D → Prop) → Prop
def OpOk (Γ : Cn) (r : R2) (f : F2) : Prop :=
  ∀ (E : Addr → Prop) (H : Hp) (x y : V) (dx dy : D) (Q : VK) (q : D → Prop), (∀ a, E a → H a ≠ none) → RepB Γ E H x dx → RepB Γ E H y dy → f dx dy q → (∀ v d H', Same H H' → Rep Γ E H' v d → q d → Q v H') → r x y H Q
def mOp (f : F2) (a b : MO) : ME := fun ρ q => a ρ fun r ρ1 => b ρ1 fun s ρ2 => r.on ρ2 fun x => s.on ρ2 fun y => f x y fun d => q d ρ2
theorem OpIn.more {σ : St} {τ τ' : List (V × D)} {v : V} {r : Opd} (h : OpIn σ τ v r) : OpIn σ (τ' ++ τ) v r := by
  cases r with
  | d x => exact List.mem_append_right _ h
  | v i => exact h
theorem Rel.cut {Γ : Cn} {S : Fs} {H : Hp} {σ : St} {ρ : Env} {τ τ' : List (V × D)} (R : Rel Γ S H σ ρ (τ' ++ τ)) : Rel Γ S H σ ρ τ := { R with tmp := fun x hx => R.tmp x (List.mem_append_right _ hx) }
theorem je_op {r : R2} {f : F2} {ta tb : TE} {a b : MO} (ho : OpOk Γ r f) (ha : JO Γ pn ta a) (hb : JO Γ pn tb b) : JE Γ pn (tOp r ta tb) (mOp f a b) := fun S σ ρ H τ Q q hp R hm hq =>
  ha S σ ρ H τ _ _ hp R hm fun v r1 H1 ρ1 τ1 R1 o1 q1 => hb S σ ρ1 H1 (τ1 ++ τ) _ _ hp R1 q1 fun w r2 H2 ρ2 τ2 R2 o2 q2 => by
    obtain ⟨dx, rx, q2⟩ := R2.read o1.more q2
    obtain ⟨dy, ry, q2⟩ := R2.read o2 q2
    exact ho _ H2 v w dx dy Q _ (fun a z => exA_some R2 z) rx ry q2 fun u d H3 g r3 q3 => hq u d H3 ρ2 ((R2.grow g).cut.cut) r3 q3
abbrev F1 := D → (D → Prop) → Prop
def Op1Ok (Γ : Cn) (r : V → Hp → VK → Prop) (f : F1) : Prop :=
  ∀ (E : Addr → Prop) (H : Hp) (x : V) (dx : D) (Q : VK) (q : D → Prop), (∀ a, E a → H a ≠ none) → RepB Γ E H x dx → f dx q → (∀ v d H', Same H H' → Rep Γ E H' v d → q d → Q v H') → r x H Q
def mOp1 (f : F1) (a : MO) : ME := fun ρ q => a ρ fun r ρ1 => r.on ρ1 fun x => f x fun d => q d ρ1
theorem je_un {r : V → Hp → VK → Prop} {f : F1} {ta : TE} {a : MO} (ho : Op1Ok Γ r f) (ha : JO Γ pn ta a) : JE Γ pn (tUn r ta) (mOp1 f a) := fun S σ ρ H τ Q q hp R hm hq =>
  ha S σ ρ H τ _ _ hp R hm fun v r1 H1 ρ1 τ1 R1 o1 q1 => by
    obtain ⟨dx, rx, q1⟩ := R1.read o1 q1
    exact ho _ H1 v dx Q _ (fun a z => exA_some R1 z) rx q1 fun u d H3 g r3 q3 => hq u d H3 ρ1 ((R1.grow g).cut) r3 q3
theorem je_call1 {r : List V → Hp → VK → Prop} {f : F1} {ta : TE} {a : MO} (ho : Op1Ok Γ (fun x => r [x]) f) (ha : JO Γ pn ta a) : JE Γ pn (tCB r (tCons ta tNil)) (mOp1 f a) := fun S σ ρ H τ Q q hp R hm hq =>
  ha S σ ρ H τ _ _ hp R hm fun v r1 H1 ρ1 τ1 R1 o1 q1 => by
    obtain ⟨dx, rx, q1⟩ := R1.read o1 q1
    exact ho _ H1 v dx Q _ (fun a z => exA_some R1 z) rx q1 fun u d H3 g r3 q3 => hq u d H3 ρ1 ((R1.grow g).cut) r3 q3
theorem je_call2 {r : List V → Hp → VK → Prop} {f : F2} {ta tb : TE} {a b : MO} (ho : OpOk Γ (fun x y => r [x, y]) f) (ha : JO Γ pn ta a) (hb : JO Γ pn tb b) : JE Γ pn (tCB r (tCons ta (tCons tb tNil))) (mOp f a b) := fun S σ ρ H τ Q q hp R hm hq =>
  je_op (r := fun x y => r [x, y]) ho ha hb S σ ρ H τ Q q hp R hm hq
abbrev FL2 := D → D → (List D → Prop) → Prop
def OpNew (Γ : Cn) (r : R2) (f : FL2) : Prop :=
  ∀ (E : Addr → Prop) (H : Hp) (x y : V) (dx dy : D) (Q : VK) (q : List D → Prop), RepB Γ E H x dx → RepB Γ E H y dy → f dx dy q → (∀ p xs ds H1, Same H H1 → H1 p = none → Reps Γ E H1 xs ds → q ds → Q (.ref p) (upd H1 p (.lst xs))) → r x y H Q
def mOpL (f : FL2) (a b : MO) : ME := fun ρ q => a ρ fun r ρ1 => b ρ1 fun s ρ2 => r.on ρ2 fun x => s.on ρ2 fun y => f x y fun ds => q (.lst ds) ρ2
theorem jf_op {r : R2} {f : FL2} {ta tb : TE} {a b : MO} (ho : OpNew Γ r f) (ha : JO Γ pn ta a) (hb : JO Γ pn tb b) : JF Γ pn (tOp r ta tb) (mOpL f a b) := fun S σ ρ H τ Q q hp R hm hq =>
  ha S σ ρ H τ _ _ hp R hm fun v r1 H1 ρ1 τ1 R1 o1 q1 => hb S σ ρ1 H1 (τ1 ++ τ) _ _ hp R1 q1 fun w r2 H2 ρ2 τ2 R2 o2 q2 => by
    obtain ⟨dx, rx, q2⟩ := R2.read o1.more q2
    obtain ⟨dy, ry, q2⟩ := R2.read o2 q2
    exact ho _ H2 v w dx dy Q _ rx ry q2 fun p xs ds H3 g hn r3 q3 => by
      obtain ⟨a, b, c, d⟩ := fresh_lst (R2.grow g) r3 hn
      exact hq p _ _ ρ2 a.cut.cut b c d q3
abbrev FL1 := D → (List D → Prop) → Prop
def mOpL1 (f : FL1) (a : MO) : ME := fun ρ q => a ρ fun r ρ1 => r.on ρ1 fun x => f x fun ds => q (.lst ds) ρ1
def mB (m : ME) : MT := fun ρ q => m ρ fun d ρ' => match d with | .bl b => q b ρ' | _ => False
theorem rep_bl {E : Addr → Prop} {H : Hp} {v : V} {b : Bool} (r : Rep Γ E H v (.bl b)) : v = .bl b := by cases r; rfl
theorem rep_int {E : Addr → Prop} {H : Hp} {v : V} {b : Int} (r : Rep Γ E H v (.int b)) : v = .int b := by cases r; rfl
theorem rep_str {E : Addr → Prop} {H : Hp} {v : V} {b : Str} (r : Rep Γ E H v (.str b)) : v = .str b := by cases r; rfl
theorem jt_b {t : TE} {m : ME} (h : JE Γ pn t m) : JT Γ pn (tB t) (mB m) := fun S σ ρ H τ Q q hp R hm hq =>
  h S σ ρ H τ _ _ hp R hm fun v d H1 ρ1 R1 r1 q1 => by
    cases d with
    | bl b => exact ⟨b, rep_bl r1, hq b H1 ρ1 R1 q1⟩
    | _ => exact False.elim q1
theorem jt_test {t : TE} {m : ME} (h : JE Γ pn t m) : JT Γ pn (tTest t) (mB m) := fun S σ ρ H τ Q q hp R hm hq =>
  h S σ ρ H τ _ _ hp R hm fun v d H1 ρ1 R1 r1 q1 => by
    cases d with
    | bl b => exact ⟨b, rep_bl r1, hq b H1 ρ1 R1 q1⟩
    | _ => exact False.elim q1
def mAnd (a b : MT) : MT := fun ρ q => a ρ fun c ρ1 => if c = true then b ρ1 q else q false ρ1
def mOr (a b : MT) : MT := fun ρ q => a ρ fun c ρ1 => if c = true then q true ρ1 else b ρ1 q
def mNot (a : MT) : MT := fun ρ q => a ρ fun c ρ1 => q (!c) ρ1
theorem jt_and {t u : TT} {a b : MT} (h1 : JT Γ pn t a) (h2 : JT Γ pn u b) : JT Γ pn (tAnd t u) (mAnd a b) := fun S σ ρ H τ Q q hp R hm hq =>
  h1 S σ ρ H τ _ _ hp R hm fun c H1 ρ1 R1 q1 => by
    cases c with
    | true => rw [if_pos rfl] at q1 ⊢; exact h2 S σ ρ1 H1 τ Q q hp R1 q1 hq
    | false => rw [if_neg Bool.false_ne_true] at q1 ⊢; exact hq false H1 ρ1 R1 q1
theorem jt_or {t u : TT} {a b : MT} (h1 : JT Γ pn t a) (h2 : JT Γ pn u b) : JT Γ pn (tOr t u) (mOr a b) := fun S σ ρ H τ Q q hp R hm hq =>
  h1 S σ ρ H τ _ _ hp R hm fun c H1 ρ1 R1 q1 => by
    cases c with
    | true => rw [if_pos rfl] at q1 ⊢; exact hq true H1 ρ1 R1 q1
    | false => rw [if_neg Bool.false_ne_true] at q1 ⊢; exact h2 S σ ρ1 H1 τ Q q hp R1 q1 hq
theorem jt_not {t : TT} {a : MT} (h1 : JT Γ pn t a) : JT Γ pn (tNot t) (mNot a) := fun S σ ρ H τ Q q hp R hm hq =>
  h1 S σ ρ H τ _ _ hp R hm fun c H1 ρ1 R1 q1 => hq (!c) H1 ρ1 R1 q1
def mAndV (a b : ME) : ME := fun ρ q => a ρ fun d ρ1 => match d with | .bl c => if c = true then b ρ1 q else q (.bl false) ρ1 | _ => False
def mOrV (a b : ME) : ME := fun ρ q => a ρ fun d ρ1 => match d with | .bl c => if c = true then q (.bl true) ρ1 else b ρ1 q | _ => False
def mNotV (a : ME) : ME := fun ρ q => a ρ fun d ρ1 => match d with | .bl c => q (.bl (!c)) ρ1 | _ => False
theorem je_and {t u : TE} {a b : ME} (h1 : JE Γ pn t a) (h2 : JE Γ pn u b) : JE Γ pn (tAndV t u) (mAndV a b) := fun S σ ρ H τ Q q hp R hm hq =>
  h1 S σ ρ H τ _ _ hp R hm fun v d H1 ρ1 R1 r1 q1 => by
    cases d with
    | bl c =>
      refine ⟨c, rep_bl r1, ?_⟩
      dsimp only at q1
      cases c with
      | true => rw [if_pos rfl] at q1 ⊢; exact h2 S σ ρ1 H1 τ Q q hp R1 q1 hq
      | false => rw [if_neg Bool.false_ne_true] at q1 ⊢; exact hq _ _ H1 ρ1 R1 (.bl false) q1
    | _ => exact False.elim q1
theorem je_or {t u : TE} {a b : ME} (h1 : JE Γ pn t a) (h2 : JE Γ pn u b) : JE Γ pn (tOrV t u) (mOrV a b) := fun S σ ρ H τ Q q hp R hm hq =>
  h1 S σ ρ H τ _ _ hp R hm fun v d H1 ρ1 R1 r1 q1 => by
    cases d with
    | bl c =>
      refine ⟨c, rep_bl r1, ?_⟩
      dsimp only at q1
      cases c with
      | true => rw [if_pos rfl] at q1 ⊢; exact hq _ _ H1 ρ1 R1 (.bl true) q1
      | false => rw [if_neg Bool.false_ne_true] at q1 ⊢; exact h2 S σ ρ1 H1 τ Q q hp R1 q1 hq
    | _ => exact False.elim q1
theorem je_not {t : TE} {a : ME} (h1 : JE Γ pn t a) : JE Γ pn (tNotV t) (mNotV a) := fun S σ ρ H τ Q q hp R hm hq =>
  h1 S σ ρ H τ _ _ hp R hm fun v d H1 ρ1 R1 r1 q1 => by
    cases d with
    | bl c => exact ⟨c, rep_bl r1, hq _ _ H1 ρ1 R1 (.bl _) q1⟩
    | _ => exact False.elim q1
def mIf (c : MT) (a b : ME) : ME := fun ρ q => c ρ fun k ρ1 => if k = true then a ρ1 q else b ρ1 q
def mNext : MS := fun N ρ => N.nx ρ
def mSeq (a b : MS) : MS := fun N ρ => a { N with nx := fun ρ' => b N ρ' } ρ
def mBreak : MS := fun N ρ => N.bk ρ
def mCont : MS := fun N ρ => N.ct ρ
def mDrop (m : ME) : MS := fun N ρ => m ρ fun _ ρ' => N.nx ρ'
def mRet (m : ME) : MS := fun N ρ => m ρ N.rt
def mRetN : MS := fun N ρ => N.rt .non ρ
def mIfS (c : MT) (a b : MS) : MS := fun N ρ => c ρ fun k ρ1 => if k = true then a N ρ1 else b N ρ1
def mNever : MS := fun _ _ => False
theorem js_next : JS Γ pn fr tNext mNext := fun S σ ρ H τ D N hp R hm hn hr hb hc => hn _ _ _ R hm
theorem js_seq {t u : TS} {a b : MS} (h1 : JS Γ pn fr t a) (h2 : JS Γ pn fr u b) : JS Γ pn fr (tSeq t u) (mSeq a b) := fun S σ ρ H τ D N hp R hm hn hr hb hc =>
  h1 S σ ρ H τ _ _ hp R hm (fun σ' H' ρ' R' m' => h2 S σ' ρ' H' τ D N hp R' m' hn hr hb hc) hr hb hc
theorem js_ret {t : TE} {m : ME} (h : JE Γ pn t m) : JS Γ pn false (tRet t) (mRet m) := fun S σ ρ H τ D N hp R hm hn hr hb hc =>
  h S σ ρ H τ _ _ hp R hm fun v d H' ρ' R' r q => hr v d σ H' ρ' ⟨R', r⟩ q
theorem js_retF {t : TE} {m : ME} (h : JF Γ pn t m) : JS Γ pn true (tRet t) (mRet m) := fun S σ ρ H τ D N hp R hm hn hr hb hc =>
  h S σ ρ H τ _ _ hp R hm fun p o H' ρ' R' ow h0 ne q => hr _ o σ H' ρ' ⟨p, rfl, R', ow, h0, ne⟩ q
theorem js_if {t : TT} {ta tb : TS} {c : MT} {a b : MS} (h0 : JT Γ pn t c) (h1 : JS Γ pn fr ta a) (h2 : JS Γ pn fr tb b) : JS Γ pn fr (tIfS t ta tb) (mIfS c a b) := fun S σ ρ H τ D N hp R hm hn hr hb hc =>
  h0 S σ ρ H τ _ _ hp R hm fun k H1 ρ1 R1 q1 => by
    cases k with
    | true => rw [if_pos rfl] at q1 ⊢; exact h1 S σ ρ1 H1 τ D N hp R1 q1 hn hr hb hc
    | false => rw [if_neg Bool.false_ne_true] at q1 ⊢; exact h2 S σ ρ1 H1 τ D N hp R1 q1 hn hr hb hc
def mSet (i : Nat) (m : ME) : MS := fun N ρ => m ρ fun d ρ' => N.nx (ρ'.set i (.val d))
def mSetOwn (i : Nat) (m : ME) : MS := fun N ρ => m ρ fun d ρ' => N.nx (ρ'.set i (.own d))
theorem js_set {i : Nat} {t : TE} {m : ME} (hi : i ∉ pn) (h : JE Γ pn t m) : JS Γ pn fr (tAsg t (gName i)) (mSet i m) := fun S σ ρ H τ D N hp R hm hn hr hb hc =>
  h S σ ρ H τ _ _ hp R hm fun v d H' ρ' R' r q => hn _ H' _ (R'.asg (hp i hi) r) q
theorem js_setOwn {i : Nat} {t : TE} {m : ME} (hi : i ∉ pn) (h : JF Γ pn t m) : JS Γ pn fr (tAsg t (gName i)) (mSetOwn i m) := fun S σ ρ H τ D N hp R hm hn hr hb hc =>
  h S σ ρ H τ _ _ hp R hm fun p o H' ρ' R' ow h0 ne q => hn _ H' _ (R'.asgOwn (hp i hi) ow h0 (fun z => ne (.inl z))) q
end
end M
namespace M
open PySem L2
section
variable {Γ : Cn} {pn : List Nat} {fr : Bool}
abbrev MG := D → Env → (Env → Prop) → Prop
abbrev MGs := List D → Env → (Env → Prop) → Prop
def JG (Γ : Cn) (pn : List Nat) (g : TG) (m : MG) : Prop :=
  ∀ (S : Fs) (σ : St) (ρ : Env) (H : Hp) (τ : List (V × D)) (v : V) (d : D) (Q : St → Hp → Prop) (q : Env → Prop), PinOk pn S → Rel Γ S H σ ρ τ → Rep Γ (exA S σ ρ) H v d → m d ρ q → (∀ σ' H' ρ', Rel Γ S H' σ' ρ' τ → q ρ' → Q σ' H') → g v σ H Q
def JGs (Γ : Cn) (pn : List Nat) (g : TGs) (m : MGs) : Prop :=
  ∀ (S : Fs) (σ : St) (ρ : Env) (H : Hp) (τ : List (V × D)) (vs : List V) (ds : List D) (Q : St → Hp → Prop) (q : Env → Prop), PinOk pn S → Rel Γ S H σ ρ τ → Reps Γ (exA S σ ρ) H vs ds → m ds ρ q → (∀ σ' H' ρ', Rel Γ S H' σ' ρ' τ → q ρ' → Q σ' H') → g vs σ H Q
def mgName (i : Nat) : MG := fun d ρ q => q (ρ.set i (.val d))
theorem jg_name {i : Nat} (hi : i ∉ pn) : JG Γ pn (gName i) (mgName i) := fun S σ ρ H τ v d Q q hp R r hm hq => hq _ _ _ (R.asg (hp i hi) r) hm
def mgNil : MGs := fun ds ρ q => match ds with | [] => q ρ | _ => False
def mgCons (g : MG) (r : MGs) : MGs := fun ds ρ q => match ds with | d :: ds => g d ρ fun ρ1 => r ds ρ1 q | _ => False
theorem Rel.pushs {S : Fs} {H : Hp} {σ : St} {ρ : Env} {τ : List (V × D)} : ∀ {vs : List V} {ds : List D}, Rel Γ S H σ ρ τ → Reps Γ (exA S σ ρ) H vs ds → Rel Γ S H σ ρ (vs.zip ds ++ τ)
  | [], _, R, _ => R
  | _ :: _, [], R, _ => R
  | v :: vs, d :: ds, R, r => (Rel.pushs R r.tail).push r.head
theorem Rel.pops {S : Fs} {H : Hp} {σ : St} {ρ : Env} {τ : List (V × D)} {vs : List V} {ds : List D} (R : Rel Γ S H σ ρ (vs.zip ds ++ τ)) (hl : vs.length = ds.length) : Rel Γ S H σ ρ τ ∧ Reps Γ (exA S σ ρ) H vs ds := by
  refine ⟨R.cut, hl, fun i v d h1 h2 => R.tmp (v, d) (List.mem_append_left _ (List.mem_iff_getElem?.mpr ⟨i, ?_⟩))⟩
  rw [List.getElem?_zip_eq_some]
  exact ⟨h1, h2⟩
theorem jgs_nil : JGs Γ pn gNil mgNil := fun S σ ρ H τ vs ds Q q hp R r hm hq => by
  cases ds with
  | nil => have h := r.1; cases vs with | nil => exact ⟨rfl, hq _ _ _ R hm⟩ | cons _ _ => simp at h
  | cons _ _ => exact False.elim hm
theorem jgs_cons {g : TG} {u : TGs} {m : MG} {n : MGs} (h1 : JG Γ pn g m) (h2 : JGs Γ pn u n) : JGs Γ pn (gCons g u) (mgCons m n) := fun S σ ρ H τ vs ds Q q hp R r hm hq => by
  cases ds with
  | nil => exact False.elim hm
  | cons d ds =>
    cases vs with
    | nil => have h := r.1; simp at h
    | cons v vs =>
      refine ⟨v, vs, rfl, h1 S σ ρ H (vs.zip ds ++ τ) v d _ _ hp (R.pushs r.tail) r.head hm fun σ' H' ρ' R' q' => ?_⟩
      obtain ⟨R2, r2⟩ := R'.pops r.tail.1
      exact h2 S σ' ρ' H' τ vs ds Q q hp R2 r2 q' hq
def mgTup (m : MGs) (n : Nat) : MG := fun d ρ q => match d with | .tup ds => ds.length = n ∧ m ds ρ q | _ => False
abbrev MI := Env → (List D → Env → Prop) → Prop
def ItOk (Γ : Cn) (J : It) (τ' : List (V × D)) (ds : List D) : Prop :=
  ∀ (E : Addr → Prop) (H : Hp) (i : Nat), (∀ a, E a → H a ≠ none) → (∀ x ∈ τ', Rep Γ E H x.1 x.2) →
    (i < ds.length → J.go i H ∧ ∀ x H', J.yld i H x H' → Same H H' ∧ ∃ d, ds[i]? = some d ∧ Rep Γ E H' x d) ∧ (i = ds.length → J.stop i H)
def JI (Γ : Cn) (pn : List Nat) (wi : TI) (m : MI) : Prop :=
  ∀ (S : Fs) (σ : St) (ρ : Env) (H : Hp) (τ : List (V × D)) (Z : It → Hp → Prop) (q : List D → Env → Prop), PinOk pn S → Rel Γ S H σ ρ τ → m ρ q →
    (∀ J ds H' ρ' τ', Rel Γ S H' σ ρ' (τ' ++ τ) → ItOk Γ J τ' ds → q ds ρ' → Z J H') → wi σ H Z
def miList (m : ME) : MI := fun ρ q => m ρ fun d ρ' => match d with | .lst ds => q ds ρ' | .fz ns => q (ns.map D.int) ρ' | _ => False
theorem ji_list {t : TE} {m : ME} (h : JE Γ pn t m) : JI Γ pn (iList Γ.K t) (miList m) := fun S σ ρ H τ Z q hp R hm hz =>
  h S σ ρ H τ _ _ hp R hm fun v d H1 ρ1 R1 r1 q1 => by
    cases d with
    | lst ds =>
      obtain ⟨a, xs, rfl, hs, rs⟩ := r1.list
      refine ⟨a, rfl, ⟨xs, .inl (.inl hs)⟩, hz _ ds H1 ρ1 [(.ref a, .lst ds)] (R1.push r1) ?_ q1⟩
      intro E H i hE hx
      have r := hx (.ref a, .lst ds) (by simp)
      have r' : Rep Γ E H (.ref a) (.lst ds) := r
      obtain ⟨a', xs', e, hs', rs'⟩ := r'.list
      cases e
      refine ⟨fun hi => ?_, fun hi => ⟨xs', .inl (.inl hs'), by rw [rs'.1]; omega⟩⟩
      have hi' : i < xs'.length := by rw [rs'.1]; exact hi
      refine ⟨⟨xs', xs'[i], .inl (.inl hs'), List.getElem?_eq_getElem hi'⟩, fun x H' y => ?_⟩
      obtain ⟨e, y⟩ := y
      subst e
      exact ⟨Same.refl _, ds[i], List.getElem?_eq_getElem hi, rs'.2 i x _ (y xs' (.inl (.inl hs'))) (List.getElem?_eq_getElem hi)⟩
    | fz ns =>
      obtain ⟨a, rfl, hs⟩ := r1.script
      refine ⟨a, rfl, ⟨_, hs⟩, hz _ (ns.map D.int) H1 ρ1 [(.ref a, .fz ns)] (R1.push r1) ?_ q1⟩
      intro E H i hE hx
      have r : Rep Γ E H (.ref a) (.fz ns) := hx (.ref a, .fz ns) (by simp)
      obtain ⟨a', e, hs'⟩ := r.script
      cases e
      refine ⟨fun hi => ?_, fun hi => ⟨_, hs', by simpa using Nat.le_of_eq hi.symm⟩⟩
      have hi' : i < ns.length := by simpa using hi
      refine ⟨⟨_, .int ns[i], hs', by rw [List.getElem?_map, List.getElem?_eq_getElem hi']; rfl⟩, fun x H' y => ?_⟩
      obtain ⟨e, y⟩ := y
      subst e
      have y' := y _ hs'
      rw [List.getElem?_map, List.getElem?_eq_getElem hi'] at y'
      cases y'
      exact ⟨Same.refl _, .int ns[i], by rw [List.getElem?_map, List.getElem?_eq_getElem hi']; rfl, .int _⟩
    | _ => exact False.elim q1
def miStr (m : ME) : MI := fun ρ q => m ρ fun d ρ' => match d with | .str x => q (x.cps.toList.map fun c => D.str ⟨#[c]⟩) ρ' | _ => False
theorem ji_str {t : TE} {m : ME} (h : JE Γ pn t m) : JI Γ pn (iStr t) (miStr m) := fun S σ ρ H τ Z q hp R hm hz =>
  h S σ ρ H τ _ _ hp R hm fun v d H1 ρ1 R1 r1 q1 => by
    cases d with
    | str x =>
      cases rep_str r1
      refine ⟨x, rfl, hz _ _ H1 ρ1 [] R1 ?_ q1⟩
      intro E H i hE hx
      refine ⟨fun hi => ?_, fun hi => by show i = x.cps.size; simpa using hi⟩
      have hi' : i < x.cps.size := by simpa using hi
      refine ⟨hi', fun v H' y => ?_⟩
      obtain ⟨e, c, hc, e2⟩ := y
      subst e e2
      refine ⟨Same.refl _, .str ⟨#[c]⟩, ?_, .str _⟩
      have hc' : x.cps.toList[i]? = some c := by simpa using hc
      rw [List.getElem?_map, hc']; rfl
    | _ => exact False.elim q1
def rangeD (lo : Int) (n : Nat) : List D := (List.range n).map fun (i : Nat) => D.int (lo + (i : Int))
def miRange1 (m : MA) : MI := fun ρ q => m ρ fun ds ρ' => match ds with
  | [.int j] => (-1000000 ≤ j ∧ j ≤ 1000000) ∧ q (rangeD 0 j.toNat) ρ'
  | _ => False
def miRange2 (m : MA) : MI := fun ρ q => m ρ fun ds ρ' => match ds with
  | [.int i, .int j] => (-1000000 ≤ i ∧ i ≤ 1000000 ∧ -1000000 ≤ j ∧ j ≤ 1000000) ∧ q (rangeD i (j - i).toNat) ρ'
  | _ => False
theorem it_range {lo : Int} {n : Nat} : ItOk Γ (Itr lo n) [] (rangeD lo n) := fun E H i hE hx => by
  unfold rangeD
  refine ⟨fun hi => ?_, fun hi => by show n ≤ i; simp at hi; omega⟩
  have hi' : i < n := by simpa using hi
  refine ⟨hi', fun x H' y => ?_⟩
  obtain ⟨e, y⟩ := y
  subst e y
  refine ⟨Same.refl _, .int (lo + i), ?_, .int _⟩
  rw [List.getElem?_map, List.getElem?_range hi']; rfl
theorem reps_one {E : Addr → Prop} {H : Hp} {vs : List V} {i : Int} (r : Reps Γ E H vs [.int i]) : vs = [.int i] := by
  match vs, r with
  | [], r => have h := r.1; simp at h
  | [v], r => rw [rep_int r.head]
  | _ :: _ :: _, r => have h := r.1; simp at h
theorem ji_range1 {t : TA} {m : MA} (h : JA Γ pn t m) : JI Γ pn (iRng1 t) (miRange1 m) := fun S σ ρ H τ Z q hp R hm hz =>
  h S σ ρ H τ _ _ hp R hm fun vs ds H1 ρ1 R1 r1 q1 => by
    split at q1
    · exact ⟨_, reps_one r1, by have := q1.1; omega, by have := q1.1; omega, hz _ _ H1 ρ1 [] R1 it_range q1.2⟩
    · exact False.elim q1
theorem RR.cut {S : Fs} {σ : St} {ρ : Env} {H : Hp} {τ τ' : List (V × D)} {v : V} {d : D} (h : RR Γ fr S σ ρ H (τ' ++ τ) v d) : RR Γ fr S σ ρ H τ v d := by
  cases fr with
  | false => exact ⟨h.1.cut, h.2⟩
  | true => obtain ⟨p, e, R, r⟩ := h; exact ⟨p, e, R.cut, r⟩
def forM (g : MG) (b : MS) : List D → MEnds → Env → Prop
  | [], N, ρ => N.nx ρ
  | d :: ds, N, ρ => g d ρ fun ρ1 => b { nx := fun ρ2 => forM g b ds N ρ2, rt := N.rt, bk := N.nx, ct := fun ρ2 => forM g b ds N ρ2 } ρ1
def mFor (mi : MI) (g : MG) (b : MS) : MS := fun N ρ => mi ρ fun ds ρ1 => forM g b ds N ρ1
theorem js_for {wi : TI} {g : TG} {tb : TS} {mi : MI} {mg : MG} {mb : MS} (hi : JI Γ pn wi mi) (hg : JG Γ pn g mg) (hbd : JS Γ pn fr tb mb) : JS Γ pn fr (tFor wi g tb) (mFor mi mg mb) := fun S σ ρ H τ D N hp R hm hn hr hb hc =>
  hi S σ ρ H τ _ _ hp R hm fun J ds H1 ρ1 τ' R1 ok q1 => by
    refine ⟨fun i m σ H => m = ds.length - i ∧ i ≤ ds.length ∧ ∃ ρ, Rel Γ S H σ ρ (τ' ++ τ) ∧ forM mg mb (ds.drop i) N ρ, ⟨ds.length, by simp, Nat.zero_le _, ρ1, R1, by simpa using q1⟩, ?_⟩
    rintro i m σ2 H2 ⟨rfl, hle, ρ2, R2, q2⟩
    obtain ⟨go, stop⟩ := ok (exA S σ2 ρ2) H2 i (fun a z => exA_some R2 z) fun x hx => R2.tmp x (List.mem_append_left _ hx)
    by_cases hlt : i < ds.length
    · obtain ⟨g1, g2⟩ := go hlt
      have ed : ds.drop i = ds[i] :: ds.drop (i + 1) := List.drop_eq_getElem_cons hlt
      rw [ed] at q2
      refine .inr ⟨g1, fun σ' H' => ∃ ρ', Rel Γ S H' σ' ρ' (τ' ++ τ) ∧ forM mg mb (ds.drop (i + 1)) N ρ', fun σ' H' h => ⟨ds.length - (i + 1), by omega, rfl, hlt, h⟩, fun x H' y => ?_⟩
      obtain ⟨same, d, hd, rx⟩ := g2 x H' y
      rw [List.getElem?_eq_getElem hlt] at hd
      cases hd
      refine hg S σ2 ρ2 H' (τ' ++ τ) x _ _ _ hp (R2.grow same) rx q2 fun σ3 H3 ρ3 R3 q3 => ?_
      exact hbd S σ3 ρ3 H3 (τ' ++ τ) _ _ hp R3 q3 (fun σ' H' ρ' R' q' => ⟨ρ', R', q'⟩) (fun v d σ' H' ρ' r' q' => hr v d σ' H' ρ' r'.cut q') (fun σ' H' ρ' R' q' => hn σ' H' ρ' R'.cut q') (fun σ' H' ρ' R' q' => ⟨ρ', R', q'⟩)
    · have e : i = ds.length := by omega
      subst e
      rw [List.drop_length] at q2
      exact .inl ⟨stop rfl, hn _ _ _ R2.cut q2⟩
def whileM (c : MT) (b : MS) : Nat → MEnds → Env → Prop
  | 0, _, _ => False
  | n + 1, N, ρ => c ρ fun k ρ1 => if k = true then b { nx := fun ρ2 => whileM c b n N ρ2, rt := N.rt, bk := N.nx, ct := fun ρ2 => whileM c b n N ρ2 } ρ1 else N.nx ρ1
def mWhile (c : MT) (b : MS) : MS := fun N ρ => ∃ n, whileM c b n N ρ
def mblk (js : List (Option Nat)) (ρ : Env) : Env := js.map fun j => match j with | some j => (ρ[j]?).getD .no | none => .no
def setOwn (ρ : Env) (j : Nat) (o : D) : Env := match ρ[j]? with | some (.own _) => ρ.set j (.own o) | _ => ρ
def merge1 (ρ : Env) (x : Option Nat) (s : Slot) : Env := match x, s with
  | some j, .own o => setOwn ρ j o
  | _, _ => ρ
def mergeB : List (Option Nat) → Env → Env → Env
  | x :: js, s :: ρb, ρ => mergeB js ρb (merge1 ρ x s)
  | _, _, ρ => ρ
def compM (g : MG) (c : MT) (e : ME) : List D → List D → Env → (List D → Env → Prop) → Prop
  | [], acc, ρ, q => q acc ρ
  | d :: ds, acc, ρ, q => g d ρ fun ρ1 => c ρ1 fun b ρ2 => if b = true then e ρ2 fun y ρ3 => compM g c e ds (acc ++ [y]) ρ3 q else compM g c e ds acc ρ2 q
def mComp (mi : MI) (js : List (Option Nat)) (g : MG) (c : MT) (e : ME) : ME := fun ρ q => mi ρ fun ds ρ1 => ds.length ≤ 100000 ∧ compM g c e ds [] (mblk js ρ1) fun ys ρb => q (.lst ys) (mergeB js ρb ρ1)
def pnB (js : List (Option Nat)) : List Nat := (List.range js.length).filter fun k => ((js[k]?).join).isSome
def mTT : MT := fun ρ q => q true ρ
theorem jt_tt : JT Γ pn tTT mTT := fun S σ ρ H τ Q q hp R hm hq => hq true H ρ R hm
def capt (js : List (Option Nat)) (σ : St) (ρ : Env) (k : Nat) : Option Addr := match (js[k]?).join with
  | some j => match ρ[j]?, σ[j]? with
    | some (.own _), some (some (.ref p)) => some p
    | _, _ => none
  | none => none
theorem capt_some {js : List (Option Nat)} {σ : St} {ρ : Env} {k : Nat} {p : Addr} (h : capt js σ ρ k = some p) : ∃ j o, js[k]? = some (some j) ∧ ρ[j]? = some (.own o) ∧ σ[j]? = some (some (.ref p)) := by
  unfold capt at h
  cases e : js[k]? with
  | none => rw [e] at h; cases h
  | some x =>
    rw [e] at h
    cases x with
    | none => cases h
    | some j =>
      dsimp only [Option.join] at h
      refine ⟨j, ?_⟩
      have h : (match ρ[j]?, σ[j]? with
        | some (.own _), some (some (.ref p)) => some p
        | _, _ => none) = some p := h
      split at h
      · rename_i o q e1 e2
        cases h
        exact ⟨o, rfl, e1, e2⟩
      · cases h
theorem capt_of {js : List (Option Nat)} {σ : St} {ρ : Env} {k j : Nat} {p : Addr} {o : D} (h1 : js[k]? = some (some j)) (h2 : ρ[j]? = some (.own o)) (h3 : σ[j]? = some (some (.ref p))) : capt js σ ρ k = some p := by
  unfold capt
  rw [h1]
  show (match ρ[j]?, σ[j]? with
        | some (.own _), some (some (.ref p)) => some p
        | _, _ => none) = some p
  rw [h2, h3]
def Fs.blk (S : Fs) (js : List (Option Nat)) (σ : St) (ρ : Env) (H : Hp) : Fs where
  C := fun a => exA S σ ρ a ∧ ∀ k, capt js σ ρ k ≠ some a
  H0 := H
  pin := capt js σ ρ
theorem blk_get {js : List (Option Nat)} {σ : St} {k j : Nat} (h : js[k]? = some (some j)) : (blk js σ)[k]? = some ((σ[j]?).join) := by
  unfold blk; rw [List.getElem?_map, h]; rfl
theorem mblk_get {js : List (Option Nat)} {ρ : Env} {k j : Nat} (h : js[k]? = some (some j)) : (mblk js ρ)[k]? = some ((ρ[j]?).getD .no) := by
  unfold mblk; rw [List.getElem?_map, h]; rfl
theorem mblk_of {js : List (Option Nat)} {ρ : Env} {k : Nat} {s : Slot} (h : (mblk js ρ)[k]? = some s) (hs : s ≠ .no) : ∃ j, js[k]? = some (some j) ∧ ρ[j]? = some s := by
  unfold mblk at h
  rw [List.getElem?_map] at h
  cases e : js[k]? with
  | none => rw [e] at h; cases h
  | some x =>
    rw [e] at h
    cases x with
    | none => cases h; exact absurd rfl hs
    | some j =>
      refine ⟨j, rfl, ?_⟩
      simp only [Option.map_some, Option.some.injEq] at h
      cases q : ρ[j]? with
      | none => rw [q] at h; exact absurd h.symm hs
      | some u => rw [q] at h; cases h; rfl
def Once (js : List (Option Nat)) : Prop := ∀ (k k' j : Nat), js[k]? = some (some j) → js[k']? = some (some j) → k = k'
section
variable {S : Fs} {H : Hp} {σ : St} {ρ : Env} {τ : List (V × D)} {js : List (Option Nat)}
theorem Rel.blkEx (R : Rel Γ S H σ ρ τ) : ∀ a, exA (S.blk js σ ρ H) (blk js σ) (mblk js ρ) a → exA S σ ρ a := fun a h => by
  rcases h with h | ⟨k, ⟨o, ho⟩, e⟩
  · exact h.1
  · obtain ⟨j, hj, hr⟩ := mblk_of ho (by simp)
    obtain ⟨p, e1, _⟩ := R.own j o hr
    rw [blk_get hj, e1] at e
    cases e
    exact .inr ⟨j, ⟨o, hr⟩, e1⟩
theorem Rel.toBlk (R : Rel Γ S H σ ρ τ) (h1 : Once js) : Rel Γ (S.blk js σ ρ H) H (blk js σ) (mblk js ρ) τ where
  len := by simp [blk, mblk]
  val := fun k d h => by
    obtain ⟨j, hj, hr⟩ := mblk_of h (by simp)
    obtain ⟨v, e, r⟩ := R.val j d hr
    exact ⟨v, by rw [blk_get hj, e]; rfl, r.up (fun b _ => R.blkEx b) fun _ _ _ q => q⟩
  own := fun k o h => by
    obtain ⟨j, hj, hr⟩ := mblk_of h (by simp)
    obtain ⟨p, e, r, n, pn⟩ := R.own j o hr
    have hc := capt_of hj hr e
    exact ⟨p, by rw [blk_get hj, e]; rfl, r.up (fun _ q => q) (fun b _ => R.blkEx b) fun _ _ _ q => q, fun z => z.2 k hc, .inl hc⟩
  pin := fun k p h => by
    obtain ⟨j, o, hj, hr, e⟩ := capt_some h
    exact ⟨by rw [blk_get hj, e]; rfl, o, by rw [mblk_get hj, hr]; rfl⟩
  inj := fun k k' p hk hk' e1 e2 => by
    obtain ⟨o, ho⟩ := hk
    obtain ⟨o', ho'⟩ := hk'
    obtain ⟨j, hj, hr⟩ := mblk_of ho (by simp)
    obtain ⟨j', hj', hr'⟩ := mblk_of ho' (by simp)
    obtain ⟨p1, q1, _⟩ := R.own j o hr
    obtain ⟨p2, q2, _⟩ := R.own j' o' hr'
    rw [blk_get hj, q1] at e1
    rw [blk_get hj', q2] at e2
    cases e1; cases e2
    have := R.inj j j' _ ⟨o, hr⟩ ⟨o', hr'⟩ q1 q2
    subst this
    exact h1 k k' j hj hj'
  dom := fun a h => exA_some R h.1
  fr := fun b o h _ => h
  tmp := fun x hx => (R.tmp x hx).up (fun b _ => R.blkEx b) fun _ _ _ q => q
theorem setOwn_len {ρ : Env} {j : Nat} {o : D} : (setOwn ρ j o).length = ρ.length := by
  unfold setOwn; split <;> simp
theorem setOwn_ne {ρ : Env} {i j : Nat} {o : D} (h : i ≠ j) : (setOwn ρ i o)[j]? = ρ[j]? := by
  unfold setOwn; split
  · exact getElem?_set_ne h
  · rfl
theorem setOwn_at {ρ : Env} {j : Nat} {o : D} (h : isOwn ρ j) : (setOwn ρ j o)[j]? = some (.own o) := by
  obtain ⟨u, hu⟩ := h
  unfold setOwn
  rw [hu]
  dsimp only
  rw [List.getElem?_set, if_pos rfl, if_pos (List.getElem?_eq_some_iff.mp hu).1]
theorem merge1_len {ρ : Env} {x : Option Nat} {s : Slot} : (merge1 ρ x s).length = ρ.length := by
  unfold merge1; split
  · exact setOwn_len
  · rfl
theorem merge1_ne {ρ : Env} {x : Option Nat} {s : Slot} {j : Nat} (h : x = some j → ∀ o, s ≠ .own o) : (merge1 ρ x s)[j]? = ρ[j]? := by
  unfold merge1; split
  · rename_i i o
    exact setOwn_ne fun z => h (by rw [z]) o rfl
  · rfl
theorem merge1_or {ρ : Env} {x : Option Nat} {s : Slot} {j : Nat} : (merge1 ρ x s)[j]? = ρ[j]? ∨ (isOwn ρ j ∧ isOwn (merge1 ρ x s) j) := by
  unfold merge1; split
  · rename_i i o
    by_cases e : i = j
    · subst e
      by_cases h : isOwn ρ i
      · exact .inr ⟨h, o, setOwn_at h⟩
      · refine .inl ?_
        unfold setOwn
        split
        · rename_i u hu; exact absurd ⟨u, hu⟩ h
        · rfl
    · exact .inl (setOwn_ne e)
  · exact .inl rfl
theorem mergeB_len : ∀ {js : List (Option Nat)} {ρb ρ : Env}, (mergeB js ρb ρ).length = ρ.length
  | [], _, _ => by simp [mergeB]
  | x :: js, [], _ => by simp [mergeB]
  | x :: js, s :: ρb, ρ => by rw [mergeB, mergeB_len, merge1_len]
theorem mergeB_or : ∀ {js : List (Option Nat)} {ρb ρ : Env} {j : Nat}, (mergeB js ρb ρ)[j]? = ρ[j]? ∨ (isOwn ρ j ∧ isOwn (mergeB js ρb ρ) j)
  | [], _, _, _ => .inl (by simp [mergeB])
  | x :: js, [], _, _ => .inl (by simp [mergeB])
  | x :: js, s :: ρb, ρ, j => by
    rw [mergeB]
    rcases mergeB_or (js := js) (ρb := ρb) (ρ := merge1 ρ x s) (j := j) with h | ⟨h1, h2⟩
    · rcases merge1_or (ρ := ρ) (x := x) (s := s) (j := j) with g | ⟨g1, g2⟩
      · exact .inl (h.trans g)
      · obtain ⟨o, ho⟩ := g2
        exact .inr ⟨g1, o, h.trans ho⟩
    · refine .inr ⟨?_, h2⟩
      rcases merge1_or (ρ := ρ) (x := x) (s := s) (j := j) with g | ⟨g1, g2⟩
      · obtain ⟨o, ho⟩ := h1
        exact ⟨o, g.symm.trans ho⟩
      · exact g1
theorem mergeB_other : ∀ {js : List (Option Nat)} {ρb ρ : Env} {j : Nat}, (∀ (k : Nat), js[k]? = some (some j) → ∀ o, ρb[k]? ≠ some (Slot.own o)) → (mergeB js ρb ρ)[j]? = ρ[j]?
  | [], _, _, _, _ => by simp [mergeB]
  | x :: js, [], ρ, j, _ => by simp [mergeB]
  | x :: js, s :: ρb, ρ, j, h => by
    have h' : ∀ (k : Nat), js[k]? = some (some j) → ∀ o, ρb[k]? ≠ some (Slot.own o) := fun k hk o => by
      have := h (k + 1) (by simpa using hk) o
      simpa using this
    rw [mergeB, mergeB_other h']
    exact merge1_ne fun e o z => h 0 (by simp [e]) o (by simp [z])
theorem mergeB_at : ∀ {js : List (Option Nat)} {ρb ρ : Env} {j k : Nat} {o : D}, Once js → js[k]? = some (some j) → ρb[k]? = some (Slot.own o) → isOwn ρ j → (mergeB js ρb ρ)[j]? = some (Slot.own o)
  | [], _, _, _, _, _, _, h, _, _ => by simp at h
  | x :: js, [], _, _, _, _, _, _, h, _ => by simp at h
  | x :: js, s :: ρb, ρ, j, k, o, on, h1, h2, hl => by
    have on' : Once js := fun a b i ha hb => by
      have := on (a + 1) (b + 1) i (by simpa using ha) (by simpa using hb)
      omega
    rw [mergeB]
    cases k with
    | zero =>
      simp at h1 h2
      subst h1 h2
      rw [mergeB_other (fun k hk => ?_)]
      · exact setOwn_at hl
      · have := on 0 (k + 1) j rfl (by simpa using hk)
        omega
    | succ k =>
      have h1' : js[k]? = some (some j) := by simpa using h1
      have h2' : ρb[k]? = some (Slot.own o) := by simpa using h2
      refine mergeB_at on' h1' h2' ?_
      rcases merge1_or (ρ := ρ) (x := x) (s := s) (j := j) with g | ⟨_, g2⟩
      · obtain ⟨u, hu⟩ := hl
        exact ⟨u, g.trans hu⟩
      · exact g2
theorem Rel.ofBlk {H2 : Hp} {σb : St} {ρb : Env} {τb : List (V × D)} (R : Rel Γ S H σ ρ τ) (h1 : Once js) (B : Rel Γ (S.blk js σ ρ H) H2 σb ρb τb) :
    Rel Γ S H2 σ (mergeB js ρb ρ) τ ∧ ∀ a, exA S σ (mergeB js ρb ρ) a → exA (S.blk js σ ρ H) σb ρb a := by
  have at_ : ∀ (j : Nat) (o : D), ρ[j]? = some (Slot.own o) → (∃ (k : Nat) (o' : D), js[k]? = some (some j) ∧ ρb[k]? = some (Slot.own o') ∧ (mergeB js ρb ρ)[j]? = some (Slot.own o')) ∨ ((∀ (k : Nat), js[k]? ≠ some (some j)) ∧ (mergeB js ρb ρ)[j]? = some (Slot.own o)) := fun j o ho => by
    by_cases h : ∃ (k : Nat), js[k]? = some (some j)
    · obtain ⟨k, hk⟩ := h
      obtain ⟨p, e, _⟩ := R.own j o ho
      obtain ⟨_, o', ho'⟩ := B.pin k p (capt_of hk ho e)
      exact .inl ⟨k, o', hk, ho', mergeB_at h1 hk ho' ⟨o, ho⟩⟩
    · have h' : ∀ (k : Nat), js[k]? ≠ some (some j) := fun k hk => h ⟨k, hk⟩
      exact .inr ⟨h', by rw [mergeB_other fun k hk => absurd hk (h' k)]; exact ho⟩
  have own_iff : ∀ j, isOwn (mergeB js ρb ρ) j → isOwn ρ j := fun j ⟨o, ho⟩ => by
    rcases mergeB_or (js := js) (ρb := ρb) (ρ := ρ) (j := j) with g | ⟨g, _⟩
    · exact ⟨o, g.symm.trans ho⟩
    · exact g
  have exE : ∀ a, exA S σ (mergeB js ρb ρ) a → exA S σ ρ a := fun a h => by
    rcases h with h | ⟨j, hj, e⟩
    · exact .inl h
    · exact .inr ⟨j, own_iff j hj, e⟩
  have exB : ∀ a, exA S σ ρ a → exA (S.blk js σ ρ H) σb ρb a := fun a h => by
    by_cases hc : ∃ k, capt js σ ρ k = some a
    · obtain ⟨k, hk⟩ := hc
      obtain ⟨e, ow⟩ := B.pin k a hk
      exact .inr ⟨k, ow, e⟩
    · exact .inl ⟨h, fun k z => hc ⟨k, z⟩⟩
  have keepc : ∀ b u, (∀ k, capt js σ ρ k ≠ some b) → H b = some u → H2 b = some u := fun b u n q => B.fr b u q n
  have captEx : ∀ k b, capt js σ ρ k = some b → exA S σ ρ b := fun k b h => by
    obtain ⟨j, o, _, hr, e⟩ := capt_some h
    exact .inr ⟨j, ⟨o, hr⟩, e⟩
  have keep : ∀ b u, ¬ exA S σ ρ b → H b = some u → H2 b = some u := fun b u n q => keepc b u (fun k z => n (captEx k b z)) q
  refine ⟨?_, fun a h => exB a (exE a h)⟩
  exact {
    len := by rw [mergeB_len]; exact R.len
    val := fun j d hj => by
      have hr : ρ[j]? = some (.val d) := by
        rcases mergeB_or (js := js) (ρb := ρb) (ρ := ρ) (j := j) with g | ⟨_, o, g⟩
        · exact g.symm.trans hj
        · rw [hj] at g; cases g
      obtain ⟨v, e, r⟩ := R.val j d hr
      exact ⟨v, e, r.up (fun b _ => exE b) keep⟩
    own := fun j o hj => by
      obtain ⟨o0, ho⟩ := own_iff j ⟨o, hj⟩
      obtain ⟨p, e, r, n, pn⟩ := R.own j o0 ho
      refine ⟨p, e, ?_, n, pn⟩
      rcases at_ j o0 ho with ⟨k, o', hk, ho', hm⟩ | ⟨hk, hm⟩
      · rw [hm] at hj; cases hj
        have hc := capt_of hk ho e
        obtain ⟨e2, _⟩ := B.pin k p hc
        obtain ⟨p', e3, r', _⟩ := B.own k o ho'
        rw [e2] at e3; cases e3
        exact r'.up (fun _ q => q) (fun b _ z => exB b (exE b z)) fun _ _ _ q => q
      · rw [hm] at hj; cases hj
        refine r.up (fun u q => keepc p u (fun k z => ?_) q) (fun b _ => exE b) keep
        obtain ⟨j', o', hk', hr', e'⟩ := capt_some z
        have := R.inj j j' p ⟨o, ho⟩ ⟨o', hr'⟩ e e'
        subst this
        exact hk k hk'
    pin := fun j p hj => by
      obtain ⟨e, o, ho⟩ := R.pin j p hj
      refine ⟨e, ?_⟩
      rcases at_ j o ho with ⟨k, o', _, _, hm⟩ | ⟨_, hm⟩
      · exact ⟨o', hm⟩
      · exact ⟨o, hm⟩
    inj := fun i j p hi hj e1 e2 => R.inj i j p (own_iff i hi) (own_iff j hj) e1 e2
    dom := fun a ha => by
      by_cases hc : ∃ k, capt js σ ρ k = some a
      · obtain ⟨k, hk⟩ := hc
        obtain ⟨e, o, ho⟩ := B.pin k a hk
        obtain ⟨p, e', r, _⟩ := B.own k o ho
        rw [e] at e'; cases e'
        exact r.ne0
      · cases q : H a with
        | none => exact absurd q (R.dom a ha)
        | some u => rw [keepc a u (fun k z => hc ⟨k, z⟩) q]; simp
    fr := fun b u h0 n => by
      refine keepc b u (fun k z => ?_) (R.fr b u h0 n)
      obtain ⟨j, o, _, hr, e⟩ := capt_some z
      obtain ⟨p, e', _, _, pn⟩ := R.own j o hr
      rw [e] at e'; cases e'
      rcases pn with q | ⟨_, q⟩
      · exact n j q
      · rw [q] at h0; cases h0
    tmp := fun x hx => (R.tmp x hx).up (fun b _ => exE b) keep }
end
end
end M
namespace M
open PySem L2
section
variable {Γ : Cn} {pn : List Nat} {fr : Bool}
theorem pinB {S : Fs} {js : List (Option Nat)} {σ : St} {ρ : Env} {H : Hp} : PinOk (pnB js) (S.blk js σ ρ H) := fun k hk => by
  show capt js σ ρ k = none
  cases e : capt js σ ρ k with
  | none => rfl
  | some p =>
    obtain ⟨j, o, hj, _⟩ := capt_some e
    refine absurd (List.mem_filter.mpr ⟨List.mem_range.mpr (List.getElem?_eq_some_iff.mp hj).1, ?_⟩) hk
    rw [hj]; rfl
theorem zip_snoc {α β : Type} {xs : List α} {ys : List β} {x : α} {y : β} (h : ys.length = xs.length) : (xs ++ [x]).zip (ys ++ [y]) = xs.zip ys ++ [(x, y)] := by
  rw [List.zip_append h.symm]; rfl
theorem jf_comp {wi : TI} {js : List (Option Nat)} {g : TG} {tc : TT} {te : TE} {mi : MI} {mg : MG} {mc : MT} {me : ME} (h1 : Once js) (hi : JI Γ pn wi mi) (hg : JG Γ (pnB js) g mg) (hc : JT Γ (pnB js) tc mc) (he : JE Γ (pnB js) te me) :
    JF Γ pn (tComp wi js g tc te) (mComp mi js mg mc me) := fun S σ ρ H τ Q q hp R hm hq =>
  hi S σ ρ H τ _ _ hp R hm fun J ds H1 ρ1 τ' R1 ok ⟨hlen, q1⟩ => by
    have line : (100000 : Nat) < sizeLine := by decide
    refine ⟨fun i m ys σ' H' => m = ds.length - i ∧ i ≤ ds.length ∧ ys.length ≤ i ∧ ∃ ρb acc, acc.length = ys.length ∧ Rel Γ (S.blk js σ ρ1 H1) H' σ' ρb (ys.zip acc ++ (τ' ++ τ)) ∧ compM mg mc me (ds.drop i) acc ρb fun ys ρb => q (.lst ys) (mergeB js ρb ρ1),
      ⟨ds.length, by simp, Nat.zero_le _, Nat.le_refl _, mblk js ρ1, [], rfl, R1.toBlk h1, by simpa using q1⟩, ?_⟩
    rintro i m ys σ2 H2 ⟨rfl, hle, hyl, ρ2, acc, hacc, R2, q2⟩
    obtain ⟨go, stop⟩ := ok (exA (S.blk js σ ρ1 H1) σ2 ρ2) H2 i (fun a z => exA_some R2 z) fun x hx => R2.tmp x (List.mem_append_right _ (List.mem_append_left _ hx))
    by_cases hlt : i < ds.length
    · obtain ⟨g1, g2⟩ := go hlt
      have ed : ds.drop i = ds[i] :: ds.drop (i + 1) := List.drop_eq_getElem_cons hlt
      rw [ed] at q2
      refine .inr ⟨g1, by omega, fun ys' σ' H' => ys'.length ≤ i + 1 ∧ ∃ ρb acc, acc.length = ys'.length ∧ Rel Γ (S.blk js σ ρ1 H1) H' σ' ρb (ys'.zip acc ++ (τ' ++ τ)) ∧ compM mg mc me (ds.drop (i + 1)) acc ρb fun ys ρb => q (.lst ys) (mergeB js ρb ρ1),
        fun ys' σ' H' h => ⟨ds.length - (i + 1), by omega, rfl, hlt, h.1, h.2⟩, fun x H' y => ?_⟩
      obtain ⟨same, d, hd, rx⟩ := g2 x H' y
      rw [List.getElem?_eq_getElem hlt] at hd
      cases hd
      refine hg _ σ2 ρ2 H' _ x _ _ _ pinB (R2.grow same) rx q2 fun σ3 H3 ρ3 R3 q3 => ?_
      refine hc _ σ3 ρ3 H3 _ _ _ pinB R3 q3 fun b H4 ρ4 R4 q4 => ?_
      cases b with
      | false =>
        rw [if_neg Bool.false_ne_true] at q4 ⊢
        exact ⟨by omega, ρ4, acc, hacc, R4, q4⟩
      | true =>
        rw [if_pos rfl] at q4 ⊢
        refine he _ σ3 ρ4 H4 _ _ _ pinB R4 q4 fun y d H5 ρ5 R5 r5 q5 => ?_
        refine ⟨by simp; omega, ρ5, acc ++ [d], by simp [hacc], { R5 with tmp := fun z hz => ?_ }, q5⟩
        rw [zip_snoc hacc] at hz
        rcases List.mem_append.mp hz with hz | hz
        · rcases List.mem_append.mp hz with hz | hz
          · exact R5.tmp z (List.mem_append_left _ hz)
          · have e : z = (y, d) := by simpa using hz
            subst e; exact r5
        · exact R5.tmp z (List.mem_append_right _ hz)
    · have e : i = ds.length := by omega
      subst e
      rw [List.drop_length] at q2
      refine .inl ⟨stop rfl, by omega, fun p hn => ?_⟩
      obtain ⟨R3, sub⟩ := R1.ofBlk h1 R2
      have rs := (R2.pops hacc.symm).2
      have rs' : Reps Γ (exA S σ (mergeB js ρ2 ρ1)) H2 ys acc := rs.up (fun b _ => sub b) fun _ _ _ z => z
      obtain ⟨a, b, c, d⟩ := fresh_lst R3 rs' hn
      exact hq p _ _ _ a.cut b c d q2
theorem own_list {S : Fs} {H : Hp} {σ : St} {ρ : Env} {τ : List (V × D)} {i : Nat} {ds : List D} (R : Rel Γ S H σ ρ τ) (h : ρ[i]? = some (.own (.lst ds))) : ∃ p xs, σ[i]? = some (some (.ref p)) ∧ H p = some (.lst xs) ∧ Reps Γ (exA S σ ρ) H xs ds := by
  obtain ⟨p, e, ⟨xs, hx, r⟩, _⟩ := R.own i _ h
  exact ⟨p, xs, e, hx, r⟩
theorem Rel.lset {S : Fs} {H : Hp} {σ : St} {ρ : Env} {τ : List (V × D)} {i : Nat} {ds es : List D} {p : Addr} {ys : List V} (R : Rel Γ S H σ ρ τ) (h : ρ[i]? = some (.own (.lst ds))) (e : σ[i]? = some (some (.ref p))) (r : Reps Γ (exA S σ ρ) H ys es) :
    Rel Γ S (upd H p (.lst ys)) σ (ρ.set i (.own (.lst es))) τ := by
  have hk : ∀ b u, b ≠ p → H b = some u → upd H p (.lst ys) b = some u := fun b u n q => by rw [upd_ne n]; exact q
  refine R.write h e hk ⟨ys, upd_same, r.up (fun _ _ z => z) fun b o n q => hk b o (fun z => n ?_) q⟩
  rw [z]; exact .inr ⟨i, ⟨_, h⟩, e⟩
def ownL (s : Option Slot) (k : List D → Prop) : Prop := match s with | some (.own (.lst ds)) => k ds | _ => False
theorem ownL_of {s : Option Slot} {k : List D → Prop} (h : ownL s k) : ∃ ds, s = some (.own (.lst ds)) ∧ k ds := by
  unfold ownL at h
  split at h
  · exact ⟨_, rfl, h⟩
  · exact False.elim h
def mMut1 (f : List D → D → (D → List D → Prop) → Prop) (i : Nat) (a : ME) : ME := fun ρ q => ownL ρ[i]? fun _ => a ρ fun d ρ1 => ownL ρ1[i]? fun ds => f ds d fun r es => q r (ρ1.set i (.own (.lst es)))
def fAppend : List D → D → (D → List D → Prop) → Prop := fun ds d q => ds.length < 100000 ∧ q .non (ds ++ [d])
def fExtend : List D → D → (D → List D → Prop) → Prop := fun ds d q => match d with | .lst es => ds.length + es.length ≤ 100000 ∧ q .non (ds ++ es) | _ => False
def fPop : List D → D → (D → List D → Prop) → Prop := fun ds d q => match d with
  | .int j => (0 ≤ j ∧ j.toNat < ds.length ∧ ds.length < 100000) ∧ q (ds.getD j.toNat .non) (ds.eraseIdx j.toNat)
  | _ => False
def mSetIx (i : Nat) (a v : ME) : MS := fun N ρ => v ρ fun d ρ0 => ownL ρ0[i]? fun _ => a ρ0 fun x ρ1 => ownL ρ1[i]? fun ds => match x with
  | .int j => (0 ≤ j ∧ j.toNat < ds.length) ∧ N.nx (ρ1.set i (.own (.lst (ds.set j.toNat d))))
  | _ => False
theorem js_setIx {i : Nat} {tv ta : TE} {v a : ME} (hv : JE Γ pn tv v) (ha : JE Γ pn ta a) : JS Γ pn fr (tAsg tv (gSub (tVar i) ta rSetL)) (mSetIx i a v) := fun S σ ρ H τ D N hp R hm hn hr hb hc =>
  hv S σ ρ H τ _ _ hp R hm fun w d H0 ρ0 R0 r0 q0 => by
    obtain ⟨_, h0, q0⟩ := ownL_of q0
    obtain ⟨p, xs, e, hx, rs⟩ := own_list R0 h0
    refine ⟨_, e, ?_⟩
    refine ha S σ ρ0 H0 ((w, d) :: τ) _ _ hp (R0.push r0) q0 fun y x H1 ρ1 R1 r1 q1 => ?_
    obtain ⟨ds, h1, q1⟩ := ownL_of q1
    cases x with
    | int j =>
      obtain ⟨⟨j0, j1⟩, q1⟩ := q1
      cases rep_int r1
      obtain ⟨p', xs', e', hx', rs'⟩ := own_list R1 h1
      rw [e] at e'; cases e'
      have hl : j.toNat < xs'.length := by rw [rs'.1]; exact j1
      refine ⟨p, xs', j, j.toNat, rfl, rfl, hx', ?_, hn _ _ _ (R1.pop.1.lset h1 e (rs'.set _ R1.pop.2)) q1⟩
      unfold ixN
      rw [if_pos j0, if_pos (by omega)]
    | _ => exact False.elim q1
def lookF : List (Nat × D) → Nat → (D → Prop) → Prop
  | [], _, _ => False
  | (g, d) :: r, f, k => if g = f then k d else lookF r f k
def fFld (f : Nat) : F1 := fun d q => match d with | .obj c fs => 11 ≤ c ∧ lookF fs f q | _ => False
theorem lookup_reps {E : Addr → Prop} {H : Hp} {f : Nat} {k : D → Prop} (hf : f < fNames.length) : ∀ {gs : List (Str × V)} {fs : List (Nat × D)}, (gs.map (·.1) = fs.map fun x => fnm x.1) → Reps Γ E H (gs.map (·.2)) (fs.map (·.2)) → lookF fs f k → ∃ v d, gs.lookup (fnm f) = some v ∧ Rep Γ E H v d ∧ k d
  | [], [], _, _, h => False.elim h
  | [], _ :: _, h, _, _ => by cases h
  | _ :: _, [], h, _, _ => by cases h
  | (a, v) :: gs, (b, e) :: fs, h, r, hl => by
    simp only [List.map_cons, List.cons.injEq] at h
    obtain ⟨rfl, h⟩ := h
    have r' : Reps Γ E H (v :: gs.map (·.2)) (e :: fs.map (·.2)) := r
    have hl : (if b = f then k e else lookF fs f k) := hl
    by_cases q : b = f
    · subst q
      rw [if_pos rfl] at hl
      exact ⟨v, e, by simp, r'.head, hl⟩
    · rw [if_neg q] at hl
      have hne : (fnm f == fnm b) = false := beq_eq_false_iff_ne.mpr fun z => q (fnm_inj b f hf z.symm)
      obtain ⟨w, d, h1, h2⟩ := lookup_reps hf h r'.tail hl
      exact ⟨w, d, by rw [List.lookup_cons, hne]; exact h1, h2⟩
def NoAt (Γ : Cn) (f : Str) : Prop := ∀ c C, 11 ≤ c → Γ.cls c = some C → Cls Γ.K C ∧ NoAttr Γ.K C f
theorem je_fld {f : Nat} {ta : TE} {a : MO} (hf : f < fNames.length) (hn : NoAt Γ (fnm f)) (ha : JO Γ pn ta a) : JE Γ pn (tFld Γ.K ta (fnm f)) (mOp1 (fFld f) a) := fun S σ ρ H τ Q q hp R hm hq =>
  ha S σ ρ H τ _ _ hp R hm fun v r1 H1 ρ1 τ1 R1 o1 q1 => by
    obtain ⟨dx, rx, q1⟩ := R1.read o1 q1
    cases dx with
    | obj c fs =>
      obtain ⟨x, C, dx, gs, rfl, hc, hx, hl, rs⟩ := rx
      obtain ⟨h11, q1⟩ := q1
      obtain ⟨w, d, hw, rw', q1⟩ := lookup_reps hf hl rs q1
      exact ⟨x, C, dx, gs, w, rfl, hx, (hn c C h11 hc).1, (hn c C h11 hc).2, hw, hq w d H1 ρ1 R1.cut rw' q1⟩
    | _ => exact False.elim q1
def putD (f : Nat) (d : D) : List (Nat × D) → List (Nat × D)
  | [] => [(f, d)]
  | (g, e) :: r => if g = f then (g, d) :: r else (g, e) :: putD f d r
theorem putD_rep {E : Addr → Prop} {H : Hp} {f : Nat} {v : V} {d : D} (hf : f < fNames.length) (rv : Rep Γ E H v d) : ∀ {gs : List (Str × V)} {fs : List (Nat × D)}, (gs.map (·.1) = fs.map fun x => fnm x.1) → Reps Γ E H (gs.map (·.2)) (fs.map (·.2)) →
    ((putF (fnm f) v gs).map (·.1) = (putD f d fs).map fun x => fnm x.1) ∧ Reps Γ E H ((putF (fnm f) v gs).map (·.2)) ((putD f d fs).map (·.2))
  | [], [], _, _ => ⟨rfl, .cons rv .nil⟩
  | [], _ :: _, h, _ => by cases h
  | _ :: _, [], h, _ => by cases h
  | (a, w) :: gs, (b, e) :: fs, h, r => by
    simp only [List.map_cons, List.cons.injEq] at h
    obtain ⟨rfl, h⟩ := h
    have r' : Reps Γ E H (w :: gs.map (·.2)) (e :: fs.map (·.2)) := r
    by_cases q : b = f
    · subst q
      rw [show putF (fnm b) v ((fnm b, w) :: gs) = (fnm b, v) :: gs from if_pos rfl, show putD b d ((b, e) :: fs) = (b, d) :: fs from if_pos rfl]
      exact ⟨by simp [h], .cons rv r'.tail⟩
    · have hne : ¬ fnm b = fnm f := fun z => q (fnm_inj b f hf z)
      rw [show putF (fnm f) v ((fnm b, w) :: gs) = (fnm b, w) :: putF (fnm f) v gs from if_neg hne, show putD f d ((b, e) :: fs) = (b, e) :: putD f d fs from if_neg q]
      obtain ⟨i1, i2⟩ := putD_rep hf rv h r'.tail
      exact ⟨by rw [List.map_cons, List.map_cons, i1], .cons r'.head i2⟩
def ownO (s : Option Slot) (k : Nat → List (Nat × D) → Prop) : Prop := match s with | some (.own (.obj c fs)) => k c fs | _ => False
theorem ownO_of {s : Option Slot} {k : Nat → List (Nat × D) → Prop} (h : ownO s k) : ∃ c fs, s = some (.own (.obj c fs)) ∧ k c fs := by
  unfold ownO at h
  split at h
  · exact ⟨_, _, rfl, h⟩
  · exact False.elim h
def mSetF (i : Nat) (f : Nat) (m : ME) : MS := fun N ρ => m ρ fun d ρ1 => ownO ρ1[i]? fun c fs => 11 ≤ c ∧ fs.length < 100 ∧ N.nx (ρ1.set i (.own (.obj c (putD f d fs))))
theorem js_setF {i f : Nat} {tv : TE} {m : ME} (hf : f < fNames.length) (hn : NoAt Γ (fnm f)) (hv : JE Γ pn tv m) : JS Γ pn fr (sFld Γ.K (tVar i) tv (fnm f)) (mSetF i f m) := fun S σ ρ H τ D N hp R hm hnx hr hb hc =>
  hv S σ ρ H τ _ _ hp R hm fun w d H1 ρ1 R1 r1 q1 => by
    obtain ⟨c, fs, h1, h11, hl, q1⟩ := ownO_of q1
    obtain ⟨p, e, ⟨C, dx, gs, hc', hx, hk, rs⟩, _⟩ := R1.own i _ h1
    have hlen : gs.length = fs.length := by have := congrArg List.length hk; simpa using this
    have keep : ∀ b u, b ≠ p → H1 b = some u → upd H1 p (.ins C dx (putF (fnm f) w gs)) b = some u := fun b u n q => by rw [upd_ne n]; exact q
    obtain ⟨k1, k2⟩ := putD_rep hf r1 hk rs
    refine ⟨_, e, p, C, dx, gs, rfl, hx, (hn c C h11 hc').1, (hn c C h11 hc').2, by omega, hnx _ _ _ (R1.write (o' := .obj c (putD f d fs)) h1 e keep ⟨C, dx, _, hc', upd_same, k1, k2.up (fun _ _ z => z) fun b o n q => keep b o (fun z => n ?_) q⟩) q1⟩
    rw [z]; exact .inr ⟨i, ⟨_, h1⟩, e⟩
end
end M
namespace M
open PySem L2
abbrev PSp := List Slot → (D → List D → Prop) → (D → List D → Prop) → Prop
def pinD : List Nat → Env → (List D → Prop) → Prop
  | [], _, k => k []
  | i :: r, ρ, k => match ρ[i]? with | some (.own o) => pinD r ρ fun os => k (o :: os) | _ => False
def Pins (pn : List Nat) (ρ : Env) (os : List D) : Prop := os.length = pn.length ∧ ∀ (k i : Nat) o, pn[k]? = some i → os[k]? = some o → ρ[i]? = some (.own o)
theorem pinD_of : ∀ {pn : List Nat} {ρ : Env} {k : List D → Prop}, pinD pn ρ k → ∃ os, Pins pn ρ os ∧ k os
  | [], ρ, k, h => ⟨[], ⟨rfl, fun k i o h => by simp at h⟩, h⟩
  | i :: r, ρ, k, h => by
    unfold pinD at h
    split at h
    · rename_i o ho
      obtain ⟨os, ⟨hl, hp⟩, hk⟩ := pinD_of h
      refine ⟨o :: os, ⟨by simp [hl], fun j x u h1 h2 => ?_⟩, hk⟩
      cases j with
      | zero => simp at h1 h2; subst h1 h2; exact ho
      | succ j => simp at h1 h2; exact hp j x u h1 h2
    · exact False.elim h
def Z0 : D → List D → Prop := fun _ _ => False
def spM (Γ : Cn) (pn : List Nat) (fr : Bool) (n : Nat) (p : PSp) : Sp := fun vs H Q _ => vs.length = n ∧ ∃ (S : Fs) (ss : List Slot) (q : D → List D → Prop), PinOk pn S ∧ S.H0 = H ∧ Rel Γ S H (vs.map some) ss [] ∧ p ss q Z0 ∧
  ∀ v d H' σ' ρ' os, RR Γ fr S σ' ρ' H' [] v d → Pins pn ρ' os → q d os → Q v H'
section
variable {Γ : Cn} {pn : List Nat} {fr : Bool}
theorem get_more {α : Type} {l : List α} {n i : Nat} {x y : α} (h : (l ++ List.replicate n x)[i]? = some y) (hy : y ≠ x) : l[i]? = some y := by
  by_cases hi : i < l.length
  · rwa [List.getElem?_append_left hi] at h
  · rw [List.getElem?_append_right (by omega), List.getElem?_replicate] at h
    split at h
    · cases h; exact absurd rfl hy
    · cases h
theorem get_less {α : Type} {l m : List α} {i : Nat} {y : α} (h : l[i]? = some y) : (l ++ m)[i]? = some y := by
  rw [List.getElem?_append_left (List.getElem?_eq_some_iff.mp h).1]; exact h
theorem Rel.ext {S : Fs} {H : Hp} {σ : St} {ρ : Env} {τ : List (V × D)} (R : Rel Γ S H σ ρ τ) (n : Nat) : Rel Γ S H (σ ++ List.replicate n none) (ρ ++ List.replicate n .no) τ := by
  have ow : ∀ i, isOwn (ρ ++ List.replicate n .no) i → isOwn ρ i := fun i ⟨o, h⟩ => ⟨o, get_more h (by simp)⟩
  have he : ∀ b, exA S (σ ++ List.replicate n none) (ρ ++ List.replicate n .no) b → exA S σ ρ b := fun b h => by
    rcases h with h | ⟨i, hi, e⟩
    · exact .inl h
    · exact .inr ⟨i, ow i hi, get_more e (by simp)⟩
  exact {
    len := by simp [R.len]
    val := fun i d h => let ⟨v, e, r⟩ := R.val i d (get_more h (by simp)); ⟨v, get_less e, r.up (fun b _ => he b) fun _ _ _ z => z⟩
    own := fun i o h => let ⟨p, e, r, q⟩ := R.own i o (get_more h (by simp)); ⟨p, get_less e, r.up (fun _ z => z) (fun b _ => he b) fun _ _ _ z => z, q⟩
    pin := fun i p h => let ⟨e, o, q⟩ := R.pin i p h; ⟨get_less e, o, get_less q⟩
    inj := fun i j p hi hj e1 e2 => R.inj i j p (ow i hi) (ow j hj) (get_more e1 (by simp)) (get_more e2 (by simp))
    dom := R.dom
    fr := R.fr
    tmp := fun x hx => (R.tmp x hx).up (fun b _ => he b) fun _ _ _ z => z }
theorem rel_args {S : Fs} {H : Hp} {σ : St} {ρ : Env} {τ : List (V × D)} {vs : List V} {ds : List D} (R : Rel Γ S H σ ρ τ) (r : Reps Γ (exA S σ ρ) H vs ds) :
    Rel Γ ⟨exA S σ ρ, H, fun _ => none⟩ H (vs.map some) (ds.map .val) [] := by
  have no : ∀ i, ¬ isOwn (ds.map Slot.val) i := fun i ⟨o, h⟩ => by
    rw [List.getElem?_map] at h
    cases e : ds[i]? with
    | none => rw [e] at h; cases h
    | some d => rw [e] at h; cases h
  have he : ∀ b, exA ⟨exA S σ ρ, H, fun _ => none⟩ (vs.map some) (ds.map .val) b → exA S σ ρ b := fun b h => h.elim id fun ⟨i, hi, _⟩ => absurd hi (no i)
  exact {
    len := by simp [r.1]
    val := fun i d h => by
      rw [List.getElem?_map] at h
      cases e : ds[i]? with
      | none => rw [e] at h; cases h
      | some d' =>
        rw [e] at h; cases h
        obtain ⟨v, h1, h2⟩ := r.get e
        exact ⟨v, by rw [List.getElem?_map, h1]; rfl, h2.up (fun b _ => he b) fun _ _ _ z => z⟩
    own := fun i o h => absurd ⟨o, h⟩ (no i)
    pin := fun i p h => by cases h
    inj := fun i j p hi => absurd hi (no i)
    dom := fun a h => exA_some R h
    fr := fun b o h _ => h
    tmp := fun x h => nomatch h }
def mCall (p : PSp) (a : MA) : ME := fun ρ q => a ρ fun ds ρ1 => p (ds.map .val) (fun d _ => q d ρ1) Z0
theorem after_pure {S : Fs} {H H' : Hp} {σ σ' : St} {ρ ρ' : Env} {τ : List (V × D)} {v : V} {d : D} (R : Rel Γ S H σ ρ τ) (R' : Rel Γ ⟨exA S σ ρ, H, fun _ => none⟩ H' σ' ρ' []) (r : Rep Γ (exA ⟨exA S σ ρ, H, fun _ => none⟩ σ' ρ') H' v d) :
    Rel Γ S H' σ ρ τ ∧ Rep Γ (exA S σ ρ) H' v d :=
  ⟨R.grow fun b o h => R'.fr b o h fun i => by simp, r.up (fun b _ z => .inl z) fun _ _ _ z => z⟩
theorem je_call {n : Nat} {p : PSp} {ta : TA} {a : MA} (ha : JA Γ pn ta a) (hn : ∀ ss q, p ss q Z0 → ss.length = n) : JE Γ pn (tCall (spM Γ [] false n p) [] E0 ta) (mCall p a) := fun S σ ρ H τ Q q hp R hm hq =>
  ha S σ ρ H τ _ _ hp R hm fun vs ds H1 ρ1 R1 r1 q1 => by
    rw [List.append_nil]
    have hl := hn _ _ q1
    refine ⟨by rw [r1.1]; simpa using hl, ⟨exA S σ ρ1, H1, fun _ => none⟩, ds.map .val, _, fun _ _ => rfl, rfl, rel_args R1 r1, q1, fun v d H' σ' ρ' os ⟨R', r'⟩ _ q' => ?_⟩
    obtain ⟨a, b⟩ := after_pure R1 R' r'
    exact hq v d H' ρ1 a b q'
def mCall0 (j : Nat) (p : PSp) (a : MA) : ME := fun ρ q => match ρ[j]? with
  | some (.own _) => a ρ fun ds ρ1 => match ρ1[j]? with
    | some (.own o) => p (.own o :: ds.map .val) (fun d os => match os with | [o'] => q d (ρ1.set j (.own o')) | _ => False) Z0
    | _ => False
  | _ => False
def pin0 (x : Addr) : Nat → Option Addr := fun i => if i = 0 then some x else none
theorem rel_args0 {S : Fs} {H : Hp} {σ : St} {ρ : Env} {τ : List (V × D)} {vs : List V} {ds : List D} {E : Addr → Prop} {x : Addr} {o : D} (hd : ∀ a, E a → H a ≠ none) (r : Reps Γ (fun a => E a ∨ a = x) H vs ds) (ow : OwnAt Γ (fun a => E a ∨ a = x) H x o) (nx : ¬ E x) :
    Rel Γ ⟨E, H, pin0 x⟩ H (some (.ref x) :: vs.map some) (.own o :: ds.map .val) [] := by
  have no : ∀ i, isOwn (.own o :: ds.map Slot.val) i → i = 0 := fun i ⟨u, h⟩ => by
    cases i with
    | zero => rfl
    | succ i =>
      rw [List.getElem?_cons_succ, List.getElem?_map] at h
      cases e : ds[i]? with
      | none => rw [e] at h; cases h
      | some d => rw [e] at h; cases h
  have he : ∀ b, exA ⟨E, H, pin0 x⟩ (some (.ref x) :: vs.map some) (.own o :: ds.map .val) b → E b ∨ b = x := fun b h => h.elim .inl fun ⟨i, hi, e⟩ => by
    have := no i hi
    subst this
    simp at e
    exact .inr e.symm
  exact {
    len := by simp [r.1]
    val := fun i d h => by
      cases i with
      | zero => simp at h
      | succ i =>
        rw [List.getElem?_cons_succ, List.getElem?_map] at h
        cases e : ds[i]? with
        | none => rw [e] at h; cases h
        | some d' =>
          rw [e] at h; cases h
          obtain ⟨v, h1, h2⟩ := r.get e
          exact ⟨v, by rw [List.getElem?_cons_succ, List.getElem?_map, h1]; rfl, h2.up (fun b _ => he b) fun _ _ _ z => z⟩
    own := fun i u h => by
      have := no i ⟨u, h⟩
      subst this
      simp at h
      subst h
      exact ⟨x, rfl, ow.up (fun _ z => z) (fun b _ => he b) fun _ _ _ z => z, nx, .inl rfl⟩
    pin := fun i p h => by
      unfold pin0 at h
      dsimp only at h
      split at h
      · cases h; rename_i hi; subst hi; exact ⟨rfl, o, rfl⟩
      · cases h
    inj := fun i j p hi hj _ _ => by rw [no i hi, no j hj]
    dom := hd
    fr := fun b u h _ => h
    tmp := fun y h => nomatch h }
theorem pins0 {ρ' : Env} {os : List D} (h : Pins [0] ρ' os) : ∃ o, os = [o] ∧ ρ'[0]? = some (.own o) := by
  obtain ⟨hl, hp⟩ := h
  match os, hl with
  | [o], _ => exact ⟨o, rfl, hp 0 0 o rfl rfl⟩
theorem after_own {H H' : Hp} {E : Addr → Prop} {x : Addr} {σ' : St} {ρ' : Env} {o : D} (R' : Rel Γ ⟨E, H, pin0 x⟩ H' σ' ρ' []) (ho : ρ'[0]? = some (.own o)) :
    (∀ b u, b ≠ x → H b = some u → H' b = some u) ∧ OwnAt Γ (exA ⟨E, H, pin0 x⟩ σ' ρ') H' x o ∧ ∀ b, (E b ∨ b = x) → exA ⟨E, H, pin0 x⟩ σ' ρ' b := by
  obtain ⟨e0, w0⟩ := R'.pin 0 x (by show (if (0 : Nat) = 0 then some x else none) = _; rfl)
  obtain ⟨p, e1, ow, _⟩ := R'.own 0 o ho
  rw [e0] at e1; cases e1
  refine ⟨fun b u hb h => R'.fr b u h fun i => ?_, ow, fun b hb => ?_⟩
  · show (if i = 0 then some x else none) ≠ some b
    split
    · intro z; cases z; exact hb rfl
    · intro z; cases z
  · rcases hb with hb | hb
    · exact .inl hb
    · subst hb; exact .inr ⟨0, w0, e0⟩
theorem je_call0 {n j : Nat} {p : PSp} {ta : TA} {a : MA} (ha : JA Γ pn ta a) (hn : ∀ ss q, p ss q Z0 → ss.length = n) : JE Γ pn (tCall (spM Γ [0] false n p) [] E0 (tCons (tVar j) ta)) (mCall0 j p a) := fun S σ ρ H τ Q q hp R hm hq => by
  unfold mCall0 at hm
  split at hm
  · rename_i o0 h0
    obtain ⟨x, e, _⟩ := R.own j o0 h0
    refine ⟨_, e, ?_⟩
    refine ha S σ ρ H τ _ _ hp R hm fun vs ds H1 ρ1 R1 r1 q1 => ?_
    show spM Γ [0] false n p ((V.ref x :: vs) ++ []) H1 Q E0
    rw [List.append_nil]
    split at q1
    · rename_i o h1
      obtain ⟨x', e', ow, nC, _⟩ := R1.own j o h1
      rw [e] at e'; cases e'
      have ex1 : ∀ b, (exA S σ ρ1 b ∧ b ≠ x) ∨ b = x → exA S σ ρ1 b := fun b h => h.elim And.left fun z => by rw [z]; exact .inr ⟨j, ⟨o, h1⟩, e⟩
      have ex2 : ∀ b, exA S σ ρ1 b → (exA S σ ρ1 b ∧ b ≠ x) ∨ b = x := fun b h => by
        by_cases z : b = x
        · exact .inr z
        · exact .inl ⟨h, z⟩
      have hl := hn _ _ q1
      refine ⟨by have := r1.1; simp at hl; simp; omega, ⟨fun a => exA S σ ρ1 a ∧ a ≠ x, H1, pin0 x⟩, _, _, fun i hi => ?_, rfl,
        rel_args0 (S := S) (σ := σ) (ρ := ρ1) (τ := τ) (fun a h => exA_some R1 h.1) (r1.up (fun b _ => ex1 b) fun _ _ _ z => z) (ow.up (fun _ z => z) (fun b _ => ex1 b) fun _ _ _ z => z) (fun z => z.2 rfl), q1, fun v d H' σ' ρ' os ⟨R', r'⟩ ps q' => ?_⟩
      · show (if i = 0 then some x else none) = none
        rw [if_neg (by simpa using hi)]
      · obtain ⟨o', rfl, ho'⟩ := pins0 ps
        obtain ⟨k1, k2, k3⟩ := after_own R' ho'
        have k2' : OwnAt Γ (exA S σ ρ1) H' x o' := k2.up (fun _ z => z) (fun b _ z => k3 b (ex2 b z)) fun _ _ _ z => z
        refine hq v d H' _ (R1.write h1 e k1 k2') (r'.up (fun b _ z => k3 b (ex2 b ?_)) fun _ _ _ z => z) q'
        rcases z with z | ⟨i, ⟨u, hu⟩, ei⟩
        · exact .inl z
        · by_cases ij : j = i
          · subst ij; exact .inr ⟨j, ⟨o, h1⟩, ei⟩
          · rw [getElem?_set_ne ij] at hu; exact .inr ⟨i, ⟨u, hu⟩, ei⟩
    · exact False.elim q1
  · exact False.elim hm
def mMake (c : Nat) (p : PSp) (a : MA) : ME := fun ρ q => a ρ fun ds ρ1 => p (.own (.obj c []) :: ds.map .val) (fun d os => match d, os with | .non, [o] => q o ρ1 | _, _ => False) Z0
theorem Rel.addS {S : Fs} {H H' : Hp} {σ : St} {ρ : Env} {τ : List (V × D)} (R : Rel Γ S H σ ρ τ) {p : Addr} (hp : H p = none) (g : Same H H') (hn : H' p ≠ none) : Rel Γ (S.add p) H' σ ρ τ := by
  have he : ∀ b, H b ≠ none → exA (S.add p) σ ρ b → exA S σ ρ b := fun b hb h => by
    rcases h with (h | h) | h
    · exact .inl h
    · subst h; exact absurd hp hb
    · exact .inr h
  exact {
    len := R.len
    val := fun i d h => let ⟨v, e, r⟩ := R.val i d h; ⟨v, e, r.up he fun b o _ q => g b o q⟩
    own := fun i o h => by
      obtain ⟨q, e, r, n, pn⟩ := R.own i o h
      refine ⟨q, e, r.up (fun u => g q u) he fun b o _ q => g b o q, ?_, pn⟩
      rintro (z | z)
      · exact n z
      · subst z; exact r.ne0 hp
    pin := R.pin
    inj := R.inj
    dom := fun a h => by
      rcases h with h | h
      · cases e : H a with
        | none => exact absurd e (R.dom a h)
        | some u => rw [g a u e]; simp
      · subst h; exact hn
    fr := fun b o h n => g b o (R.fr b o h n)
    tmp := fun x hx => (R.tmp x hx).up he fun b o _ q => g b o q }
theorem jf_call {n : Nat} {p : PSp} {ta : TA} {a : MA} (ha : JA Γ pn ta a) (hn : ∀ ss q, p ss q Z0 → ss.length = n) : JF Γ pn (tCall (spM Γ [] true n p) [] E0 ta) (mCall p a) := fun S σ ρ H τ Q q hp R hm hq =>
  ha S σ ρ H τ _ _ hp R hm fun vs ds H1 ρ1 R1 r1 q1 => by
    rw [List.append_nil]
    have hl := hn _ _ q1
    refine ⟨by rw [r1.1]; simpa using hl, ⟨exA S σ ρ1, H1, fun _ => none⟩, ds.map .val, _, fun _ _ => rfl, rfl, rel_args R1 r1, q1, fun v d H' σ' ρ' os ⟨p, e, R', ow, h0, ne⟩ _ q' => ?_⟩
    subst e
    have h0 : H1 p = none := h0
    have same : Same H1 H' := fun b o h => R'.fr b o h fun i => by show (none : Option Addr) ≠ some b; simp
    refine hq p d H' ρ1 (R1.addS h0 same ow.ne0) (ow.up (fun _ z => z) (fun b _ z => ?_) fun _ _ _ z => z) (R1.new h0) (fun z => exA_some R1 z h0) q'
    rcases z with (z | z) | z
    · exact .inl (.inl (.inl z))
    · exact .inl (.inr z)
    · exact .inl (.inl (.inr z))
def mMeth (tbl : Nat → Option PSp) (a : ME) (r : MA) : ME := fun ρ q => a ρ fun x ρ1 => match x with
  | .obj c fs => match tbl c with
    | some p => r ρ1 fun ds ρ2 => p (.val (.obj c fs) :: ds.map .val) (fun d _ => q d ρ2) Z0
    | none => False
  | _ => False
end
section
variable {X : Cx} {m : Str} {disp : Addr → Sp → Prop} {pos apos : Pos} {e o : Expr} {es : List Expr} {ta : TE} {t : TA}
end
end M
namespace M
open PySem L2
section
variable {Γ : Cn} {pn : List Nat}
theorem repB_flat {E : Addr → Prop} {H : Hp} {v : V} {d : D} (r : RepB Γ E H v d) (h : flatD d = true) : v = vD d := by
  cases d with
  | non => exact Rep.flat (show Rep Γ E H v .non from r) rfl
  | bl b => exact Rep.flat (show Rep Γ E H v (.bl b) from r) rfl
  | int b => exact Rep.flat (show Rep Γ E H v (.int b) from r) rfl
  | str b => exact Rep.flat (show Rep Γ E H v (.str b) from r) rfl
  | ty b => exact Rep.flat (show Rep Γ E H v (.ty b) from r) rfl
  | _ => cases h
theorem repB_int {E : Addr → Prop} {H : Hp} {v : V} {i : Int} (r : RepB Γ E H v (.int i)) : v = .int i := repB_flat r rfl
theorem repB_str {E : Addr → Prop} {H : Hp} {v : V} {i : Str} (r : RepB Γ E H v (.str i)) : v = .str i := repB_flat r rfl
theorem repB_bl {E : Addr → Prop} {H : Hp} {v : V} {i : Bool} (r : RepB Γ E H v (.bl i)) : v = .bl i := repB_flat r rfl
def fI0 (g : Int → Int → D) : F2 := fun x y q => match x, y with | .int i, .int j => q (g i j) | _, _ => False
def fI (C : Int → Int → Prop) (g : Int → Int → D) : F2 := fun x y q => match x, y with | .int i, .int j => C i j ∧ q (g i j) | _, _ => False
theorem ok_I0 {gv : Int → Int → V} {g : Int → Int → D} (hf : ∀ i j, flatD (g i j) = true) (hv : ∀ i j, gv i j = vD (g i j)) : OpOk Γ (rI0 gv) (fI0 g) := fun E H x y dx dy Q q _ rx ry h k => by
  unfold fI0 at h
  split at h
  · rename_i i j
    refine ⟨i, j, repB_int rx, repB_int ry, k _ _ H (Same.refl H) ?_ h⟩
    rw [hv]; exact rep_flat (hf i j)
  · exact False.elim h
theorem ok_I {C : Int → Int → Prop} {gv : Int → Int → V} {g : Int → Int → D} (hf : ∀ i j, flatD (g i j) = true) (hv : ∀ i j, gv i j = vD (g i j)) : OpOk Γ (rI C gv) (fI C g) := fun E H x y dx dy Q q _ rx ry h k => by
  unfold fI at h
  split at h
  · rename_i i j
    refine ⟨i, j, repB_int rx, repB_int ry, h.1, k _ _ H (Same.refl H) ?_ h.2⟩
    rw [hv]; exact rep_flat (hf i j)
  · exact False.elim h
def fNeg : F1 := fun x q => match x with | .int i => q (.int (-i)) | _ => False
theorem ok_neg : Op1Ok Γ (rU fun i => .int (-i)) fNeg := fun E H x dx Q q _ rx h k => by
  cases dx with
  | int i => exact ⟨i, repB_int rx, k _ _ H (Same.refl H) (.int _) h⟩
  | _ => exact False.elim h
def eqS : D → D → Option Bool
  | .non, .non => some true
  | .non, .int _ => some false | .int _, .non => some false | .non, .bl _ => some false | .bl _, .non => some false | .non, .str _ => some false | .str _, .non => some false
  | .int i, .int j => some (decide (i = j))
  | .bl a, .bl b => some (decide (a = b))
  | .str a, .str b => some (decide (a = b))
  | .int _, .str _ => some false | .str _, .int _ => some false | .bl _, .str _ => some false | .str _, .bl _ => some false
  | _, _ => none
theorem dec_eq {α β : Type} [DecidableEq α] [DecidableEq β] {f : α → β} (hf : ∀ a b, f a = f b → a = b) (a b : α) : decide (f a = f b) = decide (a = b) := by
  by_cases h : a = b
  · subst h; simp
  · rw [decide_eq_false h, decide_eq_false fun z => h (hf a b z)]
theorem eqS_ok {x y : D} {b : Bool} (h : eqS x y = some b) : flatD x = true ∧ flatD y = true ∧ scal (vD x) (vD y) = true ∧ decide (vD x = vD y) = b := by
  unfold eqS at h
  split at h <;> first
    | (cases h; refine ⟨rfl, rfl, rfl, ?_⟩; first | rfl | (simp [vD]) | exact dec_eq (fun _ _ z => by injection z) _ _)
    | cases h
def fEq : F2 := fun x y q => match eqS x y with | some b => q (.bl b) | none => False
def fNe : F2 := fun x y q => match eqS x y with | some b => q (.bl (!b)) | none => False
theorem ok_eq : OpOk Γ rEq fEq := fun E H x y dx dy Q q _ rx ry h k => by
  unfold fEq at h
  split at h
  · rename_i b hb
    obtain ⟨f1, f2, s, e⟩ := eqS_ok hb
    rw [repB_flat rx f1, repB_flat ry f2]
    exact ⟨s, by rw [e]; exact k _ _ H (Same.refl H) (.bl _) h⟩
  · exact False.elim h
theorem ok_ne : OpOk Γ rNe fNe := fun E H x y dx dy Q q _ rx ry h k => by
  unfold fNe at h
  split at h
  · rename_i b hb
    obtain ⟨f1, f2, s, e⟩ := eqS_ok hb
    rw [repB_flat rx f1, repB_flat ry f2]
    exact ⟨s, by rw [e]; exact k _ _ H (Same.refl H) (.bl _) h⟩
  · exact False.elim h
def isNon : D → Bool | .non => true | _ => false
def fIsN : F2 := fun x y q => match y with | .non => q (.bl (isNon x)) | _ => False
def fNotN : F2 := fun x y q => match y with | .non => q (.bl (!isNon x)) | _ => False
theorem isNon_ok {E : Addr → Prop} {H : Hp} {v : V} {d : D} (r : RepB Γ E H v d) : decide (v = .non) = isNon d := by
  cases d with
  | non => rw [repB_flat r rfl]; rfl
  | bl b => rw [repB_flat r rfl]; rfl
  | int b => rw [repB_flat r rfl]; rfl
  | str b => rw [repB_flat r rfl]; rfl
  | ty b => rw [repB_flat r rfl]; rfl
  | lst ds => obtain ⟨a, _, rfl, _⟩ := r; rfl
  | tup ds => obtain ⟨a, _, rfl, _⟩ := Rep.tuple r; rfl
  | fz ds => obtain ⟨a, rfl, _⟩ := Rep.script r; rfl
  | dK ds => obtain ⟨a, _, rfl, _⟩ := r; rfl
  | dT ds => obtain ⟨a, _, rfl, _⟩ := r; rfl
  | obj c fs => obtain ⟨a, _, _, _, rfl, _⟩ := r; rfl
  | exc k => cases r; rfl
theorem ok_isN : OpOk Γ (fun x y H Q => y = .non ∧ Q (.bl (decide (x = .non))) H) fIsN := fun E H x y dx dy Q q _ rx ry h k => by
  cases dy with
  | non => refine ⟨repB_flat ry rfl, ?_⟩; rw [isNon_ok rx]; exact k _ _ H (Same.refl H) (.bl _) h
  | _ => exact False.elim h
def fIsB : F2 := fun x y q => match x, y with | .bl a, .bl b => q (.bl (a == b)) | _, _ => False
def fIsNB : F2 := fun x y q => match x, y with | .bl a, .bl b => q (.bl (a != b)) | _, _ => False
def fAddS : F2 := fun x y q => match x, y with | .str a, .str b => a.length + b.length ≤ 100000 ∧ q (.str (a ++ b)) | _, _ => False
theorem ok_addS : OpOk Γ (fun x y H Q => ∃ i j, x = .str i ∧ y = .str j ∧ i.length + j.length ≤ sizeLine ∧ Q (.str (i ++ j)) H) fAddS := fun E H x y dx dy Q q _ rx ry h k => by
  unfold fAddS at h
  split at h
  · exact ⟨_, _, repB_str rx, repB_str ry, Nat.le_trans h.1 (by decide), k _ _ H (Same.refl H) (.str _) h.2⟩
  · exact False.elim h
def fLeS : F2 := fun x y q => match x, y with | .str a, .str b => q (.bl (!decide (b.cps.toList < a.cps.toList))) | _, _ => False
theorem ok_leS : OpOk Γ (fun x y H Q => ∃ i j, x = .str i ∧ y = .str j ∧ Q (.bl (!(decide (j.cps.toList < i.cps.toList)))) H) fLeS := fun E H x y dx dy Q q _ rx ry h k => by
  unfold fLeS at h
  split at h
  · exact ⟨_, _, repB_str rx, repB_str ry, k _ _ H (Same.refl H) (.bl _) h⟩
  · exact False.elim h
def eqF : D → D → Bool
  | .non, .non => true
  | .bl a, .bl b => a == b
  | .bl a, .int b => (if a then 1 else 0) == b
  | .int a, .bl b => a == (if b then 1 else 0)
  | .int a, .int b => a == b
  | .str a, .str b => a == b
  | _, _ => false
def flat4 : D → Bool | .non => true | .bl _ => true | .int _ => true | .str _ => true | _ => false
def inD (x : D) (ds : List D) : Bool := ds.any fun y => eqF y x
def itemsOf : D → Option (List D)
  | .lst ds => some ds
  | .tup ds => some ds
  | _ => none
def fIn (neg : Bool) : F2 := fun x y q => match itemsOf y with
  | some ds => flat4 x = true ∧ ds.all flat4 = true ∧ q (.bl (if neg then !inD x ds else inD x ds))
  | none => False
def fIxL : F2 := fun x y q => match x, y with
  | .lst ds, .int i => match ixN ds.length i with | some j => q (ds.getD j .non) | none => False
  | .fz ns, .int i => match ixN ns.length i with | some j => q (.int (ns.getD j 0)) | none => False
  | _, _ => False
theorem ixN_lt {n : Nat} {i : Int} {j : Nat} (h : ixN n i = some j) : j < n := by
  unfold ixN at h
  split at h
  · split at h
    · cases h; omega
    · cases h
  · split at h
    · cases h; omega
    · cases h
theorem ok_ixL : OpOk Γ (rIxL Γ.K) fIxL := fun E H x y dx dy Q q _ rx ry h k => by
  unfold fIxL at h
  split at h
  · rename_i ds i
    split at h
    · rename_i j hj
      obtain ⟨a, xs, rfl, ha, rs⟩ := rx
      have hl := ixN_lt hj
      have hl' : j < xs.length := by rw [rs.1]; exact hl
      refine ⟨a, xs, i, xs[j], rfl, repB_int ry, .inl (.inl ha), ?_, k _ _ H (Same.refl H) (rs.2 j _ _ (List.getElem?_eq_getElem hl') ?_) h⟩
      · unfold atI; rw [rs.1, hj]; exact List.getElem?_eq_getElem hl'
      · rw [List.getD_eq_getElem?_getD, List.getElem?_eq_getElem hl]; rfl
    · exact False.elim h
  · rename_i ns i
    split at h
    · rename_i j hj
      obtain ⟨a, rfl, ha⟩ := Rep.script rx
      have hl := ixN_lt hj
      refine ⟨a, _, i, .int (ns.getD j 0), rfl, repB_int ry, ha, ?_, k _ _ H (Same.refl H) (.int _) h⟩
      unfold atI
      rw [List.length_map, hj]
      show (ns.map V.int)[j]? = _
      rw [List.getElem?_map, List.getD_eq_getElem?_getD, List.getElem?_eq_getElem hl]; rfl
    · exact False.elim h
  · exact False.elim h
def fIxT : F2 := fun x y q => match x, y with
  | .tup ds, .int i => match ixN ds.length i with | some j => q (ds.getD j .non) | none => False
  | _, _ => False
theorem ok_ixT : OpOk Γ (rIxT Γ.K) fIxT := fun E H x y dx dy Q q _ rx ry h k => by
  unfold fIxT at h
  split at h
  · rename_i ds i
    split at h
    · rename_i j hj
      obtain ⟨a, xs, rfl, ha, rs⟩ := Rep.tuple rx
      have hl := ixN_lt hj
      have hl' : j < xs.length := by rw [rs.1]; exact hl
      refine ⟨a, xs, i, xs[j], rfl, repB_int ry, SqT.of ha, ?_, k _ _ H (Same.refl H) (rs.2 j _ _ (List.getElem?_eq_getElem hl') ?_) h⟩
      · unfold atI; rw [rs.1, hj]; exact List.getElem?_eq_getElem hl'
      · rw [List.getD_eq_getElem?_getD, List.getElem?_eq_getElem hl]; rfl
    · exact False.elim h
  · exact False.elim h
def fIxS : F2 := fun x y q => match x, y with
  | .str z, .int i => z.length ≤ 100000 ∧ match ixN z.cps.toList.length i with | some j => q (.str ⟨#[z.cps.toList.getD j 0]⟩) | none => False
  | _, _ => False
theorem ok_ixS : OpOk Γ rIxS fIxS := fun E H x y dx dy Q q _ rx ry h k => by
  unfold fIxS at h
  split at h
  · rename_i z i
    obtain ⟨hz, h⟩ := h
    split at h
    · rename_i j hj
      refine ⟨z, i, z.cps.toList.getD j 0, repB_str rx, repB_int ry, Nat.le_trans hz (by decide), ?_, k _ _ H (Same.refl H) (.str _) h⟩
      unfold atI
      rw [hj]
      show z.cps.toList[j]? = _
      rw [List.getD_eq_getElem?_getD, List.getElem?_eq_getElem (ixN_lt hj)]; rfl
    · exact False.elim h
  · exact False.elim h
def fLen : F1 := fun x q => match x with
  | .lst ds => q (.int ds.length)
  | .tup ds => q (.int ds.length)
  | .fz ns => q (.int ns.length)
  | .str z => z.length ≤ 100000 ∧ q (.int z.length)
  | _ => False
theorem ok_len : Op1Ok Γ (fun x H Q => ∃ y n, [x] = [y] ∧ LenV Γ.K y H n ∧ Q (.int n) H) fLen := fun E H x dx Q q _ rx h k => by
  cases dx with
  | lst ds =>
    obtain ⟨a, xs, rfl, ha, rs⟩ := rx
    refine ⟨_, xs.length, rfl, .inl ⟨xs, .inl (.inl ha), rfl⟩, ?_⟩
    rw [rs.1]; exact k _ _ H (Same.refl H) (.int _) h
  | tup ds =>
    obtain ⟨a, xs, rfl, ha, rs⟩ := Rep.tuple rx
    refine ⟨_, xs.length, rfl, .inr ⟨xs, SqT.of ha, rfl⟩, ?_⟩
    rw [rs.1]; exact k _ _ H (Same.refl H) (.int _) h
  | fz ns =>
    obtain ⟨a, rfl, ha⟩ := Rep.script rx
    refine ⟨_, _, rfl, .inl ⟨_, ha, rfl⟩, ?_⟩
    rw [List.length_map]; exact k _ _ H (Same.refl H) (.int _) h
  | str z =>
    rw [repB_str rx]
    exact ⟨_, z.length, rfl, ⟨Nat.le_trans h.1 (by decide), rfl⟩, k _ _ H (Same.refl H) (.int _) h.2⟩
  | _ => exact False.elim h
def cutD {α : Type} (xs : List α) (lo hi : Option Int) : List α := (xs.drop (HT.sIx xs.length 0 lo)).take (HT.sIx xs.length xs.length hi - HT.sIx xs.length 0 lo)
abbrev MOI := Env → (Option Int → Env → Prop) → Prop
def JOI (Γ : Cn) (pn : List Nat) (t : TO) (m : MOI) : Prop :=
  ∀ (S : Fs) (σ : St) (ρ : Env) (H : Hp) (τ : List (V × D)) (Q : Option Int → Hp → Prop) (q : Option Int → Env → Prop), PinOk pn S → Rel Γ S H σ ρ τ → m ρ q → (∀ i H' ρ', Rel Γ S H' σ ρ' τ → q i ρ' → Q i H') → t σ H Q
def mNoPart : MOI := fun ρ q => q none ρ
def mPart (m : ME) : MOI := fun ρ q => m ρ fun d ρ' => match d with | .int i => q (some i) ρ' | _ => False
def mSlL (a : MO) (l u : MOI) : ME := fun ρ q => a ρ fun r ρ1 => l ρ1 fun lo ρ2 => u ρ2 fun hi ρ3 => r.on ρ3 fun x => match x with
  | .lst ds => q (.lst (cutD ds lo hi)) ρ3
  | .fz ns => q (.lst ((cutD ns lo hi).map D.int)) ρ3
  | _ => False
def mSlS (a : MO) (l u : MOI) : ME := fun ρ q => a ρ fun r ρ1 => l ρ1 fun lo ρ2 => u ρ2 fun hi ρ3 => r.on ρ3 fun x => match x with
  | .str z => z.length ≤ 100000 ∧ q (.str (Txt.slice z lo hi)) ρ3
  | _ => False
def fCat : FL2 := fun x y q => match x, y with | .lst a, .lst b => a.length + b.length ≤ 100000 ∧ q (a ++ b) | _, _ => False
theorem ok_cat : OpNew Γ rCat fCat := fun E H x y dx dy Q q rx ry h k => by
  unfold fCat at h
  split at h
  · obtain ⟨a, xs, rfl, ha, ra⟩ := rx
    obtain ⟨b, ys, rfl, hb, rb⟩ := ry
    exact ⟨a, b, xs, ys, rfl, rfl, ha, hb, by rw [ra.1, rb.1]; exact Nat.le_trans h.1 (by decide), fun p hp => k p _ _ H (Same.refl H) hp (ra.append rb) h.2⟩
  · exact False.elim h
def fList : FL1 := fun x q => match x with | .lst a => q a | .tup a => q a | _ => False
def fTuple : F1 := fun x q => match x with | .lst a => q (.tup a) | .tup a => q (.tup a) | _ => False
theorem ok_tuple : Op1Ok Γ (fun x H Q => ∃ p ys, [x] = [.ref p] ∧ ((SqL Γ.K H p ys ∧ ∀ l, H l = none → Q (.ref l) (upd H l (.tup ys))) ∨ (SqT Γ.K H p ys ∧ Q (.ref p) H))) fTuple := fun E H x dx Q q hE rx h k => by
  unfold fTuple at h
  split at h
  · obtain ⟨a, xs, rfl, ha, ra⟩ := rx
    refine ⟨a, xs, rfl, .inl ⟨.inl (.inl ha), fun p hp => ?_⟩⟩
    have g := same_new hp (.tup xs)
    have r' := ra.up (E' := E) (H' := upd H p (.tup xs)) (fun _ _ z => z) fun b o _ q => g b o q
    exact k _ _ _ g (.tup (fun z => hE p z hp) upd_same r'.1 r'.2) h
  · obtain ⟨a, xs, rfl, ha, ra⟩ := Rep.tuple rx
    exact ⟨a, xs, rfl, .inr ⟨SqT.of ha, k _ _ H (Same.refl H) rx h⟩⟩
  · exact False.elim h
def fMax2 : F2 := fI0 fun i j => .int (if j > i then j else i)
def fMin2 : F2 := fI0 fun i j => .int (if j < i then j else i)
theorem ok_max2 : OpOk Γ (fun x y H Q => ∃ i j, [x, y] = [.int i, .int j] ∧ Q (.int (if j > i then j else i)) H) fMax2 := fun E H x y dx dy Q q _ rx ry h k => by
  unfold fMax2 fI0 at h
  split at h
  · exact ⟨_, _, by rw [repB_int rx, repB_int ry], k _ _ H (Same.refl H) (.int _) h⟩
  · exact False.elim h
theorem ok_min2 : OpOk Γ (fun x y H Q => ∃ i j, [x, y] = [.int i, .int j] ∧ Q (.int (if j < i then j else i)) H) fMin2 := fun E H x y dx dy Q q _ rx ry h k => by
  unfold fMin2 fI0 at h
  split at h
  · exact ⟨_, _, by rw [repB_int rx, repB_int ry], k _ _ H (Same.refl H) (.int _) h⟩
  · exact False.elim h
def fInt : F1 := fun x q => match x with | .int i => q (.int i) | .bl b => q (.int (if b then 1 else 0)) | _ => False
theorem ok_int : Op1Ok Γ (fun x H Q => (∃ i, [x] = [.int i] ∧ Q (.int i) H) ∨ ∃ k, [x] = [.bl k] ∧ Q (.int (if k then 1 else 0)) H) fInt := fun E H x dx Q q _ rx h k => by
  cases dx with
  | int i => exact .inl ⟨i, by rw [repB_int rx], k _ _ H (Same.refl H) (.int _) h⟩
  | bl i => exact .inr ⟨i, by rw [repB_bl rx], k _ _ H (Same.refl H) (.int _) h⟩
  | _ => exact False.elim h
def blsD : List D → Option (List Bool)
  | [] => some []
  | .bl b :: r => (blsD r).map (b :: ·)
  | _ => none
theorem blsD_ok {E : Addr → Prop} {H : Hp} : ∀ {xs : List V} {ds : List D} {bs : List Bool}, Reps Γ E H xs ds → blsD ds = some bs → xs = bs.map V.bl
  | [], [], bs, _, h => by cases h; rfl
  | [], _ :: _, _, r, _ => by have h := r.1; simp at h
  | _ :: _, [], _, r, _ => by have h := r.1; simp at h
  | v :: xs, d :: ds, bs, r, h => by
    cases d with
    | bl b =>
      have h : (blsD ds).map (b :: ·) = some bs := h
      cases e : blsD ds with
      | none => rw [e] at h; cases h
      | some r' =>
        rw [e] at h; cases h
        rw [List.map_cons, ← blsD_ok r.tail e, ← rep_bl r.head]
    | _ => cases h
def fAll : F1 := fun x q => match x with | .lst ds => (match blsD ds with | some bs => q (.bl (bs.all id)) | none => False) | _ => False
theorem ok_all : Op1Ok Γ (fun x H Q => ∃ (a : Addr) (bs : List Bool), [x] = [.ref a] ∧ SqL Γ.K H a (bs.map V.bl) ∧ Q (.bl (bs.all id)) H) fAll := fun E H x dx Q q _ rx h k => by
  cases dx with
  | lst ds =>
    obtain ⟨a, xs, rfl, ha, rs⟩ := rx
    dsimp only [fAll] at h
    split at h
    · rename_i bs hb
      have e := blsD_ok rs hb
      subst e
      exact ⟨a, bs, rfl, .inl (.inl ha), k _ _ H (Same.refl H) (.bl _) h⟩
    · exact False.elim h
  | _ => exact False.elim h
def kindD : D → Option String
  | .non => some "NoneType" | .bl _ => some "bool" | .int _ => some "int" | .str _ => some "str" | .lst _ => some "list" | .tup _ => some "tuple" | .dK _ => some "dict" | .dT _ => some "dict" | _ => none
def isKind (a b : String) : Option Bool := if ["NoneType", "bool", "int", "str", "list", "tuple", "dict"].contains a && ["bool", "int", "str", "list", "tuple", "dict"].contains b then some (a == b || (a == "bool" && b == "int")) else none
theorem isKind_ok {K : PySem.W.Frag} {a b : String} {r : Bool} (h : isKind a b = some r) : PySem.W.kitOne K (.type a) (.type b) = some r := by
  unfold isKind at h
  split at h
  · rename_i hc
    simp only [Bool.and_eq_true, List.contains_iff_mem, List.mem_cons, List.not_mem_nil, or_false] at hc
    cases h
    obtain ⟨h1, h2⟩ := hc
    rcases h1 with rfl | rfl | rfl | rfl | rfl | rfl | rfl <;> rcases h2 with rfl | rfl | rfl | rfl | rfl | rfl <;> kernel_rfl
  · cases h
def fInst : F2 := fun x y q => match kindD x, y with
  | some a, .ty b => (match isKind a b with | some r => q (.bl r) | none => False)
  | _, _ => False
theorem kind_ok {E : Addr → Prop} {H : Hp} {v : V} {d : D} {a : String} (r : RepB Γ E H v d) (h : kindD d = some a) : TyOf2 Γ.K H v (.type a) := by
  cases d with
  | non => cases h; rw [repB_flat r rfl]; exact .of .non
  | bl b => cases h; rw [repB_flat r rfl]; exact .of (.bl b)
  | int b => cases h; rw [repB_flat r rfl]; exact .of (.int b)
  | str b => cases h; rw [repB_flat r rfl]; exact .of (.str b)
  | lst ds => cases h; obtain ⟨a, xs, rfl, ha, _⟩ := r; exact .of (.lst ha)
  | tup ds => cases h; obtain ⟨a, xs, rfl, ha, _⟩ := Rep.tuple r; exact .of (.tup ha)
  | dK ds => cases h; obtain ⟨a, xs, rfl, ha, _⟩ := r; exact .of (.dK ha)
  | dT ds => cases h; obtain ⟨a, xs, rfl, ha, _⟩ := r; exact .of (.dT ha)
  | _ => cases h
theorem ok_inst : OpOk Γ (fun x y H Q => ∃ z t c b, [x, y] = [z, .ty c] ∧ TyOf2 Γ.K H z t ∧ PySem.W.kitOne Γ.K t (.type c) = some b ∧ Q (.bl b) H) fInst := fun E H x y dx dy Q q _ rx ry h k => by
  unfold fInst at h
  split at h
  · rename_i a b ha
    split at h
    · rename_i r hr
      exact ⟨x, _, b, r, by rw [repB_flat ry rfl]; rfl, kind_ok rx ha, isKind_ok hr, k _ _ H (Same.refl H) (.bl _) h⟩
    · exact False.elim h
  · exact False.elim h
def mChain (f f' : F2) (a b c : ME) : ME := fun ρ q => a ρ fun x ρ1 => b ρ1 fun y ρ2 => f x y fun d => match d with
  | .bl k => if k = true then c ρ2 fun z ρ3 => f' y z fun e => q e ρ3 else q (.bl false) ρ2
  | _ => False
theorem je_chain {r r' : R2} {f f' : F2} {ta tb tc : TE} {a b c : ME} (h1 : OpOk Γ r f) (h2 : OpOk Γ r' f') (ha : JE Γ pn ta a) (hb : JE Γ pn tb b) (hc : JE Γ pn tc c) : JE Γ pn (tChain r r' ta tb tc) (mChain f f' a b c) := fun S σ ρ H τ Q q hp R hm hq =>
  ha S σ ρ H τ _ _ hp R hm fun v x H1 ρ1 R1 r1 q1 => hb S σ ρ1 H1 ((v, x) :: τ) _ _ hp (R1.push r1) q1 fun w y H2 ρ2 R2 r2 q2 =>
    h1 _ H2 v w x y _ _ (fun a z => exA_some R2 z) R2.pop.2.b r2.b q2 fun u d H3 g r3 q3 => by
      cases d with
      | bl k =>
        refine ⟨k, rep_bl r3, ?_⟩
        have R3 := (R2.pop.1.push r2).grow g
        dsimp only at q3
        cases k with
        | false => rw [if_neg Bool.false_ne_true] at q3 ⊢; exact hq _ _ H3 ρ2 R3.pop.1 (.bl false) q3
        | true =>
          rw [if_pos rfl] at q3 ⊢
          refine hc S σ ρ2 H3 _ _ _ hp R3 q3 fun w' z H4 ρ4 R4 r4 q4 => ?_
          exact h2 _ H4 w w' y z Q _ (fun a z => exA_some R4 z) R4.pop.2.b r4.b q4 fun u' e H5 g' r5 q5 => hq u' e H5 ρ4 (R4.pop.1.grow g') r5 q5
      | _ => exact False.elim q3
def truD : D → Option Bool
  | .non => some false | .bl b => some b | .int i => some (i != 0) | .lst ds => some (!ds.isEmpty) | .tup ds => some (!ds.isEmpty) | .dK ds => some (!ds.isEmpty)
  | .str y => some ((y.length : Int) != 0)
  | _ => none
def mTru (a : MO) : MT := fun ρ q => a ρ fun r ρ1 => r.on ρ1 fun x => (match x with | .str y => y.length ≤ 100000 | _ => True) ∧ match truD x with | some b => q b ρ1 | none => False
theorem isEmpty_len {α β : Type} {xs : List α} {ys : List β} (h : xs.length = ys.length) : xs.isEmpty = ys.isEmpty := by
  cases xs <;> cases ys <;> first | rfl | simp at h
theorem jt_tru {ta : TE} {a : MO} (ha : JO Γ pn ta a) : JT Γ pn (fun σ H Q => ta σ H fun x H' => ∃ k, TruV Γ.K x H' k ∧ Q k H') (mTru a) := fun S σ ρ H τ Q q hp R hm hq =>
  ha S σ ρ H τ _ _ hp R hm fun v r1 H1 ρ1 τ1 R1 o1 q1 => by
    obtain ⟨dx, rx, hs, q1⟩ := R1.read o1 q1
    cases dx with
    | non => rw [repB_flat rx rfl]; exact ⟨false, rfl, hq _ H1 ρ1 R1.cut q1⟩
    | bl b => rw [repB_flat rx rfl]; exact ⟨b, rfl, hq _ H1 ρ1 R1.cut q1⟩
    | int i => rw [repB_flat rx rfl]; exact ⟨_, rfl, hq _ H1 ρ1 R1.cut q1⟩
    | str y => rw [repB_flat rx rfl]; exact ⟨_, ⟨Nat.le_trans hs (by decide), rfl⟩, hq _ H1 ρ1 R1.cut q1⟩
    | lst ds => obtain ⟨a, xs, rfl, h, rs⟩ := rx; exact ⟨_, .inl ⟨xs, .inl (.inl h), by rw [isEmpty_len rs.1]⟩, hq _ H1 ρ1 R1.cut q1⟩
    | tup ds => obtain ⟨a, xs, rfl, h, rs⟩ := Rep.tuple rx; exact ⟨_, .inr (.inl ⟨xs, SqT.of h, by rw [isEmpty_len rs.1]⟩), hq _ H1 ρ1 R1.cut q1⟩
    | dK ds => obtain ⟨a, xs, rfl, h, hk, rs⟩ := rx; exact ⟨_, .inr (.inr ⟨xs, h, by rw [isEmpty_len (show xs.length = ds.length by have := congrArg List.length hk; simpa using this)]⟩), hq _ H1 ρ1 R1.cut q1⟩
    | _ => exact False.elim q1
end
end M
namespace M
open PySem L2
structure DE (X : Cx) (cls : Nat → Option Addr) (pn : List Nat) (e : Expr) (m : ME) : Prop where
  h : ∃ t, PE X e t ∧ JE ⟨X.K, cls⟩ pn t m
structure DF (X : Cx) (cls : Nat → Option Addr) (pn : List Nat) (e : Expr) (m : ME) : Prop where
  h : ∃ t, PE X e t ∧ JF ⟨X.K, cls⟩ pn t m
structure DO (X : Cx) (cls : Nat → Option Addr) (pn : List Nat) (e : Expr) (m : MO) : Prop where
  h : ∃ t, PE X e t ∧ JO ⟨X.K, cls⟩ pn t m
structure DT (X : Cx) (cls : Nat → Option Addr) (pn : List Nat) (e : Expr) (m : MT) : Prop where
  h : ∃ t, PT X e t ∧ JT ⟨X.K, cls⟩ pn t m
structure DW (X : Cx) (cls : Nat → Option Addr) (pn : List Nat) (e : Expr) (m : MT) : Prop where
  h : ∃ t, PW X e t ∧ JT ⟨X.K, cls⟩ pn t m
structure DTs (X : Cx) (cls : Nat → Option Addr) (pn : List Nat) (e : List Expr) (m : MT) : Prop where
  h : ∃ t, PTs X e t ∧ JT ⟨X.K, cls⟩ pn t m
structure DA (X : Cx) (cls : Nat → Option Addr) (pn : List Nat) (e : List Expr) (m : MA) : Prop where
  h : ∃ t, PA X e t ∧ JA ⟨X.K, cls⟩ pn t m
structure DS (X : Cx) (cls : Nat → Option Addr) (pn : List Nat) (fr : Bool) (e : Stmt) (m : MS) : Prop where
  h : ∃ t, PS X e t ∧ JS ⟨X.K, cls⟩ pn fr t m
structure DSs (X : Cx) (cls : Nat → Option Addr) (pn : List Nat) (fr : Bool) (e : List Stmt) (m : MS) : Prop where
  h : ∃ t, PSs X e t ∧ JS ⟨X.K, cls⟩ pn fr t m
structure DG (X : Cx) (cls : Nat → Option Addr) (pn : List Nat) (e : Expr) (m : MG) : Prop where
  h : ∃ t, PG X e t ∧ JG ⟨X.K, cls⟩ pn t m
structure DGs (X : Cx) (cls : Nat → Option Addr) (pn : List Nat) (e : List Expr) (m : MGs) : Prop where
  h : ∃ t, PGs X e t ∧ JGs ⟨X.K, cls⟩ pn t m
structure DI (X : Cx) (cls : Nat → Option Addr) (pn : List Nat) (tg e : Expr) (m : MI) : Prop where
  h : ∃ t, PI X tg e t ∧ JI ⟨X.K, cls⟩ pn t m
structure DP (X : Cx) (cls : Nat → Option Addr) (pn : List Nat) (e : Option Expr) (m : MOI) : Prop where
  h : ∃ t, PO X e t ∧ JOI ⟨X.K, cls⟩ pn t m
section
variable {X : Cx} {cls : Nat → Option Addr} {pn : List Nat} {a b c e : Expr} {es : List Expr} {pos p : Pos} {x : Str}
theorem de_int {i j pos} : DE X cls pn (.Constant (.int i) j pos) (mC (.int i)) := ⟨_, pe_int, je_c rfl rfl⟩
theorem de_bl {i j pos} : DE X cls pn (.Constant (.bool i) j pos) (mC (.bl i)) := ⟨_, pe_bl, je_c rfl rfl⟩
theorem de_non {j pos} : DE X cls pn (.Constant .none j pos) (mC .non) := ⟨_, pe_non, je_c rfl rfl⟩
theorem de_str {i j pos} : DE X cls pn (.Constant (.str i) j pos) (mC (.str i)) := ⟨_, pe_str, je_c rfl rfl⟩
theorem de_glob {i : Int} (hg : Gl X x) (hm : ∃ t, X.mg x = some (.int i t)) (hd : (x == ("__debug__" : Str)) = false := by decide) : DE X cls pn (.Name x pos) (mC (.int i)) := by
  obtain ⟨t, hm⟩ := hm
  exact ⟨_, pe_glob hg hm (v := .int i) ⟨t, rfl⟩ hd, je_c rfl rfl⟩
theorem de_ty {n : String} (hg : Gl X x) (hm : X.mg x = none) (hv : bootBuiltins x = some (.type n)) (hn : x ≠ "__name__" := by decide) (hd : (x == ("__debug__" : Str)) = false := by decide) : DE X cls pn (.Name x pos) (mC (.ty n)) :=
  ⟨_, pe_bltn (v := .ty n) hg hm hv rfl hn hd, je_c rfl rfl⟩
theorem dv (i : Nat) (hi : i ∉ pn) (hN : X.N[i]? = some x := by kernel_rfl) (hv : Vis X.env.scope x := by first | exact Or.inl rfl | exact Or.inr (Or.inl rfl) | exact Or.inr (Or.inr rfl)) (hd : (x == ("__debug__" : Str)) = false := by decide)
    (hcd : (x == ("__classdict__" : Str)) = false := by decide) : DE X cls pn (.Name x pos) (mVar i) := ⟨_, pe_var hN hv hd hcd, je_var hi⟩
theorem dvP (i : Nat) (hN : X.N[i]? = some x := by kernel_rfl) (hv : Vis X.env.scope x := by first | exact Or.inl rfl | exact Or.inr (Or.inl rfl) | exact Or.inr (Or.inr rfl)) (hd : (x == ("__debug__" : Str)) = false := by decide)
    (hcd : (x == ("__classdict__" : Str)) = false := by decide) : DE X cls pn (.Name x pos) (mVarP i) := ⟨_, pe_var hN hv hd hcd, je_varP⟩
theorem do_v (i : Nat) (hN : X.N[i]? = some x := by kernel_rfl) (hv : Vis X.env.scope x := by first | exact Or.inl rfl | exact Or.inr (Or.inl rfl) | exact Or.inr (Or.inr rfl)) (hd : (x == ("__debug__" : Str)) = false := by decide)
    (hcd : (x == ("__classdict__" : Str)) = false := by decide) : DO X cls pn (.Name x pos) (mOv i) := ⟨_, pe_var hN hv hd hcd, jo_var⟩
theorem do_e {m : ME} (h : DE X cls pn e m) : DO X cls pn e (mO m) := let ⟨t, a, b⟩ := h.h; ⟨t, a, jo_of b⟩
theorem de_f {m : ME} (h : DF X cls pn e m) : DE X cls pn e m := let ⟨t, a, b⟩ := h.h; ⟨t, a, je_of_fresh b⟩
theorem da_nil : DA X cls pn [] mNil := ⟨_, pa_nil, ja_nil⟩
theorem da_cons {m : ME} {n : MA} (h : DE X cls pn e m) (r : DA X cls pn es n) (hs : starEach (e :: es) X.env = (false, eval e X.env) :: starEach es X.env := by kernel_rfl) : DA X cls pn (e :: es) (mCons m n) :=
  let ⟨_, a, b⟩ := h.h; let ⟨_, c, d⟩ := r.h; ⟨_, pa_cons a c hs, ja_cons b d⟩
theorem df_lst {m : MA} (h : DA X cls pn es m) : DF X cls pn (.List es pos) (mLst m) := let ⟨_, a, b⟩ := h.h; ⟨_, pe_lst a, jf_lst b⟩
theorem de_tup {m : MA} {x1} (h : DA X cls pn es m) : DE X cls pn (.Tuple es x1 pos) (mTup m) := let ⟨_, a, b⟩ := h.h; ⟨_, pe_tup a, je_tup b⟩
theorem de_op {op : Operator} {r : R2} {f : F2} {ma mb : MO} (ho : OpR X (binaryOp op) r) (hk : OpOk ⟨X.K, cls⟩ r f) (ha : DO X cls pn a ma) (hb : DO X cls pn b mb) : DE X cls pn (.BinOp a op b pos) (mOp f ma mb) :=
  let ⟨_, pa, ja⟩ := ha.h; let ⟨_, pb, jb⟩ := hb.h; ⟨_, pe_op ho pa pb, je_op hk ja jb⟩
theorem df_op {op : Operator} {r : R2} {f : FL2} {ma mb : MO} (ho : OpR X (binaryOp op) r) (hk : OpNew ⟨X.K, cls⟩ r f) (ha : DO X cls pn a ma) (hb : DO X cls pn b mb) : DF X cls pn (.BinOp a op b pos) (mOpL f ma mb) :=
  let ⟨_, pa, ja⟩ := ha.h; let ⟨_, pb, jb⟩ := hb.h; ⟨_, pe_op ho pa pb, jf_op hk ja jb⟩
def fAdd : F2 := fI0 fun i j => .int (i + j)
def fSub : F2 := fI0 fun i j => .int (i - j)
def fMul : F2 := fI CMul fun i j => .int (i * j)
def fFdiv : F2 := fI CDiv fun i j => .int (i / j)
def fMod : F2 := fI (fun _ j => 0 < j) fun i j => .int (i % j)
def fPow : F2 := fI CPow fun i j => .int (i ^ j.toNat)
def fShl : F2 := fI CPow fun i j => .int (i * 2 ^ j.toNat)
def fShr : F2 := fI (fun _ j => 0 ≤ j) fun i j => .int (i / 2 ^ j.toNat)
def fBand : F2 := fI0 fun i j => .int (Builtin.bitAnd i j)
variable {ma mb : MO}
theorem de_add (ha : DO X cls pn a ma) (hb : DO X cls pn b mb) : DE X cls pn (.BinOp a .Add b pos) (mOp fAdd ma mb) := de_op op_add (ok_I0 (fun _ _ => rfl) fun _ _ => rfl) ha hb
theorem de_sub (ha : DO X cls pn a ma) (hb : DO X cls pn b mb) : DE X cls pn (.BinOp a .Sub b pos) (mOp fSub ma mb) := de_op op_sub (ok_I0 (fun _ _ => rfl) fun _ _ => rfl) ha hb
theorem de_mul (ha : DO X cls pn a ma) (hb : DO X cls pn b mb) : DE X cls pn (.BinOp a .Mult b pos) (mOp fMul ma mb) := de_op op_mul (ok_I (fun _ _ => rfl) fun _ _ => rfl) ha hb
theorem de_fdiv (ha : DO X cls pn a ma) (hb : DO X cls pn b mb) : DE X cls pn (.BinOp a .FloorDiv b pos) (mOp fFdiv ma mb) := de_op op_fdiv (ok_I (fun _ _ => rfl) fun _ _ => rfl) ha hb
theorem de_mod (ha : DO X cls pn a ma) (hb : DO X cls pn b mb) : DE X cls pn (.BinOp a .Mod b pos) (mOp fMod ma mb) := de_op op_mod (ok_I (fun _ _ => rfl) fun _ _ => rfl) ha hb
theorem de_pow (ha : DO X cls pn a ma) (hb : DO X cls pn b mb) : DE X cls pn (.BinOp a .Pow b pos) (mOp fPow ma mb) := de_op op_pow (ok_I (fun _ _ => rfl) fun _ _ => rfl) ha hb
theorem de_addS (ha : DO X cls pn a ma) (hb : DO X cls pn b mb) : DE X cls pn (.BinOp a .Add b pos) (mOp fAddS ma mb) := de_op op_add_str ok_addS ha hb
theorem df_cat (ha : DO X cls pn a ma) (hb : DO X cls pn b mb) : DF X cls pn (.BinOp a .Add b pos) (mOpL fCat ma mb) := df_op op_cat ok_cat ha hb
theorem de_neg (ha : DO X cls pn a ma) : DE X cls pn (.UnaryOp .USub a pos) (mOp1 fNeg ma) := let ⟨_, pa, ja⟩ := ha.h; ⟨_, pe_un un_neg pa, je_un ok_neg ja⟩
theorem de_cmp {op : CmpOp} {r : R2} {f : F2} (ho : OpR X (compareOp op) r) (hk : OpOk ⟨X.K, cls⟩ r f) (ha : DO X cls pn a ma) (hb : DO X cls pn b mb) (hm : behindInMarks op b = false) : DE X cls pn (.Compare a [op] [b] pos) (mOp f ma mb) :=
  let ⟨_, pa, ja⟩ := ha.h; let ⟨_, pb, jb⟩ := hb.h; ⟨_, pe_cmpR ho pa pb hm, je_op hk ja jb⟩
theorem dt_cmp {op : CmpOp} {r : R2} {f : F2} (ho : OpR X (compareOp op) r) (hk : OpOk ⟨X.K, cls⟩ r f) (ha : DO X cls pn a ma) (hb : DO X cls pn b mb) (hm : behindInMarks op b = false) : DT X cls pn (.Compare a [op] [b] pos) (mB (mOp f ma mb)) :=
  let ⟨_, pa, ja⟩ := ha.h; let ⟨_, pb, jb⟩ := hb.h; ⟨_, pt_cmpR ho pa pb hm, jt_test (je_op hk ja jb)⟩
def fLt : F2 := fI0 fun i j => .bl (decide (i < j))
def fLe : F2 := fI0 fun i j => .bl (decide (i ≤ j))
def fGt : F2 := fI0 fun i j => .bl (decide (j < i))
def fGe : F2 := fI0 fun i j => .bl (decide (j ≤ i))
theorem ok_lt : OpOk ⟨X.K, cls⟩ (rI0 fun i j => .bl (decide (i < j))) fLt := ok_I0 (fun _ _ => rfl) fun _ _ => rfl
theorem ok_le : OpOk ⟨X.K, cls⟩ (rI0 fun i j => .bl (decide (i ≤ j))) fLe := ok_I0 (fun _ _ => rfl) fun _ _ => rfl
theorem ok_gt : OpOk ⟨X.K, cls⟩ (rI0 fun i j => .bl (decide (j < i))) fGt := ok_I0 (fun _ _ => rfl) fun _ _ => rfl
theorem ok_ge : OpOk ⟨X.K, cls⟩ (rI0 fun i j => .bl (decide (j ≤ i))) fGe := ok_I0 (fun _ _ => rfl) fun _ _ => rfl
theorem de_chain {op op' : CmpOp} {r r' : R2} {f f' : F2} {m1 m2 m3 : ME} (ho : OpR X (compareOp op) r) (hk : OpOk ⟨X.K, cls⟩ r f) (ho' : OpR X (compareOp op') r') (hk' : OpOk ⟨X.K, cls⟩ r' f') (ha : DE X cls pn a m1) (hb : DE X cls pn b m2) (hc : DE X cls pn c m3)
    (hm : lastMarks [op, op'] [b, c] = false := by with_unfolding_all rfl) : DE X cls pn (.Compare a [op, op'] [b, c] pos) (mChain f f' m1 m2 m3) :=
  let ⟨_, pa, ja⟩ := ha.h; let ⟨_, pb, jb⟩ := hb.h; let ⟨_, pc, jc⟩ := hc.h; ⟨_, pe_chain ho ho' pa pb pc hm, je_chain hk hk' ja jb jc⟩
theorem dt_chain {op op' : CmpOp} {r r' : R2} {f f' : F2} {m1 m2 m3 : ME} (ho : OpR X (compareOp op) r) (hk : OpOk ⟨X.K, cls⟩ r f) (ho' : OpR X (compareOp op') r') (hk' : OpOk ⟨X.K, cls⟩ r' f') (ha : DE X cls pn a m1) (hb : DE X cls pn b m2) (hc : DE X cls pn c m3)
    (hm : lastMarks [op, op'] [b, c] = false := by with_unfolding_all rfl) : DT X cls pn (.Compare a [op, op'] [b, c] pos) (mB (mChain f f' m1 m2 m3)) :=
  let ⟨_, pa, ja⟩ := ha.h; let ⟨_, pb, jb⟩ := hb.h; let ⟨_, pc, jc⟩ := hc.h; ⟨_, pt_chain ho ho' pa pb pc hm, jt_test (je_chain hk hk' ja jb jc)⟩
theorem dt_val {m : ME} (h : DE X cls pn e m) (he : ∀ whole, isTrue e X.env whole = (do let v ← whole; standAt e.pos; holding [v] (truthy v)) := by intro _; kernel_rfl) : DT X cls pn e (mB m) := let ⟨_, a, b⟩ := h.h; ⟨_, pt_val a he, jt_b b⟩
theorem dt_tru {m : MO} (h : DO X cls pn e m) (he : ∀ whole, isTrue e X.env whole = (do let v ← whole; standAt e.pos; holding [v] (truthy v)) := by intro _; kernel_rfl) : DT X cls pn e (mTru m) := let ⟨_, a, b⟩ := h.h; ⟨_, pt_truth a he, jt_tru b⟩
theorem dt_not {m : MT} (h : DT X cls pn a m) : DT X cls pn (.UnaryOp .Not a pos) (mNot m) := let ⟨_, a, b⟩ := h.h; ⟨_, pt_not a, jt_not b⟩
theorem dt_w {m : MT} (h : DW X cls pn e m) : DT X cls pn e m := let ⟨_, a, b⟩ := h.h; ⟨_, a.pt, b⟩
theorem dw_and1 {m : MT} (h : DT X cls pn a m) : DW X cls pn (.BoolOp .And [a] pos) m := let ⟨_, a, b⟩ := h.h; ⟨_, pw_and1 a, b⟩
theorem dw_or1 {m : MT} (h : DT X cls pn a m) : DW X cls pn (.BoolOp .Or [a] pos) m := let ⟨_, a, b⟩ := h.h; ⟨_, pw_or1 a, b⟩
theorem dw_and {m n : MT} (h : DT X cls pn a m) (r : DW X cls pn (.BoolOp .And (b :: es) pos) n) : DW X cls pn (.BoolOp .And (a :: b :: es) pos) (mAnd m n) := let ⟨_, a, b⟩ := h.h; let ⟨_, c, d⟩ := r.h; ⟨_, pw_and a c, jt_and b d⟩
theorem dw_or {m n : MT} (h : DT X cls pn a m) (r : DW X cls pn (.BoolOp .Or (b :: es) pos) n) : DW X cls pn (.BoolOp .Or (a :: b :: es) pos) (mOr m n) := let ⟨_, a, b⟩ := h.h; let ⟨_, c, d⟩ := r.h; ⟨_, pw_or a c, jt_or b d⟩
theorem de_one {op} {m : ME} (h : DE X cls pn a m) : DE X cls pn (.BoolOp op [a] pos) m := let ⟨_, a, b⟩ := h.h; ⟨_, pe_one a, b⟩
theorem de_and {m n : ME} (h : DE X cls pn a m) (r : DE X cls pn (.BoolOp .And (b :: es) pos) n) : DE X cls pn (.BoolOp .And (a :: b :: es) pos) (mAndV m n) := let ⟨_, a, b⟩ := h.h; let ⟨_, c, d⟩ := r.h; ⟨_, pe_and a c, je_and b d⟩
theorem de_or {m n : ME} (h : DE X cls pn a m) (r : DE X cls pn (.BoolOp .Or (b :: es) pos) n) : DE X cls pn (.BoolOp .Or (a :: b :: es) pos) (mOrV m n) := let ⟨_, a, b⟩ := h.h; let ⟨_, c, d⟩ := r.h; ⟨_, pe_or a c, je_or b d⟩
theorem de_not {m : ME} (h : DE X cls pn a m) : DE X cls pn (.UnaryOp .Not a pos) (mNotV m) := let ⟨_, a, b⟩ := h.h; ⟨_, pe_not a, je_not b⟩
def fIx : F2 := fun x y q => match x with | .tup _ => fIxT x y q | .str _ => fIxS x y q | _ => fIxL x y q
theorem ok_ix : OpOk ⟨X.K, cls⟩ (rIx X.K) fIx := fun E H x y dx dy Q q hE rx ry h k => by
  unfold fIx at h
  split at h
  · exact .inr (.inl (ok_ixT E H x y _ dy Q q hE rx ry h k))
  · exact .inr (.inr (ok_ixS E H x y _ dy Q q hE rx ry h k))
  · exact .inl (ok_ixL E H x y _ dy Q q hE rx ry h k)
theorem de_ixA (ha : DO X cls pn a ma) (hb : DO X cls pn b mb) (hs : PlainIx b) : DE X cls pn (.Subscript a b pos) (mOp fIx ma mb) :=
  let ⟨_, pa, ja⟩ := ha.h; let ⟨_, pb, jb⟩ := hb.h; ⟨_, pe_ix ix_seq pa pb hs, je_op ok_ix ja jb⟩
theorem de_b1 {id : String} {r : List V → Hp → VK → Prop} {f : F1} (hc : CallR X (.builtin id) r) (hk : Op1Ok ⟨X.K, cls⟩ (fun y => r [y]) f) (hg : Gl X x) (hm : X.mg x = none) (hv : bootBuiltins x = some (.builtin id)) (ha : DO X cls pn a ma)
    (hs : starEach [a] X.env = [(false, eval a X.env)] := by kernel_rfl) (hn : x ≠ "__name__" := by decide) (hd : (x == ("__debug__" : Str)) = false := by decide) : DE X cls pn (.Call (.Name x p) [a] [] pos) (mOp1 f ma) :=
  let ⟨_, pa, ja⟩ := ha.h; ⟨_, pe_callB hc hg hm hv (pa_cons pa pa_nil hs) hn hd hs rfl, je_call1 hk ja⟩
theorem de_t1 {id : String} {r : List V → Hp → VK → Prop} {f : F1} (hc : CallR X (.type id) r) (hk : Op1Ok ⟨X.K, cls⟩ (fun y => r [y]) f) (hg : Gl X x) (hm : X.mg x = none) (hv : bootBuiltins x = some (.type id)) (ha : DO X cls pn a ma)
    (hs : starEach [a] X.env = [(false, eval a X.env)] := by kernel_rfl) (hn : x ≠ "__name__" := by decide) (hd : (x == ("__debug__" : Str)) = false := by decide) : DE X cls pn (.Call (.Name x p) [a] [] pos) (mOp1 f ma) :=
  let ⟨_, pa, ja⟩ := ha.h; ⟨_, pe_callTy hc hg hm hv (pa_cons pa pa_nil hs) hn hd hs rfl, je_call1 hk ja⟩
theorem de_b2 {id : String} {r : List V → Hp → VK → Prop} {f : F2} (hc : CallR X (.builtin id) r) (hk : OpOk ⟨X.K, cls⟩ (fun y z => r [y, z]) f) (hg : Gl X x) (hm : X.mg x = none) (hv : bootBuiltins x = some (.builtin id)) (ha : DO X cls pn a ma) (hb : DO X cls pn b mb)
    (hs : starEach [a, b] X.env = (false, eval a X.env) :: starEach [b] X.env := by kernel_rfl) (hs2 : starEach [b] X.env = [(false, eval b X.env)] := by kernel_rfl) (hp : (backTo pos (starEach [b] X.env)).any (·.1) = false := by kernel_rfl)
    (hn : x ≠ "__name__" := by decide) (hd : (x == ("__debug__" : Str)) = false := by decide) : DE X cls pn (.Call (.Name x p) [a, b] [] pos) (mOp f ma mb) :=
  let ⟨_, pa, ja⟩ := ha.h; let ⟨_, pb, jb⟩ := hb.h; ⟨_, pe_callB hc hg hm hv (pa_cons pa (pa_cons pb pa_nil hs2) hs) hn hd hs hp, je_call2 hk ja jb⟩
theorem de_len (hg : Gl X "len") (hm : X.mg "len" = none) (ha : DO X cls pn a ma) (hs : starEach [a] X.env = [(false, eval a X.env)] := by kernel_rfl) : DE X cls pn (.Call (.Name "len" p) [a] [] pos) (mOp1 fLen ma) :=
  de_b1 call_len ok_len hg hm (by kernel_rfl) ha hs
theorem de_all (hc : X.calm = true) (hg : Gl X "all") (hm : X.mg "all" = none) (ha : DO X cls pn a ma) (hs : starEach [a] X.env = [(false, eval a X.env)] := by kernel_rfl) : DE X cls pn (.Call (.Name "all" p) [a] [] pos) (mOp1 fAll ma) :=
  de_b1 (call_all hc) ok_all hg hm (by kernel_rfl) ha hs
theorem de_intc (hg : Gl X "int") (hm : X.mg "int" = none) (ha : DO X cls pn a ma) (hs : starEach [a] X.env = [(false, eval a X.env)] := by kernel_rfl) : DE X cls pn (.Call (.Name "int" p) [a] [] pos) (mOp1 fInt ma) :=
  de_t1 call_int1 ok_int hg hm (by kernel_rfl) ha hs
theorem de_tuple (hg : Gl X "tuple") (hm : X.mg "tuple" = none) (ha : DO X cls pn a ma) (hs : starEach [a] X.env = [(false, eval a X.env)] := by kernel_rfl) : DE X cls pn (.Call (.Name "tuple" p) [a] [] pos) (mOp1 fTuple ma) :=
  de_t1 call_tuple_of ok_tuple hg hm (by kernel_rfl) ha hs
theorem de_max2 (hc : X.calm = true) (hg : Gl X "max") (hm : X.mg "max" = none) (ha : DO X cls pn a ma) (hb : DO X cls pn b mb) (hs : starEach [a, b] X.env = (false, eval a X.env) :: starEach [b] X.env := by kernel_rfl) (hs2 : starEach [b] X.env = [(false, eval b X.env)] := by kernel_rfl)
    (hp : (backTo pos (starEach [b] X.env)).any (·.1) = false := by kernel_rfl) : DE X cls pn (.Call (.Name "max" p) [a, b] [] pos) (mOp fMax2 ma mb) := de_b2 (call_max2 hc) ok_max2 hg hm (by kernel_rfl) ha hb hs hs2 hp
theorem de_min2 (hc : X.calm = true) (hg : Gl X "min") (hm : X.mg "min" = none) (ha : DO X cls pn a ma) (hb : DO X cls pn b mb) (hs : starEach [a, b] X.env = (false, eval a X.env) :: starEach [b] X.env := by kernel_rfl) (hs2 : starEach [b] X.env = [(false, eval b X.env)] := by kernel_rfl)
    (hp : (backTo pos (starEach [b] X.env)).any (·.1) = false := by kernel_rfl) : DE X cls pn (.Call (.Name "min" p) [a, b] [] pos) (mOp fMin2 ma mb) := de_b2 (call_min2 hc) ok_min2 hg hm (by kernel_rfl) ha hb hs hs2 hp
theorem de_inst (hg : Gl X "isinstance") (hm : X.mg "isinstance" = none) (ha : DO X cls pn a ma) (hb : DO X cls pn b mb) (hs : starEach [a, b] X.env = (false, eval a X.env) :: starEach [b] X.env := by kernel_rfl) (hs2 : starEach [b] X.env = [(false, eval b X.env)] := by kernel_rfl)
    (hp : (backTo pos (starEach [b] X.env)).any (·.1) = false := by kernel_rfl) : DE X cls pn (.Call (.Name "isinstance" p) [a, b] [] pos) (mOp fInst ma mb) := de_b2 call_isinst2 ok_inst hg hm (by kernel_rfl) ha hb hs hs2 hp
end
end M
namespace M
open PySem L2
structure HM (P : Program) (w : World) (K : PySem.W.Frag) (mg : Str → Option Value) (base : Heap) (cls : Nat → Option Addr) (x : Str) (k : Nat) (ps : List Str) (pn : List Nat) (fr : Bool) (p : PSp) : Prop where
  has : Has P w K mg base x k ps (spM ⟨K, cls⟩ pn fr ps.length p)
  len : ∀ ss q, p ss q Z0 → ss.length = ps.length
section
variable {X : Cx} {cls : Nat → Option Addr} {pn : List Nat} {a b c e o tg iter : Expr} {es : List Expr} {pos p pos' apos cpos : Pos} {x : Str} {ma mb : MO} {st : Stmt} {sts : List Stmt} {fr : Bool}
theorem dss_nil : DSs X cls pn fr [] mNext := ⟨_, pss_nil, js_next⟩
theorem dss_cons {m n : MS} (h : DS X cls pn fr st m) (r : DSs X cls pn fr sts n) : DSs X cls pn fr (st :: sts) (mSeq m n) := let ⟨_, a, b⟩ := h.h; let ⟨_, c, d⟩ := r.h; ⟨_, pss_cons a c, js_seq b d⟩
theorem dss_one {m : MS} (h : DS X cls pn fr st m) : DSs X cls pn fr [st] m := let ⟨_, a, b⟩ := h.h; ⟨_, pss_one a, b⟩
theorem ds_ret {m : ME} (h : DE X cls pn e m) : DS X cls pn false (.Return (some e) pos) (mRet m) := let ⟨_, a, b⟩ := h.h; ⟨_, ps_ret a, js_ret b⟩
theorem ds_retF {m : ME} (h : DF X cls pn e m) : DS X cls pn true (.Return (some e) pos) (mRet m) := let ⟨_, a, b⟩ := h.h; ⟨_, ps_ret a, js_retF b⟩
theorem ds_if {t : MT} {m n : MS} {s1 s2 : List Stmt} (h : DT X cls pn c t) (h1 : DSs X cls pn fr s1 m) (h2 : DSs X cls pn fr s2 n) : DS X cls pn fr (.If c s1 s2 pos) (mIfS t m n) :=
  let ⟨_, a, b⟩ := h.h; let ⟨_, c, d⟩ := h1.h; let ⟨_, e, f⟩ := h2.h; ⟨_, ps_if a c e, js_if b d f⟩
theorem ds_set {i : Nat} {m : ME} (hi' : i ∉ pn) (hN : X.N.Nodup) (hi : X.N[i]? = some x) (hx : Loc X.env.scope x) (he : DE X cls pn e m) (hs : swapsWith e (some (.Name x pos')) pos.line X.env = pure false := by kernel_rfl)
    (hf : X.fn x = true ∨ X.env.scope.names.lookup x = some .local := by first | exact .inl rfl | exact .inr rfl | assumption) : DS X cls pn fr (.Assign [.Name x pos'] e pos) (mSet i m) :=
  let ⟨_, a, b⟩ := he.h; ⟨_, ps_set hN hi hx a hs hf, js_set hi' b⟩
theorem ds_setOwn {i : Nat} {m : ME} (hi' : i ∉ pn) (hN : X.N.Nodup) (hi : X.N[i]? = some x) (hx : Loc X.env.scope x) (he : DF X cls pn e m) (hs : swapsWith e (some (.Name x pos')) pos.line X.env = pure false := by kernel_rfl)
    (hf : X.fn x = true ∨ X.env.scope.names.lookup x = some .local := by first | exact .inl rfl | exact .inr rfl | assumption) : DS X cls pn fr (.Assign [.Name x pos'] e pos) (mSetOwn i m) :=
  let ⟨_, a, b⟩ := he.h; ⟨_, ps_set hN hi hx a hs hf, js_setOwn hi' b⟩
theorem dg_name {i : Nat} (hi' : i ∉ pn) (hN : X.N.Nodup) (hi : X.N[i]? = some x) (hx : Loc X.env.scope x) (hf : X.fn x = true ∨ X.env.scope.names.lookup x = some .local := by first | exact .inl rfl | exact .inr rfl | assumption) : DG X cls pn (.Name x pos) (mgName i) :=
  ⟨_, pg_name hN hi hx hf, jg_name hi'⟩
theorem dgs_nil : DGs X cls pn [] mgNil := ⟨_, pgs_nil, jgs_nil⟩
theorem dgs_cons {m : MG} {n : MGs} (h : DG X cls pn e m) (r : DGs X cls pn es n) (hs : (assignEach (e :: es) X.env).map (·.2) = assign e X.env :: (assignEach es X.env).map (·.2) := by kernel_rfl) : DGs X cls pn (e :: es) (mgCons m n) :=
  let ⟨_, a, b⟩ := h.h; let ⟨_, c, d⟩ := r.h; ⟨_, pgs_cons a c hs, jgs_cons b d⟩
def mAsg (m : ME) (g : MG) : MS := fun N ρ => m ρ fun d ρ1 => g d ρ1 N.nx
theorem js_asg {Γ : Cn} {t : TE} {m : ME} {g : TG} {mg : MG} (h : JE Γ pn t m) (hg : JG Γ pn g mg) : JS Γ pn fr (tAsg t g) (mAsg m mg) := fun S σ ρ H τ D N hp R hm hn hr hb hc =>
  h S σ ρ H τ _ _ hp R hm fun v d H' ρ' R' r q => hg S σ ρ' H' τ v d _ _ hp R' r q fun σ2 H2 ρ2 R2 q2 => hn σ2 H2 ρ2 R2 q2
theorem ds_asg {m : ME} {g : MG} (he : DE X cls pn e m) (hg : DG X cls pn tg g) (hs : swapsWithSole [tg] e pos.line X.env = pure false := by kernel_rfl) (hw : swappedStores [tg] e X.env = pure none := by kernel_rfl) (h1 : (assignEach [tg] X.env).map (·.2) = [assign tg X.env] := by kernel_rfl) :
    DS X cls pn fr (.Assign [tg] e pos) (mAsg m g) := let ⟨_, a, b⟩ := he.h; let ⟨_, c, d⟩ := hg.h; ⟨_, ps_asg a c hs hw h1, js_asg b d⟩
theorem di_list {m : ME} (h : DE X cls pn iter m) : DI X cls pn tg iter (miList m) := let ⟨_, a, b⟩ := h.h; ⟨_, pi_list a, ji_list b⟩
theorem di_str {m : ME} (h : DE X cls pn iter m) : DI X cls pn tg iter (miStr m) := let ⟨_, a, b⟩ := h.h; ⟨_, pi_str a, ji_str b⟩
theorem di_range1 {m : MA} (hg : Gl X "range") (hm : X.mg "range" = none) (h : DA X cls pn [a] m) (hs : starEach [a] X.env = [(false, eval a X.env)] := by kernel_rfl) : DI X cls pn tg (.Call (.Name "range" p) [a] [] pos) (miRange1 m) :=
  let ⟨_, a, b⟩ := h.h; ⟨_, pi_range1 hg hm a hs, ji_range1 b⟩
theorem ds_for {mi : MI} {mg : MG} {m : MS} (hp : PassesOwn (model X.prog X.w) X.A X.env X.xe) (hc : X.calm = true) (hi : DI X cls pn tg iter mi) (hg : DG X cls pn tg mg) (hb : DSs X cls pn fr sts m) (hs : ∀ x, foldedSetIterable iter X.env x = pure x := by intro _; kernel_rfl) :
    DS X cls pn fr (.For tg iter sts [] pos) (mFor mi mg m) := let ⟨_, a, b⟩ := hi.h; let ⟨_, c, d⟩ := hg.h; let ⟨_, e, f⟩ := hb.h; ⟨_, ps_for hp hc a c e hs, js_for b d f⟩
theorem dts_nil : DTs X cls pn [] mTT := ⟨_, pts_nil, jt_tt⟩
theorem dts_one {m : MT} (h : DT X cls pn c m) : DTs X cls pn [c] m := let ⟨_, a, b⟩ := h.h; ⟨_, pts_one a, b⟩
def onceB (js : List (Option Nat)) : Bool := decide ((js.filterMap id).Nodup)
theorem Once.of_b : ∀ {js : List (Option Nat)}, onceB js = true → Once js
  | [], _ => fun k k' j h => by simp at h
  | none :: js, h => fun k k' j h1 h2 => by
    have ih := Once.of_b (js := js) (by simpa [onceB] using h)
    cases k with
    | zero => simp at h1
    | succ k => cases k' with
      | zero => simp at h2
      | succ k' => rw [ih k k' j (by simpa using h1) (by simpa using h2)]
  | some i :: js, h => fun k k' j h1 h2 => by
    have h' : ¬ i ∈ js.filterMap id ∧ (js.filterMap id).Nodup := by simpa [onceB] using h
    have ih := Once.of_b (js := js) (by simpa [onceB] using h'.2)
    have no : ∀ k, js[k]? = some (some i) → False := fun k hk => h'.1 (List.mem_filterMap.mpr ⟨some i, List.mem_of_getElem? hk, rfl⟩)
    cases k with
    | zero =>
      simp at h1; subst h1
      cases k' with
      | zero => rfl
      | succ k' => exact (no k' (by simpa using h2)).elim
    | succ k => cases k' with
      | zero => simp at h2; subst h2; exact (no k (by simpa using h1)).elim
      | succ k' => rw [ih k k' j (by simpa using h1) (by simpa using h2)]
variable {N' : List Str} {js : List (Option Nat)} {scope : Scope} {elt : Expr} {ifs : List Expr}
def tOfE (Γ : Cn) (pn : List Nat) (m : ME) : TE := fun σ H Q => ∃ (S : Fs) (ρ : Env) (τ : List (V × D)) (q : EK), PinOk pn S ∧ Rel Γ S H σ ρ τ ∧ m ρ q ∧ ∀ v d H' ρ', Rel Γ S H' σ ρ' τ → Rep Γ (exA S σ ρ') H' v d → q d ρ' → Q v H'
def tOfT (Γ : Cn) (pn : List Nat) (m : MT) : TT := fun σ H Q => ∃ (S : Fs) (ρ : Env) (τ : List (V × D)) (q : Bool → Env → Prop), PinOk pn S ∧ Rel Γ S H σ ρ τ ∧ m ρ q ∧ ∀ b H' ρ', Rel Γ S H' σ ρ' τ → q b ρ' → Q b H'
def tOfG (Γ : Cn) (pn : List Nat) (m : MG) : TG := fun v σ H Q => ∃ (S : Fs) (ρ : Env) (τ : List (V × D)) (d : D) (q : Env → Prop), PinOk pn S ∧ Rel Γ S H σ ρ τ ∧ Rep Γ (exA S σ ρ) H v d ∧ m d ρ q ∧ ∀ σ' H' ρ', Rel Γ S H' σ' ρ' τ → q ρ' → Q σ' H'
theorem je_ofE {Γ : Cn} {m : ME} : JE Γ pn (tOfE Γ pn m) m := fun S σ ρ H τ Q q hp R hm hq => ⟨S, ρ, τ, q, hp, R, hm, hq⟩
theorem jt_ofT {Γ : Cn} {m : MT} : JT Γ pn (tOfT Γ pn m) m := fun S σ ρ H τ Q q hp R hm hq => ⟨S, ρ, τ, q, hp, R, hm, hq⟩
theorem jg_ofG {Γ : Cn} {m : MG} : JG Γ pn (tOfG Γ pn m) m := fun S σ ρ H τ v d Q q hp R r hm hq => ⟨S, ρ, τ, d, q, hp, R, r, hm, hq⟩
theorem DE.pe {m : ME} (h : DE X cls pn e m) : PE X e (tOfE ⟨X.K, cls⟩ pn m) := fun pins s σ H Q I ⟨S, ρ, τ, q, hp, R, hm, hq⟩ => let ⟨t, a, b⟩ := h.h; a pins s σ H Q I (b S σ ρ H τ Q q hp R hm hq)
theorem DTs.pt {m : MT} (h : DTs X cls pn es m) : PTs X es (tOfT ⟨X.K, cls⟩ pn m) := fun pins s σ H Q I ⟨S, ρ, τ, q, hp, R, hm, hq⟩ => let ⟨t, a, b⟩ := h.h; a pins s σ H Q I (b S σ ρ H τ Q q hp R hm hq)
theorem DG.pg {m : MG} (h : DG X cls pn e m) : PG X e (tOfG ⟨X.K, cls⟩ pn m) := fun pins s σ H v u Q I r ⟨S, ρ, τ, d, q, hp, R, rd, hm, hq⟩ => let ⟨t, a, b⟩ := h.h; a pins s σ H v u Q I r (b S σ ρ H τ v d Q q hp R rd hm hq)
theorem df_comp {mi : MI} {g : MG} {t : MT} {m : ME} (hc : X.calm = true) (K : CompOk X N' js scope) (h1 : onceB js = true) (hi : DI X cls pn tg iter mi) (hg : ∀ s2 H2 fp C cl, DG (compCx X N' scope cl C s2 H2 fp) cls (pnB js) tg g)
    (ht : ∀ s2 H2 fp C cl, DTs (compCx X N' scope cl C s2 H2 fp) cls (pnB js) ifs t) (he : ∀ s2 H2 fp C cl, DE (compCx X N' scope cl C s2 H2 fp) cls (pnB js) elt m)
    (hs : ∀ x, foldedSetIterable iter X.env x = pure x := by intro _; kernel_rfl) : DF X cls pn (.ListComp elt [⟨tg, iter, ifs, 0⟩] scope pos) (mComp mi js g t m) :=
  let ⟨_, a, b⟩ := hi.h
  ⟨_, pe_comp hc K a (fun s2 H2 fp C cl => ⟨(hg s2 H2 fp C cl).pg, (ht s2 H2 fp C cl).pt, (he s2 H2 fp C cl).pe⟩) hs, jf_comp (Once.of_b h1) b jg_ofG jt_ofT je_ofE⟩
theorem ds_comp {i : Nat} {y : Str} {py spos : Pos} {mi : MI} {g : MG} {t : MT} {m : ME} (hi' : i ∉ pn) (hc : X.calm = true) (hN : X.N.Nodup) (hi0 : X.N[i]? = some y) (hy : X.env.scope.names.lookup y = some .local) (K : CompOk X N' js scope) (h1 : onceB js = true) (hi : DI X cls pn tg iter mi)
    (hg : ∀ s2 H2 fp C cl, DG (compCx X N' scope cl C s2 H2 fp) cls (pnB js) tg g) (ht : ∀ s2 H2 fp C cl, DTs (compCx X N' scope cl C s2 H2 fp) cls (pnB js) ifs t) (he : ∀ s2 H2 fp C cl, DE (compCx X N' scope cl C s2 H2 fp) cls (pnB js) elt m)
    (hsw : swapsWith (.ListComp elt [⟨tg, iter, ifs, 0⟩] scope pos) (some (.Name y py)) spos.line X.env = pure true := by kernel_rfl) (hs : ∀ x, foldedSetIterable iter X.env x = pure x := by intro _; kernel_rfl) :
    DS X cls pn fr (.Assign [.Name y py] (.ListComp elt [⟨tg, iter, ifs, 0⟩] scope pos) spos) (mSet i (mComp mi js g t m)) :=
  let ⟨_, a, b⟩ := hi.h
  ⟨_, ps_comp hc hN hi0 hy K a (fun s2 H2 fp C cl => ⟨(hg s2 H2 fp C cl).pg, (ht s2 H2 fp C cl).pt, (he s2 H2 fp C cl).pe⟩) hsw hs, js_set hi' (je_of_fresh (jf_comp (Once.of_b h1) b jg_ofG jt_ofT je_ofE))⟩
theorem ds_setIx (i : Nat) {m v : ME} {value : Expr} {pn' : Pos} (hv : DE X cls pn value v) (hi : DE X cls pn a m) (i' : X.N[i]? = some x := by kernel_rfl) (hvis : Vis X.env.scope x := by first | exact Or.inl rfl | exact Or.inr (Or.inl rfl) | exact Or.inr (Or.inr rfl))
    (hd : (x == ("__debug__" : Str)) = false := by decide) (hcd : (x == ("__classdict__" : Str)) = false := by decide)
    (ha : ∀ v, assign (.Subscript (.Name x p) a pos) X.env v = (do
      let ov ← holding [v] (eval (.Name x p) X.env)
      let iv ← holding [v, ov] (eval a X.env)
      standAt pos
      holding [v, ov, iv] (setItem ov iv v)
      release [v, ov, iv] []) := by intro _; kernel_rfl) (hs : swapsWithSole [.Subscript (.Name x p) a pos] value pn'.line X.env = pure false := by kernel_rfl) (hw : swappedStores [.Subscript (.Name x p) a pos] value X.env = pure none := by kernel_rfl)
    (h1 : (assignEach [.Subscript (.Name x p) a pos] X.env).map (·.2) = [assign (.Subscript (.Name x p) a pos) X.env] := by kernel_rfl) : DS X cls pn fr (.Assign [.Subscript (.Name x p) a pos] value pn') (mSetIx i m v) :=
  let ⟨_, pa, ja⟩ := hv.h; let ⟨_, pb, jb⟩ := hi.h; ⟨_, ps_asg pa (pg_sub (pe_var i' hvis hd hcd) pb set_list ha) hs hw h1, js_setIx ja jb⟩
theorem de_fld {f : Nat} {fx : Str} (ef : fx = fnm f) (hf : f < fNames.length) (hn : NoAt ⟨X.K, cls⟩ (fnm f)) (ha : DO X cls pn a ma) (hb : attributeBase a fx X.env (eval a X.env) = eval a X.env := by kernel_rfl) : DE X cls pn (.Attribute a fx pos) (mOp1 (fFld f) ma) := by
  subst ef
  exact let ⟨_, pa, ja⟩ := ha.h; ⟨_, pe_fld pa hb, je_fld hf hn ja⟩
theorem ds_setF {f i : Nat} {fx : Str} {m : ME} {value : Expr} (ef : fx = fnm f) (hf : f < fNames.length) (hn : NoAt ⟨X.K, cls⟩ (fnm f)) (hv : DE X cls pn value m) (i' : X.N[i]? = some x := by kernel_rfl)
    (hvis : Vis X.env.scope x := by first | exact Or.inl rfl | exact Or.inr (Or.inl rfl) | exact Or.inr (Or.inr rfl)) (hd : (x == ("__debug__" : Str)) = false := by decide) (hcd : (x == ("__classdict__" : Str)) = false := by decide)
    (hs : swapsWith value (some (.Attribute (.Name x p) fx pos')) pos.line X.env = pure false := by kernel_rfl) : DS X cls pn fr (.Assign [.Attribute (.Name x p) fx pos'] value pos) (mSetF i f m) := by
  subst ef
  exact let ⟨_, pa, ja⟩ := hv.h; ⟨_, ps_fld (pe_var i' hvis hd hcd) pa hs, js_setF hf hn ja⟩
theorem de_call {k : Nat} {ps : List Str} {sp : PSp} {m : MA} (h : HM X.prog X.w X.K X.mg X.base cls x k ps [] false sp) (hr : Room k X.A) (hg : Gl X x) (ha : DA X cls pn (e :: es) m) (hd : (x == ("__debug__" : Str)) = false := by decide)
    (hs : starEach (e :: es) X.env = (false, eval e X.env) :: starEach es X.env := by kernel_rfl) (hp : (backTo pos (starEach es X.env)).any (·.1) = false := by kernel_rfl) : DE X cls pn (.Call (.Name x p) (e :: es) [] pos) (mCall sp m) :=
  let ⟨_, pa, ja⟩ := ha.h; ⟨_, pe_callH h.has hr hg pa hd hs hp, M.je_call ja h.len⟩
theorem df_call {k : Nat} {ps : List Str} {sp : PSp} {m : MA} (h : HM X.prog X.w X.K X.mg X.base cls x k ps [] true sp) (hr : Room k X.A) (hg : Gl X x) (ha : DA X cls pn (e :: es) m) (hd : (x == ("__debug__" : Str)) = false := by decide)
    (hs : starEach (e :: es) X.env = (false, eval e X.env) :: starEach es X.env := by kernel_rfl) (hp : (backTo pos (starEach es X.env)).any (·.1) = false := by kernel_rfl) : DF X cls pn (.Call (.Name x p) (e :: es) [] pos) (mCall sp m) :=
  let ⟨_, pa, ja⟩ := ha.h; ⟨_, pe_callH h.has hr hg pa hd hs hp, jf_call ja h.len⟩
theorem de_call0 {k j : Nat} {ps : List Str} {sp : PSp} {m : MA} {y : Str} {py : Pos} (h : HM X.prog X.w X.K X.mg X.base cls x k ps [0] false sp) (hr : Room k X.A) (hg : Gl X x) (ha : DA X cls pn es m) (j' : X.N[j]? = some y := by kernel_rfl)
    (hvis : Vis X.env.scope y := by first | exact Or.inl rfl | exact Or.inr (Or.inl rfl) | exact Or.inr (Or.inr rfl)) (hyd : (y == ("__debug__" : Str)) = false := by decide) (hcd : (y == ("__classdict__" : Str)) = false := by decide) (hd : (x == ("__debug__" : Str)) = false := by decide)
    (hs : starEach (.Name y py :: es) X.env = (false, eval (.Name y py) X.env) :: starEach es X.env := by kernel_rfl) (hp : (backTo pos (starEach es X.env)).any (·.1) = false := by kernel_rfl) : DE X cls pn (.Call (.Name x p) (.Name y py :: es) [] pos) (mCall0 j sp m) :=
  let ⟨_, pa, ja⟩ := ha.h; ⟨_, pe_callH h.has hr hg (pa_cons (pe_var j' hvis hyd hcd) pa hs) hd hs hp, je_call0 ja h.len⟩
structure HK (P : Program) (w : World) (K : PySem.W.Frag) (mg : Str → Option Value) (base : Heap) (cls : Nat → Option Addr) (x : Str) (c k : Nat) (ps : List Str) (p : PSp) : Prop where
  has : ∃ C f fd, cls c = some C ∧ Mk K C f ∧ FnOk P w K mg base CX0 k f fd ps (spM ⟨K, cls⟩ [0] false ps.length p) ∧ Binds K fd ps [] ∧ mg x = some (.ref C)
  len : ∀ ss q, p ss q Z0 → ss.length = ps.length
end
end M
namespace M
open PySem L2
def JSX (Γ : Cn) (pn : List Nat) (fr : Bool) (E : St → XK) (z : Nat → Env → Prop) (t : TS) (m : MS) : Prop :=
  ∀ (S : Fs) (σ : St) (ρ : Env) (H : Hp) (τ : List (V × D)) (D : Ends) (N : MEnds), PinOk pn S → Rel Γ S H σ ρ τ → m N ρ → (∀ σ' H' ρ', Rel Γ S H' σ' ρ' τ → N.nx ρ' → D.nx σ' H') →
    (∀ v d σ' H' ρ', RR Γ fr S σ' ρ' H' τ v d → N.rt d ρ' → D.rt v H') → (∀ σ' H' ρ', Rel Γ S H' σ' ρ' τ → N.bk ρ' → D.bk σ' H') → (∀ σ' H' ρ', Rel Γ S H' σ' ρ' τ → N.ct ρ' → D.ct σ' H') →
    (∀ k C σ' ρ' H', Γ.cls k = some C → Rel Γ S H' σ' ρ' τ → z k ρ' → E σ' (.ref C) none H') → t D σ H
def JEX (Γ : Cn) (pn : List Nat) (E : St → XK) (z : Nat → Env → Prop) (t : TE) (m : ME) : Prop :=
  ∀ (S : Fs) (σ : St) (ρ : Env) (H : Hp) (τ : List (V × D)) (Q : VK) (q : EK), PinOk pn S → Rel Γ S H σ ρ τ → m ρ q → (∀ v d H' ρ', Rel Γ S H' σ ρ' τ → Rep Γ (exA S σ ρ') H' v d → q d ρ' → Q v H') →
    (∀ k C ρ' H', Γ.cls k = some C → Rel Γ S H' σ ρ' τ → z k ρ' → E σ (.ref C) none H') → t σ H Q
def spX (Γ : Cn) (pn : List Nat) (n : Nat) (p : PSp) : Sp := fun vs H Q E => vs.length = n ∧ ∃ (S : Fs) (ss : List Slot) (q z : D → List D → Prop), PinOk pn S ∧ S.H0 = H ∧ Rel Γ S H (vs.map some) ss [] ∧ p ss q z ∧
  (∀ v d H' σ' ρ' os, RR Γ false S σ' ρ' H' [] v d → Pins pn ρ' os → q d os → Q v H') ∧
  ∀ k C H', Γ.cls k = some C → (∀ b o, S.H0 b = some o → (∀ i, S.pin i ≠ some b) → H' b = some o) → z (.exc k) [] → E (.ref C) none H'
section
variable {Γ : Cn} {pn : List Nat} {fr : Bool} {E : St → XK} {z : Nat → Env → Prop}
theorem jsx_of {t : TS} {m : MS} (h : JS Γ pn fr t m) : JSX Γ pn fr E z t m := fun S σ ρ H τ D N hp R hm hn hr hb hc _ => h S σ ρ H τ D N hp R hm hn hr hb hc
theorem jsx_seq {t u : TS} {a b : MS} (h1 : JSX Γ pn fr E z t a) (h2 : JSX Γ pn fr E z u b) : JSX Γ pn fr E z (tSeq t u) (mSeq a b) := fun S σ ρ H τ D N hp R hm hn hr hb hc hz =>
  h1 S σ ρ H τ _ _ hp R hm (fun σ' H' ρ' R' m' => h2 S σ' ρ' H' τ D N hp R' m' hn hr hb hc hz) hr hb hc hz
theorem jsx_if {t : TT} {ta tb : TS} {c : MT} {a b : MS} (h0 : JT Γ pn t c) (h1 : JSX Γ pn fr E z ta a) (h2 : JSX Γ pn fr E z tb b) : JSX Γ pn fr E z (tIfS t ta tb) (mIfS c a b) := fun S σ ρ H τ D N hp R hm hn hr hb hc hz =>
  h0 S σ ρ H τ _ _ hp R hm fun k H1 ρ1 R1 q1 => by
    cases k with
    | true => rw [if_pos rfl] at q1 ⊢; exact h1 S σ ρ1 H1 τ D N hp R1 q1 hn hr hb hc hz
    | false => rw [if_neg Bool.false_ne_true] at q1 ⊢; exact h2 S σ ρ1 H1 τ D N hp R1 q1 hn hr hb hc hz
theorem jsx_drop {t : TE} {m : ME} (h : JEX Γ pn E z t m) : JSX Γ pn fr E z (tDrop t) (mDrop m) := fun S σ ρ H τ D N hp R hm hn hr hb hc hz =>
  h S σ ρ H τ _ _ hp R hm (fun v d H' ρ' R' r q => hn σ H' ρ' R' q) fun k C ρ' H' hc R' q => hz k C σ ρ' H' hc R' q
theorem jsx_set {i : Nat} {t : TE} {m : ME} (hi : i ∉ pn) (h : JEX Γ pn E z t m) : JSX Γ pn fr E z (tAsg t (gName i)) (mSet i m) := fun S σ ρ H τ D N hp R hm hn hr hb hc hz =>
  h S σ ρ H τ _ _ hp R hm (fun v d H' ρ' R' r q => hn _ H' _ (R'.asg (hp i hi) r) q) fun k C ρ' H' hc R' q => hz k C σ ρ' H' hc R' q
def mRaise (z : Nat → Env → Prop) (k : Nat) (a : MA) : MS := fun _ ρ => a ρ fun ds ρ1 => ds.length ≤ 1000 ∧ z k ρ1
def tRaiseX (C : Addr) (E : St → XK) (t : TA) : TS := fun _ σ H => t σ H fun vs H1 => vs.length ≤ 1000 ∧ E σ (.ref C) none H1
theorem jsx_raise {C : Addr} {k : Nat} {ta : TA} {a : MA} (hC : Γ.cls k = some C) (ha : JA Γ pn ta a) : JSX Γ pn fr E z (tRaiseX C E ta) (mRaise z k a) := fun S σ ρ H τ D N hp R hm hn hr hb hc hz =>
  ha S σ ρ H τ _ _ hp R hm fun vs ds H1 ρ1 R1 r1 q1 => ⟨by rw [r1.1]; exact q1.1, hz k C σ ρ1 H1 hC R1 q1.2⟩
def mCallX (z : Nat → Env → Prop) (p : PSp) (a : MA) : ME := fun ρ q => a ρ fun ds ρ1 => p (ds.map .val) (fun d _ => q d ρ1) fun d _ => ∃ k, d = .exc k ∧ z k ρ1
theorem jex_call {n : Nat} {p : PSp} {ta : TA} {a : MA} (ha : JA Γ pn ta a) (hn : ∀ ss q z, p ss q z → ss.length = n) : JEX Γ pn E z (tCallX (spX Γ [] n p) [] E ta) (mCallX z p a) := fun S σ ρ H τ Q q hp R hm hq hz =>
  ha S σ ρ H τ _ _ hp R hm fun vs ds H1 ρ1 R1 r1 q1 => by
    rw [List.append_nil]
    have hl := hn _ _ _ q1
    refine ⟨by rw [r1.1]; simpa using hl, ⟨exA S σ ρ1, H1, fun _ => none⟩, ds.map .val, _, _, fun _ _ => rfl, rfl, rel_args R1 r1, q1, fun v d H' σ' ρ' os ⟨R', r'⟩ _ q' => ?_, fun k C H' hc hf ⟨k', e, q'⟩ => ?_⟩
    · obtain ⟨a, b⟩ := after_pure R1 R' r'
      exact hq v d H' ρ1 a b q'
    · cases e
      exact hz k C ρ1 H' hc (R1.grow fun b o h => hf b o h fun i => by simp) q'
theorem Rel.gone {S : Fs} {H : Hp} {σ : St} {ρ : Env} {τ : List (V × D)} (R : Rel Γ S H σ ρ τ) {i : Nat} (hi : S.pin i = none) : Rel Γ S H (σ.set i none) (ρ.set i .no) τ := by
  have own_ne : ∀ j, isOwn (ρ.set i .no) j → j ≠ i ∧ isOwn ρ j := fun j ⟨o, ho⟩ => by
    by_cases e : i = j
    · subst e; cases getElem?_set_here ho
    · rw [getElem?_set_ne e] at ho; exact ⟨Ne.symm e, o, ho⟩
  have he : ∀ b, H b ≠ none → exA S (σ.set i none) (ρ.set i .no) b → exA S σ ρ b := fun b _ h => by
    rcases h with h | ⟨j, hj, e⟩
    · exact .inl h
    · obtain ⟨ne, oj⟩ := own_ne j hj
      rw [getElem?_set_ne (Ne.symm ne)] at e
      exact .inr ⟨j, oj, e⟩
  have keep : ∀ b o, ¬ exA S σ ρ b → H b = some o → H b = some o := fun _ _ _ q => q
  exact {
    len := by simp [R.len]
    val := fun j e hj => by
      by_cases eq : i = j
      · subst eq; cases getElem?_set_here hj
      · rw [getElem?_set_ne eq] at hj
        obtain ⟨w, e1, r⟩ := R.val j e hj
        exact ⟨w, by rw [getElem?_set_ne eq]; exact e1, r.up he keep⟩
    own := fun j o hj => by
      obtain ⟨ne, _⟩ := own_ne j ⟨o, hj⟩
      rw [getElem?_set_ne (Ne.symm ne)] at hj
      obtain ⟨p, e1, r, q⟩ := R.own j o hj
      exact ⟨p, by rw [getElem?_set_ne (Ne.symm ne)]; exact e1, r.up (fun _ z => z) he fun _ _ _ z => z, q⟩
    pin := fun j p hj => by
      have ne : i ≠ j := fun z => by rw [← z, hi] at hj; cases hj
      obtain ⟨e, o, q⟩ := R.pin j p hj
      exact ⟨by rw [getElem?_set_ne ne]; exact e, o, by rw [getElem?_set_ne ne]; exact q⟩
    inj := fun j l p hj hl e1 e2 => by
      obtain ⟨n1, o1⟩ := own_ne j hj
      obtain ⟨n2, o2⟩ := own_ne l hl
      rw [getElem?_set_ne (Ne.symm n1)] at e1
      rw [getElem?_set_ne (Ne.symm n2)] at e2
      exact R.inj j l p o1 o2 e1 e2
    dom := R.dom
    fr := R.fr
    tmp := fun x hx => (R.tmp x hx).up he keep }
def mMakeX (z : Nat → Env → Prop) (c : Nat) (p : PSp) (a : MA) : ME := fun ρ q => a ρ fun ds ρ1 => p (.own (.obj c []) :: ds.map .val) (fun d os => match d, os with | .non, [o] => q o ρ1 | _, _ => False) fun d _ => ∃ k, d = .exc k ∧ z k ρ1
theorem jex_make {n c : Nat} {C : Addr} {p : PSp} {ta : TA} {a : MA} (hC : Γ.cls c = some C) (ha : JA Γ pn ta a) (hn : ∀ ss q z, p ss q z → ss.length = n) : JEX Γ pn E z (tMakeX C (spX Γ [0] n p) [] E ta) (mMakeX z c p a) := fun S σ ρ H τ Q q hp R hm hq hz =>
  ha S σ ρ H τ _ _ hp R hm fun vs ds H1 ρ1 R1 r1 q1 => by
    intro x dx hx hdx hne
    rw [List.append_nil]
    have hl := hn _ _ _ q1
    have g1 : Same H1 (upd (upd H1 dx (.own x)) x (.ins C dx [])) := fun b o h => by rw [upd_ne (ne_of_none h hx), upd_ne (ne_of_none h hdx)]; exact h
    have hxE : ¬ exA S σ ρ1 x := fun z => exA_some R1 z hx
    refine ⟨by have := r1.1; simp at hl; simp; omega, ⟨exA S σ ρ1, _, pin0 x⟩, _, _, _, fun i hi => ?_, rfl,
      rel_args0 (S := S) (σ := σ) (ρ := ρ1) (τ := τ) (o := .obj c []) (fun a h => ?_) (r1.up (fun b hb z => z.elim id fun w => by subst w; exact absurd hx hb) fun b o _ z => g1 b o z) ⟨C, dx, [], hC, upd_same, rfl, .nil⟩ hxE, q1, fun v d H' σ' ρ' os ⟨R', r'⟩ ps q' => ?_, fun k C' H' hc hf ⟨k', e, q'⟩ => ?_⟩
    · show (if i = 0 then some x else none) = none
      rw [if_neg (by simpa using hi)]
    · cases e : H1 a with
      | none => exact absurd e (exA_some R1 h)
      | some u => exact fun z => absurd ((g1 a u e).symm.trans z) (by simp)
    · obtain ⟨o', rfl, ho'⟩ := pins0 ps
      obtain ⟨k1, k2, k3⟩ := after_own R' ho'
      cases d with
      | non =>
        cases r'
        have same : Same H1 H' := fun b u h => k1 b u (ne_of_none h hx) (g1 b u h)
        refine ⟨rfl, ?_⟩
        have ow : OwnAt Γ (exA (S.add x) σ ρ1) H' x o' := k2.up (fun _ z => z) (fun b _ z => k3 b (by
          rcases z with (z | z) | z
          · exact .inl (.inl z)
          · exact .inr z
          · exact .inl (.inr z))) fun _ _ _ z => z
        have ow' : OwnAt Γ (exA S σ ρ1) H' x o' := ow.up (fun _ z => z) (fun b _ z => z.elim (fun z => .inl (.inl z)) .inr) fun _ _ _ z => z
        exact hq _ o' H' ρ1 (R1.addS hx same k2.ne0).unadd (ow'.rep hxE) q'
      | _ => exact False.elim q'
    · cases e
      refine hz k C' ρ1 H' hc (R1.grow fun b o h => hf b o (g1 b o h) fun i z => ?_) q'
      have z : (if i = 0 then some x else none) = some b := z
      split at z
      · cases z; rw [hx] at h; cases h
      · cases z
def mTry (cs : Nat → Bool) (i : Nat) (b : (Nat → Env → Prop) → MS) (h : MS) : MS := fun N ρ => b (fun k ρ' => cs k = true ∧ h { nx := fun ρ'' => N.nx (ρ''.set i .no), rt := N.rt, bk := fun ρ'' => N.bk (ρ''.set i .no), ct := fun ρ'' => N.ct (ρ''.set i .no) } (ρ'.set i (.val (.exc k)))) N ρ
theorem js_try {c : Addr} {cs : Nat → Bool} {i : Nat} {tb : (St → XK) → TS} {th : TS} {b : (Nat → Env → Prop) → MS} {h : MS} (hcs : ∀ k C, Γ.cls k = some C → cs k = true → PySem.W.exmOne Γ.K (.ref C) (.ref c) = some true) (hi : i ∉ pn) (hb : ∀ E z, JSX Γ pn fr E z (tb E) (b z)) (hh : JS Γ pn fr th h) :
    JS Γ pn fr (tTry Γ.K (.ref c) i tb th) (mTry cs i b h) := fun S σ ρ H τ D N hp R hm hn hr hbk hct =>
  hb _ _ S σ ρ H τ D N hp R hm hn hr hbk hct fun k C σ' ρ' H' hC R' ⟨hk, q⟩ => ⟨hcs k C hC hk, fun ea hea => by
    have g : Same H' (upd H' ea (.ext (ExcO ea (.ref C)))) := fun b o q => by rw [upd_ne (ne_of_none q hea)]; exact q
    refine hh S _ _ _ τ (D.goes i) _ hp ((R'.grow g).asg (hp i hi) (.exc (fun z => exA_some R' z hea) hC upd_same)) q (fun σ'' H'' ρ'' R'' m => hn _ _ _ (R''.gone (hp i hi)) m) hr (fun σ'' H'' ρ'' R'' m => hbk _ _ _ (R''.gone (hp i hi)) m) fun σ'' H'' ρ'' R'' m => hct _ _ _ (R''.gone (hp i hi)) m⟩
end
end M
namespace M
open PySem L2
structure DSX (X : Cx) (cls : Nat → Option Addr) (pn : List Nat) (fr : Bool) (E : St → XK) (z : Nat → Env → Prop) (e : Stmt) (m : MS) : Prop where
  h : ∃ t, PS X e t ∧ JSX ⟨X.K, cls⟩ pn fr E z t m
structure DSsX (X : Cx) (cls : Nat → Option Addr) (pn : List Nat) (fr : Bool) (E : St → XK) (z : Nat → Env → Prop) (e : List Stmt) (m : MS) : Prop where
  h : ∃ t, PSs X e t ∧ JSX ⟨X.K, cls⟩ pn fr E z t m
structure DEX (X : Cx) (cls : Nat → Option Addr) (pn : List Nat) (E : St → XK) (z : Nat → Env → Prop) (e : Expr) (m : ME) : Prop where
  h : ∃ t, PE X e t ∧ JEX ⟨X.K, cls⟩ pn E z t m
structure HX (P : Program) (w : World) (K : PySem.W.Frag) (mg : Str → Option Value) (base : Heap) (cls : Nat → Option Addr) (x : Str) (k : Nat) (ps : List Str) (p : PSp) : Prop where
  has : ∃ f fd, FnOk P w K mg base (CX1 P w) k f fd ps (spX ⟨K, cls⟩ [] ps.length p) ∧ Binds K fd ps [] ∧ PySem.W.keepIn K (.ref f) = true ∧ mg x = some (.ref f)
  len : ∀ ss q z, p ss q z → ss.length = ps.length
structure HKX (P : Program) (w : World) (K : PySem.W.Frag) (mg : Str → Option Value) (base : Heap) (cls : Nat → Option Addr) (x : Str) (c k : Nat) (ps : List Str) (p : PSp) : Prop where
  has : ∃ C f fd, cls c = some C ∧ Mk K C f ∧ FnOk P w K mg base (CX1 P w) k f fd ps (spX ⟨K, cls⟩ [0] ps.length p) ∧ Binds K fd ps [] ∧ mg x = some (.ref C)
  len : ∀ ss q z, p ss q z → ss.length = ps.length
section
variable {X : Cx} {cls : Nat → Option Addr} {pn : List Nat} {a b c e o tg iter : Expr} {es : List Expr} {pos p pos' apos cpos : Pos} {x : Str} {ma mb : MO} {st : Stmt} {sts : List Stmt} {fr : Bool} {E : St → XK} {z : Nat → Env → Prop}
theorem dsx_of {m : MS} (h : DS X cls pn fr st m) : DSX X cls pn fr E z st m := let ⟨_, a, b⟩ := h.h; ⟨_, a, jsx_of b⟩
theorem dssx_of {m : MS} (h : DSs X cls pn fr sts m) : DSsX X cls pn fr E z sts m := let ⟨_, a, b⟩ := h.h; ⟨_, a, jsx_of b⟩
theorem dssx_cons {m n : MS} (h : DSX X cls pn fr E z st m) (r : DSsX X cls pn fr E z sts n) : DSsX X cls pn fr E z (st :: sts) (mSeq m n) := let ⟨_, a, b⟩ := h.h; let ⟨_, c, d⟩ := r.h; ⟨_, pss_cons a c, jsx_seq b d⟩
theorem dssx_one {m : MS} (h : DSX X cls pn fr E z st m) : DSsX X cls pn fr E z [st] m := let ⟨_, a, b⟩ := h.h; ⟨_, pss_one a, b⟩
theorem dsx_if {t : MT} {m n : MS} {s1 s2 : List Stmt} (h : DT X cls pn c t) (h1 : DSsX X cls pn fr E z s1 m) (h2 : DSsX X cls pn fr E z s2 n) : DSX X cls pn fr E z (.If c s1 s2 pos) (mIfS t m n) :=
  let ⟨_, a, b⟩ := h.h; let ⟨_, c, d⟩ := h1.h; let ⟨_, e, f⟩ := h2.h; ⟨_, ps_if a c e, jsx_if b d f⟩
theorem dsx_expr {m : ME} (h : DEX X cls pn E z e m) (hs : swapsWith e none pos.line X.env = pure false := by kernel_rfl) : DSX X cls pn fr E z (.Expr e pos) (mDrop m) := let ⟨_, a, b⟩ := h.h; ⟨_, ps_expr a hs, jsx_drop b⟩
theorem dsx_set {i : Nat} {m : ME} (hi' : i ∉ pn) (hN : X.N.Nodup) (hi : X.N[i]? = some x) (hx : Loc X.env.scope x) (he : DEX X cls pn E z e m) (hs : swapsWith e (some (.Name x pos')) pos.line X.env = pure false := by kernel_rfl)
    (hf : X.fn x = true ∨ X.env.scope.names.lookup x = some .local := by first | exact .inl rfl | exact .inr rfl | assumption) : DSX X cls pn fr E z (.Assign [.Name x pos'] e pos) (mSet i m) :=
  let ⟨_, a, b⟩ := he.h; ⟨_, ps_set hN hi hx a hs hf, jsx_set hi' b⟩
theorem dex_call {k : Nat} {ps : List Str} {sp : PSp} {m : MA} (h : HX X.prog X.w X.K X.mg X.base cls x k ps sp) (hr : Room k X.A) (hx : PassesX (CX1 X.prog X.w) X E) (hg : Gl X x) (ha : DA X cls pn (e :: es) m) (hd : (x == ("__debug__" : Str)) = false := by decide)
    (hs : starEach (e :: es) X.env = (false, eval e X.env) :: starEach es X.env := by kernel_rfl) (hp : (backTo pos (starEach es X.env)).any (·.1) = false := by kernel_rfl) : DEX X cls pn E z (.Call (.Name x p) (e :: es) [] pos) (mCallX z sp m) := by
  obtain ⟨f, fd, F, B, kp, hm⟩ := h.has
  exact let ⟨_, pa, ja⟩ := ha.h; ⟨_, pe_callX F hr hg hm kp B .nil hx pa hd hs hp, jex_call ja h.len⟩
theorem dex_make {c k : Nat} {ps : List Str} {sp : PSp} {m : MA} (h : HKX X.prog X.w X.K X.mg X.base cls x c k ps sp) (hr : Room (k + 1) X.A) (hx : PassesX (CX1 X.prog X.w) X E) (hg : Gl X x) (ha : DA X cls pn (e :: es) m) (hd : (x == ("__debug__" : Str)) = false := by decide)
    (hs : starEach (e :: es) X.env = (false, eval e X.env) :: starEach es X.env := by kernel_rfl) (hp : (backTo pos (starEach es X.env)).any (·.1) = false := by kernel_rfl) : DEX X cls pn E z (.Call (.Name x p) (e :: es) [] pos) (mMakeX z c sp m) := by
  obtain ⟨C, f, fd, hC, M, F, B, hm⟩ := h.has
  exact let ⟨_, pa, ja⟩ := ha.h; ⟨_, pe_makeX M F hr hg hm B .nil hx pa hd hs hp, jex_make hC ja h.len⟩
structure HR (K : PySem.W.Frag) (mg : Str → Option Value) (cls : Nat → Option Addr) (x : Str) (k : Nat) : Prop where
  has : ∃ C bmB B newId initId, cls k = some C ∧ mg x = some (.ref C) ∧ PySem.W.excIn K C bmB newId = true ∧ ExcBaseFacts B newId initId bmB
theorem dsx_raise {k : Nat} {E0 : XK} {m : MA} (h : HR X.K X.mg cls x k) (hx : RaiseOk X E0) (hc : X.calm = true) (hg : Gl X x) (ha : DA X cls pn (e :: es) m) (hd : (x == ("__debug__" : Str)) = false := by decide)
    (hs : starEach (e :: es) X.env = (false, eval e X.env) :: starEach es X.env := by kernel_rfl) (hp : (backTo cpos (starEach es X.env)).any (·.1) = false := by kernel_rfl) : DSX X cls pn fr (fun _ => E0) z (.Raise (some (.Call (.Name x p) (e :: es) [] cpos)) none pos) (mRaise z k m) := by
  obtain ⟨C, bmB, B, newId, initId, hC, hm, hex, fB⟩ := h.has
  exact let ⟨_, pa, ja⟩ := ha.h; ⟨_, ps_raise hx hc hg hm hex fB pa hd hs hp, jsx_raise (E := fun _ => E0) hC ja⟩
theorem ds_try {body : List Stmt} {b : (Nat → Env → Prop) → MS} {h : MS} {n : Str} {k : Nat} {C : Addr} {cs : Nat → Bool} {i : Nat} {b₀ : Stmt} {suite : List Stmt} {np hpos : Pos} (hx : X.ex = []) (hst : X.stack = X.env :: X.outer) (hf : X.env.frame = some X.env.locals) (hg : Gl X x) (hm : X.mg x = some (.ref C))
    (hcs : ∀ k D, cls k = some D → cs k = true → PySem.W.exmOne X.K (.ref D) (.ref C) = some true) (hi' : i ∉ pn) (hN : X.N.Nodup) (hi : X.N[i]? = some n) (hloc : X.env.scope.names.lookup n = some .local) (hk : X.env.kindOf n = some .local)
    (hb : ∀ pn' xe E z, PassesX (CX1 X.prog X.w) (X.tried pn' xe) E → DSsX (X.tried pn' xe) cls pn fr E z body (b z)) (hh : ∀ ea, DSs (X.within (.ref ea)) cls pn fr (b₀ :: suite) h) (hd : (x == ("__debug__" : Str)) = false := by decide) :
    DS X cls pn fr (.Try body [.ExceptHandler (some (.Name x np)) (some n) (b₀ :: suite) hpos] [] [] pos) (mTry cs i b h) := by
  refine ⟨_, ps_try (b := fun E D σ H => ∀ pn' xe pins s, PassesX (CX1 X.prog X.w) (X.tried pn' xe) E → Inv (X.tried pn' xe) pins σ H s → wpAny (model X.prog X.w) X.A (execs body X.env) (SP (X.tried pn' xe) pins D) xe s)
    (t := fun D σ H => ∀ ea pins s, Inv (X.within (.ref ea)) pins σ H s → wpAny (model X.prog X.w) (X.A.mark (some (.ref ea))) (execs (b₀ :: suite) X.env) (SP (X.within (.ref ea)) pins D) (fun _ _ => False) s)
    hx hst hf hg hm hN hi hloc hk (fun pn' xe E hP pins s σ H D I q => q pn' xe pins s hP I) (fun ea pins s σ H D I q => q ea pins s I) hd, ?_⟩
  refine js_try (Γ := ⟨X.K, cls⟩) hcs hi' (fun E z S σ ρ H τ D N hp R q hn hr hbk hct hz pn' xe pins s hP I => ?_) fun S σ ρ H τ D N hp R q hn hr hbk hct ea pins s I => ?_
  · obtain ⟨t, pa, ja⟩ := (hb pn' xe E z hP).h
    exact pa pins s σ H D I (ja S σ ρ H τ D N hp R q hn hr hbk hct hz)
  · obtain ⟨t, pa, ja⟩ := (hh ea).h
    exact pa pins s σ H D I (ja S σ ρ H τ D N hp R q hn hr hbk hct)
end
theorem passX {P : Program} {w : World} {K : PySem.W.Frag} {mg : Str → Option Value} {base : Heap} {N : List Str} {qual : Str} {scope : Scope} {f : Addr} {cd : Value} {A : Around} {outer : List PySem.Env} {s₀ : Shared} {H₀ : Hp} {E : XK} :
    PassesX (CX1 P w) (cxOf (CX1 P w) P w K mg base N qual scope f cd A outer s₀ H₀ E) (fun _ => E) := fun pins σ H s e s' I h => pass1 (fun _ _ h => h) pins σ H s e s' I h
end M
namespace M
open PySem L2
def mIsExc (i : Nat) (tb : Nat → Option Bool) : ME := fun ρ q => match ρ[i]? with
  | some (.val (.exc k)) => (match tb k with | some b => q (.bl b) ρ | none => False)
  | _ => False
theorem mIsExc_of {i : Nat} {tb : Nat → Option Bool} {ρ : Env} {q : EK} (h : mIsExc i tb ρ q) : ∃ k b, ρ[i]? = some (.val (.exc k)) ∧ tb k = some b ∧ q (.bl b) ρ := by
  unfold mIsExc at h
  split at h
  · rename_i k e
    split at h
    · rename_i b e2
      exact ⟨k, b, e, e2, h⟩
    · exact False.elim h
  · exact False.elim h
section
variable {X : Cx} {cls : Nat → Option Addr} {pn : List Nat} {pos p np pc tp : Pos} {x n : Str}
theorem rep_exc {Γ : Cn} {E : Addr → Prop} {H : Hp} {v : V} {k : Nat} (r : Rep Γ E H v (.exc k)) : ∃ ea C, v = .ref ea ∧ Γ.cls k = some C ∧ H ea = some (.ext (ExcO ea (.ref C))) := by
  cases r with
  | exc ne hc h => exact ⟨_, _, rfl, hc, h⟩
theorem de_isexc {i : Nat} {D : Addr} {tb : Nat → Option Bool} (hg : Gl X "isinstance") (hm : X.mg "isinstance" = none) (hgx : Gl X x) (hmx : X.mg x = some (.ref D)) (ht : ∀ k C b, cls k = some C → tb k = some b → ExcCls X.K C ∧ PySem.W.kitOne X.K (.ref C) (.ref D) = some b)
    (hN : X.N[i]? = some n := by kernel_rfl) (hv : Vis X.env.scope n := by first | exact Or.inl rfl | exact Or.inr (Or.inl rfl) | exact Or.inr (Or.inr rfl)) (hd : (n == ("__debug__" : Str)) = false := by decide) (hcd : (n == ("__classdict__" : Str)) = false := by decide) (hdx : (x == ("__debug__" : Str)) = false := by decide)
    (hs : starEach [.Name n np, .Name x pc] X.env = (false, eval (.Name n np) X.env) :: starEach [.Name x pc] X.env := by kernel_rfl) (hs2 : starEach [.Name x pc] X.env = [(false, eval (.Name x pc) X.env)] := by kernel_rfl) (hp : (backTo pos (starEach [.Name x pc] X.env)).any (·.1) = false := by kernel_rfl) :
    DE X cls pn (.Call (.Name "isinstance" p) [.Name n np, .Name x pc] [] pos) (mIsExc i tb) := by
  refine ⟨_, pe_callB call_isexc hg hm (by kernel_rfl) (pa_cons (pe_var hN hv hd hcd) (pa_cons (pe_glob (v := .ref D) hgx hmx rfl hdx) pa_nil hs2) hs) (by decide) (by decide) hs hp, fun S σ ρ H τ Q q hpn R hm' hq => ?_⟩
  obtain ⟨k, b, e, e2, h⟩ := mIsExc_of hm'
  obtain ⟨v, ev, r⟩ := R.val i _ e
  obtain ⟨ea, C, rfl, hC, hH⟩ := rep_exc r
  obtain ⟨hc, hk⟩ := ht k C b hC e2
  exact ⟨_, ev, ea, C, D, b, rfl, hc, hH, hk, hq _ _ H ρ R (.bl b) h⟩
theorem de_isexcT {i : Nat} {T : String} {tb : Nat → Option Bool} (hg : Gl X "isinstance") (hm : X.mg "isinstance" = none) (hgx : Gl X x) (hmx : X.mg x = none) (hbx : bootBuiltins x = some (.type T)) (ht : ∀ k C b, cls k = some C → tb k = some b → ExcCls X.K C ∧ PySem.W.kitOne X.K (.ref C) (.type T) = some b)
    (hN : X.N[i]? = some n := by kernel_rfl) (hv : Vis X.env.scope n := by first | exact Or.inl rfl | exact Or.inr (Or.inl rfl) | exact Or.inr (Or.inr rfl)) (hd : (n == ("__debug__" : Str)) = false := by decide) (hcd : (n == ("__classdict__" : Str)) = false := by decide) (hnx : x ≠ "__name__" := by decide) (hdx : (x == ("__debug__" : Str)) = false := by decide)
    (hs : starEach [.Name n np, .Name x pc] X.env = (false, eval (.Name n np) X.env) :: starEach [.Name x pc] X.env := by kernel_rfl) (hs2 : starEach [.Name x pc] X.env = [(false, eval (.Name x pc) X.env)] := by kernel_rfl) (hp : (backTo pos (starEach [.Name x pc] X.env)).any (·.1) = false := by kernel_rfl) :
    DE X cls pn (.Call (.Name "isinstance" p) [.Name n np, .Name x pc] [] pos) (mIsExc i tb) := by
  refine ⟨_, pe_callB call_isexcT hg hm (by kernel_rfl) (pa_cons (pe_var hN hv hd hcd) (pa_cons (pe_bltn (v := .ty T) hgx hmx hbx rfl hnx hdx) pa_nil hs2) hs) (by decide) (by decide) hs hp, fun S σ ρ H τ Q q hpn R hm' hq => ?_⟩
  obtain ⟨k, b, e, e2, h⟩ := mIsExc_of hm'
  obtain ⟨v, ev, r⟩ := R.val i _ e
  obtain ⟨ea, C, rfl, hC, hH⟩ := rep_exc r
  obtain ⟨hc, hk⟩ := ht k C b hC e2
  exact ⟨_, ev, ea, C, T, b, rfl, hc, hH, hk, hq _ _ H ρ R (.bl b) h⟩
def tRefs (ds : List Addr) : TA := fun _ H Q => Q (ds.map V.ref) H
theorem pa_refs0 : PA X [] (tRefs []) := pa_nil
theorem pa_refs {d : Addr} {ds : List Addr} {es : List Expr} (hg : Gl X x) (hm : X.mg x = some (.ref d)) (h : PA X es (tRefs ds)) (hd : (x == ("__debug__" : Str)) = false := by decide) (hs : starEach (.Name x pc :: es) X.env = (false, eval (.Name x pc) X.env) :: starEach es X.env := by kernel_rfl) :
    PA X (.Name x pc :: es) (tRefs (d :: ds)) := fun pos pins s σ H Q I q => pa_cons (pe_glob (v := .ref d) hg hm rfl hd) h hs pos pins s σ H Q I q
theorem de_isexcs {i : Nat} {ds : List Addr} {cs : List Expr} {ctx} {tb : Nat → Option Bool} (hg : Gl X "isinstance") (hm : X.mg "isinstance" = none) (ha : PA X cs (tRefs ds)) (hlen : ds.length ≤ 1000) (ht : ∀ k C b, cls k = some C → tb k = some b → ExcCls X.K C ∧ PySem.W.kitAny X.K (.ref C) (ds.map Value.ref) = some b)
    (hN : X.N[i]? = some n := by kernel_rfl) (hv : Vis X.env.scope n := by first | exact Or.inl rfl | exact Or.inr (Or.inl rfl) | exact Or.inr (Or.inr rfl)) (hd : (n == ("__debug__" : Str)) = false := by decide) (hcd : (n == ("__classdict__" : Str)) = false := by decide)
    (hs : starEach [.Name n np, .Tuple cs ctx tp] X.env = (false, eval (.Name n np) X.env) :: starEach [.Tuple cs ctx tp] X.env := by kernel_rfl) (hs2 : starEach [.Tuple cs ctx tp] X.env = [(false, eval (.Tuple cs ctx tp) X.env)] := by kernel_rfl) (hp : (backTo pos (starEach [.Tuple cs ctx tp] X.env)).any (·.1) = false := by kernel_rfl) :
    DE X cls pn (.Call (.Name "isinstance" p) [.Name n np, .Tuple cs ctx tp] [] pos) (mIsExc i tb) := by
  refine ⟨_, pe_callB call_isexcs hg hm (by kernel_rfl) (pa_cons (pe_var hN hv hd hcd) (pa_cons (pe_tup ha) pa_nil hs2) hs) (by decide) (by decide) hs hp, fun S σ ρ H τ Q q hpn R hm' hq => ?_⟩
  obtain ⟨k, b, e, e2, h⟩ := mIsExc_of hm'
  obtain ⟨v, ev, r⟩ := R.val i _ e
  obtain ⟨ea, C, rfl, hC, hH⟩ := rep_exc r
  obtain ⟨hc, hk⟩ := ht k C b hC e2
  refine ⟨_, ev, by rw [List.length_map]; exact Nat.le_of_lt (small1000 hlen), fun a ha => ?_⟩
  have g : Same H (upd H a (.tup (ds.map V.ref))) := fun b o q => by rw [upd_ne (ne_of_none q ha)]; exact q
  exact ⟨ea, C, a, ds, b, rfl, hc, g _ _ hH, upd_same, hk, hq _ _ _ ρ (R.grow g) (.bl b) h⟩
end
end M
namespace M
open PySem L2
def plainD : D → Bool | .non => true | .bl _ => true | .int _ => true | .str _ => true | _ => false
def allO : List (Option Bool) → Option Bool
  | [] => some true
  | some b :: r => (match allO r with | some c => some (b && c) | none => none)
  | none :: _ => none
def eqDp : Nat → D → D → Option Bool
  | 0, x, y => if plainD x && plainD y then some (eqV (vD x) (vD y)) else none
  | n + 1, x, y => if plainD x && plainD y then some (eqV (vD x) (vD y)) else match x, y with
    | .lst xs, .lst ys => if xs.length = ys.length then allO (List.zipWith (eqDp n) xs ys) else some false
    | .tup xs, .tup ys => (match allO (List.zipWith (eqDp n) xs ys) with | some b => some (b && xs.length == ys.length) | none => none)
    | .lst _, .tup _ => some false
    | .tup _, .lst _ => some false
    | _, _ => none
def eOf (l : List (Option Bool)) (j : Nat) : Bool := match l[j]? with | some (some c) => c | _ => true
theorem allO_some : ∀ {l : List (Option Bool)} {b : Bool}, allO l = some b → (∀ j o, l[j]? = some o → o = some (eOf l j)) ∧ b = (List.range l.length).all (eOf l)
  | [], b, h => by cases h; exact ⟨fun j o h => by simp at h, rfl⟩
  | some c :: r, b, h => by
    unfold allO at h
    split at h
    · rename_i d hd
      cases h
      obtain ⟨h1, h2⟩ := allO_some hd
      refine ⟨fun j o h => ?_, ?_⟩
      · cases j with
        | zero => simp at h; subst h; rfl
        | succ j => simp at h; rw [h1 j o h]; show _ = some (eOf (some c :: r) (j + 1)); unfold eOf; simp
      · rw [h2, List.length_cons, List.range_succ_eq_map, List.all_cons, List.all_map]
        congr 1
    · cases h
  | none :: r, b, h => by cases h
section
variable {Γ : Cn} {E : Addr → Prop} {H : Hp}
theorem flat_of_plain {d : D} (h : plainD d = true) : flatD d = true ∧ flatV (vD d) = true := by
  cases d <;> first | exact ⟨rfl, rfl⟩ | cases h
theorem pl_flat {n : Nat} {x y : D} {v w : V} {b : Bool} (hp : (plainD x && plainD y) = true) (hv : v = vD x) (hw : w = vD y) (h : some (eqV (vD x) (vD y)) = some b) : DQ H n v w b := by
  rw [Bool.and_eq_true] at hp
  cases h
  subst hv hw
  exact .fl (flat_of_plain hp.1).2 (flat_of_plain hp.2).2
theorem eqDp_items {n : Nat} {xs ys : List D} {vs ws : List V} {l : List (Option Bool)} (ih : ∀ (x y : D) (v w : V) (b : Bool), eqDp n x y = some b → Rep Γ E H v x → Rep Γ E H w y → DQ H n v w b) (rx : Reps Γ E H vs xs) (ry : Reps Γ E H ws ys) (hl : l = List.zipWith (eqDp n) xs ys)
    (ha : ∀ j o, l[j]? = some o → o = some (eOf l j)) (j : Nat) (v w : V) (hv : vs[j]? = some v) (hw : ws[j]? = some w) : DQ H n v w (eOf l j) := by
  have lx := rx.1
  have ly := ry.1
  have j1 : j < xs.length := by rw [← lx]; exact (List.getElem?_eq_some_iff.mp hv).1
  have j2 : j < ys.length := by rw [← ly]; exact (List.getElem?_eq_some_iff.mp hw).1
  have e : l[j]? = some (eqDp n xs[j] ys[j]) := by
    rw [hl, List.getElem?_zipWith, List.getElem?_eq_getElem j1, List.getElem?_eq_getElem j2]
  exact ih _ _ v w _ (ha j _ e) (rx.2 j v _ hv (List.getElem?_eq_getElem j1)) (ry.2 j w _ hw (List.getElem?_eq_getElem j2))
theorem eqDp_dq : ∀ (n : Nat) (x y : D) (v w : V) (b : Bool), eqDp n x y = some b → RepB Γ E H v x → RepB Γ E H w y → DQ H n v w b
  | 0, x, y, v, w, b, h, rx, ry => by
    unfold eqDp at h
    split at h
    · rename_i hp
      have hp' := hp
      rw [Bool.and_eq_true] at hp'
      exact pl_flat hp (repB_flat rx (flat_of_plain hp'.1).1) (repB_flat ry (flat_of_plain hp'.2).1) h
    · cases h
  | n + 1, x, y, v, w, b, h, rx, ry => by
    have ih : ∀ (x y : D) (v w : V) (b : Bool), eqDp n x y = some b → Rep Γ E H v x → Rep Γ E H w y → DQ H n v w b := fun x y v w b h r1 r2 => eqDp_dq n x y v w b h r1.b r2.b
    unfold eqDp at h
    split at h
    · rename_i hp
      have hp' := hp
      rw [Bool.and_eq_true] at hp'
      exact pl_flat hp (repB_flat rx (flat_of_plain hp'.1).1) (repB_flat ry (flat_of_plain hp'.2).1) h
    · split at h
      · rename_i xs ys _
        obtain ⟨a, vs, rfl, ha, r1⟩ := rx
        obtain ⟨c, ws, rfl, hc, r2⟩ := ry
        have l1 := r1.1
        have l2 := r2.1
        split at h
        · rename_i hl
          obtain ⟨h1, h2⟩ := allO_some h
          have hlen : (List.zipWith (eqDp n) xs ys).length = vs.length := by rw [List.length_zipWith]; omega
          rw [h2, hlen]
          exact .ll _ ha hc (by omega) fun j v w hv hw => eqDp_items ih r1 r2 rfl h1 j v w hv hw
        · cases h
          exact .ln ha hc (by omega)
      · rename_i xs ys _
        obtain ⟨a, vs, rfl, ha, r1⟩ := Rep.tuple rx
        obtain ⟨c, ws, rfl, hc, r2⟩ := Rep.tuple ry
        have l1 := r1.1
        have l2 := r2.1
        split at h
        · rename_i d hd
          cases h
          obtain ⟨h1, h2⟩ := allO_some hd
          have hlen : (List.zipWith (eqDp n) xs ys).length = min vs.length ws.length := by rw [List.length_zipWith, l1, l2]
          rw [h2, hlen, ← l1, ← l2]
          exact .tt _ ha hc fun j v w hv hw => eqDp_items ih r1 r2 rfl h1 j v w hv hw
        · cases h
      · obtain ⟨a, vs, rfl, ha, r1⟩ := rx
        obtain ⟨c, ws, rfl, hc, r2⟩ := Rep.tuple ry
        cases h
        exact .lt ha hc
      · obtain ⟨a, vs, rfl, ha, r1⟩ := Rep.tuple rx
        obtain ⟨c, ws, rfl, hc, r2⟩ := ry
        cases h
        exact .tl ha hc
      · cases h
def seqD : D → Bool | .lst _ => true | .tup _ => true | _ => false
def fEqD (neg : Bool) : F2 := fun x y q => match seqD x && seqD y, eqDp 40 x y with | true, some b => q (.bl (if neg then !b else b)) | _, _ => False
theorem ref_of_seq {v : V} {d : D} (h : seqD d = true) (r : RepB Γ E H v d) : isRef v = true := by
  cases d with
  | lst ds => obtain ⟨a, _, rfl, _⟩ := r; rfl
  | tup ds => obtain ⟨a, _, rfl, _⟩ := Rep.tuple r; rfl
  | _ => cases h
theorem ok_eqD {neg : Bool} : OpOk Γ (rEqD neg) (fEqD neg) := fun E H x y dx dy Q q _ rx ry h k => by
  unfold fEqD at h
  split at h
  · rename_i b hs hb
    rw [Bool.and_eq_true] at hs
    exact ⟨b, eqDp_dq 40 dx dy x y b hb rx ry, ref_of_seq hs.1 rx, ref_of_seq hs.2 ry, k _ _ H (Same.refl H) (.bl _) h⟩
  · exact False.elim h
def fInS (neg : Bool) : F2 := fun x y q => match x, y with | .str a, .str b => q (.bl (if neg then !Txt.contains b a else Txt.contains b a)) | _, _ => False
theorem ok_inS {neg : Bool} : OpOk Γ (rInS neg) (fInS neg) := fun E H x y dx dy Q q _ rx ry h k => by
  unfold fInS at h
  split at h
  · exact ⟨_, _, repB_str rx, repB_str ry, k _ _ H (Same.refl H) (.bl _) h⟩
  · exact False.elim h
end
end M
namespace L2
open PySem PySem.Spec PyProof.Rows
section
variable {prog : Program} {w : World} {A : Around} {E : Value → Shared → Prop} {s : Shared}
theorem draw_listI {it t : Addr} {items : Array Value} (hne : t ≠ it) : ∀ (n i : Nat) (s : Shared) (Q : List Value → Shared → Prop), s.heap.IsListIter it t i → s.heap.IsList t items → i + n ≤ items.size →
    (∀ h', h'.IsListIter it t (i + n) → Heap.SameBut it s.heap h' → Q ((items.toList.drop i).take n) { s with heap := h' }) → wpAny (model prog w) A (draw (.ref it) n) Q E s
  | 0, i, s, Q, hit, _, _, hQ => by
    show wpAny _ _ (pure []) Q E s
    exact wpAny_pure (by simpa using hQ s.heap hit (Heap.SameBut.refl ..))
  | n + 1, i, s, Q, hit, ht, hle, hQ => by
    have hlt : i < items.size := by omega
    show wpAny _ _ (pyNext (.ref it) >>= _) Q E s
    refine wpAny_bind (wpAny_pyNext_list_item hit ht (x := items[i]) (by simp [hlt]) fun h₁ hit₁ hs₁ => ?_)
    refine wpAny_bind (wpAny_holding (draw_listI hne n (i + 1) _ _ hit₁ (ht.extBut hs₁.extBut hne) (by omega) fun h₂ hit₂ hs₂ => wpAny_pure ?_))
    have hd : items.toList.drop i = items[i] :: items.toList.drop (i + 1) := by simp [List.drop_eq_getElem_cons, hlt]
    have := hQ h₂ (by rw [show i + (n + 1) = i + 1 + n by omega]; exact hit₂) (hs₁.trans hs₂)
    rw [hd, List.take_succ_cons] at this
    exact this
theorem unpackItems_list {t : Addr} {items : Array Value} {Q : List Value → Shared → Prop} (hh : A.handled = none) (ht : s.heap.IsList t items)
    (hQ : ∀ h', Heap.ExtBut s.heap.objs.size s.heap h' → Q items.toList { s with heap := h' }) : wpAny (model prog w) A (unpackItems (.ref t) items.size none) Q E s := by
  have hlt : t ≠ s.heap.objs.size := by obtain ⟨o, ho, _⟩ := ht; exact Nat.ne_of_lt (Heap.lt_size ho)
  unfold unpackItems
  refine wpAny_bind ?_
  · unfold notIterableAtAll
    refine wpAny_bind (wpAny_specialOf ht.typeIs slot_list_iter.lookup ?_)
    refine wpAny_pure ?_
    simp only [Bool.false_eq_true, if_false]
    refine wpAny_bind (wpAny_holding (wpAny_pyIter_list ht ?_))
    refine wpAny_bind (wpAny_holding (draw_listI hlt items.size 0 _ _ ⟨_, Heap.get?_push_size _ rfl, rfl, rfl⟩ (ht.push _) (by omega) fun h₁ hit₁ hs₁ => ?_))
    have hall : List.take items.size (List.drop 0 items.toList) = items.toList := by
      rw [List.drop_zero]; exact List.take_of_length_le (by simp)
    rw [hall]
    rw [if_neg (by simp)]
    have ht₁ : h₁.IsList t items := (ht.push _).extBut hs₁.extBut hlt
    refine wpAny_bind (wpAny_holding (wpAny_pyNext_list_end hh hit₁ ht₁ (by simp) fun h₂ he₂ => ?_))
    simp only [Option.isSome_none, Bool.false_eq_true, if_false]
    refine wpAny_pure (hQ h₂ fun b o hb e => he₂ b o hb (hs₁.extBut b o hb (Heap.get?_push_of_some _ e)))
theorem assign_Tuple_list {env : Env} {elts : List Expr} {x1} {pos : Pos} {t : Addr} {items : Array Value} {Q : Unit → Shared → Prop} (hh : A.handled = none) (ht : s.heap.IsList t items)
    (hn : (assignEach elts env).length = items.size) (hstar : (assignEach elts env).findIdx? (·.1) = none)
    (h : ∀ h', Heap.ExtBut s.heap.objs.size s.heap h' → wpAny (model prog w) A (assignInOrder ((assignEach elts env).map (·.2)) items.toList) Q E { s with heap := h' }) :
    wpAny (model prog w) A (assign (.Tuple elts x1 pos) env (.ref t)) Q E s := by
  rw [assign_Tuple]
  refine wpAny_bind (wpAny_standAt ?_)
  unfold unpack
  rw [hn, hstar]
  exact wpAny_bind (wpAny_holding (unpackItems_list hh ht h))
end
section
variable {X : Cx} {pos : Pos}
def gTupL (K : PySem.W.Frag) (n : Nat) (t : TGs) : TG := fun v σ H Q => ∃ a xs, v = .ref a ∧ SqL K H a xs ∧ xs.length = n ∧ t xs σ H Q
theorem pg_tupL {es : List Expr} {k : Nat} {t : TGs} {n : Nat} (hc : X.calm = true) (h : PGs X es t)
    (hn : (assignEach es X.env).length = n := by rfl) (hst : (assignEach es X.env).findIdx? (·.1) = none := by rfl) : PG X (.Tuple es k pos) (gTupL X.K n t) := by
  intro pins s σ H v u Q I r hw
  obtain ⟨a, xs, e1, hq, hl, hw⟩ := hw
  subst e1
  cases r
  obtain ⟨its, rv, ht, hz⟩ := I.list hq
  refine assign_Tuple_list (I.ok.hd hc) ht.isList (by simp [hn, ← hl, rv.length]) hst fun h' hx => ?_
  have I1 : Inv X pins σ H { s with heap := h' } := I.kept (t' := s.toks) fun b o e => hx b o (Nat.ne_of_lt (Heap.lt_size e)) e
  exact h pins _ σ H xs _ Q I1 (by simpa using rv) hw
end
end L2
namespace M
open PySem L2
section
variable {Γ : Cn} {pn : List Nat} {X : Cx} {cls : Nat → Option Addr} {es : List Expr} {pos : Pos}
def mgTupL (m : MGs) (n : Nat) : MG := fun d ρ q => match d with | .lst ds => ds.length = n ∧ m ds ρ q | _ => False
theorem jg_tupL {n : Nat} {g : TGs} {m : MGs} (h : JGs Γ pn g m) : JG Γ pn (gTupL Γ.K n g) (mgTupL m n) := fun S σ ρ H τ v d Q q hp R r hm hq => by
  cases d with
  | lst ds =>
    obtain ⟨a, xs, rfl, hs, rs⟩ := r.list
    exact ⟨a, xs, rfl, SqL.of hs, rs.1.trans hm.1, h S σ ρ H τ xs ds Q q hp R rs hm.2 hq⟩
  | _ => exact False.elim hm
theorem dg_tupL {k n : Nat} {m : MGs} (hc : X.calm = true) (h : DGs X cls pn es m) (hn : (assignEach es X.env).length = n := by kernel_rfl) (hst : (assignEach es X.env).findIdx? (·.1) = none := by kernel_rfl) : DG X cls pn (.Tuple es k pos) (mgTupL m n) :=
  let ⟨_, a, b⟩ := h.h; ⟨_, pg_tupL hc a hn hst, jg_tupL b⟩
end
end M
namespace M
open PySem L2
def p_law63 : PSp := fun ss q _ => ∃ ns : List Int, ss = [.val (.fz ns)] ∧ ns.length ≤ 63 ∧ q (.bl true) []
def spLaw (K : PySem.W.Frag) : Sp := fun vs H Q _ => ∃ (a : Addr) (ns : List Int), vs = [.ref a] ∧ SqL K H a (ns.map V.int) ∧ ns.length ≤ 63 ∧ ∀ H', Q (.bl true) H'
theorem law_start {K : PySem.W.Frag} {cls : Nat → Option Addr} {vs : List V} {H : Hp} {Q : VK} {E : XK} (h : spLaw K vs H Q E) : spM ⟨K, cls⟩ [] false 1 p_law63 vs H Q E := by
  obtain ⟨a, ns, rfl, hS, hl, hQ⟩ := h
  have rep : Rep ⟨K, cls⟩ (fun _ => False) H (.ref a) (.fz ns) := .fz (hS.imp (fun z => ⟨id, z⟩) id)
  have no : ∀ i, ¬ isOwn [Slot.val (D.fz ns)] i := fun i ⟨o, h⟩ => by
    cases i with
    | zero => simp at h
    | succ i => simp at h
  have he : ∀ b, exA ⟨fun _ => False, H, fun _ => none⟩ [some (.ref a)] [Slot.val (D.fz ns)] b → False := fun b h => h.elim id fun ⟨i, hi, _⟩ => no i hi
  refine ⟨rfl, ⟨fun _ => False, H, fun _ => none⟩, [.val (.fz ns)], fun d _ => d = .bl true, fun _ _ => rfl, rfl, ?_, ⟨ns, rfl, hl, rfl⟩, fun v d H' σ' ρ' os ⟨R', r'⟩ _ q' => ?_⟩
  · exact {
      len := rfl
      val := fun i d h => by
        cases i with
        | zero => simp at h; subst h; exact ⟨_, rfl, rep.up (fun b _ z => he b z) fun _ _ _ z => z⟩
        | succ i => simp at h
      own := fun i o h => absurd ⟨o, h⟩ (no i)
      pin := fun i p h => by cases h
      inj := fun i j p hi => absurd hi (no i)
      dom := fun a h => False.elim h
      fr := fun b o h _ => h
      tmp := fun x h => nomatch h }
  · subst q'
    rw [rep_bl r']
    exact hQ H'
end M
namespace M
open PySem L2
inductive O (α : Type) where
  | no | ex (k : Nat) (ρ : Env) | ok (a : α) (ρ : Env)
section
variable {α β : Type}
def O.bind : O α → (α → Env → O β) → O β
  | .no, _ => .no
  | .ex k ρ, _ => .ex k ρ
  | .ok a ρ, f => f a ρ
def O.on (z : Nat → Env → Prop) (q : α → Env → Prop) : O α → Prop
  | .no => False
  | .ex k ρ => z k ρ
  | .ok a ρ => q a ρ
def onO (q : α → Prop) : Option α → Prop
  | none => False
  | some a => q a
def ofO (r : Option α) (ρ : Env) : O α := match r with | none => .no | some a => .ok a ρ
def gd (c : Prop) [Decidable c] (r : O α) : O α := if c then r else .no
theorem on_ofO {z : Nat → Env → Prop} {q : α → Env → Prop} {r : Option α} {ρ : Env} : (ofO r ρ).on z q → onO (fun a => q a ρ) r := by
  cases r <;> exact id
theorem on_gd {z : Nat → Env → Prop} {q : α → Env → Prop} {c : Prop} [Decidable c] {r : O α} (h : (gd c r).on z q) : c ∧ r.on z q := by
  unfold gd at h
  split at h
  · exact ⟨‹_›, h⟩
  · exact False.elim h
abbrev G (α : Type) := Env → O α
abbrev Mi (α : Type) := Env → (α → Env → Prop) → Prop
class Ag (z : Nat → Env → Prop) (m : Mi α) (g : G α) : Prop where
  h : ∀ ρ q, (g ρ).on z q → m ρ q
theorem Ag.step {z : Nat → Env → Prop} {m : Mi α} {g : G α} [i : Ag z m g] {ρ : Env} {f : α → Env → O β} {q : β → Env → Prop} {k : α → Env → Prop} (h : ((g ρ).bind f).on z q) (hk : ∀ a ρ', (f a ρ').on z q → k a ρ') : m ρ k := by
  refine i.h ρ k ?_
  cases e : g ρ with
  | no => rw [e] at h; exact h
  | ex j ρ' => rw [e] at h; exact h
  | ok a ρ' => rw [e] at h; exact hk a ρ' h
end
def Zf : Nat → Env → Prop := fun _ _ => False
variable {z : Nat → Env → Prop}
class AgF1 (f : F1) (h : D → Option D) : Prop where
  h : ∀ x q, onO q (h x) → f x q
class AgF2 (f : F2) (h : D → D → Option D) : Prop where
  h : ∀ x y q, onO q (h x y) → f x y q
class AgL1 (f : FL1) (h : D → Option (List D)) : Prop where
  h : ∀ x q, onO q (h x) → f x q
class AgL2 (f : FL2) (h : D → D → Option (List D)) : Prop where
  h : ∀ x y q, onO q (h x y) → f x y q
def hI0 (g : Int → Int → D) : D → D → Option D
  | .int i, .int j => some (g i j)
  | _, _ => none
instance {g : Int → Int → D} : AgF2 (fI0 g) (hI0 g) := ⟨fun x y q h => by
  unfold hI0 at h
  split at h
  · exact h
  · exact False.elim h⟩
def hI (C : Int → Int → Prop) [∀ i j, Decidable (C i j)] (g : Int → Int → D) : D → D → Option D
  | .int i, .int j => if C i j then some (g i j) else none
  | _, _ => none
instance {C : Int → Int → Prop} [∀ i j, Decidable (C i j)] {g : Int → Int → D} : AgF2 (fI C g) (hI C g) := ⟨fun x y q h => by
  unfold hI at h
  split at h
  · split at h
    · exact ⟨‹_›, h⟩
    · exact False.elim h
  · exact False.elim h⟩
instance {i j : Int} : Decidable (CMul i j) := inferInstanceAs (Decidable (_ ∨ _))
instance {i j : Int} : Decidable (CDiv i j) := inferInstanceAs (Decidable (_ ∧ _))
instance {i j : Int} : Decidable (CPow i j) := inferInstanceAs (Decidable (_ ∧ _))
def hAdd := hI0 fun i j => .int (i + j)
def hSub := hI0 fun i j => .int (i - j)
def hMul := hI CMul fun i j => .int (i * j)
def hFdiv := hI CDiv fun i j => .int (i / j)
def hMod := hI (fun _ j => 0 < j) fun i j => .int (i % j)
def hPow := hI CPow fun i j => .int (i ^ j.toNat)
def hShl := hI CPow fun i j => .int (i * 2 ^ j.toNat)
def hShr := hI (fun _ j => 0 ≤ j) fun i j => .int (i / 2 ^ j.toNat)
def hBand := hI0 fun i j => .int (Builtin.bitAnd i j)
def hLt := hI0 fun i j => .bl (decide (i < j))
def hLe := hI0 fun i j => .bl (decide (i ≤ j))
def hGt := hI0 fun i j => .bl (decide (j < i))
def hGe := hI0 fun i j => .bl (decide (j ≤ i))
def hMax2 := hI0 fun i j => .int (if j > i then j else i)
def hMin2 := hI0 fun i j => .int (if j < i then j else i)
instance : AgF2 fAdd hAdd := inferInstanceAs (AgF2 (fI0 _) (hI0 _))
instance : AgF2 fSub hSub := inferInstanceAs (AgF2 (fI0 _) (hI0 _))
instance : AgF2 fMul hMul := inferInstanceAs (AgF2 (fI _ _) (hI _ _))
instance : AgF2 fFdiv hFdiv := inferInstanceAs (AgF2 (fI _ _) (hI _ _))
instance : AgF2 fMod hMod := inferInstanceAs (AgF2 (fI _ _) (hI _ _))
instance : AgF2 fPow hPow := inferInstanceAs (AgF2 (fI _ _) (hI _ _))
instance : AgF2 fShl hShl := inferInstanceAs (AgF2 (fI _ _) (hI _ _))
instance : AgF2 fShr hShr := inferInstanceAs (AgF2 (fI _ _) (hI _ _))
instance : AgF2 fBand hBand := inferInstanceAs (AgF2 (fI0 _) (hI0 _))
instance : AgF2 fLt hLt := inferInstanceAs (AgF2 (fI0 _) (hI0 _))
instance : AgF2 fLe hLe := inferInstanceAs (AgF2 (fI0 _) (hI0 _))
instance : AgF2 fGt hGt := inferInstanceAs (AgF2 (fI0 _) (hI0 _))
instance : AgF2 fGe hGe := inferInstanceAs (AgF2 (fI0 _) (hI0 _))
instance : AgF2 fMax2 hMax2 := inferInstanceAs (AgF2 (fI0 _) (hI0 _))
instance : AgF2 fMin2 hMin2 := inferInstanceAs (AgF2 (fI0 _) (hI0 _))
def hNeg : D → Option D | .int i => some (.int (-i)) | _ => none
instance : AgF1 fNeg hNeg := ⟨fun x q h => by cases x <;> first | exact h | exact False.elim h⟩
def hEq (x y : D) : Option D := (eqS x y).map D.bl
def hNe (x y : D) : Option D := (eqS x y).map fun b => D.bl (!b)
instance : AgF2 fEq hEq := ⟨fun x y q h => by
  unfold hEq at h; unfold fEq
  cases e : eqS x y with
  | none => rw [e] at h; exact h
  | some b => rw [e] at h; exact h⟩
instance : AgF2 fNe hNe := ⟨fun x y q h => by
  unfold hNe at h; unfold fNe
  cases e : eqS x y with
  | none => rw [e] at h; exact h
  | some b => rw [e] at h; exact h⟩
def hIsN (x y : D) : Option D := match y with | .non => some (.bl (isNon x)) | _ => none
def hNotN (x y : D) : Option D := match y with | .non => some (.bl (!isNon x)) | _ => none
instance : AgF2 fIsN hIsN := ⟨fun x y q h => by cases y <;> first | exact h | exact False.elim h⟩
instance : AgF2 fNotN hNotN := ⟨fun x y q h => by cases y <;> first | exact h | exact False.elim h⟩
def hIsB (x y : D) : Option D := match x, y with | .bl a, .bl b => some (.bl (a == b)) | _, _ => none
def hIsNB (x y : D) : Option D := match x, y with | .bl a, .bl b => some (.bl (a != b)) | _, _ => none
instance : AgF2 fIsB hIsB := ⟨fun x y q h => by
  unfold hIsB at h
  split at h
  · exact h
  · exact False.elim h⟩
instance : AgF2 fIsNB hIsNB := ⟨fun x y q h => by
  unfold hIsNB at h
  split at h
  · exact h
  · exact False.elim h⟩
def hAddS (x y : D) : Option D := match x, y with | .str a, .str b => if a.length + b.length ≤ 100000 then some (.str (a ++ b)) else none | _, _ => none
instance : AgF2 fAddS hAddS := ⟨fun x y q h => by
  unfold hAddS at h
  split at h
  · split at h
    · exact ⟨‹_›, h⟩
    · exact False.elim h
  · exact False.elim h⟩
def hLeS (x y : D) : Option D := match x, y with | .str a, .str b => some (.bl (!decide (b.cps.toList < a.cps.toList))) | _, _ => none
instance : AgF2 fLeS hLeS := ⟨fun x y q h => by
  unfold hLeS at h
  split at h
  · exact h
  · exact False.elim h⟩
def hIn (neg : Bool) (x y : D) : Option D := match itemsOf y with
  | some ds => if flat4 x = true ∧ ds.all flat4 = true then some (.bl (if neg then !inD x ds else inD x ds)) else none
  | none => none
instance {neg : Bool} : AgF2 (fIn neg) (hIn neg) := ⟨fun x y q h => by
  unfold hIn at h; unfold fIn
  cases e : itemsOf y with
  | none => rw [e] at h; exact h
  | some ds =>
    rw [e] at h
    dsimp only at h ⊢
    split at h
    · rename_i c; exact ⟨c.1, c.2, h⟩
    · exact False.elim h⟩
def hIx (x y : D) : Option D := match x, y with
  | .lst ds, .int i => (ixN ds.length i).map fun j => ds.getD j .non
  | .tup ds, .int i => (ixN ds.length i).map fun j => ds.getD j .non
  | .fz ns, .int i => (ixN ns.length i).map fun j => .int (ns.getD j 0)
  | .str w, .int i => if w.length ≤ 100000 then (ixN w.cps.toList.length i).map fun j => .str ⟨#[w.cps.toList.getD j 0]⟩ else none
  | _, _ => none
instance : AgF2 fIx hIx := ⟨fun x y q h => by
  unfold hIx at h
  split at h
  · rename_i ds i
    show fIxL (.lst ds) (.int i) q
    unfold fIxL
    dsimp only
    cases e : ixN ds.length i with
    | none => rw [e] at h; exact h
    | some j => rw [e] at h; exact h
  · rename_i ds i
    show fIxT (.tup ds) (.int i) q
    unfold fIxT
    dsimp only
    cases e : ixN ds.length i with
    | none => rw [e] at h; exact h
    | some j => rw [e] at h; exact h
  · rename_i ds i
    show fIxL (.fz ds) (.int i) q
    unfold fIxL
    dsimp only
    cases e : ixN ds.length i with
    | none => rw [e] at h; exact h
    | some j => rw [e] at h; exact h
  · rename_i w i
    show fIxS (.str w) (.int i) q
    unfold fIxS
    dsimp only
    split at h
    · refine ⟨‹_›, ?_⟩
      cases e : ixN w.cps.toList.length i with
      | none => rw [e] at h; exact h
      | some j => rw [e] at h; exact h
    · exact False.elim h
  · exact False.elim h⟩
def hLen : D → Option D
  | .lst ds => some (.int ds.length)
  | .tup ds => some (.int ds.length)
  | .fz ns => some (.int ns.length)
  | .str w => if w.length ≤ 100000 then some (.int w.length) else none
  | _ => none
instance : AgF1 fLen hLen := ⟨fun x q h => by
  cases x with
  | str w =>
    unfold hLen at h
    dsimp only at h
    split at h
    · exact ⟨‹_›, h⟩
    · exact False.elim h
  | _ => first | exact h | exact False.elim h⟩
def hCat (x y : D) : Option (List D) := match x, y with | .lst a, .lst b => if a.length + b.length ≤ 100000 then some (a ++ b) else none | _, _ => none
instance : AgL2 fCat hCat := ⟨fun x y q h => by
  unfold hCat at h
  split at h
  · split at h
    · exact ⟨‹_›, h⟩
    · exact False.elim h
  · exact False.elim h⟩
def hList : D → Option (List D) | .lst a => some a | .tup a => some a | _ => none
instance : AgL1 fList hList := ⟨fun x q h => by cases x <;> first | exact h | exact False.elim h⟩
def hTuple : D → Option D | .lst a => some (.tup a) | .tup a => some (.tup a) | _ => none
instance : AgF1 fTuple hTuple := ⟨fun x q h => by cases x <;> first | exact h | exact False.elim h⟩
def hInt : D → Option D | .int i => some (.int i) | .bl b => some (.int (if b then 1 else 0)) | _ => none
instance : AgF1 fInt hInt := ⟨fun x q h => by cases x <;> first | exact h | exact False.elim h⟩
def hAll : D → Option D | .lst ds => (blsD ds).map fun bs => .bl (bs.all id) | _ => none
instance : AgF1 fAll hAll := ⟨fun x q h => by
  cases x with
  | lst ds =>
    unfold hAll at h
    show match blsD ds with | some bs => q (.bl (bs.all id)) | none => False
    dsimp only at h
    cases e : blsD ds with
    | none => rw [e] at h; exact h
    | some bs => rw [e] at h; exact h
  | _ => exact False.elim h⟩
def hInst (x y : D) : Option D := match kindD x, y with
  | some a, .ty b => (isKind a b).map D.bl
  | _, _ => none
instance : AgF2 fInst hInst := ⟨fun x y q h => by
  unfold hInst at h
  unfold fInst
  split at h
  · rename_i a b e
    try rw [e]
    try dsimp only
    cases e2 : isKind a b with
    | none => rw [e2] at h; exact h
    | some r => rw [e2] at h; exact h
  · exact False.elim h⟩
def lookG : List (Nat × D) → Nat → Option D
  | [], _ => none
  | (g, d) :: r, f => if g = f then some d else lookG r f
theorem lookG_ok {q : D → Prop} : ∀ {fs : List (Nat × D)} {f : Nat}, onO q (lookG fs f) → lookF fs f q
  | [], _, h => h
  | (g, d) :: r, f, h => by
    unfold lookG at h; unfold lookF
    split
    · rename_i e; rw [if_pos e] at h; exact h
    · rename_i e; rw [if_neg e] at h; exact lookG_ok h
def hFld (f : Nat) : D → Option D | .obj c fs => if 11 ≤ c then lookG fs f else none | _ => none
instance {f : Nat} : AgF1 (fFld f) (hFld f) := ⟨fun x q h => by
  cases x with
  | obj c fs =>
    unfold hFld at h
    dsimp only at h
    split at h
    · exact ⟨‹_›, lookG_ok h⟩
    · exact False.elim h
  | _ => exact False.elim h⟩
def hEqD (neg : Bool) (x y : D) : Option D := if (seqD x && seqD y) = true then (eqDp 40 x y).map fun b => .bl (if neg then !b else b) else none
instance {neg : Bool} : AgF2 (fEqD neg) (hEqD neg) := ⟨fun x y q h => by
  unfold hEqD at h
  unfold fEqD
  split at h
  · rename_i e
    rw [e]
    cases e2 : eqDp 40 x y with
    | none => rw [e2] at h; exact h
    | some b => rw [e2] at h; exact h
  · exact False.elim h⟩
def hInS (neg : Bool) (x y : D) : Option D := match x, y with | .str a, .str b => some (.bl (if neg then !Txt.contains b a else Txt.contains b a)) | _, _ => none
instance {neg : Bool} : AgF2 (fInS neg) (hInS neg) := ⟨fun x y q h => by
  unfold hInS at h
  split at h
  · exact h
  · exact False.elim h⟩
def gC (d : D) : G D := fun ρ => .ok d ρ
instance {d : D} : Ag z (mC d) (gC d) := ⟨fun ρ q h => h⟩
def gVar (i : Nat) : G D := fun ρ => match ρ[i]? with
  | some (.val d) => .ok d ρ
  | some (.own o) => .ok o (ρ.set i (.val o))
  | _ => .no
instance {i : Nat} : Ag z (mVar i) (gVar i) := ⟨fun ρ q h => by
  unfold gVar at h; unfold mVar
  split at h
  · rename_i e; (try rw [e]); exact h
  · rename_i e; (try rw [e]); exact h
  · exact False.elim h⟩
def gVarP (i : Nat) : G D := fun ρ => match ρ[i]? with
  | some (.val d) => .ok d ρ
  | _ => .no
instance {i : Nat} : Ag z (mVarP i) (gVarP i) := ⟨fun ρ q h => by
  unfold gVarP at h; unfold mVarP
  split at h
  · rename_i e; (try rw [e]); exact h
  · exact False.elim h⟩
def gOv (i : Nat) : G Opd := fun ρ => match ρ[i]? with
  | some (.val _) => .ok (.v i) ρ
  | some (.own _) => .ok (.v i) ρ
  | _ => .no
instance {i : Nat} : Ag z (mOv i) (gOv i) := ⟨fun ρ q h => by
  unfold gOv at h; unfold mOv
  split at h
  · rename_i e; (try rw [e]); exact h
  · rename_i e; (try rw [e]); exact h
  · exact False.elim h⟩
def gO (g : G D) : G Opd := fun ρ => (g ρ).bind fun d ρ' => .ok (.d d) ρ'
instance {m : ME} {g : G D} [Ag z m g] : Ag z (mO m) (gO g) := ⟨fun ρ q h => by
 unfold gO at h
 unfold mO
 exact Ag.step h fun _ _ h => h⟩
def slotG : Option Slot → Option D
  | some (.val d) => some d
  | some (.own d) => some d
  | _ => none
def Opd.get (r : Opd) (ρ : Env) : Option D := match r with
  | .d x => some x
  | .v i => slotG ρ[i]?
theorem get_on {r : Opd} {ρ : Env} {k : D → Prop} (h : onO k (r.get ρ)) : r.on ρ k := by
  cases r with
  | d x => exact h
  | v i =>
    show slotD ρ[i]? k
    have h : onO k (slotG ρ[i]?) := h
    unfold slotG at h
    split at h
    · rename_i e; (try rw [e]); exact h
    · rename_i e; (try rw [e]); exact h
    · exact False.elim h
theorem onO_bind {α β : Type} {r : Option α} {f : α → Option β} {q : β → Prop} (h : onO q (r.bind f)) : onO (fun a => onO q (f a)) r := by
  cases r <;> exact h
theorem onO_mono {α : Type} {r : Option α} {p q : α → Prop} (h : onO p r) (k : ∀ a, p a → q a) : onO q r := by
  cases r with
  | none => exact h
  | some a => exact k a h
def gNil : G (List D) := fun ρ => .ok [] ρ
def gCons (a : G D) (r : G (List D)) : G (List D) := fun ρ => (a ρ).bind fun d ρ1 => (r ρ1).bind fun ds ρ2 => .ok (d :: ds) ρ2
def gStrs (ss : List Str) : G (List D) := fun ρ => .ok (ss.map D.str) ρ
instance : Ag z mNil gNil := ⟨fun ρ q h => h⟩
instance {m : ME} {n : MA} {g : G D} {k : G (List D)} [Ag z m g] [Ag z n k] : Ag z (mCons m n) (gCons g k) := ⟨fun ρ q h => by
 unfold gCons at h
 unfold mCons
 exact Ag.step h fun _ _ h => Ag.step h fun _ _ h => h⟩
instance {ss : List Str} : Ag z (mStrs ss) (gStrs ss) := ⟨fun ρ q h => h⟩
def gLst (g : G (List D)) : G D := fun ρ => (g ρ).bind fun ds ρ' => gd (ds.length ≤ 1000) (.ok (.lst ds) ρ')
def gTup (g : G (List D)) : G D := fun ρ => (g ρ).bind fun ds ρ' => gd (ds.length ≤ 1000) (.ok (.tup ds) ρ')
instance {m : MA} {g : G (List D)} [Ag z m g] : Ag z (mLst m) (gLst g) := ⟨fun ρ q h => by
 unfold gLst at h
 unfold mLst
 exact Ag.step h fun _ _ h => on_gd h⟩
instance {m : MA} {g : G (List D)} [Ag z m g] : Ag z (mTup m) (gTup g) := ⟨fun ρ q h => by
 unfold gTup at h
 unfold mTup
 exact Ag.step h fun _ _ h => on_gd h⟩
def gOp (f : D → D → Option D) (a b : G Opd) : G D := fun ρ => (a ρ).bind fun r ρ1 => (b ρ1).bind fun s ρ2 => ofO ((r.get ρ2).bind fun x => (s.get ρ2).bind fun y => f x y) ρ2
instance {f : F2} {k : D → D → Option D} {a b : MO} {ga gb : G Opd} [i : AgF2 f k] [Ag z a ga] [Ag z b gb] : Ag z (mOp f a b) (gOp k ga gb) :=
  ⟨fun ρ q h => by
 unfold gOp at h
 unfold mOp
 exact Ag.step h fun _ _ h => Ag.step h fun _ _ h => get_on (onO_mono (onO_bind (on_ofO h)) fun _ h => get_on (onO_mono (onO_bind h) fun _ h => i.h _ _ _ h))⟩
def gOp1 (f : D → Option D) (a : G Opd) : G D := fun ρ => (a ρ).bind fun r ρ1 => ofO ((r.get ρ1).bind fun x => f x) ρ1
instance {f : F1} {k : D → Option D} {a : MO} {ga : G Opd} [i : AgF1 f k] [Ag z a ga] : Ag z (mOp1 f a) (gOp1 k ga) :=
  ⟨fun ρ q h => by
 unfold gOp1 at h
 unfold mOp1
 exact Ag.step h fun _ _ h => get_on (onO_mono (onO_bind (on_ofO h)) fun _ h => i.h _ _ h)⟩
def gOpL (f : D → D → Option (List D)) (a b : G Opd) : G D := fun ρ => (a ρ).bind fun r ρ1 => (b ρ1).bind fun s ρ2 => ofO ((r.get ρ2).bind fun x => (s.get ρ2).bind fun y => (f x y).map D.lst) ρ2
theorem onO_map {α β : Type} {r : Option α} {f : α → β} {q : β → Prop} (h : onO q (r.map f)) : onO (fun a => q (f a)) r := by
  cases r <;> exact h
instance {f : FL2} {k : D → D → Option (List D)} {a b : MO} {ga gb : G Opd} [i : AgL2 f k] [Ag z a ga] [Ag z b gb] : Ag z (mOpL f a b) (gOpL k ga gb) :=
  ⟨fun ρ q h => by
 unfold gOpL at h
 unfold mOpL
 exact Ag.step h fun _ _ h => Ag.step h fun _ _ h => get_on (onO_mono (onO_bind (on_ofO h)) fun _ h => get_on (onO_mono (onO_bind h) fun _ h => i.h _ _ _ (onO_map h)))⟩
def gOpL1 (f : D → Option (List D)) (a : G Opd) : G D := fun ρ => (a ρ).bind fun r ρ1 => ofO ((r.get ρ1).bind fun x => (f x).map D.lst) ρ1
instance {f : FL1} {k : D → Option (List D)} {a : MO} {ga : G Opd} [i : AgL1 f k] [Ag z a ga] : Ag z (mOpL1 f a) (gOpL1 k ga) :=
  ⟨fun ρ q h => by
 unfold gOpL1 at h
 unfold mOpL1
 exact Ag.step h fun _ _ h => get_on (onO_mono (onO_bind (on_ofO h)) fun _ h => i.h _ _ (onO_map h))⟩
def asB (d : D) (ρ : Env) : O Bool := match d with | .bl b => .ok b ρ | _ => .no
def gB (g : G D) : G Bool := fun ρ => (g ρ).bind asB
instance {m : ME} {g : G D} [Ag z m g] : Ag z (mB m) (gB g) := ⟨fun ρ q h => by
 unfold gB at h
 unfold mB
 exact Ag.step h fun d _ h => by cases d <;> first | exact h | exact False.elim h⟩
def gAnd (a b : G Bool) : G Bool := fun ρ => (a ρ).bind fun c ρ1 => if c = true then b ρ1 else .ok false ρ1
def gOr (a b : G Bool) : G Bool := fun ρ => (a ρ).bind fun c ρ1 => if c = true then .ok true ρ1 else b ρ1
def gNot (a : G Bool) : G Bool := fun ρ => (a ρ).bind fun c ρ1 => .ok (!c) ρ1
instance {a b : MT} {ga gb : G Bool} [Ag z a ga] [i : Ag z b gb] : Ag z (mAnd a b) (gAnd ga gb) := ⟨fun ρ q h => by
 unfold gAnd at h
 unfold mAnd
 exact Ag.step h fun c _ h => by
  cases c with
  | true => exact i.h _ _ h
  | false => exact h⟩
instance {a b : MT} {ga gb : G Bool} [Ag z a ga] [i : Ag z b gb] : Ag z (mOr a b) (gOr ga gb) := ⟨fun ρ q h => by
 unfold gOr at h
 unfold mOr
 exact Ag.step h fun c _ h => by
  cases c with
  | true => exact h
  | false => exact i.h _ _ h⟩
instance {a : MT} {ga : G Bool} [Ag z a ga] : Ag z (mNot a) (gNot ga) := ⟨fun ρ q h => by
 unfold gNot at h
 unfold mNot
 exact Ag.step h fun c _ h => h⟩
def gAndV (a b : G D) : G D := fun ρ => (a ρ).bind fun d ρ1 => (asB d ρ1).bind fun c ρ1 => if c = true then b ρ1 else .ok (.bl false) ρ1
def gOrV (a b : G D) : G D := fun ρ => (a ρ).bind fun d ρ1 => (asB d ρ1).bind fun c ρ1 => if c = true then .ok (.bl true) ρ1 else b ρ1
def gNotV (a : G D) : G D := fun ρ => (a ρ).bind fun d ρ1 => (asB d ρ1).bind fun c ρ1 => .ok (.bl (!c)) ρ1
instance {a b : ME} {ga gb : G D} [Ag z a ga] [i : Ag z b gb] : Ag z (mAndV a b) (gAndV ga gb) := ⟨fun ρ q h => by
 unfold gAndV at h
 unfold mAndV
 exact Ag.step h fun d _ h => by
  cases d with
  | bl c =>
    cases c with
    | true => exact i.h _ _ h
    | false => exact h
  | _ => exact False.elim h⟩
instance {a b : ME} {ga gb : G D} [Ag z a ga] [i : Ag z b gb] : Ag z (mOrV a b) (gOrV ga gb) := ⟨fun ρ q h => by
 unfold gOrV at h
 unfold mOrV
 exact Ag.step h fun d _ h => by
  cases d with
  | bl c =>
    cases c with
    | true => exact h
    | false => exact i.h _ _ h
  | _ => exact False.elim h⟩
instance {a : ME} {ga : G D} [Ag z a ga] : Ag z (mNotV a) (gNotV ga) := ⟨fun ρ q h => by
 unfold gNotV at h
 unfold mNotV
 exact Ag.step h fun d _ h => by
  cases d <;> first | exact h | exact False.elim h⟩
def gIf (c : G Bool) (a b : G D) : G D := fun ρ => (c ρ).bind fun k ρ1 => if k = true then a ρ1 else b ρ1
instance {c : MT} {a b : ME} {gc : G Bool} {ga gb : G D} [Ag z c gc] [i : Ag z a ga] [j : Ag z b gb] : Ag z (mIf c a b) (gIf gc ga gb) := ⟨fun ρ q h => by
 unfold gIf at h
 unfold mIf
 exact Ag.step h fun k _ h => by
  cases k with
  | true => exact i.h _ _ h
  | false => exact j.h _ _ h⟩
def gChain (f f' : D → D → Option D) (a b c : G D) : G D := fun ρ => (a ρ).bind fun x ρ1 => (b ρ1).bind fun y ρ2 => (ofO (f x y) ρ2).bind fun d ρ2 => (asB d ρ2).bind fun k ρ2 => if k = true then (c ρ2).bind fun z ρ3 => ofO (f' y z) ρ3 else .ok (.bl false) ρ2
theorem O.on_bind {α β : Type} {r : O α} {f : α → Env → O β} {q : β → Env → Prop} (h : (r.bind f).on z q) : r.on z fun a ρ => (f a ρ).on z q := by cases r <;> exact h
instance {f f' : F2} {k k' : D → D → Option D} {a b c : ME} {ga gb gc : G D} [i : AgF2 f k] [j : AgF2 f' k'] [Ag z a ga] [Ag z b gb] [Ag z c gc] : Ag z (mChain f f' a b c) (gChain k k' ga gb gc) :=
  ⟨fun ρ q h => by
 unfold gChain at h
 unfold mChain
 exact Ag.step h fun x _ h => Ag.step h fun y ρ2 h => by
    refine i.h _ _ _ (onO_mono (on_ofO (O.on_bind h)) fun d h => ?_)
    cases d with
    | bl b =>
      cases b with
      | true =>
        show c ρ2 fun z ρ3 => f' y z fun e => q e ρ3
        have h : ((gc ρ2).bind fun z ρ3 => ofO (k' y z) ρ3).on z q := h
        exact Ag.step h fun w ρ3 h => j.h _ _ _ (on_ofO h)
      | false => exact h
    | _ => exact False.elim h⟩
def truG (x : D) : Option Bool := match x with | .str y => if y.length ≤ 100000 then some ((y.length : Int) != 0) else none | x => truD x
def gTru (a : G Opd) : G Bool := fun ρ => (a ρ).bind fun r ρ1 => ofO ((r.get ρ1).bind truG) ρ1
instance {a : MO} {ga : G Opd} [Ag z a ga] : Ag z (mTru a) (gTru ga) := ⟨fun ρ q h => by
 unfold gTru at h
 unfold mTru
 exact Ag.step h fun r ρ1 h => get_on (onO_mono (onO_bind (on_ofO h)) fun x h => by
  cases x with
  | str y =>
    unfold truG at h
    dsimp only at h
    split at h
    · exact ⟨‹_›, h⟩
    · exact False.elim h
  | _ => first | exact ⟨trivial, h⟩ | exact False.elim h)⟩
def gNoPart : G (Option Int) := fun ρ => .ok none ρ
def asI (d : D) (ρ : Env) : O (Option Int) := match d with | .int i => .ok (some i) ρ | _ => .no
def gPart (g : G D) : G (Option Int) := fun ρ => (g ρ).bind asI
instance : Ag z mNoPart gNoPart := ⟨fun ρ q h => h⟩
instance {m : ME} {g : G D} [Ag z m g] : Ag z (mPart m) (gPart g) := ⟨fun ρ q h => by
 unfold gPart at h
 unfold mPart
 exact Ag.step h fun d _ h => by cases d <;> first | exact h | exact False.elim h⟩
def hSlL (x : D) (lo hi : Option Int) : Option D := match x with | .lst ds => some (.lst (cutD ds lo hi)) | .fz ns => some (.lst ((cutD ns lo hi).map D.int)) | _ => none
def gSlL (a : G Opd) (l u : G (Option Int)) : G D := fun ρ => (a ρ).bind fun r ρ1 => (l ρ1).bind fun lo ρ2 => (u ρ2).bind fun hi ρ3 => ofO ((r.get ρ3).bind fun x => hSlL x lo hi) ρ3
instance {a : MO} {l u : MOI} {ga : G Opd} {gl gu : G (Option Int)} [Ag z a ga] [Ag z l gl] [Ag z u gu] : Ag z (mSlL a l u) (gSlL ga gl gu) :=
  ⟨fun ρ q h => by
 unfold gSlL at h
 unfold mSlL
 exact Ag.step h fun _ _ h => Ag.step h fun _ _ h => Ag.step h fun _ _ h => get_on (onO_mono (onO_bind (on_ofO h)) fun x h => by cases x <;> first | exact h | exact False.elim h)⟩
def hSlS (x : D) (lo hi : Option Int) : Option D := match x with | .str w => if w.length ≤ 100000 then some (.str (Txt.slice w lo hi)) else none | _ => none
def gSlS (a : G Opd) (l u : G (Option Int)) : G D := fun ρ => (a ρ).bind fun r ρ1 => (l ρ1).bind fun lo ρ2 => (u ρ2).bind fun hi ρ3 => ofO ((r.get ρ3).bind fun x => hSlS x lo hi) ρ3
instance {a : MO} {l u : MOI} {ga : G Opd} {gl gu : G (Option Int)} [Ag z a ga] [Ag z l gl] [Ag z u gu] : Ag z (mSlS a l u) (gSlS ga gl gu) :=
  ⟨fun ρ q h => by
 unfold gSlS at h
 unfold mSlS
 exact Ag.step h fun _ _ h => Ag.step h fun _ _ h => Ag.step h fun _ _ h => get_on (onO_mono (onO_bind (on_ofO h)) fun x h => by
    cases x with
    | str w =>
      unfold hSlS at h
      dsimp only at h
      split at h
      · exact ⟨‹_›, h⟩
      · exact False.elim h
    | _ => exact False.elim h)⟩
class AgG (m : MG) (g : D → Env → Option Env) : Prop where
  h : ∀ d ρ q, onO q (g d ρ) → m d ρ q
class AgGs (m : MGs) (g : List D → Env → Option Env) : Prop where
  h : ∀ d ρ q, onO q (g d ρ) → m d ρ q
def ggName (i : Nat) : D → Env → Option Env := fun d ρ => some (ρ.set i (.val d))
instance {i : Nat} : AgG (mgName i) (ggName i) := ⟨fun d ρ q h => h⟩
def ggNil : List D → Env → Option Env := fun ds ρ => match ds with | [] => some ρ | _ => none
def ggCons (g : D → Env → Option Env) (r : List D → Env → Option Env) : List D → Env → Option Env := fun ds ρ => match ds with | d :: ds => (g d ρ).bind fun ρ1 => r ds ρ1 | [] => none
instance : AgGs mgNil ggNil := ⟨fun d ρ q h => by cases d <;> exact h⟩
instance {g : MG} {r : MGs} {k : D → Env → Option Env} {l : List D → Env → Option Env} [i : AgG g k] [j : AgGs r l] : AgGs (mgCons g r) (ggCons k l) := ⟨fun d ρ q h => by
  cases d with
  | nil => exact h
  | cons d ds => exact i.h _ _ _ (onO_mono (onO_bind h) fun ρ1 h => j.h _ _ _ h)⟩
def ggTup (g : List D → Env → Option Env) (n : Nat) : D → Env → Option Env := fun d ρ => match d with | .tup ds => if ds.length = n then g ds ρ else none | _ => none
def ggTupL (g : List D → Env → Option Env) (n : Nat) : D → Env → Option Env := fun d ρ => match d with | .lst ds => if ds.length = n then g ds ρ else none | _ => none
instance {m : MGs} {n : Nat} {g : List D → Env → Option Env} [i : AgGs m g] : AgG (mgTup m n) (ggTup g n) := ⟨fun d ρ q h => by
  cases d with
  | tup ds =>
    unfold ggTup at h
    dsimp only at h
    split at h
    · exact ⟨‹_›, i.h _ _ _ h⟩
    · exact False.elim h
  | _ => exact False.elim h⟩
instance {m : MGs} {n : Nat} {g : List D → Env → Option Env} [i : AgGs m g] : AgG (mgTupL m n) (ggTupL g n) := ⟨fun d ρ q h => by
  cases d with
  | lst ds =>
    unfold ggTupL at h
    dsimp only at h
    split at h
    · exact ⟨‹_›, i.h _ _ _ h⟩
    · exact False.elim h
  | _ => exact False.elim h⟩
def itL : D → Option (List D) | .lst ds => some ds | .fz ns => some (ns.map D.int) | _ => none
def giList (g : G D) : G (List D) := fun ρ => (g ρ).bind fun d ρ' => ofO (itL d) ρ'
instance {m : ME} {g : G D} [Ag z m g] : Ag z (miList m) (giList g) := ⟨fun ρ q h => by
 unfold giList at h
 unfold miList
 exact Ag.step h fun d _ h => by cases d <;> first | exact h | exact False.elim h⟩
def itS : D → Option (List D) | .str x => some (x.cps.toList.map fun c => D.str ⟨#[c]⟩) | _ => none
def giStr (g : G D) : G (List D) := fun ρ => (g ρ).bind fun d ρ' => ofO (itS d) ρ'
instance {m : ME} {g : G D} [Ag z m g] : Ag z (miStr m) (giStr g) := ⟨fun ρ q h => by
 unfold giStr at h
 unfold miStr
 exact Ag.step h fun d _ h => by cases d <;> first | exact h | exact False.elim h⟩
def itR1 : List D → Option (List D) | [.int j] => if -1000000 ≤ j ∧ j ≤ 1000000 then some (rangeD 0 j.toNat) else none | _ => none
def giRange1 (g : G (List D)) : G (List D) := fun ρ => (g ρ).bind fun ds ρ' => ofO (itR1 ds) ρ'
instance {m : MA} {g : G (List D)} [Ag z m g] : Ag z (miRange1 m) (giRange1 g) := ⟨fun ρ q h => by
 unfold giRange1 at h
 unfold miRange1
 exact Ag.step h fun ds _ h => by
  unfold itR1 at h
  split at h
  · try dsimp only
    split at h
    · exact ⟨‹_›, h⟩
    · exact False.elim h
  · exact False.elim h⟩
def itR2 : List D → Option (List D) | [.int i, .int j] => if -1000000 ≤ i ∧ i ≤ 1000000 ∧ -1000000 ≤ j ∧ j ≤ 1000000 then some (rangeD i (j - i).toNat) else none | _ => none
def giRange2 (g : G (List D)) : G (List D) := fun ρ => (g ρ).bind fun ds ρ' => ofO (itR2 ds) ρ'
instance {m : MA} {g : G (List D)} [Ag z m g] : Ag z (miRange2 m) (giRange2 g) := ⟨fun ρ q h => by
 unfold giRange2 at h
 unfold miRange2
 exact Ag.step h fun ds _ h => by
  unfold itR2 at h
  split at h
  · try dsimp only
    split at h
    · exact ⟨‹_›, h⟩
    · exact False.elim h
  · exact False.elim h⟩
def compG (g : D → Env → Option Env) (c : G Bool) (e : G D) : List D → Env → O (List D)
  | [], ρ => .ok [] ρ
  | d :: ds, ρ => (ofO (g d ρ) ρ).bind fun ρ1 _ => (c ρ1).bind fun b ρ2 => if b = true then (e ρ2).bind fun y ρ3 => (compG g c e ds ρ3).bind fun ys ρ4 => .ok (y :: ys) ρ4 else compG g c e ds ρ2
theorem compG_ok {g : MG} {c : MT} {e : ME} {k : D → Env → Option Env} {gc : G Bool} {ge : G D} [i : AgG g k] [Ag z c gc] [Ag z e ge] : ∀ (ds acc : List D) (ρ : Env) (q : List D → Env → Prop), (compG k gc ge ds ρ).on z (fun ys ρ' => q (acc ++ ys) ρ') → compM g c e ds acc ρ q
  | [], acc, ρ, q, h => by
    have h : q (acc ++ []) ρ := h
    rw [List.append_nil] at h
    exact h
  | d :: ds, acc, ρ, q, h => by
    have h := on_ofO (O.on_bind h)
    refine i.h _ _ _ (onO_mono h fun ρ1 h => Ag.step h fun b ρ2 h => ?_)
    cases b with
    | true =>
      rw [if_pos rfl] at h ⊢
      refine Ag.step (g := ge) h fun y ρ3 h => ?_
      refine compG_ok (k := k) (gc := gc) (ge := ge) ds (acc ++ [y]) ρ3 q ?_
      have h := O.on_bind h
      have e : ∀ ys, acc ++ [y] ++ ys = acc ++ y :: ys := fun ys => by simp
      simp only [e]
      exact h
    | false =>
      rw [if_neg Bool.false_ne_true] at h ⊢
      exact compG_ok (k := k) (gc := gc) (ge := ge) ds acc ρ2 q h
def gTT : G Bool := fun ρ => .ok true ρ
instance : Ag z mTT gTT := ⟨fun ρ q h => h⟩
def outB (js : List (Option Nat)) (ρ1 : Env) : O (List D) → O D
  | .ok ys ρb => .ok (.lst ys) (mergeB js ρb ρ1)
  | _ => .no
def gComp (gi : G (List D)) (js : List (Option Nat)) (g : D → Env → Option Env) (c : G Bool) (e : G D) : G D := fun ρ => (gi ρ).bind fun ds ρ1 => gd (ds.length ≤ 100000) (outB js ρ1 (compG g c e ds (mblk js ρ1)))
instance {mi : MI} {js : List (Option Nat)} {g : MG} {c : MT} {e : ME} {gi : G (List D)} {k : D → Env → Option Env} {gc : G Bool} {ge : G D} [Ag z mi gi] [AgG g k] [Ag Zf c gc] [Ag Zf e ge] : Ag z (mComp mi js g c e) (gComp gi js k gc ge) :=
  ⟨fun ρ q h => by
 unfold gComp at h
 unfold mComp
 exact Ag.step h fun ds ρ1 h => by
    obtain ⟨a, h⟩ := on_gd h
    refine ⟨a, compG_ok (z := Zf) (k := k) (gc := gc) (ge := ge) ds [] _ _ ?_⟩
    cases hc : compG k gc ge ds (mblk js ρ1) with
    | no => rw [hc] at h; exact False.elim h
    | ex j ρ' => rw [hc] at h; exact False.elim h
    | ok ys ρb => rw [hc] at h; exact h⟩
inductive RF where
  | no | ex (k : Nat) | ok (d : D) (os : List D)
abbrev Fn := List Slot → RF
def spF (F : Fn) : PSp := fun ss q z => match F ss with
  | .no => False
  | .ex k => z (.exc k) []
  | .ok d os => q d os
def callR (r : RF) (ρ : Env) : O D := match r with | .ok d _ => .ok d ρ | _ => .no
def gCall (F : Fn) (a : G (List D)) : G D := fun ρ => (a ρ).bind fun ds ρ1 => callR (F (ds.map .val)) ρ1
instance {F : Fn} {a : MA} {ga : G (List D)} [Ag z a ga] : Ag z (mCall (spF F) a) (gCall F ga) := ⟨fun ρ q h => by
 unfold gCall at h
 unfold mCall
 exact Ag.step h fun ds ρ1 h => by
  unfold spF
  cases e : F (ds.map .val) with
  | no => rw [e] at h; exact h
  | ex k => rw [e] at h; exact False.elim h
  | ok d os => rw [e] at h; exact h⟩
def callX (r : RF) (ρ : Env) : O D := match r with | .ok d _ => .ok d ρ | .ex k => .ex k ρ | .no => .no
def gCallX (F : Fn) (a : G (List D)) : G D := fun ρ => (a ρ).bind fun ds ρ1 => callX (F (ds.map .val)) ρ1
instance {F : Fn} {a : MA} {ga : G (List D)} [Ag z a ga] : Ag z (mCallX z (spF F) a) (gCallX F ga) := ⟨fun ρ q h => by
 unfold gCallX at h
 unfold mCallX
 exact Ag.step h fun ds ρ1 h => by
  unfold spF
  cases e : F (ds.map .val) with
  | no => rw [e] at h; exact h
  | ex k => rw [e] at h; exact ⟨k, rfl, h⟩
  | ok d os => rw [e] at h; exact h⟩
def own1 : Option Slot → Option D | some (.own o) => some o | _ => none
def call0R (j : Nat) (r : RF) (ρ : Env) : O D := match r with | .ok d [o] => .ok d (ρ.set j (.own o)) | _ => .no
def gCall0 (j : Nat) (F : Fn) (a : G (List D)) : G D := fun ρ => (ofO (own1 ρ[j]?) ρ).bind fun _ ρ => (a ρ).bind fun ds ρ1 => (ofO (own1 ρ1[j]?) ρ1).bind fun o ρ1 => call0R j (F (.own o :: ds.map .val)) ρ1
theorem own1_some {s : Option Slot} {o : D} (h : own1 s = some o) : s = some (.own o) := by
  unfold own1 at h
  split at h
  · cases h; rfl
  · cases h
instance {j : Nat} {F : Fn} {a : MA} {ga : G (List D)} [Ag z a ga] : Ag z (mCall0 j (spF F) a) (gCall0 j F ga) := ⟨fun ρ q h => by
  unfold gCall0 at h; unfold mCall0
  cases e : own1 ρ[j]? with
  | none => rw [e] at h; exact False.elim h
  | some o =>
    rw [own1_some e]
    rw [e] at h
    have h : ((ga ρ).bind fun ds ρ1 => (ofO (own1 ρ1[j]?) ρ1).bind fun o ρ1 => call0R j (F (.own o :: ds.map .val)) ρ1).on z q := h
    refine Ag.step h fun ds ρ1 h => ?_
    cases e1 : own1 ρ1[j]? with
    | none => rw [e1] at h; exact False.elim h
    | some o1 =>
      rw [own1_some e1]
      rw [e1] at h
      have h : (call0R j (F (.own o1 :: ds.map .val)) ρ1).on z q := h
      show spF F (.own o1 :: ds.map .val) _ Z0
      unfold spF
      cases e2 : F (.own o1 :: ds.map .val) with
      | no => rw [e2] at h; exact h
      | ex k => rw [e2] at h; exact False.elim h
      | ok d os =>
        rw [e2] at h
        match os, h with
        | [], h => exact False.elim h
        | [o'], h => exact h
        | _ :: _ :: _, h => exact False.elim h⟩
def makeR (r : RF) (ρ : Env) : O D := match r with | .ok .non [o] => .ok o ρ | _ => .no
def gMake (c : Nat) (F : Fn) (a : G (List D)) : G D := fun ρ => (a ρ).bind fun ds ρ1 => makeR (F (.own (.obj c []) :: ds.map .val)) ρ1
instance {c : Nat} {F : Fn} {a : MA} {ga : G (List D)} [Ag z a ga] : Ag z (mMake c (spF F) a) (gMake c F ga) := ⟨fun ρ q h => by
 unfold gMake at h
 unfold mMake
 exact Ag.step h fun ds ρ1 h => by
  unfold spF
  unfold makeR at h
  split at h
  · rename_i e; (try rw [e]); exact h
  · exact False.elim h⟩
def makeX (r : RF) (ρ : Env) : O D := match r with | .ok .non [o] => .ok o ρ | .ex k => .ex k ρ | _ => .no
def gMakeX (c : Nat) (F : Fn) (a : G (List D)) : G D := fun ρ => (a ρ).bind fun ds ρ1 => makeX (F (.own (.obj c []) :: ds.map .val)) ρ1
instance {c : Nat} {F : Fn} {a : MA} {ga : G (List D)} [Ag z a ga] : Ag z (mMakeX z c (spF F) a) (gMakeX c F ga) := ⟨fun ρ q h => by
 unfold gMakeX at h
 unfold mMakeX
 exact Ag.step h fun ds ρ1 h => by
  unfold spF
  unfold makeX at h
  split at h
  · rename_i e; (try rw [e]); exact h
  · rename_i k e; rw [e]; exact ⟨k, rfl, h⟩
  · exact False.elim h⟩
def gIsExc (i : Nat) (tb : Nat → Option Bool) : G D := fun ρ => match ρ[i]? with
  | some (.val (.exc k)) => ofO ((tb k).map D.bl) ρ
  | _ => .no
instance {i : Nat} {tb : Nat → Option Bool} : Ag z (mIsExc i tb) (gIsExc i tb) := ⟨fun ρ q h => by
  unfold gIsExc at h; unfold mIsExc
  split at h
  · rename_i k e
    try rw [e]
    try dsimp only
    have h := onO_map (on_ofO h)
    cases e2 : tb k with
    | none => rw [e2] at h; exact h
    | some b => rw [e2] at h; exact h
  · exact False.elim h⟩
def gMeth (tbl : Nat → Option Fn) (a : G D) (r : G (List D)) : G D := fun ρ => (a ρ).bind fun x ρ1 => match x with
  | .obj c fs => (match tbl c with
    | some F => (r ρ1).bind fun ds ρ2 => callR (F (.val (.obj c fs) :: ds.map .val)) ρ2
    | none => .no)
  | _ => .no
instance {tbl : Nat → Option Fn} {a : ME} {r : MA} {ga : G D} {gr : G (List D)} [Ag z a ga] [Ag z r gr] : Ag z (mMeth (fun c => (tbl c).map spF) a r) (gMeth tbl ga gr) := ⟨fun ρ q h => by
 unfold gMeth at h
 unfold mMeth
 exact Ag.step h fun x ρ1 h => by
  cases x with
  | obj c fs =>
    dsimp only at h ⊢
    cases e : tbl c with
    | none => rw [e] at h; exact False.elim h
    | some F =>
      rw [e] at h
      dsimp only [Option.map] at h ⊢
      refine Ag.step h fun ds ρ2 h => ?_
      unfold spF
      cases e : F (.val (.obj c fs) :: ds.map .val) with
      | no => rw [e] at h; exact h
      | ex k => rw [e] at h; exact False.elim h
      | ok d os => rw [e] at h; exact h
  | _ => exact False.elim h⟩
class AgM (f : List D → D → (D → List D → Prop) → Prop) (h : List D → D → Option (D × List D)) : Prop where
  h : ∀ ds d q, onO (fun r => q r.1 r.2) (h ds d) → f ds d q
def hAppend (ds : List D) (d : D) : Option (D × List D) := if ds.length < 100000 then some (.non, ds ++ [d]) else none
instance : AgM fAppend hAppend := ⟨fun ds d q h => by
  unfold hAppend at h
  split at h
  · exact ⟨‹_›, h⟩
  · exact False.elim h⟩
def hExtend (ds : List D) (d : D) : Option (D × List D) := match d with | .lst es => if ds.length + es.length ≤ 100000 then some (.non, ds ++ es) else none | _ => none
instance : AgM fExtend hExtend := ⟨fun ds d q h => by
  cases d with
  | lst es =>
    unfold hExtend at h
    dsimp only at h
    split at h
    · exact ⟨‹_›, h⟩
    · exact False.elim h
  | _ => exact False.elim h⟩
def hPop (ds : List D) (d : D) : Option (D × List D) := match d with | .int j => if 0 ≤ j ∧ j.toNat < ds.length ∧ ds.length < 100000 then some (ds.getD j.toNat .non, ds.eraseIdx j.toNat) else none | _ => none
instance : AgM fPop hPop := ⟨fun ds d q h => by
  cases d with
  | int j =>
    unfold hPop at h
    dsimp only at h
    split at h
    · exact ⟨‹_›, h⟩
    · exact False.elim h
  | _ => exact False.elim h⟩
def ownLG : Option Slot → Option (List D) | some (.own (.lst ds)) => some ds | _ => none
theorem ownLG_ok {s : Option Slot} {k : List D → Prop} (h : onO k (ownLG s)) : ownL s k := by
  unfold ownLG at h
  split at h
  · exact h
  · exact False.elim h
def gMut1 (f : List D → D → Option (D × List D)) (i : Nat) (a : G D) : G D := fun ρ => (ofO (ownLG ρ[i]?) ρ).bind fun _ ρ => (a ρ).bind fun d ρ1 => (ofO (ownLG ρ1[i]?) ρ1).bind fun ds ρ1 => (ofO (f ds d) ρ1).bind fun r ρ1 => .ok r.1 (ρ1.set i (.own (.lst r.2)))
instance {f : List D → D → (D → List D → Prop) → Prop} {k : List D → D → Option (D × List D)} {i : Nat} {a : ME} {ga : G D} [j : AgM f k] [Ag z a ga] : Ag z (mMut1 f i a) (gMut1 k i ga) := ⟨fun ρ q h =>
  ownLG_ok (onO_mono (on_ofO (O.on_bind h)) fun _ h => Ag.step h fun d ρ1 h => ownLG_ok (onO_mono (on_ofO (O.on_bind h)) fun ds h => j.h _ _ _ (on_ofO (O.on_bind h))))⟩
inductive End where
  | nx | rt (d : D) | bk | ct
def SOn (z : Nat → Env → Prop) (N : MEnds) : O End → Prop
  | .no => False
  | .ex k ρ => z k ρ
  | .ok .nx ρ => N.nx ρ
  | .ok (.rt d) ρ => N.rt d ρ
  | .ok .bk ρ => N.bk ρ
  | .ok .ct ρ => N.ct ρ
class AgS (z : Nat → Env → Prop) (m : MS) (g : G End) : Prop where
  h : ∀ N ρ, SOn z N (g ρ) → m N ρ
theorem Ag.stepS {α : Type} {m : Mi α} {g : G α} [i : Ag z m g] {ρ : Env} {f : α → Env → O End} {N : MEnds} {k : α → Env → Prop} (h : SOn z N ((g ρ).bind f)) (hk : ∀ a ρ', SOn z N (f a ρ') → k a ρ') : m ρ k := by
  refine i.h ρ k ?_
  cases e : g ρ with
  | no => rw [e] at h; exact h
  | ex j ρ' => rw [e] at h; exact h
  | ok a ρ' => rw [e] at h; exact hk a ρ' h
theorem SOn_ofO {α : Type} {N : MEnds} {r : Option α} {ρ : Env} {f : α → Env → O End} (h : SOn z N ((ofO r ρ).bind f)) : onO (fun a => SOn z N (f a ρ)) r := by
  cases r <;> exact h
theorem SOn_gd {N : MEnds} {c : Prop} [Decidable c] {r : O End} (h : SOn z N (gd c r)) : c ∧ SOn z N r := by
  unfold gd at h
  split at h
  · exact ⟨‹_›, h⟩
  · exact False.elim h
def gNext : G End := fun ρ => .ok .nx ρ
def gBreak : G End := fun ρ => .ok .bk ρ
def gCont : G End := fun ρ => .ok .ct ρ
def gRetN : G End := fun ρ => .ok (.rt .non) ρ
def gNever : G End := fun _ => .no
instance : AgS z mNext gNext := ⟨fun N ρ h => h⟩
instance : AgS z mBreak gBreak := ⟨fun N ρ h => h⟩
instance : AgS z mCont gCont := ⟨fun N ρ h => h⟩
instance : AgS z mRetN gRetN := ⟨fun N ρ h => h⟩
instance : AgS z mNever gNever := ⟨fun N ρ h => h⟩
def seqR (r : O End) (b : G End) : O End := match r with | .ok .nx ρ => b ρ | r => r
def gSeq (a b : G End) : G End := fun ρ => seqR (a ρ) b
instance {a b : MS} {ga gb : G End} [i : AgS z a ga] [j : AgS z b gb] : AgS z (mSeq a b) (gSeq ga gb) := ⟨fun N ρ h => by
  refine i.h _ _ ?_
  unfold gSeq at h
  cases e : ga ρ with
  | no => rw [e] at h; exact h
  | ex k ρ' => rw [e] at h; exact h
  | ok n ρ' =>
    rw [e] at h
    cases n with
    | nx => exact j.h _ _ h
    | rt d => exact h
    | bk => exact h
    | ct => exact h⟩
def gDrop (g : G D) : G End := fun ρ => (g ρ).bind fun _ ρ' => .ok .nx ρ'
def gRet (g : G D) : G End := fun ρ => (g ρ).bind fun d ρ' => .ok (.rt d) ρ'
instance {m : ME} {g : G D} [Ag z m g] : AgS z (mDrop m) (gDrop g) := ⟨fun N ρ h => by
 unfold gDrop at h
 unfold mDrop
 exact Ag.stepS h fun _ _ h => h⟩
instance {m : ME} {g : G D} [Ag z m g] : AgS z (mRet m) (gRet g) := ⟨fun N ρ h => by
 unfold gRet at h
 unfold mRet
 exact Ag.stepS h fun _ _ h => h⟩
def gIfS (c : G Bool) (a b : G End) : G End := fun ρ => (c ρ).bind fun k ρ1 => if k = true then a ρ1 else b ρ1
instance {c : MT} {a b : MS} {gc : G Bool} {ga gb : G End} [Ag z c gc] [i : AgS z a ga] [j : AgS z b gb] : AgS z (mIfS c a b) (gIfS gc ga gb) := ⟨fun N ρ h => by
 unfold gIfS at h
 unfold mIfS
 exact Ag.stepS h fun k _ h => by
  cases k with
  | true => exact i.h _ _ h
  | false => exact j.h _ _ h⟩
def gSet (i : Nat) (g : G D) : G End := fun ρ => (g ρ).bind fun d ρ' => .ok .nx (ρ'.set i (.val d))
def gSetOwn (i : Nat) (g : G D) : G End := fun ρ => (g ρ).bind fun d ρ' => .ok .nx (ρ'.set i (.own d))
instance {i : Nat} {m : ME} {g : G D} [Ag z m g] : AgS z (mSet i m) (gSet i g) := ⟨fun N ρ h => by
 unfold gSet at h
 unfold mSet
 exact Ag.stepS h fun _ _ h => h⟩
instance {i : Nat} {m : ME} {g : G D} [Ag z m g] : AgS z (mSetOwn i m) (gSetOwn i g) := ⟨fun N ρ h => by
 unfold gSetOwn at h
 unfold mSetOwn
 exact Ag.stepS h fun _ _ h => h⟩
def gAsg (g : G D) (t : D → Env → Option Env) : G End := fun ρ => (g ρ).bind fun d ρ1 => (ofO (t d ρ1) ρ1).bind fun ρ2 _ => .ok .nx ρ2
instance {m : ME} {g : G D} {t : MG} {k : D → Env → Option Env} [Ag z m g] [i : AgG t k] : AgS z (mAsg m t) (gAsg g k) := ⟨fun N ρ h => by
 unfold gAsg at h
 unfold mAsg
 exact Ag.stepS h fun d ρ1 h => i.h _ _ _ (SOn_ofO h)⟩
def gSetIx (i : Nat) (a v : G D) : G End := fun ρ => (v ρ).bind fun d ρ0 => (ofO (ownLG ρ0[i]?) ρ0).bind fun _ ρ0 => (a ρ0).bind fun x ρ1 => (ofO (ownLG ρ1[i]?) ρ1).bind fun ds ρ1 => match x with
  | .int j => gd (0 ≤ j ∧ j.toNat < ds.length) (.ok .nx (ρ1.set i (.own (.lst (ds.set j.toNat d)))))
  | _ => .no
instance {i : Nat} {a v : ME} {ga gv : G D} [Ag z a ga] [Ag z v gv] : AgS z (mSetIx i a v) (gSetIx i ga gv) := ⟨fun N ρ h => by
 unfold gSetIx at h
 unfold mSetIx
 exact Ag.stepS h fun d ρ0 h =>
  ownLG_ok (onO_mono (SOn_ofO h) fun _ h => Ag.stepS h fun x ρ1 h => ownLG_ok (onO_mono (SOn_ofO h) fun ds h => by
    cases x with
    | int j => exact SOn_gd h
    | _ => exact False.elim h))⟩
def ownOG : Option Slot → Option (Nat × List (Nat × D)) | some (.own (.obj c fs)) => some (c, fs) | _ => none
theorem ownOG_ok {s : Option Slot} {k : Nat → List (Nat × D) → Prop} (h : onO (fun r => k r.1 r.2) (ownOG s)) : ownO s k := by
  unfold ownOG at h
  split at h
  · exact h
  · exact False.elim h
def gSetF (i f : Nat) (g : G D) : G End := fun ρ => (g ρ).bind fun d ρ1 => (ofO (ownOG ρ1[i]?) ρ1).bind fun r ρ1 => gd (11 ≤ r.1 ∧ r.2.length < 100) (.ok .nx (ρ1.set i (.own (.obj r.1 (putD f d r.2)))))
instance {i f : Nat} {m : ME} {g : G D} [Ag z m g] : AgS z (mSetF i f m) (gSetF i f g) := ⟨fun N ρ h => by
 unfold gSetF at h
 unfold mSetF
 exact Ag.stepS h fun d ρ1 h => ownOG_ok (onO_mono (SOn_ofO h) fun r h => let ⟨a, b⟩ := SOn_gd h; ⟨a.1, a.2, b⟩)⟩
def gRaise (k : Nat) (a : G (List D)) : G End := fun ρ => (a ρ).bind fun ds ρ1 => gd (ds.length ≤ 1000) (.ex k ρ1)
instance {k : Nat} {a : MA} {ga : G (List D)} [Ag z a ga] : AgS z (mRaise z k a) (gRaise k ga) := ⟨fun N ρ h => by
 unfold gRaise at h
 unfold mRaise
 exact Ag.stepS h fun ds ρ1 h => SOn_gd h⟩
def loopR (r : O End) (k : G End) : O End := match r with
  | .ok .nx ρ => k ρ
  | .ok .ct ρ => k ρ
  | .ok .bk ρ => .ok .nx ρ
  | r => r
theorem loopR_ok {N : MEnds} {b : MS} {gb : G End} [i : AgS z b gb] {ρ : Env} {k : G End} {p : Env → Prop} (h : SOn z N (loopR (gb ρ) k)) (hk : ∀ ρ', SOn z N (k ρ') → p ρ') : b { nx := p, rt := N.rt, bk := N.nx, ct := p } ρ := by
  refine i.h _ _ ?_
  cases e : gb ρ with
  | no => rw [e] at h; exact h
  | ex k ρ' => rw [e] at h; exact h
  | ok n ρ' =>
    rw [e] at h
    cases n with
    | nx => exact hk _ h
    | rt d => exact h
    | bk => exact h
    | ct => exact hk _ h
def forG (g : D → Env → Option Env) (b : G End) : List D → G End
  | [], ρ => .ok .nx ρ
  | d :: ds, ρ => (ofO (g d ρ) ρ).bind fun ρ1 _ => loopR (b ρ1) (forG g b ds)
theorem forG_ok {N : MEnds} {g : MG} {b : MS} {k : D → Env → Option Env} {gb : G End} [i : AgG g k] [AgS z b gb] : ∀ (ds : List D) (ρ : Env), SOn z N (forG k gb ds ρ) → forM g b ds N ρ
  | [], ρ, h => h
  | d :: ds, ρ, h => i.h _ _ _ (onO_mono (SOn_ofO h) fun ρ1 h => loopR_ok h fun ρ' h => forG_ok ds ρ' h)
def gFor (gi : G (List D)) (g : D → Env → Option Env) (b : G End) : G End := fun ρ => (gi ρ).bind fun ds ρ1 => forG g b ds ρ1
instance {mi : MI} {g : MG} {b : MS} {gi : G (List D)} {k : D → Env → Option Env} {gb : G End} [Ag z mi gi] [AgG g k] [AgS z b gb] : AgS z (mFor mi g b) (gFor gi k gb) := ⟨fun N ρ h => by
 unfold gFor at h
 unfold mFor
 exact Ag.stepS h fun ds ρ1 h => forG_ok ds ρ1 h⟩
def whileG (c : G Bool) (b : G End) : Nat → G End
  | 0, _ => .no
  | n + 1, ρ => (c ρ).bind fun k ρ1 => if k = true then loopR (b ρ1) (whileG c b n) else .ok .nx ρ1
theorem whileG_ok {N : MEnds} {c : MT} {b : MS} {gc : G Bool} {gb : G End} [Ag z c gc] [AgS z b gb] : ∀ (n : Nat) (ρ : Env), SOn z N (whileG gc gb n ρ) → whileM c b n N ρ
  | 0, ρ, h => h
  | n + 1, ρ, h => Ag.stepS h fun k ρ1 h => by
    cases k with
    | true => exact loopR_ok h fun ρ' h => whileG_ok n ρ' h
    | false => exact h
def gWhile (n : Nat) (c : G Bool) (b : G End) : G End := whileG c b n
instance {n : Nat} {c : MT} {b : MS} {gc : G Bool} {gb : G End} [Ag z c gc] [AgS z b gb] : AgS z (mWhile c b) (gWhile n gc gb) := ⟨fun N ρ h => ⟨n, whileG_ok n ρ h⟩⟩
def goneR (i : Nat) : O End → O End
  | .ok .nx ρ => .ok .nx (ρ.set i .no)
  | .ok .bk ρ => .ok .bk (ρ.set i .no)
  | .ok .ct ρ => .ok .ct (ρ.set i .no)
  | r => r
def tryR (cs : Nat → Bool) (i : Nat) (h : G End) : O End → O End
  | .ex k ρ => if cs k = true then goneR i (h (ρ.set i (.val (.exc k)))) else .no
  | r => r
def gTry (cs : Nat → Bool) (i : Nat) (b h : G End) : G End := fun ρ => tryR cs i h (b ρ)
instance {cs : Nat → Bool} {i : Nat} {b : (Nat → Env → Prop) → MS} {h : MS} {gb gh : G End} [ib : ∀ z, AgS z (b z) gb] [ih : AgS z h gh] : AgS z (mTry cs i b h) (gTry cs i gb gh) := ⟨fun N ρ hh => by
  refine (ib _).h _ _ ?_
  unfold gTry at hh
  cases e : gb ρ with
  | no => rw [e] at hh; exact hh
  | ex k ρ' =>
    rw [e] at hh
    unfold tryR at hh
    dsimp only at hh
    split at hh
    · refine ⟨‹_›, ih.h _ _ ?_⟩
      cases e2 : gh (ρ'.set i (.val (.exc k))) with
      | no => rw [e2] at hh; exact hh
      | ex k ρ' => rw [e2] at hh; exact hh
      | ok n ρ' => rw [e2] at hh; cases n <;> exact hh
    · exact False.elim hh
  | ok n ρ' => rw [e] at hh; cases n <;> exact hh⟩
def pinG : List Nat → Env → Option (List D)
  | [], _ => some []
  | i :: r, ρ => (own1 ρ[i]?).bind fun o => (pinG r ρ).map (o :: ·)
theorem pinG_ok : ∀ {pn : List Nat} {ρ : Env} {k : List D → Prop}, onO k (pinG pn ρ) → pinD pn ρ k
  | [], ρ, k, h => h
  | i :: r, ρ, k, h => by
    unfold pinG at h
    unfold pinD
    cases e : own1 ρ[i]? with
    | none => rw [e] at h; exact False.elim h
    | some o =>
      rw [e] at h
      rw [own1_some e]
      exact pinG_ok (onO_map h)
def finR (pn : List Nat) (d : D) (ρ : Env) : RF := match pinG pn ρ with | some os => .ok d os | none => .no
def funR (pn : List Nat) (fr : Bool) : O End → RF
  | .ok .nx ρ => if fr = true then .no else finR pn .non ρ
  | .ok (.rt d) ρ => finR pn d ρ
  | .ex k _ => .ex k
  | _ => .no
def gFun (pn : List Nat) (n nl : Nat) (fr : Bool) (g : G End) : Fn := fun ss => if ss.length = n then funR pn fr (g (ss ++ List.replicate nl .no)) else .no
theorem gFun_len {pn : List Nat} {n nl : Nat} {fr : Bool} {g : G End} {ss : List Slot} {q : D → List D → Prop} {z : D → List D → Prop} (h : spF (gFun pn n nl fr g) ss q z) : ss.length = n := by
  unfold spF gFun at h
  by_cases e : ss.length = n
  · exact e
  · rw [if_neg e] at h; exact False.elim h
theorem finR_ok {pn : List Nat} {d : D} {ρ : Env} {q : D → List D → Prop} {z : D → List D → Prop} (h : match finR pn d ρ with | .no => False | .ex k => z (.exc k) [] | .ok d os => q d os) : pinD pn ρ (q d) := by
  refine pinG_ok ?_
  unfold finR at h
  cases e : pinG pn ρ with
  | none => rw [e] at h; exact h
  | some os => rw [e] at h; exact h
theorem gFun_reads {pn : List Nat} {n nl : Nat} {fr : Bool} {g : G End} {b : MS} {ss : List Slot} {q z : D → List D → Prop} [i : AgS (fun k _ => z (.exc k) []) b g] (h : spF (gFun pn n nl fr g) ss q z) :
    b { nx := fun ρ => fr = false ∧ pinD pn ρ (q .non), rt := fun d ρ => pinD pn ρ (q d), bk := fun _ => False, ct := fun _ => False } (ss ++ List.replicate nl .no) := by
  have hl := gFun_len h
  unfold spF gFun at h
  rw [if_pos hl] at h
  refine i.h _ _ ?_
  cases e : g (ss ++ List.replicate nl .no) with
  | no => rw [e] at h; exact h
  | ex k ρ => rw [e] at h; exact h
  | ok n ρ =>
    rw [e] at h
    cases n with
    | nx =>
      cases fr with
      | true => exact False.elim h
      | false => exact ⟨rfl, finR_ok h⟩
    | rt d => exact finR_ok h
    | bk => exact h
    | ct => exact h
theorem fn_G {P : Program} {w : World} {K : PySem.W.Frag} {mg : Str → Option Value} {base : Heap} {cls : Nat → Option Addr} {x qual : Str} {st : Stmt} {f : Addr} {fd : FuncData} {N ps : List Str} {pn : List Nat} {fr : Bool} {k n : Nat} {g : G End} (F : Fun K x qual st f fd) (S : FnScope N ps (defScope st)) (hn : ps.length = n)
    (hb : ∀ (cdv : Value) (A : Around) (outer : List PySem.Env) (s : Shared) (H : Hp) (E : XK), Room k (A.deeper (PyProof.Rows.envOfC qual (defScope st) s.heap.objs.size f cdv)) →
      ∃ b, DSs (cxOf CX0 P w K mg base N qual (defScope st) f cdv A outer s H E).nox cls pn fr (defBody st) b ∧ AgS Zf b g) : FnOk P w K mg base CX0 (k + 1) f fd ps (spM ⟨K, cls⟩ pn fr n (spF (gFun pn n (N.length - n) fr g))) := by
  subst hn
  refine F.ok S (fun vs H Q E h => h.1) fun cdv A outer s H vs Q E hr h => ?_
  obtain ⟨b, hd, ag⟩ := hb cdv A outer s H E hr
  obtain ⟨t, a, c⟩ := hd.h
  refine ⟨t, a, ?_⟩
  obtain ⟨hl, S, ss, q, hpin, h0, R, hq, hQ⟩ := h
  have hsl : ss.length = ps.length := by have := R.len; simp at this; omega
  have hm := gFun_reads (i := (ag : AgS (fun k _ => Z0 (.exc k) []) b g)) hq
  unfold L2.start
  rw [hl]
  have rt : ∀ v d σ' H' ρ', RR ⟨K, cls⟩ fr S σ' ρ' H' [] v d → pinD pn ρ' (q d) → Q v H' := fun v d σ' H' ρ' r' q' => by
    obtain ⟨os, a, b⟩ := pinD_of q'
    exact hQ _ _ _ _ _ os r' a b
  refine c S _ _ H [] _ _ hpin (R.ext _) hm (fun σ' H' ρ' R' q' => ?_) rt (fun _ _ _ _ z => False.elim z) fun _ _ _ _ z => False.elim z
  obtain ⟨e, q'⟩ := q'
  subst e
  exact rt _ _ _ _ _ ⟨R', .non⟩ q'
theorem fn_GX {P : Program} {w : World} {K : PySem.W.Frag} {mg : Str → Option Value} {base : Heap} {cls : Nat → Option Addr} {x qual : Str} {st : Stmt} {f : Addr} {fd : FuncData} {N ps : List Str} {pn : List Nat} {k n : Nat} {g : G End} (F : Fun K x qual st f fd) (S : FnScope N ps (defScope st)) (hn : ps.length = n)
    (hb : ∀ (cdv : Value) (A : Around) (outer : List PySem.Env) (s : Shared) (H : Hp) (E : XK) (z : Nat → Env → Prop), Room k (A.deeper (PyProof.Rows.envOfC qual (defScope st) s.heap.objs.size f cdv)) →
      ∃ b, DSsX (cxOf (CX1 P w) P w K mg base N qual (defScope st) f cdv A outer s H E) cls pn false (fun _ => E) z (defBody st) b ∧ AgS z b g) : FnOk P w K mg base (CX1 P w) (k + 1) f fd ps (spX ⟨K, cls⟩ pn n (spF (gFun pn n (N.length - n) false g))) := by
  subst hn
  obtain ⟨oc, od, kV, doc, pm, an, cdv, ct, osl, rfl, lk, hcd⟩ := F.ex
  refine fn_of lk hcd S (fun vs H Q E h => h.1) fun A outer s H vs Q E hr h => ?_
  obtain ⟨hl, S0, ss, q, z, hpin, h0, R, hq, hQ, hE⟩ := h
  obtain ⟨b, hd, ag⟩ := hb cdv A outer s H E (fun k _ => z (.exc k) []) hr
  obtain ⟨t, pa, ja⟩ := hd.h
  refine ⟨t, pa, ?_⟩
  have hsl : ss.length = ps.length := by have := R.len; simp at this; omega
  have hm := gFun_reads (i := ag) hq
  unfold L2.start
  rw [hl]
  have rt : ∀ v d σ' H' ρ', RR ⟨K, cls⟩ false S0 σ' ρ' H' [] v d → pinD pn ρ' (q d) → Q v H' := fun v d σ' H' ρ' r' q' => by
    obtain ⟨os, a, b⟩ := pinD_of q'
    exact hQ _ _ _ _ _ os r' a b
  exact ja S0 _ _ H [] _ _ hpin (R.ext _) hm (fun σ' H' ρ' R' q' => rt _ _ _ _ _ ⟨R', .non⟩ q'.2) rt (fun _ _ _ _ z => False.elim z) (fun _ _ _ _ z => False.elim z) fun k C σ' ρ' H' hc R' hz => hE k C H' hc R'.fr hz
end M
namespace M
open PySem L2
def cs_EnoughError : Nat → Bool := fun k => decide (k ≤ 10)
def tbs (l : List Nat) : Nat → Option Bool := fun k => if k ≤ 10 then some (l.contains k) else none
def tb_All : Nat → Option Bool := fun k => if k ≤ 10 then some true else none
theorem lk_mem {C : Addr} {n : Nat} : ∀ {l : List (Nat × Addr)}, l.lookup n = some C → (n, C) ∈ l
  | [], h => by cases h
  | (m, B) :: r, h => by
    rw [List.lookup_cons] at h
    split at h
    · rename_i e
      cases h
      have : n = m := by simpa using e
      subst this
      exact List.mem_cons_self
    · exact List.mem_cons_of_mem _ (lk_mem h)
theorem some_is {b c : Bool} {o : Option Bool} (h : o = some b) (e : o = some c) : b = c := Option.some.inj (h.symm.trans e)
theorem hu41 {k : Nat} {A : Around} (r : Room k A) : A.units + 41 < cLine := by have := r.un; omega
theorem none_is {b : Bool} {o : Option Bool} (h : o = some b) (e : o = none) : False := by rw [e] at h; cases h
theorem law_startF {F : Fn} (hF : ∀ ns : List Int, ns.length ≤ 63 → F [.val (.fz ns)] = .ok (.bl true) []) {K : PySem.W.Frag} {cls : Nat → Option Addr} {vs : List V} {H : Hp} {Q : VK} {E : XK} (h : spLaw K vs H Q E) : spM ⟨K, cls⟩ [] false 1 (spF F) vs H Q E := by
  obtain ⟨hl, S, ss, q, a, b, c, ⟨ns, e, hn, hq⟩, d⟩ := law_start (cls := cls) h
  refine ⟨hl, S, ss, q, a, b, c, ?_, d⟩
  subst e
  unfold spF
  rw [hF ns hn]
  exact hq
end M
namespace M
open PySem L2
section
variable {α β : Type}
theorem bind_ok {a : α} {ρ : Env} {f : α → Env → O β} : (O.ok a ρ).bind f = f a ρ := rfl
theorem bind_no {f : α → Env → O β} : (O.no : O α).bind f = .no := rfl
theorem bind_ex {k : Nat} {ρ : Env} {f : α → Env → O β} : (O.ex k ρ : O α).bind f = .ex k ρ := rfl
theorem ofO_some {a : α} {ρ : Env} : ofO (some a) ρ = .ok a ρ := rfl
theorem ofO_none {ρ : Env} : ofO (none : Option α) ρ = .no := rfl
theorem gd_true {r : O α} : gd True r = r := rfl
theorem gd_pos {c : Prop} [Decidable c] {r : O α} (h : c) : gd c r = r := if_pos h
theorem seqR_nx {ρ : Env} {b : G End} : seqR (.ok .nx ρ) b = b ρ := rfl
theorem seqR_rt {d : D} {ρ : Env} {b : G End} : seqR (.ok (.rt d) ρ) b = .ok (.rt d) ρ := rfl
theorem seqR_bk {ρ : Env} {b : G End} : seqR (.ok .bk ρ) b = .ok .bk ρ := rfl
theorem seqR_ct {ρ : Env} {b : G End} : seqR (.ok .ct ρ) b = .ok .ct ρ := rfl
theorem seqR_ex {k : Nat} {ρ : Env} {b : G End} : seqR (.ex k ρ) b = .ex k ρ := rfl
theorem loopR_nx {ρ : Env} {b : G End} : loopR (.ok .nx ρ) b = b ρ := rfl
theorem loopR_rt {d : D} {ρ : Env} {b : G End} : loopR (.ok (.rt d) ρ) b = .ok (.rt d) ρ := rfl
theorem loopR_bk {ρ : Env} {b : G End} : loopR (.ok .bk ρ) b = .ok .nx ρ := rfl
theorem loopR_ct {ρ : Env} {b : G End} : loopR (.ok .ct ρ) b = b ρ := rfl
theorem get_d {x : D} {ρ : Env} : (Opd.d x).get ρ = some x := rfl
theorem get_v {i : Nat} {ρ : Env} : (Opd.v i).get ρ = slotG ρ[i]? := rfl
theorem slotG_val {d : D} : slotG (some (.val d)) = some d := rfl
theorem slotG_own {d : D} : slotG (some (.own d)) = some d := rfl
theorem own1_own {d : D} : own1 (some (.own d)) = some d := rfl
theorem ownLG_own {ds : List D} : ownLG (some (.own (.lst ds))) = some ds := rfl
theorem ownOG_own {c : Nat} {fs : List (Nat × D)} : ownOG (some (.own (.obj c fs))) = some (c, fs) := rfl
theorem asB_bl {b : Bool} {ρ : Env} : asB (.bl b) ρ = .ok b ρ := rfl
theorem asI_int {b : Int} {ρ : Env} : asI (.int b) ρ = .ok (some b) ρ := rfl
theorem callR_ok {d : D} {os : List D} {ρ : Env} : callR (.ok d os) ρ = .ok d ρ := rfl
theorem callX_ok {d : D} {os : List D} {ρ : Env} : callX (.ok d os) ρ = .ok d ρ := rfl
theorem callX_ex {k : Nat} {ρ : Env} : callX (.ex k) ρ = .ex k ρ := rfl
theorem call0R_ok {j : Nat} {d o : D} {ρ : Env} : call0R j (.ok d [o]) ρ = .ok d (ρ.set j (.own o)) := rfl
theorem makeR_ok {o : D} {ρ : Env} : makeR (.ok .non [o]) ρ = .ok o ρ := rfl
theorem makeX_ok {o : D} {ρ : Env} : makeX (.ok .non [o]) ρ = .ok o ρ := rfl
theorem makeX_ex {k : Nat} {ρ : Env} : makeX (.ex k) ρ = .ex k ρ := rfl
theorem funR_nx {pn : List Nat} {ρ : Env} : funR pn false (.ok .nx ρ) = finR pn .non ρ := rfl
theorem funR_rt {pn : List Nat} {fr : Bool} {d : D} {ρ : Env} : funR pn fr (.ok (.rt d) ρ) = finR pn d ρ := rfl
theorem funR_ex {pn : List Nat} {fr : Bool} {k : Nat} {ρ : Env} : funR pn fr (.ex k ρ) = .ex k := rfl
theorem finR_nil {d : D} {ρ : Env} : finR [] d ρ = .ok d [] := rfl
theorem finR_0 {d o : D} {ρ : Env} : finR [0] d (.own o :: ρ) = .ok d [o] := rfl
theorem ixN_of {n : Nat} {r : Int} (h0 : 0 ≤ r) (h1 : r < n) : ixN n r = some r.toNat := by
  unfold ixN
  rw [if_pos h0, if_pos h1]
theorem hIx_l {ds : List D} {r : Int} (h0 : 0 ≤ r) (h1 : r < ds.length) : hIx (.lst ds) (.int r) = some (ds.getD r.toNat .non) := by
  unfold hIx; dsimp only; rw [ixN_of h0 h1]; rfl
theorem hIx_t {ds : List D} {r : Int} (h0 : 0 ≤ r) (h1 : r < ds.length) : hIx (.tup ds) (.int r) = some (ds.getD r.toNat .non) := by
  unfold hIx; dsimp only; rw [ixN_of h0 h1]; rfl
theorem hIx_z {ns : List Int} {r : Int} (h0 : 0 ≤ r) (h1 : r < ns.length) : hIx (.fz ns) (.int r) = some (.int (ns.getD r.toNat 0)) := by
  unfold hIx; dsimp only; rw [ixN_of h0 h1]; rfl
theorem hIx_s {w : Str} {r : Int} (hl : w.length ≤ 100000) (h0 : 0 ≤ r) (h1 : r < w.cps.toList.length) : hIx (.str w) (.int r) = some (.str ⟨#[w.cps.toList.getD r.toNat 0]⟩) := by
  unfold hIx; dsimp only; rw [if_pos hl, ixN_of h0 h1]; rfl
section
variable {a b c d e f g h : D} {ds : List D}
theorem ix0 : hIx (.lst (a :: ds)) (.int 0) = some a := hIx_l (by omega) (by simp only [List.length_cons]; omega)
theorem ix1 : hIx (.lst (a :: b :: ds)) (.int 1) = some b := hIx_l (by omega) (by simp only [List.length_cons]; omega)
theorem ix2 : hIx (.lst (a :: b :: c :: ds)) (.int 2) = some c := hIx_l (by omega) (by simp only [List.length_cons]; omega)
theorem ix3 : hIx (.lst (a :: b :: c :: d :: ds)) (.int 3) = some d := hIx_l (by omega) (by simp only [List.length_cons]; omega)
theorem ix4 : hIx (.lst (a :: b :: c :: d :: e :: ds)) (.int 4) = some e := hIx_l (by omega) (by simp only [List.length_cons]; omega)
theorem ix5 : hIx (.lst (a :: b :: c :: d :: e :: f :: ds)) (.int 5) = some f := hIx_l (by omega) (by simp only [List.length_cons]; omega)
theorem ix6 : hIx (.lst (a :: b :: c :: d :: e :: f :: g :: ds)) (.int 6) = some g := hIx_l (by omega) (by simp only [List.length_cons]; omega)
theorem ix7 : hIx (.lst (a :: b :: c :: d :: e :: f :: g :: h :: ds)) (.int 7) = some h := hIx_l (by omega) (by simp only [List.length_cons]; omega)
theorem it0 : hIx (.tup (a :: ds)) (.int 0) = some a := hIx_t (by omega) (by simp only [List.length_cons]; omega)
theorem it1 : hIx (.tup (a :: b :: ds)) (.int 1) = some b := hIx_t (by omega) (by simp only [List.length_cons]; omega)
theorem it2 : hIx (.tup (a :: b :: c :: ds)) (.int 2) = some c := hIx_t (by omega) (by simp only [List.length_cons]; omega)
theorem it3 : hIx (.tup (a :: b :: c :: d :: ds)) (.int 3) = some d := hIx_t (by omega) (by simp only [List.length_cons]; omega)
theorem it4 : hIx (.tup (a :: b :: c :: d :: e :: ds)) (.int 4) = some e := hIx_t (by omega) (by simp only [List.length_cons]; omega)
theorem it5 : hIx (.tup (a :: b :: c :: d :: e :: f :: ds)) (.int 5) = some f := hIx_t (by omega) (by simp only [List.length_cons]; omega)
theorem it6 : hIx (.tup (a :: b :: c :: d :: e :: f :: g :: ds)) (.int 6) = some g := hIx_t (by omega) (by simp only [List.length_cons]; omega)
theorem it7 : hIx (.tup (a :: b :: c :: d :: e :: f :: g :: h :: ds)) (.int 7) = some h := hIx_t (by omega) (by simp only [List.length_cons]; omega)
end
theorem isNon_n : isNon .non = true := rfl
theorem isNon_b {b : Bool} : isNon (.bl b) = false := rfl
theorem isNon_i {i : Int} : isNon (.int i) = false := rfl
theorem isNon_s {x : Str} : isNon (.str x) = false := rfl
theorem isNon_l {l : List D} : isNon (.lst l) = false := rfl
theorem isNon_t {l : List D} : isNon (.tup l) = false := rfl
theorem isNon_o {c : Nat} {fs : List (Nat × D)} : isNon (.obj c fs) = false := rfl
theorem mergeB_n1 {ρb ρ : Env} : mergeB [none] ρb ρ = ρ := by
  match ρb with
  | [] => rfl
  | [_] => rfl
  | _ :: _ :: _ => rfl
theorem map_toNat_inj : ∀ {a b : List Char}, a.map Char.toNat = b.map Char.toNat → a = b
  | [], [], _ => rfl
  | [], _ :: _, h => by simp at h
  | _ :: _, [], h => by simp at h
  | x :: a, y :: b, h => by
    simp only [List.map_cons, List.cons.injEq] at h
    rw [map_toNat_inj h.2, Char.toNat_inj.mp h.1]
theorem ofString_inj {a b : String} : (Str.ofString a = Str.ofString b) = (a = b) := by
  apply propext
  constructor
  · intro h
    rw [Str.ofString_eq_toList, Str.ofString_eq_toList] at h
    have h : (a.toList.map Char.toNat) = (b.toList.map Char.toNat) := by
      have := congrArg (fun s => s.cps.toList) h
      simpa using this
    exact String.toList_inj.mp (map_toNat_inj h)
  · intro h; rw [h]
end
end M
namespace M
open PySem L2
def G_l_well : G End := (gRet (gLst (gCons (gOp hIx (gO (gLst (gCons (gC (.int 0)) (gCons (gVarP 0) gNil)))) (gO (gOp1 hInt (gO (gOp hGe (gOv 0) (gO (gOp hPow (gO (gC (.int 10))) (gO (gC (.int 18)))))))))) (gCons (gOp hMod (gOv 0) (gO (gC (.int 2147483629)))) (gCons (gC (.int 0)) gNil)))))
def F_l_well : Fn := gFun [] 1 0 true G_l_well
def G_l_cell_at : G End := (gSeq (gIfS (gB (gOp hLt (gOv 1) (gO (gOp1 hLen (gOv 0)))))
    (gRet (gOp hIx (gOv 0) (gOv 1)))
    gNext)
  (gRet (gC (.int 0))))
def F_l_cell_at : Fn := gFun [] 2 0 false G_l_cell_at
def G_l_draw_1 : G End := (gSeq (gSetIx 0 (gC (.int 0)) (gOp hFdiv (gO (gOp hIx (gOv 0) (gO (gC (.int 0))))) (gOv 1)))
  (gRet (gVarP 2)))
def G_l_draw_2 : G End := (gRet (gOp hMod (gO (gOp hMod (gO (gOp hMul (gOv 3) (gO (gOp hAdd (gO (gOp hFdiv (gOv 3) (gO (gC (.int 2003))))) (gO (gC (.int 40692))))))) (gO (gC (.int 2147483399))))) (gOv 1)))
def G_l_draw_3 : G End := (gSeq (gSet 3 (gOp hMod (gO (gOp hMul (gOv 3) (gO (gOp hAdd (gO (gOp hFdiv (gOv 3) (gO (gC (.int 1009))))) (gO (gC (.int 69621))))))) (gO (gC (.int 2147483647)))))
  G_l_draw_2)
def G_l_draw_4 : G End := (gSeq (gSet 3 (gOp hMod (gO (gOp hMul (gO (gOp hAdd (gO (gOp hAdd (gO (gOp hIx (gOv 0) (gO (gC (.int 1))))) (gO (gOp hMul (gO (gC (.int 7919))) (gO (gOp hIx (gOv 0) (gO (gC (.int 2))))))))) (gO (gC (.int 1))))) (gO (gC (.int 48271))))) (gO (gC (.int 2147483647)))))
  G_l_draw_3)
def G_l_draw_5 : G End := (gSeq (gSetIx 0 (gC (.int 2)) (gOp hAdd (gO (gOp hIx (gOv 0) (gO (gC (.int 2))))) (gO (gC (.int 1)))))
  G_l_draw_4)
def G_l_draw : G End := (gSeq (gIfS (gB (gOp hGt (gO (gOp hIx (gOv 0) (gO (gC (.int 0))))) (gO (gC (.int 0)))))
    (gSeq (gSet 2 (gOp hMod (gO (gOp hIx (gOv 0) (gO (gC (.int 0))))) (gOv 1)))
  G_l_draw_1)
    gNext)
  G_l_draw_5)
def F_l_draw : Fn := gFun [0] 2 2 false G_l_draw
def G_l_word_1 : G End := (gSet 3 (gOp hAddS (gOv 3) (gO (gOp hIx (gOv 2) (gO (gCall0 0 F_l_draw (gCons (gC (.int 26)) gNil)))))))
def G_l_word_2 : G End := (gRet (gOp hAddS (gOv 3) (gO (gOp hIx (gOv 2) (gO (gOp hMod (gOv 1) (gO (gC (.int 26)))))))))
def G_l_word_3 : G End := (gSeq (gFor (giRange1 (gCons (gCall0 0 F_l_draw (gCons (gC (.int 8)) gNil)) gNil)) (ggName 4)
    G_l_word_1)
  G_l_word_2)
def G_l_word : G End := (gSeq (gSet 2 (gC (.str "abcdefghijklmnopqrstuvwxyz")))
  (gSeq (gSet 3 (gC (.str "")))
  G_l_word_3))
def F_l_word : Fn := gFun [0] 2 3 false G_l_word
def G_l_odd_1 : G End := (gRet (gOp hIx (gOv 1) (gO (gCall0 0 F_l_draw (gCons (gOp1 hLen (gOv 1)) gNil)))))
def G_l_odd : G End := (gSeq (gSet 1 (gLst (gCons (gC .non) (gCons (gC (.bl true)) (gCons (gC (.bl false)) (gCons (gOp1 hNeg (gO (gC (.int 1)))) (gCons (gOp hSub (gO (gC (.int 0))) (gO (gOp hPow (gO (gC (.int 10))) (gO (gC (.int 8)))))) (gCons (gC (.str "")) (gCons (gC (.str "abcdefghi")) (gCons (gC (.str "Ann")) (gCons (gC (.str "a b")) (gCons (gC (.str "an1")) (gCons (gC (.str "7")) (gCons (gLst gNil) (gCons (gLst (gCons (gC (.int 1)) gNil)) (gCons (gTup (gCons (gC (.int 1)) gNil)) (gCons (gC (.str "an\n")) gNil)))))))))))))))))
  G_l_odd_1)
def F_l_odd : Fn := gFun [0] 1 1 false G_l_odd
def G_demandX : G End := (gIfS (gNot (gTru (gOv 0)))
    (gRaise 5 (gCons (gVarP 1) gNil))
    gNext)
def F_demandX : Fn := gFun [] 2 0 false G_demandX
def G_is_name_1 : G End := (gRet (gOp1 hAll (gO (gComp (giStr (gVarP 0)) [none] (ggName 0) gTT (gChain hLeS hLeS (gC (.str "a")) (gVarP 0) (gC (.str "z")))))))
def G_is_name : G End := (gSeq (gIfS (gOr (gNot (gB (gOp hInst (gOv 0) (gO (gC (.ty "str")))))) (gNot (gB (gChain hLe hLe (gC (.int 1)) (gOp1 hLen (gOv 0)) (gC (.int 8))))))
    (gRet (gC (.bl false)))
    gNext)
  G_is_name_1)
def F_is_name : Fn := gFun [] 1 0 false G_is_name
def G_is_whole : G End := (gRet (gAndV (gOp hInst (gOv 0) (gO (gC (.ty "int")))) (gNotV (gOp hInst (gOv 0) (gO (gC (.ty "bool")))))))
def F_is_whole : Fn := gFun [] 1 0 false G_is_whole
def G_is_from_nought : G End := (gRet (gAndV (gCall F_is_whole (gCons (gVarP 0) gNil)) (gOp hGe (gOv 0) (gO (gC (.int 0))))))
def F_is_from_nought : Fn := gFun [] 1 0 false G_is_from_nought
def G_AnswerX_1 : G End := (gSeq (gSetF 0 11 (gVarP 3))
  (gSeq (gSetF 0 12 (gVarP 4))
  (gSetF 0 13 (gVarP 5))))
def G_AnswerX_2 : G End := (gSeq (gSetF 0 9 (gVarP 1))
  (gSeq (gSetF 0 10 (gVarP 2))
  G_AnswerX_1))
def G_AnswerX_3 : G End := (gSeq (gDrop (gCallX F_demandX (gCons (gCall F_is_from_nought (gCons (gVarP 5) gNil)) (gCons (gC (.str "the seal is no whole number from 0 on")) gNil))))
  G_AnswerX_2)
def G_AnswerX_4 : G End := (gSeq (gDrop (gCallX F_demandX (gCons (gCall F_is_from_nought (gCons (gVarP 4) gNil)) (gCons (gC (.str "the stamp is no whole number from 0 on")) gNil))))
  G_AnswerX_3)
def G_AnswerX_5 : G End := (gSeq (gDrop (gCallX F_demandX (gCons (gOrV (gOp hIsN (gOv 3) (gO (gC .non))) (gCall F_is_from_nought (gCons (gVarP 3) gNil))) (gCons (gC (.str "the value is no whole number from 0 on and not None")) gNil))))
  G_AnswerX_4)
def G_AnswerX_6 : G End := (gSeq (gDrop (gCallX F_demandX (gCons (gCall F_is_from_nought (gCons (gVarP 2) gNil)) (gCons (gC (.str "the ask's number is no whole number from 0 on")) gNil))))
  G_AnswerX_5)
def G_AnswerX : G End := (gSeq (gDrop (gCallX F_demandX (gCons (gCall F_is_name (gCons (gVarP 1) gNil)) (gCons (gC (.str "the name is none")) gNil))))
  G_AnswerX_6)
def F_AnswerX : Fn := gFun [0] 6 0 false G_AnswerX
def G_l_told_1 : G End := (gSet 1 (gTup (gCons (gC (.str "made")) (gCons (gTup (gCons (gOp1 (hFld 9) (gOv 2)) (gCons (gOp1 (hFld 10) (gOv 2)) (gCons (gOp1 (hFld 11) (gOv 2)) (gCons (gOp1 (hFld 12) (gOv 2)) (gCons (gOp1 (hFld 13) (gOv 2)) gNil)))))) gNil))))
def G_l_told_2 : G End := (gIfS (gAnd (gB (gIsExc 3 (tbs [5]))) (gAnd (gB (gIsExc 3 tb_All)) (gNot (gB (gVarP 4)))))
    (gSet 1 (gTup (gCons (gC (.str "refused")) (gCons (gC .non) gNil))))
    gNext)
def G_l_told_3 : G End := (gSeq (gSet 2 (gMakeX 18 F_AnswerX (gCons (gOp hIx (gOv 0) (gO (gC (.int 0)))) (gCons (gOp hIx (gOv 0) (gO (gC (.int 1)))) (gCons (gOp hIx (gOv 0) (gO (gC (.int 2)))) (gCons (gOp hIx (gOv 0) (gO (gC (.int 3)))) (gCons (gOp hIx (gOv 0) (gO (gC (.int 4)))) gNil)))))))
  G_l_told_1)
def G_l_told_4 : G End := (gSeq (gSet 4 (gIsExc 3 (tbs [7, 9, 4, 2, 6, 10, 8, 1, 3])))
  G_l_told_2)
def G_l_told_5 : G End := (gSeq (gTry cs_EnoughError 3 G_l_told_3
    G_l_told_4)
  (gRet (gVarP 1)))
def G_l_told : G End := (gSeq (gSet 1 (gTup (gCons (gC (.str "other")) (gCons (gC .non) gNil))))
  G_l_told_5)
def F_l_told : Fn := gFun [] 1 4 false G_l_told
def G_l_is_number : G End := (gRet (gAndV (gOp hInst (gOv 0) (gO (gC (.ty "int")))) (gAndV (gNotV (gOp hInst (gOv 0) (gO (gC (.ty "bool"))))) (gOp hGe (gOv 0) (gO (gC (.int 0)))))))
def F_l_is_number : Fn := gFun [] 1 0 false G_l_is_number
def G_l_is_right_1 : G End := (gRet (gAndV (gOrV (gOp hIsN (gOv 3) (gO (gC .non))) (gCall F_l_is_number (gCons (gVarP 3) gNil))) (gOp1 hAll (gO (gComp (giList (gLst (gCons (gVarP 2) (gCons (gVarP 4) (gCons (gVarP 5) gNil))))) [none] (ggName 0) gTT (gCall F_l_is_number (gCons (gVarP 0) gNil)))))))
def G_l_is_right_2 : G End := (gSeq (gIfS (gB (gOp (hEqD true) (gO (gComp (giStr (gVarP 1)) [none] (ggName 0) (gB (gOp (hInS true) (gOv 0) (gO (gC (.str "abcdefghijklmnopqrstuvwxyz"))))) (gVarP 0))) (gO (gLst gNil))))
    (gRet (gC (.bl false)))
    gNext)
  G_l_is_right_1)
def G_l_is_right_3 : G End := (gSeq (gIfS (gOr (gNot (gB (gOp hInst (gOv 1) (gO (gC (.ty "str")))))) (gNot (gB (gChain hLt hLt (gC (.int 0)) (gOp1 hLen (gOv 1)) (gC (.int 9))))))
    (gRet (gC (.bl false)))
    gNext)
  G_l_is_right_2)
def G_l_is_right : G End := (gSeq (gAsg (gVarP 0) (ggTupL (ggCons (ggName 1) (ggCons (ggName 2) (ggCons (ggName 3) (ggCons (ggName 4) (ggCons (ggName 5) ggNil))))) 5))
  G_l_is_right_3)
def F_l_is_right : Fn := gFun [] 1 5 false G_l_is_right
def G_law_k31_1 : G End := (gSetIx 4 (gCall0 2 F_l_draw (gCons (gC (.int 5)) gNil)) (gCall0 2 F_l_odd gNil))
def G_law_k31_2 : G End := (gIfS (gAnd (gB (gOp hEq (gO (gOp hIx (gOv 6) (gO (gC (.int 0))))) (gO (gC (.str "made"))))) (gB (gOp (hEqD true) (gO (gOp hIx (gOv 6) (gO (gC (.int 1))))) (gO (gOp1 hTuple (gOv 4))))))
    (gRet (gC (.bl false)))
    gNext)
def G_law_k31_3 : G End := (gSeq (gIfS (gB (gOp hNe (gO (gOp hIx (gOv 6) (gO (gC (.int 0))))) (gO (gOp hIx (gO (gLst (gCons (gC (.str "refused")) (gCons (gC (.str "made")) gNil)))) (gO (gOp1 hInt (gO (gCall F_l_is_right (gCons (gVar 4) gNil)))))))))
    (gRet (gC (.bl false)))
    gNext)
  G_law_k31_2)
def G_law_k31_4 : G End := (gSeq (gSet 6 (gCall F_l_told (gCons (gVar 4) gNil)))
  G_law_k31_3)
def G_law_k31_5 : G End := (gSeq (gFor (giRange1 (gCons (gCall0 2 F_l_draw (gCons (gC (.int 3)) gNil)) gNil)) (ggName 5)
    G_law_k31_1)
  G_law_k31_4)
def G_law_k31_6 : G End := (gSeq (gIfS (gB (gOp hEq (gO (gCall0 2 F_l_draw (gCons (gC (.int 3)) gNil))) (gO (gC (.int 0)))))
    (gSetIx 4 (gC (.int 2)) (gC .non))
    gNext)
  G_law_k31_5)
def G_law_k31_7 : G End := (gSeq (gSetOwn 4 (gOpL hCat (gO (gLst (gCons (gCall0 2 F_l_word (gCons (gCall0 2 F_l_draw (gCons (gC (.int 26)) gNil)) gNil)) gNil))) (gOv 3)))
  G_law_k31_6)
def G_law_k31_8 : G End := (gSeq (gSet 3 (gComp (giRange1 (gCons (gC (.int 4)) gNil)) [none, some 2] (ggName 0) gTT (gOp hIx (gO (gLst (gCons (gC (.int 0)) (gCons (gC (.int 1)) (gCons (gCall0 1 F_l_draw (gCons (gOp hPow (gO (gC (.int 10))) (gO (gC (.int 9)))) gNil)) gNil))))) (gO (gCall0 1 F_l_draw (gCons (gC (.int 3)) gNil))))))
  G_law_k31_7)
def G_law_k31_9 : G End := (gSeq (gSetOwn 2 (gCall F_l_well (gCons (gOp hAdd (gO (gCall F_l_cell_at (gCons (gVarP 0) (gCons (gVarP 1) gNil)))) (gO (gOp hMul (gO (gC (.int 7))) (gOv 1)))) gNil)))
  G_law_k31_8)
def G_law_k31 : G End := (gSeq (gFor (giRange1 (gCons (gOp hMax2 (gO (gC (.int 1))) (gO (gOp hMin2 (gO (gC (.int 12))) (gO (gOp1 hLen (gOv 0)))))) gNil)) (ggName 1)
    G_law_k31_9)
  (gRet (gC (.bl true))))
def F_law_k31 : Fn := gFun [] 1 6 false G_law_k31
end M
namespace M
open PySem L2
local macro_rules | `(tactic| walk_at "gs") => `(tactic| simp only [gFun, eq_self, gSeq, gIfS, gSet, gSetOwn, gRet, gRetN, gDrop, gNext, gBreak, gCont, gC, gVarP, gVar, gOv, gO, gOp, gOp1, gOpL, gOpL1, gCons, gNil, gStrs, gLst, gTup, gB, gNot, gAnd, gOr, gAndV, gOrV, gNotV, gIf, gChain, gTru, truG, truD, gSetIx, gSetF, gAsg, ggName, ggNil, ggCons, ggTup, ggTupL, gFor, giRange1, giRange2, giList, giStr, itL, itS, gCall, gCallX, gCall0, gMake, gMakeX, gRaise, gTry, tryR, goneR, gIsExc, gMut1, gNoPart, gPart, gSlL, gSlS, gTT, bind_ok, bind_no, bind_ex, ofO_some, ofO_none, gd_true, seqR_nx, seqR_rt, seqR_bk, seqR_ct, seqR_ex, loopR_nx, loopR_rt, loopR_bk, loopR_ct, get_d, get_v, slotG_val, slotG_own, own1_own, ownLG_own, ownOG_own, asB_bl, asI_int, callR_ok, callX_ok, callX_ex, call0R_ok, makeR_ok, makeX_ok, makeX_ex, funR_nx, funR_rt, funR_ex, finR_nil, finR_0, Option.bind_some, Option.map_some, Option.bind_none, Option.map_none, hAdd, hSub, hMul, hFdiv, hMod, hPow, hLt, hLe, hGt, hGe, hMax2, hMin2, hI0, hI, hNeg, hEq, hNe, eqS, hIsN, hNotN, isNon_n, isNon_b, isNon_i, isNon_s, isNon_l, isNon_t, isNon_o, hIsB, hIsNB, hAddS, hLen, hCat, hList, hTuple, hInt, hFld, lookG, putD, hInS, ix0, ix1, ix2, ix3, ix4, ix5, ix6, ix7, it0, it1, it2, it3, it4, it5, it6, it7, hInst, kindD, isKind, cs_EnoughError, tbs, tb_All, hSlL, hSlS, List.cons_append, List.nil_append, List.append_nil, List.replicate, List.map_cons, List.map_nil, List.getElem?_cons_zero, List.getElem?_cons_succ, List.set_cons_zero, List.set_cons_succ, List.length_cons, List.length_nil, Nat.reduceAdd, Nat.reduceSub, Nat.reduceLeDiff, Nat.reduceEqDiff, Nat.reduceLT, Nat.zero_add, if_true, if_false, reduceIte, Bool.false_eq_true, Bool.not_true, Bool.not_false, true_and, and_true, and_self, reduceCtorEq, Int.reduceToNat, List.getD_cons_zero, List.getD_cons_succ, Int.reduceLE, Int.reduceLT, Int.reduceNeg, Int.reduceEq, decide_true, decide_false, Bool.true_and, Bool.false_and, Bool.and_true, Bool.and_false, Bool.or_true, Bool.true_or, Bool.or_false, Bool.false_or, List.contains_cons, List.contains_nil, Nat.reduceBEq, String.reduceBEq, ofString_inj, String.reduceEq, List.isEmpty_cons, List.isEmpty_nil, beq_self_eq_true, Int.cast_ofNat_Int])
local macro_rules | `(tactic| walk_at "gsa") => `(tactic| simp only [gFun, eq_self, gSeq, gIfS, gSet, gSetOwn, gRet, gRetN, gDrop, gNext, gBreak, gCont, gC, gVarP, gVar, gOv, gO, gOp, gOp1, gOpL, gOpL1, gCons, gNil, gStrs, gLst, gTup, gB, gNot, gAnd, gOr, gAndV, gOrV, gNotV, gIf, gChain, gTru, truG, truD, gSetIx, gSetF, gAsg, ggName, ggNil, ggCons, ggTup, ggTupL, gFor, giRange1, giRange2, giList, giStr, itL, itS, gCall, gCallX, gCall0, gMake, gMakeX, gRaise, gTry, tryR, goneR, gIsExc, gMut1, gNoPart, gPart, gSlL, gSlS, gTT, bind_ok, bind_no, bind_ex, ofO_some, ofO_none, gd_true, seqR_nx, seqR_rt, seqR_bk, seqR_ct, seqR_ex, loopR_nx, loopR_rt, loopR_bk, loopR_ct, get_d, get_v, slotG_val, slotG_own, own1_own, ownLG_own, ownOG_own, asB_bl, asI_int, callR_ok, callX_ok, callX_ex, call0R_ok, makeR_ok, makeX_ok, makeX_ex, funR_nx, funR_rt, funR_ex, finR_nil, finR_0, Option.bind_some, Option.map_some, Option.bind_none, Option.map_none, hAdd, hSub, hMul, hFdiv, hMod, hPow, hLt, hLe, hGt, hGe, hMax2, hMin2, hI0, hI, hNeg, hEq, hNe, eqS, hIsN, hNotN, isNon_n, isNon_b, isNon_i, isNon_s, isNon_l, isNon_t, isNon_o, hIsB, hIsNB, hAddS, hLen, hCat, hList, hTuple, hInt, hFld, lookG, putD, hInS, ix0, ix1, ix2, ix3, ix4, ix5, ix6, ix7, it0, it1, it2, it3, it4, it5, it6, it7, hInst, kindD, isKind, cs_EnoughError, tbs, tb_All, hSlL, hSlS, List.cons_append, List.nil_append, List.append_nil, List.replicate, List.map_cons, List.map_nil, List.getElem?_cons_zero, List.getElem?_cons_succ, List.set_cons_zero, List.set_cons_succ, List.length_cons, List.length_nil, Nat.reduceAdd, Nat.reduceSub, Nat.reduceLeDiff, Nat.reduceEqDiff, Nat.reduceLT, Nat.zero_add, if_true, if_false, reduceIte, Bool.false_eq_true, Bool.not_true, Bool.not_false, true_and, and_true, and_self, reduceCtorEq, Int.reduceToNat, List.getD_cons_zero, List.getD_cons_succ, Int.reduceLE, Int.reduceLT, Int.reduceNeg, Int.reduceEq, decide_true, decide_false, Bool.true_and, Bool.false_and, Bool.and_true, Bool.and_false, Bool.or_true, Bool.true_or, Bool.or_false, Bool.false_or, List.contains_cons, List.contains_nil, Nat.reduceBEq, String.reduceBEq, ofString_inj, String.reduceEq, List.isEmpty_cons, List.isEmpty_nil, beq_self_eq_true, Int.cast_ofNat_Int, *])
theorem forG_inv {g : D → Env → Option Env} {b : G End} (I : List D → Env → Prop) (hs : ∀ d r ρ, I (d :: r) ρ → ∃ ρ1, g d ρ = some ρ1 ∧ ∃ ρ2, (b ρ1 = .ok .nx ρ2 ∨ b ρ1 = .ok .ct ρ2) ∧ I r ρ2) :
    ∀ (ds : List D) (ρ : Env), I ds ρ → ∃ ρ', forG g b ds ρ = .ok .nx ρ' ∧ I [] ρ'
  | [], ρ, h => ⟨ρ, rfl, h⟩
  | d :: r, ρ, h => by
    obtain ⟨ρ1, e1, ρ2, e2, h2⟩ := hs d r ρ h
    obtain ⟨ρ', e3, h3⟩ := forG_inv I hs r ρ2 h2
    refine ⟨ρ', ?_, h3⟩
    unfold forG
    rw [e1, ofO_some, bind_ok]
    rcases e2 with e2 | e2 <;> rw [e2] <;> exact e3
inductive All2 {α β : Type} (P : α → β → Prop) : List α → List β → Prop where
  | nil : All2 P [] []
  | cons {a b l m} (h : P a b) (r : All2 P l m) : All2 P (a :: l) (b :: m)
theorem All2.len {α β : Type} {P : α → β → Prop} {l : List α} {m : List β} (h : All2 P l m) : m.length = l.length := by
  induction h with
  | nil => rfl
  | cons _ _ ih => simp [ih]
theorem All2.all {α β : Type} {P : α → β → Prop} {Q : β → Prop} {l : List α} {m : List β} (h : All2 P l m) (k : ∀ a b, P a b → Q b) : ∀ b ∈ m, Q b := by
  induction h with
  | nil => intro b h; cases h
  | cons p _ ih =>
    intro b hb
    rcases List.mem_cons.mp hb with e | e
    · subst e; exact k _ _ p
    · exact ih b e
theorem compG_map {g : D → Env → Option Env} {e : G D} (I : Env → Prop) (P : D → D → Prop) (hs : ∀ d ρ, I ρ → ∃ ρ1 y ρ2, g d ρ = some ρ1 ∧ e ρ1 = .ok y ρ2 ∧ P d y ∧ I ρ2) :
    ∀ (ds : List D) (ρ : Env), I ρ → ∃ ys ρ', compG g gTT e ds ρ = .ok ys ρ' ∧ I ρ' ∧ All2 P ds ys
  | [], ρ, h => ⟨[], ρ, rfl, h, .nil⟩
  | d :: r, ρ, h => by
    obtain ⟨ρ1, y, ρ2, e1, e2, hp, h2⟩ := hs d ρ h
    obtain ⟨ys, ρ', e3, h3, h4⟩ := compG_map I P hs r ρ2 h2
    refine ⟨y :: ys, ρ', ?_, h3, .cons hp h4⟩
    unfold compG
    rw [e1, ofO_some, bind_ok]
    show (O.bind (.ok true ρ1) _) = _
    rw [bind_ok, if_pos rfl, e2, bind_ok, e3, bind_ok]
theorem compG_fn {g : D → Env → Option Env} {e : G D} (I : Env → Prop) (f : D → D) (P : D → Prop) (hs : ∀ d ρ, P d → I ρ → ∃ ρ1 ρ2, g d ρ = some ρ1 ∧ e ρ1 = .ok (f d) ρ2 ∧ I ρ2) :
    ∀ (ds : List D) (ρ : Env), (∀ d ∈ ds, P d) → I ρ → ∃ ρ', compG g gTT e ds ρ = .ok (ds.map f) ρ' ∧ I ρ'
  | [], ρ, _, h => ⟨ρ, rfl, h⟩
  | d :: r, ρ, hd, h => by
    obtain ⟨ρ1, ρ2, e1, e2, h2⟩ := hs d ρ (hd d List.mem_cons_self) h
    obtain ⟨ρ', e3, h3⟩ := compG_fn I f P hs r ρ2 (fun x hx => hd x (List.mem_cons_of_mem _ hx)) h2
    refine ⟨ρ', ?_, h3⟩
    unfold compG
    rw [e1, ofO_some, bind_ok]
    show (O.bind (.ok true ρ1) _) = _
    rw [bind_ok, if_pos rfl, e2, bind_ok, e3, bind_ok]; rfl
theorem rangeD_len {lo : Int} {n : Nat} : (rangeD lo n).length = n := by simp [rangeD]
theorem rangeD_mem {lo : Int} {n : Nat} {d : D} (h : d ∈ rangeD lo n) : ∃ i : Nat, i < n ∧ d = .int (lo + i) := by
  unfold rangeD at h
  obtain ⟨i, hi, e⟩ := List.mem_map.mp h
  exact ⟨i, List.mem_range.mp hi, e.symm⟩
theorem str_len (a : Str) : a.length = a.cps.toList.length := by simp [Str.length]
theorem str_app (a b : Str) : (a ++ b).cps.toList = a.cps.toList ++ b.cps.toList := by
  show (a.cps ++ b.cps).toList = _
  simp
def wholeD : D → Bool | .int _ => true | _ => false
theorem is_whole_eq {d : D} {k : String} (h : kindD d = some k) : F_is_whole [.val d] = .ok (.bl (wholeD d)) [] := by
  unfold F_is_whole G_is_whole
  cases d <;> first | (cases h; done) | (walk_at "gs"; rfl)
def fromD : D → Bool | .int i => decide (0 ≤ i) | _ => false
theorem is_from_nought_eq {d : D} {k : String} (h : kindD d = some k) : F_is_from_nought [.val d] = .ok (.bl (fromD d)) [] := by
  unfold F_is_from_nought G_is_from_nought
  cases d <;> first | (cases h; done) | (walk_at "gs"; simp only [is_whole_eq h, wholeD]; walk_at "gs"; rfl)
def signB (c : Nat) : Bool := decide (97 ≤ c) && decide (c ≤ 122)
def nameB (x : Str) : Bool := decide (1 ≤ x.length) && decide (x.length ≤ 8) && x.cps.toList.all signB
def nameD : D → Bool | .str x => nameB x | _ => false
theorem le_one (a b : Nat) : (!decide (([b] : List Nat) < [a])) = decide (a ≤ b) := by
  by_cases h : a ≤ b
  · rw [decide_eq_true h, decide_eq_false]; rfl
    intro z
    rw [List.cons_lt_cons_iff] at z
    rcases z with z | ⟨_, z⟩
    · omega
    · exact absurd z (List.not_lt_nil _)
  · rw [decide_eq_false h, decide_eq_true]; rfl
    rw [List.cons_lt_cons_iff]
    exact .inl (by omega)
theorem sign_a : (Str.ofString "a").cps.toList = [97] := by decide +kernel
theorem sign_z : (Str.ofString "z").cps.toList = [122] := by decide +kernel
theorem blsD_map {f : Nat → Bool} : ∀ (l : List Nat), blsD (l.map fun c => D.bl (f c)) = some (l.map f)
  | [] => rfl
  | c :: r => by rw [List.map_cons, blsD, blsD_map r]; rfl
theorem all_id {f : Nat → Bool} (l : List Nat) : (l.map f).all id = l.all f := by
  induction l with
  | nil => rfl
  | cons a r ih => rw [List.map_cons, List.all_cons, List.all_cons, ih]; rfl
theorem signs_comp {s : Slot} (x : Str) : ∃ ρ', compG (ggName 0) gTT (gChain hLeS hLeS (gC (.str "a")) (gVarP 0) (gC (.str "z"))) (x.cps.toList.map fun c => D.str ⟨#[c]⟩) [s] = .ok (x.cps.toList.map fun c => D.bl (signB c)) ρ' ∧ ρ'.length = 1 := by
  have h := compG_fn (g := ggName 0) (e := gChain hLeS hLeS (gC (.str "a")) (gVarP 0) (gC (.str "z"))) (fun ρ => ρ.length = 1) (fun d => match d with | .str y => .bl (signB (y.cps.toList.getD 0 0)) | d => d) (fun d => ∃ c, d = .str ⟨#[c]⟩) (fun d ρ ⟨c, hc⟩ hl => by
    subst hc
    match ρ, hl with
    | [t], _ =>
      refine ⟨_, [.val (.str ⟨#[c]⟩)], rfl, ?_, rfl⟩
      walk_at "gs"
      have e1 : hLeS (.str "a") (.str ⟨#[c]⟩) = some (.bl (decide (97 ≤ c))) := by
        unfold hLeS
        dsimp only
        simp only [sign_a, le_one]
      have e2 : hLeS (.str ⟨#[c]⟩) (.str "z") = some (.bl (decide (c ≤ 122))) := by
        unfold hLeS
        dsimp only
        simp only [sign_z, le_one]
      rw [e1, ofO_some, bind_ok, asB_bl, bind_ok]
      show _ = O.ok (D.bl (signB c)) _
      unfold signB
      by_cases h : 97 ≤ c
      · rw [decide_eq_true h, if_pos rfl, e2, Bool.true_and]; rfl
      · rw [decide_eq_false h, if_neg Bool.false_ne_true, Bool.false_and]) (x.cps.toList.map fun c => D.str ⟨#[c]⟩) [s] (fun d hd => by
    obtain ⟨c, _, e⟩ := List.mem_map.mp hd
    exact ⟨c, e.symm⟩) rfl
  obtain ⟨ρ', e, hl⟩ := h
  refine ⟨ρ', ?_, hl⟩
  rw [e, List.map_map]
  rfl
theorem is_name_eq {d : D} {k : String} (h : kindD d = some k) (hx : ∀ x, d = .str x → x.length ≤ 100000) : F_is_name [.val d] = .ok (.bl (nameD d)) [] := by
  unfold F_is_name G_is_name
  cases d with
  | str x =>
    have hx := hx x rfl
    walk_at "gsa"
    unfold nameD nameB
    dsimp only
    by_cases p0 : 1 ≤ x.length
    · by_cases p1 : x.length ≤ 8
      · rw [decide_eq_true (show (1 : Int) ≤ x.length by omega), decide_eq_true (show (x.length : Int) ≤ 8 by omega), decide_eq_true p0, decide_eq_true p1]
        unfold G_is_name_1
        obtain ⟨ρ', e, _⟩ := signs_comp (s := .no) x
        have hl : (x.cps.toList.map fun c => D.str ⟨#[c]⟩).length ≤ 100000 := by rw [List.length_map, ← str_len]; exact hx
        walk_at "gs"
        simp only [gComp, giStr, gVarP, List.getElem?_cons_zero, bind_ok, itS, ofO_some, gd_pos hl, mblk, List.map_cons, List.map_nil, e, outB]
        simp only [get_d, Option.bind_some, hAll, blsD_map, Option.map_some, ofO_some, bind_ok, funR_rt, finR_nil, all_id, Bool.true_and]
      · rw [decide_eq_true (show (1 : Int) ≤ x.length by omega), decide_eq_false (show ¬ (x.length : Int) ≤ 8 by omega), decide_eq_false p1]
        walk_at "gs"
    · rw [decide_eq_false (show ¬ (1 : Int) ≤ x.length by omega), decide_eq_false p0]
      walk_at "gs"
  | _ => first | (cases h; done) | (walk_at "gs"; rfl)
theorem cell_at_eq {ns : List Int} {k : Int} (h : 0 ≤ k) : ∃ i, F_l_cell_at [.val (.fz ns), .val (.int k)] = .ok (.int i) [] := by
  unfold F_l_cell_at G_l_cell_at
  by_cases h1 : k < ns.length
  · refine ⟨ns.getD k.toNat 0, ?_⟩
    walk_at "gs"
    rw [decide_eq_true h1]
    walk_at "gs"
    rw [hIx_z h h1]
    walk_at "gs"
  · refine ⟨0, ?_⟩
    walk_at "gs"
    rw [decide_eq_false h1]
    walk_at "gs"
def Well (o : D) : Prop := ∃ a b c, o = .lst [.int a, .int b, .int c] ∧ 0 ≤ a ∧ 0 ≤ b ∧ b < 2147483629 ∧ 0 ≤ c
theorem well_eq {c : Int} : ∃ o, F_l_well [.val (.int c)] = .ok o [] ∧ Well o := by
  unfold F_l_well G_l_well
  have hp : CPow 10 18 := ⟨by decide, by decide, by decide⟩
  by_cases h : (10 ^ (18 : Nat) : Int) ≤ c
  · refine ⟨.lst [.int c, .int (c % 2147483629), .int 0], ?_, c, _, _, rfl, by omega, Int.emod_nonneg _ (by decide), Int.emod_lt_of_pos _ (by decide), by decide⟩
    walk_at "gs"
    simp only [if_pos hp]
    walk_at "gs"
    simp only [decide_eq_true h]
    walk_at "gs"
  · refine ⟨.lst [.int 0, .int (c % 2147483629), .int 0], ?_, 0, _, _, rfl, by omega, Int.emod_nonneg _ (by decide), Int.emod_lt_of_pos _ (by decide), by decide⟩
    walk_at "gs"
    simp only [if_pos hp]
    walk_at "gs"
    simp only [decide_eq_false h]
    walk_at "gs"
theorem cmulL {i j : Int} (h : -18446744073709551616 < i ∧ i < 18446744073709551616) : CMul i j := .inl ⟨by omega, by omega⟩
theorem cmulR {i j : Int} (h : -18446744073709551616 < j ∧ j < 18446744073709551616) : CMul i j := .inr ⟨by omega, by omega⟩
theorem cdiv {i j : Int} (h : 0 < j ∧ j < 1073741824) : CDiv i j := h
def drawN (b c : Int) : Int := (b + 7919 * (c + 1) + 1) * 48271 % 2147483647 * ((b + 7919 * (c + 1) + 1) * 48271 % 2147483647 / 1009 + 69621) % 2147483647 * ((b + 7919 * (c + 1) + 1) * 48271 % 2147483647 * ((b + 7919 * (c + 1) + 1) * 48271 % 2147483647 / 1009 + 69621) % 2147483647 / 2003 + 40692) % 2147483399
theorem draw_ok {o : D} {n : Int} (hw : Well o) (h0 : 0 < n) (h1 : n < 1073741824) : ∃ r o', F_l_draw [.own o, .val (.int n)] = .ok (.int r) [o'] ∧ 0 ≤ r ∧ r < n ∧ Well o' := by
  obtain ⟨a, b, c, rfl, ha, hb, hb', hc⟩ := hw
  unfold F_l_draw G_l_draw
  by_cases h : 0 < a
  · refine ⟨a % n, .lst [.int (a / n), .int b, .int c], ?_, Int.emod_nonneg _ (by omega), Int.emod_lt_of_pos _ h0, _, _, _, rfl, Int.ediv_nonneg ha (by omega), hb, hb', hc⟩
    walk_at "gs"
    simp only [decide_eq_true h, h0]
    unfold G_l_draw_1
    walk_at "gs"
    simp only [if_pos (cdiv (i := a) ⟨h0, h1⟩)]
    walk_at "gs"
  · refine ⟨drawN b c % n, .lst [.int a, .int b, .int (c + 1)], ?_, Int.emod_nonneg _ (by omega), Int.emod_lt_of_pos _ h0, _, _, _, rfl, ha, hb, hb', by omega⟩
    unfold drawN
    walk_at "gs"
    simp only [decide_eq_false h]
    unfold G_l_draw_5 G_l_draw_4
    walk_at "gs"
    simp only [if_pos (cmulL (i := 7919) (j := c + 1) (by decide)), if_pos (cmulR (i := b + 7919 * (c + 1) + 1) (j := 48271) (by decide))]
    walk_at "gs"
    simp only [if_pos (cmulR (i := b + 7919 * (c + 1) + 1) (j := 48271) (by decide))]
    walk_at "gs"
    generalize hn : (b + 7919 * (c + 1) + 1) * 48271 % 2147483647 = n1
    have n1a : 0 ≤ n1 := by rw [← hn]; exact Int.emod_nonneg _ (by decide)
    have n1b : n1 < 2147483647 := by rw [← hn]; exact Int.emod_lt_of_pos _ (by decide)
    unfold G_l_draw_3
    walk_at "gs"
    simp only [if_pos (cdiv (i := n1) (j := 1009) (by decide))]
    walk_at "gs"
    simp only [if_pos (cmulL (i := n1) (j := n1 / 1009 + 69621) ⟨by omega, by omega⟩)]
    walk_at "gs"
    generalize hn2 : n1 * (n1 / 1009 + 69621) % 2147483647 = n2
    have n2a : 0 ≤ n2 := by rw [← hn2]; exact Int.emod_nonneg _ (by decide)
    have n2b : n2 < 2147483647 := by rw [← hn2]; exact Int.emod_lt_of_pos _ (by decide)
    unfold G_l_draw_2
    walk_at "gs"
    simp only [if_pos (cdiv (i := n2) (j := 2003) (by decide))]
    walk_at "gs"
    simp only [if_pos (cmulL (i := n2) (j := n2 / 2003 + 40692) ⟨by omega, by omega⟩)]
    walk_at "gs"
    simp only [if_pos h0]
    walk_at "gs"
def letters : Str := "abcdefghijklmnopqrstuvwxyz"
theorem letters_l : letters.cps.toList = List.range' 97 26 := by decide +kernel
theorem letters_len : letters.cps.toList.length = 26 := by rw [letters_l]; simp
theorem letter_sign {j : Nat} (h : j < 26) : signB (letters.cps.toList.getD j 0) = true := by
  rw [letters_l, List.getD_eq_getElem?_getD, List.getElem?_range' (by omega)]
  simp [signB]; omega
theorem in_letters (c : Nat) : Txt.contains letters ⟨#[c]⟩ = signB c := by
  unfold Txt.contains
  rw [PyProof.Rows.empty_one, letters_l, Bool.not_not]
  unfold signB
  rw [← Bool.decide_and, decide_eq_decide, List.mem_range'_1]
  omega
theorem letter_at {r : Int} (h0 : 0 ≤ r) (h1 : r < 26) : ∃ c, hIx (.str letters) (.int r) = some (.str ⟨#[c]⟩) ∧ signB c = true :=
  ⟨_, hIx_s (by rw [str_len, letters_len]; omega) h0 (by rw [letters_len]; exact h1), letter_sign (by omega)⟩
theorem put_sign {w : Str} {c : Nat} (hl : w.length ≤ 1000) : hAddS (.str w) (.str ⟨#[c]⟩) = some (.str (w ++ ⟨#[c]⟩)) := if_pos (by show w.length + 1 ≤ 100000; omega)
theorem word_in {w : Str} {c : Nat} (hw : w.cps.toList.all signB = true) (hc : signB c = true) : (w ++ ⟨#[c]⟩ : Str).cps.toList.all signB = true ∧ (w ++ ⟨#[c]⟩ : Str).length = w.length + 1 := by
  rw [str_len, str_app, str_len]
  simp [hw, hc]
theorem word_ok {o : D} {last : Int} (hw : Well o) : ∃ x o', F_l_word [.own o, .val (.int last)] = .ok (.str x) [o'] ∧ nameB x = true ∧ Well o' := by
  unfold F_l_word G_l_word G_l_word_3
  obtain ⟨r, o1, e, r0, r1, hw1⟩ := draw_ok hw (n := 8) (by decide) (by decide)
  have hr : -1000000 ≤ r ∧ r ≤ 1000000 := by omega
  walk_at "gs"
  simp only [e]
  walk_at "gs"
  simp only [itR1, if_pos hr]
  walk_at "gs"
  obtain ⟨ρ', e2, o2, w, s4, hw2, ha, hl, rfl⟩ := forG_inv (g := ggName 4) (b := G_l_word_1) (fun ds ρ => ∃ o w s4, Well o ∧ w.cps.toList.all signB = true ∧ w.length + ds.length ≤ 7 ∧ ρ = [.own o, .val (.int last), .val (.str letters), .val (.str w), s4])
    (fun d rr ρ ⟨o, w, s4, hw, ha, hl, e⟩ => by
      subst e
      refine ⟨_, rfl, ?_⟩
      obtain ⟨r, o1, e, r0, r1, hw1⟩ := draw_ok hw (n := 26) (by decide) (by decide)
      obtain ⟨c, e2, hc⟩ := letter_at r0 r1
      have hl' : w.length ≤ 1000 := by simp at hl; omega
      obtain ⟨a, b⟩ := word_in ha hc
      refine ⟨[.own o1, .val (.int last), .val (.str letters), .val (.str (w ++ ⟨#[c]⟩)), .val d], .inl ?_, o1, _, _, hw1, a, by simp at hl; omega, rfl⟩
      unfold G_l_word_1
      simp only [List.set_cons_succ, List.set_cons_zero]
      walk_at "gs"
      simp only [e]
      walk_at "gs"
      simp only [e2]
      walk_at "gs"
      simp only [put_sign hl', if_pos (show w.length + (⟨#[c]⟩ : Str).length ≤ 100000 by show w.length + 1 ≤ 100000; omega)]
      walk_at "gs") (rangeD 0 r.toNat) [.own o1, .val (.int last), .val (.str letters), .val (.str ""), .no] ⟨o1, "", .no, hw1, rfl, by rw [rangeD_len, show (Str.ofString "").length = 0 from rfl]; omega, rfl⟩
  simp only [show (Str.ofString "abcdefghijklmnopqrstuvwxyz") = letters from rfl, e2]
  have hl' : w.length ≤ 7 := by simpa using hl
  obtain ⟨c, e3, hc⟩ := letter_at (r := last % 26) (Int.emod_nonneg _ (by decide)) (Int.emod_lt_of_pos _ (by decide))
  obtain ⟨a, b⟩ := word_in ha hc
  refine ⟨w ++ ⟨#[c]⟩, o2, ?_, ?_, hw2⟩
  · unfold G_l_word_2
    walk_at "gs"
    simp only [e3]
    walk_at "gs"
    simp only [if_pos (show w.length + (⟨#[c]⟩ : Str).length ≤ 100000 by show w.length + 1 ≤ 100000; omega)]
    walk_at "gs"
  · unfold nameB
    rw [a, Bool.and_true, Bool.and_eq_true, decide_eq_true_eq, decide_eq_true_eq]
    omega
end M
namespace M
open PySem L2
local macro_rules | `(tactic| walk_at "gs") => `(tactic| simp only [gFun, eq_self, gSeq, gIfS, gSet, gSetOwn, gRet, gRetN, gDrop, gNext, gBreak, gCont, gC, gVarP, gVar, gOv, gO, gOp, gOp1, gOpL, gOpL1, gCons, gNil, gStrs, gLst, gTup, gB, gNot, gAnd, gOr, gAndV, gOrV, gNotV, gIf, gChain, gTru, truG, truD, gSetIx, gSetF, gAsg, ggName, ggNil, ggCons, ggTup, ggTupL, gFor, giRange1, giRange2, giList, giStr, itL, itS, gCall, gCallX, gCall0, gMake, gMakeX, gRaise, gTry, tryR, goneR, gIsExc, gMut1, gNoPart, gPart, gSlL, gSlS, gTT, bind_ok, bind_no, bind_ex, ofO_some, ofO_none, gd_true, seqR_nx, seqR_rt, seqR_bk, seqR_ct, seqR_ex, loopR_nx, loopR_rt, loopR_bk, loopR_ct, get_d, get_v, slotG_val, slotG_own, own1_own, ownLG_own, ownOG_own, asB_bl, asI_int, callR_ok, callX_ok, callX_ex, call0R_ok, makeR_ok, makeX_ok, makeX_ex, funR_nx, funR_rt, funR_ex, finR_nil, finR_0, Option.bind_some, Option.map_some, Option.bind_none, Option.map_none, hAdd, hSub, hMul, hFdiv, hMod, hPow, hLt, hLe, hGt, hGe, hMax2, hMin2, hI0, hI, hNeg, hEq, hNe, eqS, hIsN, hNotN, isNon_n, isNon_b, isNon_i, isNon_s, isNon_l, isNon_t, isNon_o, hIsB, hIsNB, hAddS, hLen, hCat, hList, hTuple, hInt, hFld, lookG, putD, hInS, ix0, ix1, ix2, ix3, ix4, ix5, ix6, ix7, it0, it1, it2, it3, it4, it5, it6, it7, hInst, kindD, isKind, cs_EnoughError, tbs, tb_All, hSlL, hSlS, List.cons_append, List.nil_append, List.append_nil, List.replicate, List.map_cons, List.map_nil, List.getElem?_cons_zero, List.getElem?_cons_succ, List.set_cons_zero, List.set_cons_succ, List.length_cons, List.length_nil, Nat.reduceAdd, Nat.reduceSub, Nat.reduceLeDiff, Nat.reduceEqDiff, Nat.reduceLT, Nat.zero_add, if_true, if_false, reduceIte, Bool.false_eq_true, Bool.not_true, Bool.not_false, true_and, and_true, and_self, reduceCtorEq, Int.reduceToNat, List.getD_cons_zero, List.getD_cons_succ, Int.reduceLE, Int.reduceLT, Int.reduceNeg, Int.reduceEq, decide_true, decide_false, Bool.true_and, Bool.false_and, Bool.and_true, Bool.and_false, Bool.or_true, Bool.true_or, Bool.or_false, Bool.false_or, List.contains_cons, List.contains_nil, Nat.reduceBEq, String.reduceBEq, ofString_inj, String.reduceEq, List.isEmpty_cons, List.isEmpty_nil, beq_self_eq_true, Int.cast_ofNat_Int])
local macro_rules | `(tactic| walk_at "gsa") => `(tactic| simp only [gFun, eq_self, gSeq, gIfS, gSet, gSetOwn, gRet, gRetN, gDrop, gNext, gBreak, gCont, gC, gVarP, gVar, gOv, gO, gOp, gOp1, gOpL, gOpL1, gCons, gNil, gStrs, gLst, gTup, gB, gNot, gAnd, gOr, gAndV, gOrV, gNotV, gIf, gChain, gTru, truG, truD, gSetIx, gSetF, gAsg, ggName, ggNil, ggCons, ggTup, ggTupL, gFor, giRange1, giRange2, giList, giStr, itL, itS, gCall, gCallX, gCall0, gMake, gMakeX, gRaise, gTry, tryR, goneR, gIsExc, gMut1, gNoPart, gPart, gSlL, gSlS, gTT, bind_ok, bind_no, bind_ex, ofO_some, ofO_none, gd_true, seqR_nx, seqR_rt, seqR_bk, seqR_ct, seqR_ex, loopR_nx, loopR_rt, loopR_bk, loopR_ct, get_d, get_v, slotG_val, slotG_own, own1_own, ownLG_own, ownOG_own, asB_bl, asI_int, callR_ok, callX_ok, callX_ex, call0R_ok, makeR_ok, makeX_ok, makeX_ex, funR_nx, funR_rt, funR_ex, finR_nil, finR_0, Option.bind_some, Option.map_some, Option.bind_none, Option.map_none, hAdd, hSub, hMul, hFdiv, hMod, hPow, hLt, hLe, hGt, hGe, hMax2, hMin2, hI0, hI, hNeg, hEq, hNe, eqS, hIsN, hNotN, isNon_n, isNon_b, isNon_i, isNon_s, isNon_l, isNon_t, isNon_o, hIsB, hIsNB, hAddS, hLen, hCat, hList, hTuple, hInt, hFld, lookG, putD, hInS, ix0, ix1, ix2, ix3, ix4, ix5, ix6, ix7, it0, it1, it2, it3, it4, it5, it6, it7, hInst, kindD, isKind, cs_EnoughError, tbs, tb_All, hSlL, hSlS, List.cons_append, List.nil_append, List.append_nil, List.replicate, List.map_cons, List.map_nil, List.getElem?_cons_zero, List.getElem?_cons_succ, List.set_cons_zero, List.set_cons_succ, List.length_cons, List.length_nil, Nat.reduceAdd, Nat.reduceSub, Nat.reduceLeDiff, Nat.reduceEqDiff, Nat.reduceLT, Nat.zero_add, if_true, if_false, reduceIte, Bool.false_eq_true, Bool.not_true, Bool.not_false, true_and, and_true, and_self, reduceCtorEq, Int.reduceToNat, List.getD_cons_zero, List.getD_cons_succ, Int.reduceLE, Int.reduceLT, Int.reduceNeg, Int.reduceEq, decide_true, decide_false, Bool.true_and, Bool.false_and, Bool.and_true, Bool.and_false, Bool.or_true, Bool.true_or, Bool.or_false, Bool.false_or, List.contains_cons, List.contains_nil, Nat.reduceBEq, String.reduceBEq, ofString_inj, String.reduceEq, List.isEmpty_cons, List.isEmpty_nil, beq_self_eq_true, Int.cast_ofNat_Int, *])
theorem demandX_eq {b : Bool} {w : Str} : F_demandX [.val (.bl b), .val (.str w)] = if b = true then .ok .non [] else .ex 5 := by
  cases b <;> (unfold F_demandX G_demandX; walk_at "gs")
structure Th (d : D) : Prop where
  k : ∃ k, kindD d = some k
  s : ∀ x, d = .str x → x.length ≤ 100000
theorem Th.name {d : D} (h : Th d) : F_is_name [.val d] = .ok (.bl (nameD d)) [] := let ⟨_, e⟩ := h.k; is_name_eq e h.s
theorem Th.from {d : D} (h : Th d) : F_is_from_nought [.val d] = .ok (.bl (fromD d)) [] := let ⟨_, e⟩ := h.k; is_from_nought_eq e
def answerF (name ask value stamp sl : D) : List (Nat × D) := [(9, name), (10, ask), (11, value), (12, stamp), (13, sl)]
def answerB (n a v s l : D) : Bool := nameD n && (fromD a && ((isNon v || fromD v) && (fromD s && fromD l)))
theorem AnswerX_eq {n a v s l : D} (hn : Th n) (ha : Th a) (hv : Th v) (hs : Th s) (hl : Th l) :
    F_AnswerX [.own (.obj 18 []), .val n, .val a, .val v, .val s, .val l] = if answerB n a v s l = true then .ok .non [.obj 18 (answerF n a v s l)] else .ex 5 := by
  unfold F_AnswerX G_AnswerX answerB
  walk_at "gs"
  simp only [hn.name]
  walk_at "gs"
  simp only [demandX_eq]
  cases h1 : nameD n with
  | false => walk_at "gs"
  | true =>
  walk_at "gs"
  unfold G_AnswerX_6
  walk_at "gs"
  simp only [ha.from]
  walk_at "gs"
  simp only [demandX_eq]
  cases h2 : fromD a with
  | false => walk_at "gs"
  | true =>
  walk_at "gs"
  unfold G_AnswerX_5
  walk_at "gs"
  have h3 : (if isNon v = true then O.ok (D.bl true) [.own (.obj 18 []), .val n, .val a, .val v, .val s, .val l] else callR (F_is_from_nought [.val v]) [.own (.obj 18 []), .val n, .val a, .val v, .val s, .val l]) = O.ok (D.bl (isNon v || fromD v)) [.own (.obj 18 []), .val n, .val a, .val v, .val s, .val l] := by
    cases e : isNon v with
    | true => rfl
    | false => rw [if_neg Bool.false_ne_true, hv.from]; rfl
  simp only [h3]
  walk_at "gs"
  simp only [demandX_eq]
  cases h3 : isNon v || fromD v with
  | false => walk_at "gs"
  | true =>
  walk_at "gs"
  unfold G_AnswerX_4
  walk_at "gs"
  simp only [hs.from]
  walk_at "gs"
  simp only [demandX_eq]
  cases h4 : fromD s with
  | false => walk_at "gs"
  | true =>
  walk_at "gs"
  unfold G_AnswerX_3
  walk_at "gs"
  simp only [hl.from]
  walk_at "gs"
  simp only [demandX_eq]
  cases h5 : fromD l with
  | false => walk_at "gs"
  | true =>
  walk_at "gs"
  unfold G_AnswerX_2 G_AnswerX_1
  walk_at "gs"
  rfl
namespace K31
theorem is_number_eq {d : D} (h : Th d) : F_l_is_number [.val d] = .ok (.bl (fromD d)) [] := by
  obtain ⟨k, h⟩ := h.k
  unfold F_l_is_number G_l_is_number
  cases d <;> first | (cases h; done) | (walk_at "gs"; rfl)
def odds : List D := [.non, .bl true, .bl false, .int (-1), .int (0 - 10 ^ (8 : Nat)), .str "", .str "abcdefghi", .str "Ann", .str "a b", .str "an1", .str "7", .lst [], .lst [.int 1], .tup [.int 1], .str "an\n"]
theorem odds_th : ∀ d ∈ odds, Th d := by
  intro d hd
  simp only [odds, List.mem_cons, List.not_mem_nil, or_false] at hd
  rcases hd with rfl | rfl | rfl | rfl | rfl | rfl | rfl | rfl | rfl | rfl | rfl | rfl | rfl | rfl | rfl <;> exact ⟨⟨_, rfl⟩, fun x e => by first | cases e; decide | cases e⟩
theorem getD_mem {ds : List D} {j : Nat} (h : j < ds.length) : ds.getD j .non ∈ ds := by
  rw [List.getD_eq_getElem?_getD, List.getElem?_eq_getElem h]; exact List.getElem_mem h
theorem odd_ok {o : D} (hw : Well o) : ∃ d o', F_l_odd [.own o] = .ok d [o'] ∧ Th d ∧ Well o' := by
  obtain ⟨r, o1, e, r0, r1, hw1⟩ := draw_ok hw (n := 15) (by decide) (by decide)
  refine ⟨odds.getD r.toNat .non, o1, ?_, odds_th _ (getD_mem (by show r.toNat < 15; omega)), hw1⟩
  unfold F_l_odd G_l_odd
  walk_at "gs"
  simp only [if_pos (show CPow 10 8 from ⟨by decide, by decide, by decide⟩)]
  walk_at "gs"
  unfold G_l_odd_1
  walk_at "gs"
  simp only [show ((15 : Nat) : Int) = 15 from rfl, e]
  walk_at "gs"
  rw [show ([.non, .bl true, .bl false, .int (-1), .int (0 - 10 ^ (8 : Nat)), .str "", .str "abcdefghi", .str "Ann", .str "a b", .str "an1", .str "7", .lst [], .lst [.int 1], .tup [.int 1], .str "an\n"] : List D) = odds from rfl, hIx_l (ds := odds) r0 (show r < (15 : Nat) by omega)]
  walk_at "gs"
theorem bad_comp {s : Slot} : ∀ (cs : List Nat) (s : Slot), ∃ ρ', compG (ggName 0) (gB (gOp (hInS true) (gOv 0) (gO (gC (.str letters))))) (gVarP 0) (cs.map fun c => D.str ⟨#[c]⟩) [s] = .ok ((cs.filter fun c => !signB c).map fun c => D.str ⟨#[c]⟩) ρ'
  | [], s => ⟨[s], rfl⟩
  | c :: cs, s => by
    obtain ⟨ρ', e⟩ := bad_comp (s := s) cs (.val (.str ⟨#[c]⟩))
    refine ⟨ρ', ?_⟩
    rw [List.map_cons, compG]
    walk_at "gs"
    rw [in_letters]
    cases h : signB c with
    | true => rw [List.filter_cons, h]; exact e
    | false =>
      rw [List.filter_cons, h]
      walk_at "gs"
      rw [e]
      rfl
theorem eq_nil {ys : List D} : hEqD true (.lst ys) (.lst []) = some (.bl (!ys.isEmpty)) := by
  cases ys with
  | nil => rfl
  | cons y r => rfl
theorem is_right_eq {n a v s l : D} (hn : Th n) (ha : Th a) (hv : Th v) (hs : Th s) (hl : Th l) : F_l_is_right [.val (.lst [n, a, v, s, l])] = .ok (.bl (answerB n a v s l)) [] := by
  have one : G_l_is_right_1 [.val (.lst [n, a, v, s, l]), .val n, .val a, .val v, .val s, .val l] = .ok (.rt (.bl ((isNon v || fromD v) && (fromD a && (fromD s && fromD l))))) [.val (.lst [n, a, v, s, l]), .val n, .val a, .val v, .val s, .val l] := by
    unfold G_l_is_right_1
    walk_at "gs"
    simp only [is_number_eq hv]
    have h3 : (if isNon v = true then O.ok (D.bl true) [.val (.lst [n, a, v, s, l]), .val n, .val a, .val v, .val s, .val l] else callR (RF.ok (.bl (fromD v)) []) [.val (.lst [n, a, v, s, l]), .val n, .val a, .val v, .val s, .val l]) = O.ok (D.bl (isNon v || fromD v)) [.val (.lst [n, a, v, s, l]), .val n, .val a, .val v, .val s, .val l] := by
      cases e : isNon v <;> rfl
    simp only [h3]
    walk_at "gs"
    cases h4 : isNon v || fromD v with
    | false => walk_at "gs"
    | true =>
      walk_at "gs"
      simp only [gComp, giList, gLst, gCons, gNil, gVarP, List.getElem?_cons_zero, List.getElem?_cons_succ, bind_ok, List.length_cons, List.length_nil, Nat.reduceAdd, gd_pos (show 3 ≤ 1000 by decide), gd_pos (show 3 ≤ 100000 by decide), itL, ofO_some, mblk, List.map_cons, List.map_nil, compG, ggName, List.set_cons_zero, gTT, if_true, gCall, is_number_eq ha, is_number_eq hs, is_number_eq hl, callR_ok, outB, mergeB, merge1]
      simp only [get_d, Option.bind_some, hAll, blsD, Option.map_some, ofO_some, bind_ok, List.all_cons, List.all_nil, id, Bool.and_true]
  unfold F_l_is_right G_l_is_right G_l_is_right_3
  walk_at "gs"
  cases n with
  | str x =>
    have hx := hn.s x rfl
    walk_at "gs"
    simp only [if_pos hx]
    walk_at "gs"
    unfold answerB nameD nameB
    dsimp only
    by_cases p0 : 1 ≤ x.length
    · by_cases p1 : x.length ≤ 8
      · rw [decide_eq_true (show (0 : Int) < x.length by omega), decide_eq_true (show (x.length : Int) < 9 by omega), decide_eq_true p0, decide_eq_true p1]
        walk_at "gs"
        unfold G_l_is_right_2
        obtain ⟨ρ', e⟩ := bad_comp (s := .no) x.cps.toList .no
        have hl' : (x.cps.toList.map fun c => D.str ⟨#[c]⟩).length ≤ 100000 := by rw [List.length_map, ← str_len]; exact hx
        walk_at "gs"
        simp only [gComp, giStr, gVarP, List.getElem?_cons_zero, List.getElem?_cons_succ, bind_ok, itS, ofO_some, gd_pos hl', mblk, List.map_cons, List.map_nil, show (Str.ofString "abcdefghijklmnopqrstuvwxyz") = letters from rfl, e, outB, mergeB_n1]
        walk_at "gs"
        simp only [eq_nil]
        walk_at "gs"
        cases hall : x.cps.toList.all signB with
        | true =>
          have : (x.cps.toList.filter fun c => !signB c) = [] := by
            rw [List.filter_eq_nil_iff]
            intro c hc
            rw [List.all_eq_true.mp hall c hc]; simp
          rw [this]
          walk_at "gs"
          rw [one]
          walk_at "gs"
          rw [← Bool.and_assoc, Bool.and_comm (isNon v || fromD v) (fromD a), Bool.and_assoc]
        | false =>
          have : ((x.cps.toList.filter fun c => !signB c).map fun c => D.str ⟨#[c]⟩).isEmpty = false := by
            obtain ⟨c, hc, hs⟩ := List.all_eq_false.mp hall
            have hm : c ∈ x.cps.toList.filter fun c => !signB c := List.mem_filter.mpr ⟨hc, by simpa using hs⟩
            cases e : x.cps.toList.filter fun c => !signB c with
            | nil => rw [e] at hm; cases hm
            | cons y r => rfl
          rw [this]
          walk_at "gs"
      · rw [decide_eq_true (show (0 : Int) < x.length by omega), decide_eq_false (show ¬ (x.length : Int) < 9 by omega), decide_eq_false p1]
        walk_at "gs"
    · rw [decide_eq_false (show ¬ (0 : Int) < x.length by omega), decide_eq_false p0]
      walk_at "gs"
  | _ => first | (obtain ⟨k, hk⟩ := hn.k; cases hk; done) | (walk_at "gs"; rfl)
def toldD (n a v s l : D) : D := if answerB n a v s l = true then .tup [.str "made", .tup [n, a, v, s, l]] else .tup [.str "refused", .non]
theorem told_eq {n a v s l : D} (hn : Th n) (ha : Th a) (hv : Th v) (hs : Th s) (hl : Th l) : F_l_told [.val (.lst [n, a, v, s, l])] = .ok (toldD n a v s l) [] := by
  unfold F_l_told G_l_told G_l_told_5 G_l_told_3 G_l_told_4 toldD
  walk_at "gs"
  simp only [AnswerX_eq hn ha hv hs hl]
  cases h : answerB n a v s l with
  | true =>
    walk_at "gs"
    unfold G_l_told_1 answerF
    walk_at "gs"
  | false =>
    walk_at "gs"
    unfold G_l_told_2
    walk_at "gs"
theorem plain_of {n a v s l : D} (h : answerB n a v s l = true) : plainD n = true ∧ plainD a = true ∧ plainD v = true ∧ plainD s = true ∧ plainD l = true := by
  unfold answerB at h
  simp only [Bool.and_eq_true, Bool.or_eq_true] at h
  obtain ⟨h1, h2, h3, h4, h5⟩ := h
  have pf : ∀ d, fromD d = true → plainD d = true := fun d h => by cases d <;> first | rfl | cases h
  refine ⟨(by cases n <;> first | rfl | (cases h1)), pf a h2, ?_, pf s h4, pf l h5⟩
  rcases h3 with h3 | h3
  · cases v <;> first | rfl | cases h3
  · exact pf v h3
theorem eqV_self {d : D} (h : plainD d = true) : eqV (vD d) (vD d) = true := by
  cases d <;> first | (cases h; done) | simp [eqV, vD]
theorem eqDp_self {n : Nat} {d : D} (h : plainD d = true) : eqDp n d d = some true := by
  cases n <;> (unfold eqDp; rw [h]; exact congrArg some (eqV_self h))
theorem same_five {n a v s l : D} (h : answerB n a v s l = true) : hEqD true (.tup [n, a, v, s, l]) (.tup [n, a, v, s, l]) = some (.bl false) := by
  obtain ⟨h1, h2, h3, h4, h5⟩ := plain_of h
  unfold hEqD
  rw [if_pos (by rfl)]
  unfold eqDp
  simp only [plainD, Bool.false_and, Bool.false_eq_true, if_false, List.zipWith, eqDp_self h1, eqDp_self h2, eqDp_self h3, eqDp_self h4, eqDp_self h5, allO]
  rfl
def Five (d : D) : Prop := ∃ n a v s l, d = .lst [n, a, v, s, l] ∧ Th n ∧ Th a ∧ Th v ∧ Th s ∧ Th l
theorem Five.set {ds : List D} {j : Int} {d : D} (h : Five (.lst ds)) (h0 : 0 ≤ j) (h1 : j < 5) (hd : Th d) : Five (.lst (ds.set j.toNat d)) := by
  obtain ⟨n, a, v, s, l, e, hn, ha, hv, hs, hl⟩ := h
  cases e
  have : j = 0 ∨ j = 1 ∨ j = 2 ∨ j = 3 ∨ j = 4 := by omega
  rcases this with rfl | rfl | rfl | rfl | rfl
  · exact ⟨_, _, _, _, _, rfl, hd, ha, hv, hs, hl⟩
  · exact ⟨_, _, _, _, _, rfl, hn, hd, hv, hs, hl⟩
  · exact ⟨_, _, _, _, _, rfl, hn, ha, hd, hs, hl⟩
  · exact ⟨_, _, _, _, _, rfl, hn, ha, hv, hd, hl⟩
  · exact ⟨_, _, _, _, _, rfl, hn, ha, hv, hs, hd⟩
theorem th_int {i : Int} : Th (.int i) := ⟨⟨_, rfl⟩, fun x e => by cases e⟩
theorem th_non : Th .non := ⟨⟨_, rfl⟩, fun x e => by cases e⟩
theorem th_name {x : Str} (h : nameB x = true) : Th (.str x) := ⟨⟨_, rfl⟩, fun y e => by
  cases e
  unfold nameB at h
  simp only [Bool.and_eq_true, decide_eq_true_eq] at h
  omega⟩
theorem tail_ok {z k w m t f : Slot} {ds : List D} (h : Five (.lst ds)) : ∃ ρ', G_law_k31_4 [z, k, w, m, .own (.lst ds), t, f] = .ok .nx ρ' ∧ ∃ k w m x t f, ρ' = [z, k, w, m, x, t, f] := by
  obtain ⟨n, a, v, s, l, e, hn, ha, hv, hs, hl⟩ := h
  cases e
  refine ⟨[z, k, w, m, .val (.lst [n, a, v, s, l]), t, .val (toldD n a v s l)], ?_, _, _, _, _, _, _, rfl⟩
  unfold G_law_k31_4
  walk_at "gs"
  simp only [told_eq hn ha hv hs hl]
  walk_at "gs"
  unfold G_law_k31_3
  unfold toldD
  cases hb : answerB n a v s l with
  | true =>
    walk_at "gs"
    simp only [is_right_eq hn ha hv hs hl, hb]
    walk_at "gs"
    unfold G_law_k31_2
    walk_at "gs"
    simp only [same_five hb]
    walk_at "gs"
  | false =>
    walk_at "gs"
    simp only [is_right_eq hn ha hv hs hl, hb]
    walk_at "gs"
    unfold G_law_k31_2
    walk_at "gs"
theorem nums_ok {o : D} {k z : Slot} (hw : Well o) : ∃ a b c d o', gComp (giRange1 (gCons (gC (.int 4)) gNil)) [none, some 2] (ggName 0) gTT (gOp hIx (gO (gLst (gCons (gC (.int 0)) (gCons (gC (.int 1)) (gCons (gCall0 1 F_l_draw (gCons (gOp hPow (gO (gC (.int 10))) (gO (gC (.int 9)))) gNil)) gNil))))) (gO (gCall0 1 F_l_draw (gCons (gC (.int 3)) gNil)))) [z, k, .own o, s3, s4, s5, s6] = .ok (.lst [.int a, .int b, .int c, .int d]) [z, k, .own o', s3, s4, s5, s6] ∧ Well o' := by
  obtain ⟨ys, ρ', e, ⟨t, o', he, hw'⟩, h2⟩ := compG_map (g := ggName 0) (e := gOp hIx (gO (gLst (gCons (gC (.int 0)) (gCons (gC (.int 1)) (gCons (gCall0 1 F_l_draw (gCons (gOp hPow (gO (gC (.int 10))) (gO (gC (.int 9)))) gNil)) gNil))))) (gO (gCall0 1 F_l_draw (gCons (gC (.int 3)) gNil)))) (fun ρ => ∃ t o, ρ = [t, .own o] ∧ Well o) (fun _ y => ∃ n, y = .int n) (fun d ρ ⟨t, o, he, hw⟩ => by
    subst he
    obtain ⟨r, o1, e1, r0, r1, hw1⟩ := draw_ok hw (n := 10 ^ (9 : Nat)) (by decide) (by decide)
    obtain ⟨j, o2, e2, j0, j1, hw2⟩ := draw_ok hw1 (n := 3) (by decide) (by decide)
    have hy : ∃ n, ([D.int 0, .int 1, .int r] : List D).getD j.toNat .non = .int n := by
      have : j = 0 ∨ j = 1 ∨ j = 2 := by omega
      rcases this with rfl | rfl | rfl
      · exact ⟨0, rfl⟩
      · exact ⟨1, rfl⟩
      · exact ⟨r, rfl⟩
    obtain ⟨n, hn⟩ := hy
    refine ⟨_, .int n, [.val d, .own o2], rfl, ?_, ⟨n, rfl⟩, _, _, rfl, hw2⟩
    simp only [List.set_cons_zero]
    walk_at "gs"
    simp only [if_pos (show CPow 10 9 from ⟨by decide, by decide, by decide⟩)]
    walk_at "gs"
    simp only [e1]
    walk_at "gs"
    simp only [e2]
    walk_at "gs"
    rw [hIx_l (ds := [.int 0, .int 1, .int r]) j0 (show j < (3 : Nat) by omega), hn]
    rfl) (rangeD 0 4) (mblk [none, some 2] [z, k, .own o, s3, s4, s5, s6]) ⟨.no, o, rfl, hw⟩
  have hl := h2.len
  match ys, hl, h2 with
  | [y1, y2, y3, y4], _, .cons ⟨a, ha⟩ (.cons ⟨b, hb⟩ (.cons ⟨c, hc⟩ (.cons ⟨d, hd⟩ _))) =>
    refine ⟨a, b, c, d, o', ?_, hw'⟩
    simp only [gComp, giRange1, gCons, gC, gNil, bind_ok, itR1, Int.reduceNeg, Int.reduceLE, and_self, if_true, Int.reduceToNat, ofO_some, rangeD_len, gd_pos (show 4 ≤ 100000 by decide), e, outB, he, ha, hb, hc, hd, mergeB, merge1, setOwn, List.getElem?_cons_zero, List.getElem?_cons_succ, List.set_cons_zero, List.set_cons_succ]
theorem turn_ok {ns : List Int} {k : Nat} {s2 s3 s4 s5 s6 : Slot} : ∃ ρ', G_law_k31_9 [.val (.fz ns), .val (.int (0 + k)), s2, s3, s4, s5, s6] = .ok .nx ρ' ∧ ∃ k w m x t f, ρ' = [.val (.fz ns), k, w, m, x, t, f] := by
  obtain ⟨i, e1⟩ := cell_at_eq (ns := ns) (k := 0 + k) (by omega)
  obtain ⟨o, e2, hw⟩ := well_eq (c := i + 7 * (0 + k))
  obtain ⟨a, b, c, d, o1, e3, hw1⟩ := nums_ok (k := .val (.int (0 + k))) (z := .val (.fz ns)) (s3 := s3) (s4 := s4) (s5 := s5) (s6 := s6) hw
  obtain ⟨r1, o2, e4, _, _, hw2⟩ := draw_ok hw1 (n := 26) (by decide) (by decide)
  obtain ⟨x, o3, e5, hx, hw3⟩ := word_ok (last := r1) hw2
  obtain ⟨r2, o4, e6, _, _, hw4⟩ := draw_ok hw3 (n := 3) (by decide) (by decide)
  obtain ⟨r3, o5, e7, r30, r31, hw5⟩ := draw_ok hw4 (n := 3) (by decide) (by decide)
  unfold G_law_k31_9
  walk_at "gs"
  simp only [e1]
  walk_at "gs"
  simp only [if_pos (cmulL (i := 7) (j := 0 + k) (by decide))]
  walk_at "gs"
  simp only [e2]
  walk_at "gs"
  unfold G_law_k31_8
  simp only [gSeq, gSet, e3, bind_ok, seqR_nx, List.set_cons_zero, List.set_cons_succ]
  unfold G_law_k31_7
  walk_at "gs"
  simp only [e4]
  walk_at "gs"
  simp only [e5]
  walk_at "gs"
  unfold G_law_k31_6
  walk_at "gs"
  simp only [e6]
  walk_at "gs"
  have fin : ∀ (ds : List D), Five (.lst ds) → ∃ ρ', G_law_k31_5 [.val (.fz ns), .val (.int (0 + k)), .own o4, .val (.lst [.int a, .int b, .int c, .int d]), .own (.lst ds), s5, s6] = .ok .nx ρ' ∧ ∃ k w m x t f, ρ' = [.val (.fz ns), k, w, m, x, t, f] := by
    intro ds h5
    unfold G_law_k31_5
    walk_at "gs"
    simp only [e7]
    walk_at "gs"
    simp only [itR1, if_pos (show -1000000 ≤ r3 ∧ r3 ≤ 1000000 by omega)]
    walk_at "gs"
    obtain ⟨ρ', e8, o6, es, t, hw6, h6, rfl⟩ := forG_inv (g := ggName 5) (b := G_law_k31_1) (fun _ ρ => ∃ o ds t, Well o ∧ Five (.lst ds) ∧ ρ = [.val (.fz ns), .val (.int (0 + k)), .own o, .val (.lst [.int a, .int b, .int c, .int d]), .own (.lst ds), t, s6])
      (fun d rr ρ ⟨o, ds, t, hw, h5, he⟩ => by
        subst he
        obtain ⟨x, o1, e1, hx, hw1⟩ := odd_ok hw
        obtain ⟨j, o2, e2, j0, j1, hw2⟩ := draw_ok hw1 (n := 5) (by decide) (by decide)
        have hlen : ds.length = 5 := by obtain ⟨_, _, _, _, _, e, _⟩ := h5; cases e; rfl
        refine ⟨_, rfl, _, .inl ?_, o2, ds.set j.toNat x, .val d, hw2, h5.set j0 j1 hx, rfl⟩
        unfold G_law_k31_1
        simp only [List.set_cons_zero, List.set_cons_succ]
        walk_at "gs"
        simp only [e1]
        walk_at "gs"
        simp only [e2]
        walk_at "gs"
        rw [gd_pos ⟨j0, by omega⟩]) (rangeD 0 r3.toNat) [.val (.fz ns), .val (.int (0 + k)), .own o5, .val (.lst [.int a, .int b, .int c, .int d]), .own (.lst ds), s5, s6] ⟨o5, ds, s5, hw5, h5, rfl⟩
    simp only [e8]
    walk_at "gs"
    exact tail_ok h6
  have h5 : Five (.lst [.str x, .int a, .int b, .int c, .int d]) := ⟨_, _, _, _, _, rfl, th_name hx, th_int, th_int, th_int, th_int⟩
  by_cases hz : r2 = 0
  · simp only [decide_eq_true hz]
    walk_at "gs"
    exact fin _ (h5.set (j := 2) (by decide) (by decide) th_non)
  · simp only [decide_eq_false hz]
    walk_at "gs"
    exact fin _ h5
theorem lawF : ∀ ns : List Int, ns.length ≤ 63 → F_law_k31 [.val (.fz ns)] = .ok (.bl true) [] := by
  intro ns hl
  unfold F_law_k31 G_law_k31
  walk_at "gs"
  generalize hn : (if (if (ns.length : Int) < 12 then (ns.length : Int) else 12) > 1 then (if (ns.length : Int) < 12 then (ns.length : Int) else 12) else 1) = n
  have hn0 : -1000000 ≤ n ∧ n ≤ 1000000 := by
    rw [← hn]; split <;> split <;> omega
  simp only [itR1, if_pos hn0]
  walk_at "gs"
  obtain ⟨ρ', e, s1, s2, s3, s4, s5, s6, rfl, _⟩ := forG_inv (g := ggName 1) (b := G_law_k31_9) (fun ds ρ => ∃ s1 s2 s3 s4 s5 s6, ρ = [.val (.fz ns), s1, s2, s3, s4, s5, s6] ∧ ∀ d ∈ ds, ∃ k : Nat, d = .int (0 + k))
    (fun d rr ρ ⟨s1, s2, s3, s4, s5, s6, he, hd⟩ => by
      subst he
      obtain ⟨k, rfl⟩ := hd d List.mem_cons_self
      obtain ⟨ρ', e, k', w, m, x, t, f, he⟩ := turn_ok (ns := ns) (k := k) (s2 := s2) (s3 := s3) (s4 := s4) (s5 := s5) (s6 := s6)
      exact ⟨_, rfl, ρ', .inl e, k', w, m, x, t, f, he, fun d h => hd d (List.mem_cons_of_mem _ h)⟩) (rangeD 0 n.toNat) [.val (.fz ns), .no, .no, .no, .no, .no, .no] ⟨_, _, _, _, _, _, rfl, fun d h => let ⟨i, _, e⟩ := rangeD_mem h; ⟨i, e⟩⟩
  simp only [e]
  walk_at "gs"
end K31
end M
namespace W_k31
open PySem L2 M
def top (i : Nat) : Stmt := PySem.Challenge.pw_enoughsaid_k31_answers_made.main.body.getD i (.Pass ⟨0, 0, 0, 0⟩)
structure Mods (K : PySem.W.Frag) (mg : Str → Option Value) (cls : Nat → Option Addr) (ad : Nat → Addr) : Prop where
  int_ : mg "int" = none
  len_ : mg "len" = none
  range_ : mg "range" = none
  isinstance_ : mg "isinstance" = none
  str_ : mg "str" = none
  all_ : mg "all" = none
  bool_ : mg "bool" = none
  max_ : mg "max" = none
  min_ : mg "min" = none
  tuple_ : mg "tuple" = none
  b_ValueError : mg "ValueError" = none
  LONGEST_NAME : ∃ t, mg "LONGEST_NAME" = some (.int 8 t)
  no_name : NoAt ⟨K, cls⟩ (fnm 9)
  no_ask : NoAt ⟨K, cls⟩ (fnm 10)
  no_value : NoAt ⟨K, cls⟩ (fnm 11)
  no_stamp : NoAt ⟨K, cls⟩ (fnm 12)
  no_seal : NoAt ⟨K, cls⟩ (fnm 13)
  m_EnoughError : mg "EnoughError" = some (.ref (ad 0))
  m_NoAsk : mg "NoAsk" = some (.ref (ad 7))
  m_NoBook : mg "NoBook" = some (.ref (ad 9))
  m_NoCost : mg "NoCost" = some (.ref (ad 4))
  m_NoRow : mg "NoRow" = some (.ref (ad 2))
  m_NoRule : mg "NoRule" = some (.ref (ad 6))
  m_NoText : mg "NoText" = some (.ref (ad 10))
  m_NoTime : mg "NoTime" = some (.ref (ad 8))
  m_NoWish : mg "NoWish" = some (.ref (ad 1))
  m_TooGreat : mg "TooGreat" = some (.ref (ad 3))
  m_NoAnswer : mg "NoAnswer" = some (.ref (ad 5))
  r_NoAnswer : HR K mg cls "NoAnswer" 5
  c_EnoughError : ∀ k D, cls k = some D → cs_EnoughError k = true → PySem.W.exmOne K (.ref D) (.ref (ad 0)) = some true
  t_NoAsk__NoBook__NoCost__NoRow__NoRule__NoText__NoTime__NoWish__TooGreat : ∀ k C b, cls k = some C → (tbs [7, 9, 4, 2, 6, 10, 8, 1, 3]) k = some b → ExcCls K C ∧ PySem.W.kitAny K (.ref C) ([ad 7, ad 9, ad 4, ad 2, ad 6, ad 10, ad 8, ad 1, ad 3].map Value.ref) = some b
  t_NoAnswer : ∀ k C b, cls k = some C → (tbs [5]) k = some b → ExcCls K C ∧ PySem.W.kitOne K (.ref C) (.ref (ad 5)) = some b
  t_ValueError : ∀ k C b, cls k = some C → tb_All k = some b → ExcCls K C ∧ PySem.W.kitOne K (.ref C) (.type "ValueError") = some b
section
variable {P : Program} {w : World} {K : PySem.W.Frag} {mg : Str → Option Value} {base : Heap} {cls : Nat → Option Addr} {ad : Nat → Addr} {f : Addr} {fd : FuncData}
theorem sc_l_well : FnScope ["_law_cell"] ["_law_cell"] (defScope (top 22)) := ⟨rfl, rfl, rfl, by decide +kernel, rfl, by decide +kernel, by decide +kernel⟩
theorem d_l_well (F : Fun K "_law_well" "_law_well" (top 22) f fd) (M : Mods K mg cls ad) : FnOk P w K mg base CX0 1 f fd ["_law_cell"] (spM ⟨K, cls⟩ [] true 1 (spF F_l_well)) := by
  have sc := sc_l_well
  exact fn_G F sc rfl fun cdv A outer s H E hr => ⟨_, (dss_one (ds_retF (df_lst (da_cons (de_ixA (do_e (de_f (df_lst (da_cons de_int (da_cons (dvP 0) da_nil))))) (do_e (de_intc rfl M.int_ (do_e (de_cmp op_ge ok_ge (do_v 0) (do_e (de_pow (do_e de_int) (do_e de_int))) (nomark _))))) (fun _ _ => rfl)) (da_cons (de_mod (do_v 0) (do_e de_int)) (da_cons de_int da_nil)))))), by unfold G_l_well; infer_instance⟩
theorem sc_l_cell_at : FnScope ["_law_script", "_law_k"] ["_law_script", "_law_k"] (defScope (top 21)) := ⟨rfl, rfl, rfl, by decide +kernel, rfl, by decide +kernel, by decide +kernel⟩
theorem d_l_cell_at (F : Fun K "_law_cell_at" "_law_cell_at" (top 21) f fd) (M : Mods K mg cls ad) : FnOk P w K mg base CX0 1 f fd ["_law_script", "_law_k"] (spM ⟨K, cls⟩ [] false 2 (spF F_l_cell_at)) := by
  have sc := sc_l_cell_at
  exact fn_G F sc rfl fun cdv A outer s H E hr => ⟨_, (dss_cons (ds_if (dt_cmp op_lt ok_lt (do_v 1) (do_e (de_len rfl M.len_ (do_v 0))) (nomark _))
    (dss_one (ds_ret (de_ixA (do_v 0) (do_v 1) (fun _ _ => rfl))))
    dss_nil)
  (dss_one (ds_ret de_int))), by unfold G_l_cell_at; infer_instance⟩
theorem sc_l_draw : FnScope ["_law_well_here", "_law_base", "_law_digit", "_law_number"] ["_law_well_here", "_law_base"] (defScope (top 23)) := ⟨rfl, rfl, rfl, by decide +kernel, rfl, by decide +kernel, by decide +kernel⟩
theorem d_l_draw (F : Fun K "_law_draw" "_law_draw" (top 23) f fd) (M : Mods K mg cls ad) : FnOk P w K mg base CX0 1 f fd ["_law_well_here", "_law_base"] (spM ⟨K, cls⟩ [0] false 2 (spF F_l_draw)) := by
  have sc := sc_l_draw
  exact fn_G F sc rfl fun cdv A outer s H E hr => ⟨_, (dss_cons (ds_if (dt_cmp op_gt ok_gt (do_e (de_ixA (do_v 0) (do_e de_int) (fun _ _ => rfl))) (do_e de_int) (nomark _))
    (dss_cons (ds_set (i := 2) (by decide) sc.nd rfl (Or.inl rfl) (de_mod (do_e (de_ixA (do_v 0) (do_e de_int) (fun _ _ => rfl))) (do_v 1)))
  (dss_cons (ds_setIx 0 (de_fdiv (do_e (de_ixA (do_v 0) (do_e de_int) (fun _ _ => rfl))) (do_v 1)) de_int)
  (dss_one (ds_ret (dvP 2)))))
    dss_nil)
  (dss_cons (ds_setIx 0 (de_add (do_e (de_ixA (do_v 0) (do_e de_int) (fun _ _ => rfl))) (do_e de_int)) de_int)
  (dss_cons (ds_set (i := 3) (by decide) sc.nd rfl (Or.inl rfl) (de_mod (do_e (de_mul (do_e (de_add (do_e (de_add (do_e (de_ixA (do_v 0) (do_e de_int) (fun _ _ => rfl))) (do_e (de_mul (do_e de_int) (do_e (de_ixA (do_v 0) (do_e de_int) (fun _ _ => rfl))))))) (do_e de_int))) (do_e de_int))) (do_e de_int)))
  (dss_cons (ds_set (i := 3) (by decide) sc.nd rfl (Or.inl rfl) (de_mod (do_e (de_mul (do_v 3) (do_e (de_add (do_e (de_fdiv (do_v 3) (do_e de_int))) (do_e de_int))))) (do_e de_int)))
  (dss_one (ds_ret (de_mod (do_e (de_mod (do_e (de_mul (do_v 3) (do_e (de_add (do_e (de_fdiv (do_v 3) (do_e de_int))) (do_e de_int))))) (do_e de_int))) (do_v 1)))))))), by unfold G_l_draw G_l_draw_5 G_l_draw_4 G_l_draw_3 G_l_draw_2 G_l_draw_1; infer_instance⟩
theorem sc_l_word : FnScope ["_law_well_here", "_law_last", "_law_letters", "_law_word_here", "_law_k"] ["_law_well_here", "_law_last"] (defScope (top 24)) := ⟨rfl, rfl, rfl, by decide +kernel, rfl, by decide +kernel, by decide +kernel⟩
theorem d_l_word (F : Fun K "_law_word" "_law_word" (top 24) f fd) (M : Mods K mg cls ad) (h_l_draw : HM P w K mg base cls "_law_draw" 1 ["_law_well_here", "_law_base"] [0] false (spF F_l_draw)) : FnOk P w K mg base CX0 2 f fd ["_law_well_here", "_law_last"] (spM ⟨K, cls⟩ [0] false 2 (spF F_l_word)) := by
  have sc := sc_l_word
  exact fn_G F sc rfl fun cdv A outer s H E hr => ⟨_, (dss_cons (ds_set (i := 2) (by decide) sc.nd rfl (Or.inl rfl) de_str)
  (dss_cons (ds_set (i := 3) (by decide) sc.nd rfl (Or.inl rfl) de_str)
  (dss_cons (ds_for PassesOwn.never rfl (di_range1 rfl M.range_ (da_cons (de_call0 (j := 0) h_l_draw (hr.mono (by decide)) rfl (da_cons de_int da_nil)) da_nil)) (dg_name (i := 4) (by decide) sc.nd rfl (Or.inl rfl))
    (dss_one (ds_set (i := 3) (by decide) sc.nd rfl (Or.inl rfl) (de_addS (do_v 3) (do_e (de_ixA (do_v 2) (do_e (de_call0 (j := 0) h_l_draw (hr.mono (by decide)) rfl (da_cons de_int da_nil))) (fun _ _ => rfl)))))))
  (dss_one (ds_ret (de_addS (do_v 3) (do_e (de_ixA (do_v 2) (do_e (de_mod (do_v 1) (do_e de_int))) (fun _ _ => rfl))))))))), by unfold G_l_word G_l_word_3 G_l_word_2 G_l_word_1; infer_instance⟩
theorem sc_l_odd : FnScope ["_law_well_here", "_law_some"] ["_law_well_here"] (defScope (top 29)) := ⟨rfl, rfl, rfl, by decide +kernel, rfl, by decide +kernel, by decide +kernel⟩
theorem d_l_odd (F : Fun K "_law_odd" "_law_odd" (top 29) f fd) (M : Mods K mg cls ad) (h_l_draw : HM P w K mg base cls "_law_draw" 1 ["_law_well_here", "_law_base"] [0] false (spF F_l_draw)) : FnOk P w K mg base CX0 2 f fd ["_law_well_here"] (spM ⟨K, cls⟩ [0] false 1 (spF F_l_odd)) := by
  have sc := sc_l_odd
  exact fn_G F sc rfl fun cdv A outer s H E hr => ⟨_, (dss_cons (ds_set (i := 1) (by decide) sc.nd rfl (Or.inl rfl) (de_f (df_lst (da_cons de_non (da_cons de_bl (da_cons de_bl (da_cons (de_neg (do_e de_int)) (da_cons (de_sub (do_e de_int) (do_e (de_pow (do_e de_int) (do_e de_int)))) (da_cons de_str (da_cons de_str (da_cons de_str (da_cons de_str (da_cons de_str (da_cons de_str (da_cons (de_f (df_lst da_nil)) (da_cons (de_f (df_lst (da_cons de_int da_nil))) (da_cons (de_tup (da_cons de_int da_nil)) (da_cons de_str da_nil))))))))))))))))))
  (dss_one (ds_ret (de_ixA (do_v 1) (do_e (de_call0 (j := 0) h_l_draw (hr.mono (by decide)) rfl (da_cons (de_len rfl M.len_ (do_v 1)) da_nil))) (fun _ _ => rfl))))), by unfold G_l_odd G_l_odd_1; infer_instance⟩
theorem sc_demand : FnScope ["right", "words"] ["right", "words"] (defScope (top 18)) := ⟨rfl, rfl, rfl, by decide +kernel, rfl, by decide +kernel, by decide +kernel⟩
theorem d_demandX (F : Fun K "demand" "demand" (top 18) f fd) (M : Mods K mg cls ad) : FnOk P w K mg base (CX1 P w) 1 f fd ["right", "words"] (spX ⟨K, cls⟩ [] 2 (spF F_demandX)) := by
  have sc := sc_demand
  exact fn_GX F sc rfl fun cdv A outer s H E z hr => ⟨_, (dssx_one (dsx_if (dt_not (dt_tru (do_v 0)))
    (dssx_one (dsx_raise M.r_NoAnswer raise1 rfl rfl (da_cons (dvP 1) da_nil)))
    (dssx_of dss_nil))), by unfold G_demandX; infer_instance⟩
theorem sc_is_name : FnScope ["thing"] ["thing"] (defScope (top 16)) := ⟨rfl, rfl, rfl, by decide +kernel, rfl, by decide +kernel, by decide +kernel⟩
theorem d_is_name (F : Fun K "is_name" "is_name" (top 16) f fd) (M : Mods K mg cls ad) : FnOk P w K mg base CX0 1 f fd ["thing"] (spM ⟨K, cls⟩ [] false 1 (spF F_is_name)) := by
  have sc := sc_is_name
  exact fn_G F sc rfl fun cdv A outer s H E hr => ⟨_, (dss_cons (ds_if (dt_w (dw_or (dt_not (dt_val (de_inst rfl M.isinstance_ (do_v 0) (do_e (de_ty (n := "str") rfl M.str_ (by kernel_rfl)))))) (dw_or1 (dt_not (dt_chain op_le ok_le op_le ok_le de_int (de_len rfl M.len_ (do_v 0)) (de_glob rfl M.LONGEST_NAME))))))
    (dss_one (ds_ret de_bl))
    dss_nil)
  (dss_one (ds_ret (de_all rfl rfl M.all_ (do_e (de_f (df_comp rfl (CompOk.of_b (N' := ["sign"]) (js := [none]) rfl (by kernel_rfl)) (by decide) (di_str (dvP 0)) (fun _ _ _ _ _ => (dg_name (i := 0) (by decide) (show (["sign"] : List Str).Nodup by decide +kernel) rfl (Or.inl rfl) (Or.inr rfl))) (fun _ _ _ _ _ => dts_nil) (fun _ _ _ _ _ => (de_chain op_le_str ok_leS op_le_str ok_leS de_str (dvP 0) de_str))))))))), by unfold G_is_name G_is_name_1; infer_instance⟩
theorem sc_is_whole : FnScope ["thing"] ["thing"] (defScope (top 14)) := ⟨rfl, rfl, rfl, by decide +kernel, rfl, by decide +kernel, by decide +kernel⟩
theorem d_is_whole (F : Fun K "is_whole" "is_whole" (top 14) f fd) (M : Mods K mg cls ad) : FnOk P w K mg base CX0 1 f fd ["thing"] (spM ⟨K, cls⟩ [] false 1 (spF F_is_whole)) := by
  have sc := sc_is_whole
  exact fn_G F sc rfl fun cdv A outer s H E hr => ⟨_, (dss_one (ds_ret (de_and (de_inst rfl M.isinstance_ (do_v 0) (do_e (de_ty (n := "int") rfl M.int_ (by kernel_rfl)))) (de_one (de_not (de_inst rfl M.isinstance_ (do_v 0) (do_e (de_ty (n := "bool") rfl M.bool_ (by kernel_rfl))))))))), by unfold G_is_whole; infer_instance⟩
theorem sc_is_from_nought : FnScope ["thing"] ["thing"] (defScope (top 15)) := ⟨rfl, rfl, rfl, by decide +kernel, rfl, by decide +kernel, by decide +kernel⟩
theorem d_is_from_nought (F : Fun K "is_from_nought" "is_from_nought" (top 15) f fd) (M : Mods K mg cls ad) (h_is_whole : HM P w K mg base cls "is_whole" 1 ["thing"] [] false (spF F_is_whole)) : FnOk P w K mg base CX0 2 f fd ["thing"] (spM ⟨K, cls⟩ [] false 1 (spF F_is_from_nought)) := by
  have sc := sc_is_from_nought
  exact fn_G F sc rfl fun cdv A outer s H E hr => ⟨_, (dss_one (ds_ret (de_and (de_call h_is_whole (hr.mono (by decide)) rfl (da_cons (dvP 0) da_nil)) (de_one (de_cmp op_ge ok_ge (do_v 0) (do_e de_int) (nomark _)))))), by unfold G_is_from_nought; infer_instance⟩
theorem sc_Answer___init__ : FnScope ["self", "name", "ask", "value", "stamp", "seal"] ["self", "name", "ask", "value", "stamp", "seal"] (defScope (inClass (top 19) 0)) := ⟨rfl, rfl, rfl, by decide +kernel, rfl, by decide +kernel, by decide +kernel⟩
theorem d_AnswerX (F : Fun K "__init__" "Answer.__init__" (inClass (top 19) 0) f fd) (M : Mods K mg cls ad) (hX_demand : HX P w K mg base cls "demand" 1 ["right", "words"] (spF F_demandX)) (h_is_name : HM P w K mg base cls "is_name" 1 ["thing"] [] false (spF F_is_name)) (h_is_from_nought : HM P w K mg base cls "is_from_nought" 2 ["thing"] [] false (spF F_is_from_nought)) : FnOk P w K mg base (CX1 P w) 3 f fd ["self", "name", "ask", "value", "stamp", "seal"] (spX ⟨K, cls⟩ [0] 6 (spF F_AnswerX)) := by
  have sc := sc_Answer___init__
  exact fn_GX F sc rfl fun cdv A outer s H E z hr => ⟨_, (dssx_cons (dsx_expr (dex_call hX_demand (hr.mono (by decide)) passX rfl (da_cons (de_call h_is_name (hr.mono (by decide)) rfl (da_cons (dvP 1) da_nil)) (da_cons de_str da_nil))))
  (dssx_cons (dsx_expr (dex_call hX_demand (hr.mono (by decide)) passX rfl (da_cons (de_call h_is_from_nought (hr.mono (by decide)) rfl (da_cons (dvP 2) da_nil)) (da_cons de_str da_nil))))
  (dssx_cons (dsx_expr (dex_call hX_demand (hr.mono (by decide)) passX rfl (da_cons (de_or (de_cmp op_isN ok_isN (do_v 3) (do_e de_non) (nomark _)) (de_one (de_call h_is_from_nought (hr.mono (by decide)) rfl (da_cons (dvP 3) da_nil)))) (da_cons de_str da_nil))))
  (dssx_cons (dsx_expr (dex_call hX_demand (hr.mono (by decide)) passX rfl (da_cons (de_call h_is_from_nought (hr.mono (by decide)) rfl (da_cons (dvP 4) da_nil)) (da_cons de_str da_nil))))
  (dssx_cons (dsx_expr (dex_call hX_demand (hr.mono (by decide)) passX rfl (da_cons (de_call h_is_from_nought (hr.mono (by decide)) rfl (da_cons (dvP 5) da_nil)) (da_cons de_str da_nil))))
  (dssx_cons (dsx_of (ds_setF (f := 9) (i := 0) (by kernel_rfl) (by decide) M.no_name (dvP 1)))
  (dssx_cons (dsx_of (ds_setF (f := 10) (i := 0) (by kernel_rfl) (by decide) M.no_ask (dvP 2)))
  (dssx_cons (dsx_of (ds_setF (f := 11) (i := 0) (by kernel_rfl) (by decide) M.no_value (dvP 3)))
  (dssx_cons (dsx_of (ds_setF (f := 12) (i := 0) (by kernel_rfl) (by decide) M.no_stamp (dvP 4)))
  (dssx_one (dsx_of (ds_setF (f := 13) (i := 0) (by kernel_rfl) (by decide) M.no_seal (dvP 5))))))))))))), by unfold G_AnswerX G_AnswerX_6 G_AnswerX_5 G_AnswerX_4 G_AnswerX_3 G_AnswerX_2 G_AnswerX_1; infer_instance⟩
theorem sc_l_told : FnScope ["_law_things", "_law_found", "_law_made", "e", "_law_others"] ["_law_things"] (defScope (top 28)) := ⟨rfl, rfl, rfl, by decide +kernel, rfl, by decide +kernel, by decide +kernel⟩
theorem d_l_told (F : Fun K "_law_told" "_law_told" (top 28) f fd) (M : Mods K mg cls ad) (hX_Answer : HKX P w K mg base cls "Answer" 18 3 ["self", "name", "ask", "value", "stamp", "seal"] (spF F_AnswerX)) : FnOk P w K mg base CX0 5 f fd ["_law_things"] (spM ⟨K, cls⟩ [] false 1 (spF F_l_told)) := by
  have sc := sc_l_told
  exact fn_G F sc rfl fun cdv A outer s H E hr => ⟨_, (dss_cons (ds_set (i := 1) (by decide) sc.nd rfl (Or.inl rfl) (de_tup (da_cons de_str (da_cons de_non da_nil))))
  (dss_cons (ds_try (k := 0) (cs := cs_EnoughError) (i := 3) rfl rfl rfl rfl M.m_EnoughError M.c_EnoughError (by decide) sc.nd rfl rfl rfl (fun pn xe E z hP => (dssx_cons (dsx_set (i := 2) (by decide) sc.nd rfl (Or.inl rfl) (dex_make hX_Answer (hr.mono (by decide)) hP rfl (da_cons (de_ixA (do_v 0) (do_e de_int) (fun _ _ => rfl)) (da_cons (de_ixA (do_v 0) (do_e de_int) (fun _ _ => rfl)) (da_cons (de_ixA (do_v 0) (do_e de_int) (fun _ _ => rfl)) (da_cons (de_ixA (do_v 0) (do_e de_int) (fun _ _ => rfl)) (da_cons (de_ixA (do_v 0) (do_e de_int) (fun _ _ => rfl)) da_nil)))))))
  (dssx_one (dsx_of (ds_set (i := 1) (by decide) sc.nd rfl (Or.inl rfl) (de_tup (da_cons de_str (da_cons (de_tup (da_cons (de_fld (f := 9) (by kernel_rfl) (by decide) M.no_name (do_v 2)) (da_cons (de_fld (f := 10) (by kernel_rfl) (by decide) M.no_ask (do_v 2)) (da_cons (de_fld (f := 11) (by kernel_rfl) (by decide) M.no_value (do_v 2)) (da_cons (de_fld (f := 12) (by kernel_rfl) (by decide) M.no_stamp (do_v 2)) (da_cons (de_fld (f := 13) (by kernel_rfl) (by decide) M.no_seal (do_v 2)) da_nil)))))) da_nil)))))))) fun ea => (dss_cons (ds_set (i := 4) (by decide) sc.nd rfl (Or.inl rfl) (de_isexcs (i := 3) (tb := (tbs [7, 9, 4, 2, 6, 10, 8, 1, 3])) rfl M.isinstance_ (pa_refs rfl M.m_NoAsk (pa_refs rfl M.m_NoBook (pa_refs rfl M.m_NoCost (pa_refs rfl M.m_NoRow (pa_refs rfl M.m_NoRule (pa_refs rfl M.m_NoText (pa_refs rfl M.m_NoTime (pa_refs rfl M.m_NoWish (pa_refs rfl M.m_TooGreat pa_refs0))))))))) (by simp) M.t_NoAsk__NoBook__NoCost__NoRow__NoRule__NoText__NoTime__NoWish__TooGreat))
  (dss_one (ds_if (dt_w (dw_and (dt_val (de_isexc (i := 3) (tb := (tbs [5])) rfl M.isinstance_ rfl M.m_NoAnswer M.t_NoAnswer)) (dw_and (dt_val (de_isexcT (i := 3) (tb := tb_All) rfl M.isinstance_ rfl M.b_ValueError rfl M.t_ValueError)) (dw_and1 (dt_not (dt_val (dvP 4)))))))
    (dss_one (ds_set (i := 1) (by decide) sc.nd rfl (Or.inl rfl) (de_tup (da_cons de_str (da_cons de_non da_nil)))))
    dss_nil))))
  (dss_one (ds_ret (dvP 1))))), by unfold G_l_told G_l_told_5 G_l_told_4 G_l_told_3 G_l_told_2 G_l_told_1; infer_instance⟩
theorem sc_l_is_number : FnScope ["_law_thing"] ["_law_thing"] (defScope (top 26)) := ⟨rfl, rfl, rfl, by decide +kernel, rfl, by decide +kernel, by decide +kernel⟩
theorem d_l_is_number (F : Fun K "_law_is_number" "_law_is_number" (top 26) f fd) (M : Mods K mg cls ad) : FnOk P w K mg base CX0 1 f fd ["_law_thing"] (spM ⟨K, cls⟩ [] false 1 (spF F_l_is_number)) := by
  have sc := sc_l_is_number
  exact fn_G F sc rfl fun cdv A outer s H E hr => ⟨_, (dss_one (ds_ret (de_and (de_inst rfl M.isinstance_ (do_v 0) (do_e (de_ty (n := "int") rfl M.int_ (by kernel_rfl)))) (de_and (de_not (de_inst rfl M.isinstance_ (do_v 0) (do_e (de_ty (n := "bool") rfl M.bool_ (by kernel_rfl))))) (de_one (de_cmp op_ge ok_ge (do_v 0) (do_e de_int) (nomark _))))))), by unfold G_l_is_number; infer_instance⟩
theorem sc_l_is_right : FnScope ["_law_things", "_law_name", "_law_ask", "_law_value", "_law_stamp", "_law_seal"] ["_law_things"] (defScope (top 27)) := ⟨rfl, rfl, rfl, by decide +kernel, rfl, by decide +kernel, by decide +kernel⟩
theorem d_l_is_right (F : Fun K "_law_is_right" "_law_is_right" (top 27) f fd) (M : Mods K mg cls ad) (h_l_is_number : HM P w K mg base cls "_law_is_number" 1 ["_law_thing"] [] false (spF F_l_is_number)) : FnOk P w K mg base CX0 2 f fd ["_law_things"] (spM ⟨K, cls⟩ [] false 1 (spF F_l_is_right)) := by
  have sc := sc_l_is_right
  exact fn_G F sc rfl fun cdv A outer s H E hr => ⟨_, (dss_cons (ds_asg (dvP 0) (dg_tupL (n := 5) rfl (dgs_cons (dg_name (i := 1) (by decide) sc.nd rfl (Or.inl rfl)) (dgs_cons (dg_name (i := 2) (by decide) sc.nd rfl (Or.inl rfl)) (dgs_cons (dg_name (i := 3) (by decide) sc.nd rfl (Or.inl rfl)) (dgs_cons (dg_name (i := 4) (by decide) sc.nd rfl (Or.inl rfl)) (dgs_cons (dg_name (i := 5) (by decide) sc.nd rfl (Or.inl rfl)) dgs_nil)))))))
  (dss_cons (ds_if (dt_w (dw_or (dt_not (dt_val (de_inst rfl M.isinstance_ (do_v 1) (do_e (de_ty (n := "str") rfl M.str_ (by kernel_rfl)))))) (dw_or1 (dt_not (dt_chain op_lt ok_lt op_lt ok_lt de_int (de_len rfl M.len_ (do_v 1)) de_int)))))
    (dss_one (ds_ret de_bl))
    dss_nil)
  (dss_cons (ds_if (dt_cmp (op_neD (hu41 hr)) ok_eqD (do_e (de_f (df_comp rfl (CompOk.of_b (N' := ["_law_sign"]) (js := [none]) rfl (by kernel_rfl)) (by decide) (di_str (dvP 1)) (fun _ _ _ _ _ => (dg_name (i := 0) (by decide) (show (["_law_sign"] : List Str).Nodup by decide +kernel) rfl (Or.inl rfl) (Or.inr rfl))) (fun _ _ _ _ _ => (dts_one (dt_cmp op_notInS ok_inS (do_v 0) (do_e de_str) (by with_unfolding_all rfl)))) (fun _ _ _ _ _ => (dvP 0))))) (do_e (de_f (df_lst da_nil))) (nomark _))
    (dss_one (ds_ret de_bl))
    dss_nil)
  (dss_one (ds_ret (de_and (de_or (de_cmp op_isN ok_isN (do_v 3) (do_e de_non) (nomark _)) (de_one (de_call h_l_is_number (hr.mono (by decide)) rfl (da_cons (dvP 3) da_nil)))) (de_one (de_all rfl rfl M.all_ (do_e (de_f (df_comp rfl (CompOk.of_b (N' := ["_law_one"]) (js := [none]) rfl (by kernel_rfl)) (by decide) (di_list (de_f (df_lst (da_cons (dvP 2) (da_cons (dvP 4) (da_cons (dvP 5) da_nil)))))) (fun _ _ _ _ _ => (dg_name (i := 0) (by decide) (show (["_law_one"] : List Str).Nodup by decide +kernel) rfl (Or.inl rfl) (Or.inr rfl))) (fun _ _ _ _ _ => dts_nil) (fun _ _ _ _ _ => (de_call h_l_is_number (hr.mono (by decide)) rfl (da_cons (dvP 0) da_nil)))))))))))))), by unfold G_l_is_right G_l_is_right_3 G_l_is_right_2 G_l_is_right_1; infer_instance⟩
theorem sc_law : FnScope ["_law_script", "_law_k", "_law_well_here", "_law_numbers", "_law_things", "_law_turn", "_law_found"] ["_law_script"] (defScope (top 30)) := ⟨rfl, rfl, rfl, by decide +kernel, rfl, by decide +kernel, by decide +kernel⟩
theorem d_law_k31 (F : Fun K "law" "law" (top 30) f fd) (M : Mods K mg cls ad) (h_l_well : HM P w K mg base cls "_law_well" 1 ["_law_cell"] [] true (spF F_l_well)) (h_l_cell_at : HM P w K mg base cls "_law_cell_at" 1 ["_law_script", "_law_k"] [] false (spF F_l_cell_at)) (h_l_draw : HM P w K mg base cls "_law_draw" 1 ["_law_well_here", "_law_base"] [0] false (spF F_l_draw)) (h_l_word : HM P w K mg base cls "_law_word" 2 ["_law_well_here", "_law_last"] [0] false (spF F_l_word)) (h_l_odd : HM P w K mg base cls "_law_odd" 2 ["_law_well_here"] [0] false (spF F_l_odd)) (h_l_told : HM P w K mg base cls "_law_told" 5 ["_law_things"] [] false (spF F_l_told)) (h_l_is_right : HM P w K mg base cls "_law_is_right" 2 ["_law_things"] [] false (spF F_l_is_right)) : FnOk P w K mg base CX0 6 f fd ["_law_script"] (spM ⟨K, cls⟩ [] false 1 (spF F_law_k31)) := by
  have sc := sc_law
  exact fn_G F sc rfl fun cdv A outer s H E hr => ⟨_, (dss_cons (ds_for PassesOwn.never rfl (di_range1 rfl M.range_ (da_cons (de_max2 rfl rfl M.max_ (do_e de_int) (do_e (de_min2 rfl rfl M.min_ (do_e de_int) (do_e (de_len rfl M.len_ (do_v 0)))))) da_nil)) (dg_name (i := 1) (by decide) sc.nd rfl (Or.inl rfl))
    (dss_cons (ds_setOwn (i := 2) (by decide) sc.nd rfl (Or.inr rfl) (df_call h_l_well (hr.mono (by decide)) rfl (da_cons (de_add (do_e (de_call h_l_cell_at (hr.mono (by decide)) rfl (da_cons (dvP 0) (da_cons (dvP 1) da_nil)))) (do_e (de_mul (do_e de_int) (do_v 1)))) da_nil)))
  (dss_cons (ds_comp (i := 3) (by decide) rfl sc.nd rfl rfl (CompOk.of_b (N' := ["_law_j", "_law_well_here"]) (js := [none, some 2]) rfl (by kernel_rfl)) (by decide) (di_range1 rfl M.range_ (da_cons de_int da_nil)) (fun _ _ _ _ _ => (dg_name (i := 0) (by decide) (show (["_law_j", "_law_well_here"] : List Str).Nodup by decide +kernel) rfl (Or.inl rfl) (Or.inr rfl))) (fun _ _ _ _ _ => dts_nil) (fun _ _ _ _ _ => (de_ixA (do_e (de_f (df_lst (da_cons de_int (da_cons de_int (da_cons (de_call0 (j := 1) h_l_draw (hr.mono (by decide)) rfl (da_cons (de_pow (do_e de_int) (do_e de_int)) da_nil)) da_nil)))))) (do_e (de_call0 (j := 1) h_l_draw (hr.mono (by decide)) rfl (da_cons de_int da_nil))) (fun _ _ => rfl))))
  (dss_cons (ds_setOwn (i := 4) (by decide) sc.nd rfl (Or.inl rfl) (df_cat (do_e (de_f (df_lst (da_cons (de_call0 (j := 2) h_l_word (hr.mono (by decide)) rfl (da_cons (de_call0 (j := 2) h_l_draw (hr.mono (by decide)) rfl (da_cons de_int da_nil)) da_nil)) da_nil)))) (do_v 3)))
  (dss_cons (ds_if (dt_cmp op_eq ok_eq (do_e (de_call0 (j := 2) h_l_draw (hr.mono (by decide)) rfl (da_cons de_int da_nil))) (do_e de_int) (nomark _))
    (dss_one (ds_setIx 4 de_non de_int))
    dss_nil)
  (dss_cons (ds_for PassesOwn.never rfl (di_range1 rfl M.range_ (da_cons (de_call0 (j := 2) h_l_draw (hr.mono (by decide)) rfl (da_cons de_int da_nil)) da_nil)) (dg_name (i := 5) (by decide) sc.nd rfl (Or.inl rfl))
    (dss_one (ds_setIx 4 (de_call0 (j := 2) h_l_odd (hr.mono (by decide)) rfl da_nil) (de_call0 (j := 2) h_l_draw (hr.mono (by decide)) rfl (da_cons de_int da_nil)))))
  (dss_cons (ds_set (i := 6) (by decide) sc.nd rfl (Or.inl rfl) (de_call h_l_told (hr.mono (by decide)) rfl (da_cons (dv 4 (by decide)) da_nil)))
  (dss_cons (ds_if (dt_cmp op_ne ok_ne (do_e (de_ixA (do_v 6) (do_e de_int) (fun _ _ => rfl))) (do_e (de_ixA (do_e (de_f (df_lst (da_cons de_str (da_cons de_str da_nil))))) (do_e (de_intc rfl M.int_ (do_e (de_call h_l_is_right (hr.mono (by decide)) rfl (da_cons (dv 4 (by decide)) da_nil))))) (fun _ _ => rfl))) (nomark _))
    (dss_one (ds_ret de_bl))
    dss_nil)
  (dss_one (ds_if (dt_w (dw_and (dt_cmp op_eq ok_eq (do_e (de_ixA (do_v 6) (do_e de_int) (fun _ _ => rfl))) (do_e de_str) (nomark _)) (dw_and1 (dt_cmp (op_neD (hu41 hr)) ok_eqD (do_e (de_ixA (do_v 6) (do_e de_int) (fun _ _ => rfl))) (do_e (de_tuple rfl M.tuple_ (do_v 4))) (nomark _)))))
    (dss_one (ds_ret de_bl))
    dss_nil))))))))))
  (dss_one (ds_ret de_bl))), by unfold G_law_k31 G_law_k31_9 G_law_k31_8 G_law_k31_7 G_law_k31_6 G_law_k31_5 G_law_k31_4 G_law_k31_3 G_law_k31_2 G_law_k31_1; infer_instance⟩
end
theorem all_mk {l : PySem.W.OpenLaw} {w : World} {K : PySem.W.Frag} {h : Heap} {mg : Str → Option Value} {fa f1 f2 f3 f4 f5 f6 f7 f8 f9 f10 f11 f12 f13 f14 C_EnoughError C_NoWish C_NoRow C_TooGreat C_NoCost C_NoAnswer C_NoRule C_NoAsk C_NoTime C_NoBook C_NoText C_Answer : Addr} (X : K.In h) (G : h.Ns mainGlobals mg) (hfa : mg "law" = some (.ref fa))
    {od1 an1 od2 an2 od3 an3 od4 an4 od5 an5 od6 an6 od7 an7 od8 an8 od9 an9 od10 an10 od11 an11 od12 an12 od13 an13 od14 an14 : Option Addr} {sl1 sl2 sl3 sl4 sl5 sl6 sl7 sl8 sl9 sl10 sl11 sl12 sl13 sl14 : Array (Option Value)} {oc1 kV1 dc1 pm1 cd1 ct1 oc2 kV2 dc2 pm2 cd2 ct2 oc3 kV3 dc3 pm3 cd3 ct3 oc4 kV4 dc4 pm4 cd4 ct4 oc5 kV5 dc5 pm5 cd5 ct5 oc6 kV6 dc6 pm6 cd6 ct6 oc7 kV7 dc7 pm7 cd7 ct7 oc8 kV8 dc8 pm8 cd8 ct8 oc9 kV9 dc9 pm9 cd9 ct9 oc10 kV10 dc10 pm10 cd10 ct10 oc11 kV11 dc11 pm11 cd11 ct11 oc12 kV12 dc12 pm12 cd12 ct12 oc13 kV13 dc13 pm13 cd13 ct13 oc14 kV14 dc14 pm14 cd14 ct14 : Value}
    (aC_EnoughError : PySem.W.nsIn K mainGlobals "EnoughError" = some (some (.ref C_EnoughError)))
    (aC_NoWish : PySem.W.nsIn K mainGlobals "NoWish" = some (some (.ref C_NoWish)))
    (aC_NoRow : PySem.W.nsIn K mainGlobals "NoRow" = some (some (.ref C_NoRow)))
    (aC_TooGreat : PySem.W.nsIn K mainGlobals "TooGreat" = some (some (.ref C_TooGreat)))
    (aC_NoCost : PySem.W.nsIn K mainGlobals "NoCost" = some (some (.ref C_NoCost)))
    (aC_NoAnswer : PySem.W.nsIn K mainGlobals "NoAnswer" = some (some (.ref C_NoAnswer)))
    (ex_NoAnswer : PySem.W.excIn K C_NoAnswer [.type "ValueError", .type "Exception", .type "BaseException", .type "object"] "ValueError.__new__" = true)
    (em_NoAnswer_EnoughError : PySem.W.exmOne K (.ref C_NoAnswer) (.ref C_EnoughError) = some true)
    (ega_NoAnswer : PySem.W.findIn K (.ref C_NoAnswer) "__getattribute__" = some (some (.builtin "BaseException.__getattribute__")))
    (egt_NoAnswer : PySem.W.findIn K (.ref C_NoAnswer) "__getattr__" = some none)
    (ecl_NoAnswer : PySem.W.findIn K (.ref C_NoAnswer) "__class__" = some (some (.builtin "object.__class__")))
    (egg_NoAnswer : PySem.W.specialIn K (.builtin "object.__class__") "__get__" = some (some (.builtin "getset_descriptor.__get__")))
    (etk_NoAnswer : PySem.W.takesIn K (.builtin "object.__class__") = some true)
    (eob_NoAnswer : PySem.W.mroIn K C_NoAnswer (.type "object") = some true)
    (ebe_NoAnswer : PySem.W.mroIn K C_NoAnswer (.type "BaseException") = some true)
    (eit_NoAnswer : (PySem.W.clsIn K C_NoAnswer).isSome = true)
    (tt_NoAnswer_NoAsk__NoBook__NoCost__NoRow__NoRule__NoText__NoTime__NoWish__TooGreat : PySem.W.kitAny K (.ref C_NoAnswer) ([C_NoAsk, C_NoBook, C_NoCost, C_NoRow, C_NoRule, C_NoText, C_NoTime, C_NoWish, C_TooGreat].map Value.ref) = some false)
    (tt_NoAnswer_NoAnswer : PySem.W.kitOne K (.ref C_NoAnswer) (.ref C_NoAnswer) = some true)
    (tt_NoAnswer_ValueError : PySem.W.kitOne K (.ref C_NoAnswer) (.type "ValueError") = some true)
    (aC_NoRule : PySem.W.nsIn K mainGlobals "NoRule" = some (some (.ref C_NoRule)))
    (aC_NoAsk : PySem.W.nsIn K mainGlobals "NoAsk" = some (some (.ref C_NoAsk)))
    (aC_NoTime : PySem.W.nsIn K mainGlobals "NoTime" = some (some (.ref C_NoTime)))
    (aC_NoBook : PySem.W.nsIn K mainGlobals "NoBook" = some (some (.ref C_NoBook)))
    (aC_NoText : PySem.W.nsIn K mainGlobals "NoText" = some (some (.ref C_NoText)))
    (aC_Answer : PySem.W.nsIn K mainGlobals "Answer" = some (some (.ref C_Answer)))
    (pg_Answer : PySem.W.plainGet K C_Answer Str.empty = true)
    (hd_Answer : PySem.W.hasDictIn K C_Answer = true)
    (po_Answer : PySem.W.plainOver K C_Answer = true)
    (sa_Answer : PySem.W.findIn K (.ref C_Answer) "__setattr__" = some (some (.builtin "object.__setattr__")))
    (mk_Answer : PySem.W.makesIn K C_Answer = true)
    (kc_Answer : PySem.W.keepIn K (.ref C_Answer) = true)
    (n_name_Answer : PySem.W.findIn K (.ref C_Answer) "name" = some none)
    (n_ask_Answer : PySem.W.findIn K (.ref C_Answer) "ask" = some none)
    (n_value_Answer : PySem.W.findIn K (.ref C_Answer) "value" = some none)
    (n_stamp_Answer : PySem.W.findIn K (.ref C_Answer) "stamp" = some none)
    (n_seal_Answer : PySem.W.findIn K (.ref C_Answer) "seal" = some none)
    (a1 : PySem.W.nsIn K mainGlobals "_law_well" = some (some (.ref f1))) (l1 : K.lookup f1 = some ⟨oc1, od1, .func (PySem.W.fnOf "_law_well" "_law_well" (defArgs (top 22)) (defBody (top 22)) (defScope (top 22)) .none kV1 dc1 pm1 an1 cd1 ct1), sl1⟩) (c1 : PySem.W.codeIn K cd1 "_law_well" = true) (k1 : PySem.W.keepIn K (.ref f1) = true)
    (a2 : PySem.W.nsIn K mainGlobals "_law_cell_at" = some (some (.ref f2))) (l2 : K.lookup f2 = some ⟨oc2, od2, .func (PySem.W.fnOf "_law_cell_at" "_law_cell_at" (defArgs (top 21)) (defBody (top 21)) (defScope (top 21)) .none kV2 dc2 pm2 an2 cd2 ct2), sl2⟩) (c2 : PySem.W.codeIn K cd2 "_law_cell_at" = true) (k2 : PySem.W.keepIn K (.ref f2) = true)
    (a3 : PySem.W.nsIn K mainGlobals "_law_draw" = some (some (.ref f3))) (l3 : K.lookup f3 = some ⟨oc3, od3, .func (PySem.W.fnOf "_law_draw" "_law_draw" (defArgs (top 23)) (defBody (top 23)) (defScope (top 23)) .none kV3 dc3 pm3 an3 cd3 ct3), sl3⟩) (c3 : PySem.W.codeIn K cd3 "_law_draw" = true) (k3 : PySem.W.keepIn K (.ref f3) = true)
    (a4 : PySem.W.nsIn K mainGlobals "_law_word" = some (some (.ref f4))) (l4 : K.lookup f4 = some ⟨oc4, od4, .func (PySem.W.fnOf "_law_word" "_law_word" (defArgs (top 24)) (defBody (top 24)) (defScope (top 24)) .none kV4 dc4 pm4 an4 cd4 ct4), sl4⟩) (c4 : PySem.W.codeIn K cd4 "_law_word" = true) (k4 : PySem.W.keepIn K (.ref f4) = true)
    (a5 : PySem.W.nsIn K mainGlobals "_law_odd" = some (some (.ref f5))) (l5 : K.lookup f5 = some ⟨oc5, od5, .func (PySem.W.fnOf "_law_odd" "_law_odd" (defArgs (top 29)) (defBody (top 29)) (defScope (top 29)) .none kV5 dc5 pm5 an5 cd5 ct5), sl5⟩) (c5 : PySem.W.codeIn K cd5 "_law_odd" = true) (k5 : PySem.W.keepIn K (.ref f5) = true)
    (a6 : PySem.W.nsIn K mainGlobals "demand" = some (some (.ref f6))) (l6 : K.lookup f6 = some ⟨oc6, od6, .func (PySem.W.fnOf "demand" "demand" (defArgs (top 18)) (defBody (top 18)) (defScope (top 18)) .none kV6 dc6 pm6 an6 cd6 ct6), sl6⟩) (c6 : PySem.W.codeIn K cd6 "demand" = true) (k6 : PySem.W.keepIn K (.ref f6) = true)
    (a7 : PySem.W.nsIn K mainGlobals "is_name" = some (some (.ref f7))) (l7 : K.lookup f7 = some ⟨oc7, od7, .func (PySem.W.fnOf "is_name" "is_name" (defArgs (top 16)) (defBody (top 16)) (defScope (top 16)) .none kV7 dc7 pm7 an7 cd7 ct7), sl7⟩) (c7 : PySem.W.codeIn K cd7 "is_name" = true) (k7 : PySem.W.keepIn K (.ref f7) = true)
    (a8 : PySem.W.nsIn K mainGlobals "is_whole" = some (some (.ref f8))) (l8 : K.lookup f8 = some ⟨oc8, od8, .func (PySem.W.fnOf "is_whole" "is_whole" (defArgs (top 14)) (defBody (top 14)) (defScope (top 14)) .none kV8 dc8 pm8 an8 cd8 ct8), sl8⟩) (c8 : PySem.W.codeIn K cd8 "is_whole" = true) (k8 : PySem.W.keepIn K (.ref f8) = true)
    (a9 : PySem.W.nsIn K mainGlobals "is_from_nought" = some (some (.ref f9))) (l9 : K.lookup f9 = some ⟨oc9, od9, .func (PySem.W.fnOf "is_from_nought" "is_from_nought" (defArgs (top 15)) (defBody (top 15)) (defScope (top 15)) .none kV9 dc9 pm9 an9 cd9 ct9), sl9⟩) (c9 : PySem.W.codeIn K cd9 "is_from_nought" = true) (k9 : PySem.W.keepIn K (.ref f9) = true)
    (a10 : PySem.W.findIn K (.ref C_Answer) "__init__" = some (some (.ref f10))) (i10 : PySem.W.isFn K (.ref f10) = true) (l10 : K.lookup f10 = some ⟨oc10, od10, .func (PySem.W.fnOf "__init__" "Answer.__init__" (defArgs (inClass (top 19) 0)) (defBody (inClass (top 19) 0)) (defScope (inClass (top 19) 0)) .none kV10 dc10 pm10 an10 cd10 ct10), sl10⟩) (c10 : PySem.W.codeIn K cd10 "Answer.__init__" = true) (k10 : PySem.W.keepIn K (.ref f10) = true)
    (a11 : PySem.W.nsIn K mainGlobals "_law_told" = some (some (.ref f11))) (l11 : K.lookup f11 = some ⟨oc11, od11, .func (PySem.W.fnOf "_law_told" "_law_told" (defArgs (top 28)) (defBody (top 28)) (defScope (top 28)) .none kV11 dc11 pm11 an11 cd11 ct11), sl11⟩) (c11 : PySem.W.codeIn K cd11 "_law_told" = true) (k11 : PySem.W.keepIn K (.ref f11) = true)
    (a12 : PySem.W.nsIn K mainGlobals "_law_is_number" = some (some (.ref f12))) (l12 : K.lookup f12 = some ⟨oc12, od12, .func (PySem.W.fnOf "_law_is_number" "_law_is_number" (defArgs (top 26)) (defBody (top 26)) (defScope (top 26)) .none kV12 dc12 pm12 an12 cd12 ct12), sl12⟩) (c12 : PySem.W.codeIn K cd12 "_law_is_number" = true) (k12 : PySem.W.keepIn K (.ref f12) = true)
    (a13 : PySem.W.nsIn K mainGlobals "_law_is_right" = some (some (.ref f13))) (l13 : K.lookup f13 = some ⟨oc13, od13, .func (PySem.W.fnOf "_law_is_right" "_law_is_right" (defArgs (top 27)) (defBody (top 27)) (defScope (top 27)) .none kV13 dc13 pm13 an13 cd13 ct13), sl13⟩) (c13 : PySem.W.codeIn K cd13 "_law_is_right" = true) (k13 : PySem.W.keepIn K (.ref f13) = true)
    (a14 : PySem.W.nsIn K mainGlobals "law" = some (some (.ref f14))) (l14 : K.lookup f14 = some ⟨oc14, od14, .func (PySem.W.fnOf "law" "law" (defArgs (top 30)) (defBody (top 30)) (defScope (top 30)) .none kV14 dc14 pm14 an14 cd14 ct14), sl14⟩) (c14 : PySem.W.codeIn K cd14 "law" = true) (k14 : PySem.W.keepIn K (.ref f14) = true)
    (z_int : PySem.W.nsIn K mainGlobals "int" = some none)
    (z_len : PySem.W.nsIn K mainGlobals "len" = some none)
    (z_range : PySem.W.nsIn K mainGlobals "range" = some none)
    (z_isinstance : PySem.W.nsIn K mainGlobals "isinstance" = some none)
    (z_str : PySem.W.nsIn K mainGlobals "str" = some none)
    (z_all : PySem.W.nsIn K mainGlobals "all" = some none)
    (z_bool : PySem.W.nsIn K mainGlobals "bool" = some none)
    (z_max : PySem.W.nsIn K mainGlobals "max" = some none)
    (z_min : PySem.W.nsIn K mainGlobals "min" = some none)
    (z_tuple : PySem.W.nsIn K mainGlobals "tuple" = some none)
    (z_ValueError : PySem.W.nsIn K mainGlobals "ValueError" = some none)
    {t_LONGEST_NAME : Tok}
    (z_LONGEST_NAME : PySem.W.nsIn K mainGlobals "LONGEST_NAME" = some (some (.int 8 t_LONGEST_NAME)))
    : ∃ fd : FuncData, (∀ (s : Shared) (v : Value), BindsTo s fd ⟨[v], []⟩ [("_law_script", v)]) ∧ ∀ base : Heap, K.In base → base.Ns mainGlobals mg → FnOk l.prog w K mg base CX0 6 fa fd ["_law_script"] (spLaw K) := by
  have e := hfa.symm.trans (PySem.W.mg_of X G a14)
  cases e
  have F1 := fun_mk (st := (top 22)) l1 c1 k1
  have b1 := F1.binds (ps := ["_law_cell"]) fun _ _ _ _ _ _ us hl => match us, hl with | [_], _ => rfl
  have F2 := fun_mk (st := (top 21)) l2 c2 k2
  have b2 := F2.binds (ps := ["_law_script", "_law_k"]) fun _ _ _ _ _ _ us hl => match us, hl with | [_, _], _ => rfl
  have F3 := fun_mk (st := (top 23)) l3 c3 k3
  have b3 := F3.binds (ps := ["_law_well_here", "_law_base"]) fun _ _ _ _ _ _ us hl => match us, hl with | [_, _], _ => rfl
  have F4 := fun_mk (st := (top 24)) l4 c4 k4
  have b4 := F4.binds (ps := ["_law_well_here", "_law_last"]) fun _ _ _ _ _ _ us hl => match us, hl with | [_, _], _ => rfl
  have F5 := fun_mk (st := (top 29)) l5 c5 k5
  have b5 := F5.binds (ps := ["_law_well_here"]) fun _ _ _ _ _ _ us hl => match us, hl with | [_], _ => rfl
  have F6 := fun_mk (st := (top 18)) l6 c6 k6
  have b6 := F6.binds (ps := ["right", "words"]) fun _ _ _ _ _ _ us hl => match us, hl with | [_, _], _ => rfl
  have F7 := fun_mk (st := (top 16)) l7 c7 k7
  have b7 := F7.binds (ps := ["thing"]) fun _ _ _ _ _ _ us hl => match us, hl with | [_], _ => rfl
  have F8 := fun_mk (st := (top 14)) l8 c8 k8
  have b8 := F8.binds (ps := ["thing"]) fun _ _ _ _ _ _ us hl => match us, hl with | [_], _ => rfl
  have F9 := fun_mk (st := (top 15)) l9 c9 k9
  have b9 := F9.binds (ps := ["thing"]) fun _ _ _ _ _ _ us hl => match us, hl with | [_], _ => rfl
  have F10 := fun_mk (st := (inClass (top 19) 0)) l10 c10 k10
  have b10 := F10.binds (ps := ["self", "name", "ask", "value", "stamp", "seal"]) fun _ _ _ _ _ _ us hl => match us, hl with | [_, _, _, _, _, _], _ => rfl
  have F11 := fun_mk (st := (top 28)) l11 c11 k11
  have b11 := F11.binds (ps := ["_law_things"]) fun _ _ _ _ _ _ us hl => match us, hl with | [_], _ => rfl
  have F12 := fun_mk (st := (top 26)) l12 c12 k12
  have b12 := F12.binds (ps := ["_law_thing"]) fun _ _ _ _ _ _ us hl => match us, hl with | [_], _ => rfl
  have F13 := fun_mk (st := (top 27)) l13 c13 k13
  have b13 := F13.binds (ps := ["_law_things"]) fun _ _ _ _ _ _ us hl => match us, hl with | [_], _ => rfl
  have F14 := fun_mk (st := (top 30)) l14 c14 k14
  have b14 := F14.binds (ps := ["_law_script"]) fun _ _ _ _ _ _ us hl => match us, hl with | [_], _ => rfl
  have cl_Answer : Cls K C_Answer := ⟨pg_Answer, hd_Answer, po_Answer, sa_Answer⟩
  have ec_NoAnswer : ExcCls K C_NoAnswer := ⟨ega_NoAnswer, egt_NoAnswer, ecl_NoAnswer, egg_NoAnswer, etk_NoAnswer, eob_NoAnswer, ebe_NoAnswer, eit_NoAnswer⟩
  have M : Mods K mg (fun n : Nat => List.lookup n [(5, C_NoAnswer), (18, C_Answer)]) (fun n : Nat => [C_EnoughError, C_NoWish, C_NoRow, C_TooGreat, C_NoCost, C_NoAnswer, C_NoRule, C_NoAsk, C_NoTime, C_NoBook, C_NoText, 0, 0, 0, 0, 0, 0, 0, C_Answer, 0, 0, 0].getD n 0) := by
    refine ⟨PySem.W.mg_none_of X G z_int, PySem.W.mg_none_of X G z_len, PySem.W.mg_none_of X G z_range, PySem.W.mg_none_of X G z_isinstance, PySem.W.mg_none_of X G z_str, PySem.W.mg_none_of X G z_all, PySem.W.mg_none_of X G z_bool, PySem.W.mg_none_of X G z_max, PySem.W.mg_none_of X G z_min, PySem.W.mg_none_of X G z_tuple, PySem.W.mg_none_of X G z_ValueError, ⟨t_LONGEST_NAME, PySem.W.mg_of X G z_LONGEST_NAME⟩, ?no_name, ?no_ask, ?no_value, ?no_stamp, ?no_seal, PySem.W.mg_of X G aC_EnoughError, PySem.W.mg_of X G aC_NoAsk, PySem.W.mg_of X G aC_NoBook, PySem.W.mg_of X G aC_NoCost, PySem.W.mg_of X G aC_NoRow, PySem.W.mg_of X G aC_NoRule, PySem.W.mg_of X G aC_NoText, PySem.W.mg_of X G aC_NoTime, PySem.W.mg_of X G aC_NoWish, PySem.W.mg_of X G aC_TooGreat, PySem.W.mg_of X G aC_NoAnswer, ⟨C_NoAnswer, _, _, _, _, rfl, PySem.W.mg_of X G aC_NoAnswer, ex_NoAnswer, PySem.F.excBase_ValueError⟩, ?c_EnoughError, ?t_NoAsk__NoBook__NoCost__NoRow__NoRule__NoText__NoTime__NoWish__TooGreat, ?t_NoAnswer, ?t_ValueError⟩
    case no_name =>
      intro c C h11 h
      have hm := lk_mem h
      simp only [List.mem_cons, Prod.mk.injEq, List.not_mem_nil, or_false] at hm
      rcases hm with ⟨rfl, rfl⟩ | ⟨rfl, rfl⟩
      · exact absurd h11 (by decide)
      · exact ⟨cl_Answer, n_name_Answer⟩
    case no_ask =>
      intro c C h11 h
      have hm := lk_mem h
      simp only [List.mem_cons, Prod.mk.injEq, List.not_mem_nil, or_false] at hm
      rcases hm with ⟨rfl, rfl⟩ | ⟨rfl, rfl⟩
      · exact absurd h11 (by decide)
      · exact ⟨cl_Answer, n_ask_Answer⟩
    case no_value =>
      intro c C h11 h
      have hm := lk_mem h
      simp only [List.mem_cons, Prod.mk.injEq, List.not_mem_nil, or_false] at hm
      rcases hm with ⟨rfl, rfl⟩ | ⟨rfl, rfl⟩
      · exact absurd h11 (by decide)
      · exact ⟨cl_Answer, n_value_Answer⟩
    case no_stamp =>
      intro c C h11 h
      have hm := lk_mem h
      simp only [List.mem_cons, Prod.mk.injEq, List.not_mem_nil, or_false] at hm
      rcases hm with ⟨rfl, rfl⟩ | ⟨rfl, rfl⟩
      · exact absurd h11 (by decide)
      · exact ⟨cl_Answer, n_stamp_Answer⟩
    case no_seal =>
      intro c C h11 h
      have hm := lk_mem h
      simp only [List.mem_cons, Prod.mk.injEq, List.not_mem_nil, or_false] at hm
      rcases hm with ⟨rfl, rfl⟩ | ⟨rfl, rfl⟩
      · exact absurd h11 (by decide)
      · exact ⟨cl_Answer, n_seal_Answer⟩
    case c_EnoughError =>
      intro k D h hk
      have hm := lk_mem h
      simp only [List.mem_cons, Prod.mk.injEq, List.not_mem_nil, or_false] at hm
      rcases hm with ⟨rfl, rfl⟩ | ⟨rfl, rfl⟩
      · exact em_NoAnswer_EnoughError
      · exact absurd hk (by decide)
    case t_NoAsk__NoBook__NoCost__NoRow__NoRule__NoText__NoTime__NoWish__TooGreat =>
      intro k C b h hb
      have hm := lk_mem h
      simp only [List.mem_cons, Prod.mk.injEq, List.not_mem_nil, or_false] at hm
      rcases hm with ⟨rfl, rfl⟩ | ⟨rfl, rfl⟩
      · cases some_is hb (c := false) rfl; exact ⟨ec_NoAnswer, tt_NoAnswer_NoAsk__NoBook__NoCost__NoRow__NoRule__NoText__NoTime__NoWish__TooGreat⟩
      · exact (none_is hb rfl).elim
    case t_NoAnswer =>
      intro k C b h hb
      have hm := lk_mem h
      simp only [List.mem_cons, Prod.mk.injEq, List.not_mem_nil, or_false] at hm
      rcases hm with ⟨rfl, rfl⟩ | ⟨rfl, rfl⟩
      · cases some_is hb (c := true) rfl; exact ⟨ec_NoAnswer, tt_NoAnswer_NoAnswer⟩
      · exact (none_is hb rfl).elim
    case t_ValueError =>
      intro k C b h hb
      have hm := lk_mem h
      simp only [List.mem_cons, Prod.mk.injEq, List.not_mem_nil, or_false] at hm
      rcases hm with ⟨rfl, rfl⟩ | ⟨rfl, rfl⟩
      · cases some_is hb (c := true) rfl; exact ⟨ec_NoAnswer, tt_NoAnswer_ValueError⟩
      · exact (none_is hb rfl).elim
  refine ⟨PySem.W.fnOf "law" "law" (defArgs (top 30)) (defBody (top 30)) (defScope (top 30)) .none kV14 dc14 pm14 an14 cd14 ct14, fun s v => .of_eq rfl, fun base _ _ => ?_⟩
  have h_l_well : HM l.prog w K mg base (fun n : Nat => List.lookup n [(5, C_NoAnswer), (18, C_Answer)]) "_law_well" 1 ["_law_cell"] [] true (spF F_l_well) := ⟨⟨_, _, d_l_well F1 M, b1, k1, PySem.W.mg_of X G a1⟩, fun _ _ h => gFun_len h⟩
  have h_l_cell_at : HM l.prog w K mg base (fun n : Nat => List.lookup n [(5, C_NoAnswer), (18, C_Answer)]) "_law_cell_at" 1 ["_law_script", "_law_k"] [] false (spF F_l_cell_at) := ⟨⟨_, _, d_l_cell_at F2 M, b2, k2, PySem.W.mg_of X G a2⟩, fun _ _ h => gFun_len h⟩
  have h_l_draw : HM l.prog w K mg base (fun n : Nat => List.lookup n [(5, C_NoAnswer), (18, C_Answer)]) "_law_draw" 1 ["_law_well_here", "_law_base"] [0] false (spF F_l_draw) := ⟨⟨_, _, d_l_draw F3 M, b3, k3, PySem.W.mg_of X G a3⟩, fun _ _ h => gFun_len h⟩
  have h_l_word : HM l.prog w K mg base (fun n : Nat => List.lookup n [(5, C_NoAnswer), (18, C_Answer)]) "_law_word" 2 ["_law_well_here", "_law_last"] [0] false (spF F_l_word) := ⟨⟨_, _, d_l_word F4 M h_l_draw, b4, k4, PySem.W.mg_of X G a4⟩, fun _ _ h => gFun_len h⟩
  have h_l_odd : HM l.prog w K mg base (fun n : Nat => List.lookup n [(5, C_NoAnswer), (18, C_Answer)]) "_law_odd" 2 ["_law_well_here"] [0] false (spF F_l_odd) := ⟨⟨_, _, d_l_odd F5 M h_l_draw, b5, k5, PySem.W.mg_of X G a5⟩, fun _ _ h => gFun_len h⟩
  have hX_demand : HX l.prog w K mg base (fun n : Nat => List.lookup n [(5, C_NoAnswer), (18, C_Answer)]) "demand" 1 ["right", "words"] (spF F_demandX) := ⟨⟨_, _, d_demandX F6 M, b6, k6, PySem.W.mg_of X G a6⟩, fun _ _ _ h => gFun_len h⟩
  have h_is_name : HM l.prog w K mg base (fun n : Nat => List.lookup n [(5, C_NoAnswer), (18, C_Answer)]) "is_name" 1 ["thing"] [] false (spF F_is_name) := ⟨⟨_, _, d_is_name F7 M, b7, k7, PySem.W.mg_of X G a7⟩, fun _ _ h => gFun_len h⟩
  have h_is_whole : HM l.prog w K mg base (fun n : Nat => List.lookup n [(5, C_NoAnswer), (18, C_Answer)]) "is_whole" 1 ["thing"] [] false (spF F_is_whole) := ⟨⟨_, _, d_is_whole F8 M, b8, k8, PySem.W.mg_of X G a8⟩, fun _ _ h => gFun_len h⟩
  have h_is_from_nought : HM l.prog w K mg base (fun n : Nat => List.lookup n [(5, C_NoAnswer), (18, C_Answer)]) "is_from_nought" 2 ["thing"] [] false (spF F_is_from_nought) := ⟨⟨_, _, d_is_from_nought F9 M h_is_whole, b9, k9, PySem.W.mg_of X G a9⟩, fun _ _ h => gFun_len h⟩
  have hX_Answer : HKX l.prog w K mg base (fun n : Nat => List.lookup n [(5, C_NoAnswer), (18, C_Answer)]) "Answer" 18 3 ["self", "name", "ask", "value", "stamp", "seal"] (spF F_AnswerX) := ⟨⟨C_Answer, _, _, rfl, ⟨mk_Answer, a10, i10, kc_Answer⟩, d_AnswerX F10 M hX_demand h_is_name h_is_from_nought, b10, PySem.W.mg_of X G aC_Answer⟩, fun _ _ _ h => gFun_len h⟩
  have h_l_told : HM l.prog w K mg base (fun n : Nat => List.lookup n [(5, C_NoAnswer), (18, C_Answer)]) "_law_told" 5 ["_law_things"] [] false (spF F_l_told) := ⟨⟨_, _, d_l_told F11 M hX_Answer, b11, k11, PySem.W.mg_of X G a11⟩, fun _ _ h => gFun_len h⟩
  have h_l_is_number : HM l.prog w K mg base (fun n : Nat => List.lookup n [(5, C_NoAnswer), (18, C_Answer)]) "_law_is_number" 1 ["_law_thing"] [] false (spF F_l_is_number) := ⟨⟨_, _, d_l_is_number F12 M, b12, k12, PySem.W.mg_of X G a12⟩, fun _ _ h => gFun_len h⟩
  have h_l_is_right : HM l.prog w K mg base (fun n : Nat => List.lookup n [(5, C_NoAnswer), (18, C_Answer)]) "_law_is_right" 2 ["_law_things"] [] false (spF F_l_is_right) := ⟨⟨_, _, d_l_is_right F13 M h_l_is_number, b13, k13, PySem.W.mg_of X G a13⟩, fun _ _ h => gFun_len h⟩
  exact (d_law_k31 (cls := (fun n : Nat => List.lookup n [(5, C_NoAnswer), (18, C_Answer)])) F14 M h_l_well h_l_cell_at h_l_draw h_l_word h_l_odd h_l_told h_l_is_right).imp fun vs H Q E h => law_startF _root_.M.K31.lawF h
theorem walk {l : PySem.W.OpenLaw} {q : Program} {loose : List Str} {XP : (Str → Option Value) → Heap → Prop} {YP : World → Heap → Prop} {d : DefRec} {K : Params → PySem.W.Frag} (hn : l.most = some 63) (hdf : d.params.defaults = [])
    (hY : ∀ (w : World) (h : Heap), YP w h → (K w.params).In h)
    (F : ∀ (w : World) (mg : Str → Option Value) (fa : Addr) (h : Heap), (K w.params).In h → h.Ns mainGlobals mg → mg d.name = some (.ref fa) →
      ∃ fd : FuncData, (∀ (s : Shared) (u : Value), BindsTo s fd ⟨[u], []⟩ [("_law_script", u)]) ∧ ∀ base : Heap, (K w.params).In base → base.Ns mainGlobals mg → FnOk l.prog w (K w.params) mg base CX0 6 fa fd ["_law_script"] (spLaw (K w.params))) :
    PySem.W.WalkO q loose XP YP l.row.toRowW d [] (fun f vs => PySem.call f vs) :=
  L2.walk_of (n := 63) (k := 6) (x := "_law_script") (CX := fun _ => CX0) (sp := fun w => spLaw (K w.params)) hn (by decide) hdf ⟨rfl, by decide, by decide⟩ hY F (fun _ _ a ns hl _ hS => ⟨a, ns, rfl, hS, hl, fun _ => rfl⟩) fun _ _ _ _ _ z => z
end W_k31
open PySem PySem.W PyProof.Rows
set_option maxRecDepth 100000 in
set_option maxHeartbeats 0 in
theorem PySem.Challenge.cw_enoughsaid_k31_answers_made_holds : PySem.Challenge.rw_enoughsaid_k31_answers_made.Holds := by
  w_on; o_law; k_head; (case hw => w_witness2)
  k_fill
  refine W_k31.walk (l := PySem.Challenge.rw_enoughsaid_k31_answers_made) rfl rfl (fun w h Y => PySem.W.kIn_of Y) ?F
  case F =>
    intro w mg fa h KX G hmg
    refine' W_k31.all_mk KX G hmg ?aC_EnoughError ?aC_NoWish ?aC_NoRow ?aC_TooGreat ?aC_NoCost ?aC_NoAnswer ?ex_NoAnswer ?em_NoAnswer_EnoughError ?ega_NoAnswer ?egt_NoAnswer ?ecl_NoAnswer ?egg_NoAnswer ?etk_NoAnswer ?eob_NoAnswer ?ebe_NoAnswer ?eit_NoAnswer ?tt_NoAnswer_NoAsk__NoBook__NoCost__NoRow__NoRule__NoText__NoTime__NoWish__TooGreat ?tt_NoAnswer_NoAnswer ?tt_NoAnswer_ValueError ?aC_NoRule ?aC_NoAsk ?aC_NoTime ?aC_NoBook ?aC_NoText ?aC_Answer ?pg_Answer ?hd_Answer ?po_Answer ?sa_Answer ?mk_Answer ?kc_Answer ?n_name_Answer ?n_ask_Answer ?n_value_Answer ?n_stamp_Answer ?n_seal_Answer ?a1 ?l1 ?c1 ?k1 ?a2 ?l2 ?c2 ?k2 ?a3 ?l3 ?c3 ?k3 ?a4 ?l4 ?c4 ?k4 ?a5 ?l5 ?c5 ?k5 ?a6 ?l6 ?c6 ?k6 ?a7 ?l7 ?c7 ?k7 ?a8 ?l8 ?c8 ?k8 ?a9 ?l9 ?c9 ?k9 ?a10 ?i10 ?l10 ?c10 ?k10 ?a11 ?l11 ?c11 ?k11 ?a12 ?l12 ?c12 ?k12 ?a13 ?l13 ?c13 ?k13 ?a14 ?l14 ?c14 ?k14 ?z_int ?z_len ?z_range ?z_isinstance ?z_str ?z_all ?z_bool ?z_max ?z_min ?z_tuple ?z_ValueError ?z_LONGEST_NAME
    (case aC_EnoughError => k_is)
    (case aC_NoWish => k_is)
    (case aC_NoRow => k_is)
    (case aC_TooGreat => k_is)
    (case aC_NoCost => k_is)
    (case aC_NoAnswer => k_is)
    (case ex_NoAnswer => first | k_is | kernel_rfl)
    (case em_NoAnswer_EnoughError => first | k_is | kernel_rfl)
    (case ega_NoAnswer => k_is)
    (case egt_NoAnswer => k_is)
    (case ecl_NoAnswer => k_is)
    (case egg_NoAnswer => k_is)
    (case etk_NoAnswer => k_is)
    (case eob_NoAnswer => k_is)
    (case ebe_NoAnswer => k_is)
    (case eit_NoAnswer => first | k_is | kernel_rfl)
    (case tt_NoAnswer_NoAsk__NoBook__NoCost__NoRow__NoRule__NoText__NoTime__NoWish__TooGreat => first | k_is | kernel_rfl)
    (case tt_NoAnswer_NoAnswer => first | k_is | kernel_rfl)
    (case tt_NoAnswer_ValueError => first | k_is | kernel_rfl)
    (case aC_NoRule => k_is)
    (case aC_NoAsk => k_is)
    (case aC_NoTime => k_is)
    (case aC_NoBook => k_is)
    (case aC_NoText => k_is)
    (case aC_Answer => k_is)
    (case pg_Answer => k_is)
    (case hd_Answer => k_is)
    (case po_Answer => k_is)
    (case sa_Answer => k_is)
    (case mk_Answer => k_is)
    (case kc_Answer => k_is)
    (case n_name_Answer => k_is)
    (case n_ask_Answer => k_is)
    (case n_value_Answer => k_is)
    (case n_stamp_Answer => k_is)
    (case n_seal_Answer => k_is)
    (case a1 => k_is)
    (case l1 => k_is)
    (case c1 => k_is)
    (case k1 => k_is)
    (case a2 => k_is)
    (case l2 => k_is)
    (case c2 => k_is)
    (case k2 => k_is)
    (case a3 => k_is)
    (case l3 => k_is)
    (case c3 => k_is)
    (case k3 => k_is)
    (case a4 => k_is)
    (case l4 => k_is)
    (case c4 => k_is)
    (case k4 => k_is)
    (case a5 => k_is)
    (case l5 => k_is)
    (case c5 => k_is)
    (case k5 => k_is)
    (case a6 => k_is)
    (case l6 => k_is)
    (case c6 => k_is)
    (case k6 => k_is)
    (case a7 => k_is)
    (case l7 => k_is)
    (case c7 => k_is)
    (case k7 => k_is)
    (case a8 => k_is)
    (case l8 => k_is)
    (case c8 => k_is)
    (case k8 => k_is)
    (case a9 => k_is)
    (case l9 => k_is)
    (case c9 => k_is)
    (case k9 => k_is)
    (case a10 => k_is)
    (case i10 => k_is)
    (case l10 => k_is)
    (case c10 => k_is)
    (case k10 => k_is)
    (case a11 => k_is)
    (case l11 => k_is)
    (case c11 => k_is)
    (case k11 => k_is)
    (case a12 => k_is)
    (case l12 => k_is)
    (case c12 => k_is)
    (case k12 => k_is)
    (case a13 => k_is)
    (case l13 => k_is)
    (case c13 => k_is)
    (case k13 => k_is)
    (case a14 => k_is)
    (case l14 => k_is)
    (case c14 => k_is)
    (case k14 => k_is)
    (case z_int => k_is)
    (case z_len => k_is)
    (case z_range => k_is)
    (case z_isinstance => k_is)
    (case z_str => k_is)
    (case z_all => k_is)
    (case z_bool => k_is)
    (case z_max => k_is)
    (case z_min => k_is)
    (case z_tuple => k_is)
    (case z_ValueError => k_is)
    (case z_LONGEST_NAME => k_is)
