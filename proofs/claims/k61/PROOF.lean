import PyProof.Rows.All
import Wide.All
import OpenK.AllK
import Wide.FinOn
import Lean
import PyProof.EqAt
import PyProof.EqKinds
import PyProof.TupleCall
import PyProof.AttrMissHeap
import KE.KDictOf
import KE.KRevSl
import PyProof.Rows.FStr
import PySem.Challenge.RW_enoughsaid_k61_wishes_written
set_option Elab.async false
set_option linter.all false
set_option maxRecDepth 100000
set_option maxHeartbeats 4000000
set_option synthInstance.maxHeartbeats 0
set_option synthInstance.maxSize 1000000
open False renaming elim → aa
open PySem renaming wpAny_bind → ab, wpAny_pure → ao, starEach → ap, sizeLine → aG, mainGlobals → aT, wpAny_truthy_bool → bi, compareOp → bA, codeAny_builtin → bC, bootBuiltins → bN, wpAny_holding → bO, wpAny_setState_of → bQ, attributeBase → bW, plainId_quiet → bX, pickOrder → bZ, wpAny_setField_rec → ca, argBest → ck, wpAny_pyIter_list → cn, foldedSetIterable → cp, wpAny_newObj_type → cq, assignEach → cv, mem_of_lookup → cw, wpAny_call_entry → cF, wpAny_mono → cL, wpAny_Call_Name_kw → cM, scanBound → cP, codeAny → cS, keywordEach → cU, wpAny_seqItems → cV, holding → cW, wpAny_setEntries_of → df, binaryOp → dh, behindInMarks → di, letOwnedTupleGo → dj, wpAny_passesOwn → dk, swapsWith → du, sliceBounds → dw, wpAny_callSpecial?_slot → dz, codeAny_mono → dG, wpAny_tryCatch → dH, fits_of_scanBound → dI, builtinLookup_eq_fast → dL, sizeLine_eq → dU, backToKw → eE, relayAll → eX, wpAny_askSetting → eY, standAt → fg, wpAny_execs_nil → fm, typeLookup_type → fo, wpAny_updateSeq → fq, wpAny_letGo → fD, isSubtype_type → fE, wpAny_fieldsOf → fF, callerA → fH, seqIndex? → fJ, wpAny_standAt → fP, wpAny_attempt → fQ, call_len_set → fX, sysModules → gg, wpAny_call → gh, wpAny_rule → gj, Within → gk, seqIndex_neg → gG, lastMarks → gQ, getMethod → gR, seqItems? → gS, seqIndex_of → gU, wpAny_of_eq → gW, setNext → g5, call → g6, compEnvC → hU, entryFor → hV, slotArgs → hW, builtinsNs → hZ, wpAny_Name → h9, typeLookup → ia, call_meets → ib, cellsFrom → ip, drawOrder → iq
open List renaming length_cons → ac, getElem?_eq_getElem → af, mem_cons_of_mem → ah, mem_cons_self → ai, map_cons → al, length_map → am, mem_cons → ar, getElem?_map → au, size_toArray → av, length_append → ax, getD_eq_getElem?_getD → aA, mem_append_right → aC, length_nil → aD, append_nil → aJ, getElem?_eq_some_iff → aL, mem_append → aN, not_mem_nil → aO, mem_append_left → aS, mem_map → aW, replicate → aX, flatten_cons → bd, getElem?_set → bh, eraseIdx_eq_take_drop_succ → bn, getElem?_eq_none → bz, map_nil → bB, lookup_cons → bD, getElem?_cons_succ → bE, append_assoc → bI, nodup_cons → ce, length → ci, length_pos_iff → cx, length_take → cz, isEmpty_nil → cC, cons_ne_nil → cD, getElem?_cons_zero → cE, lookup → cG, eq_nil_of_length_eq_zero → cH, nil_append → cO, length_singleton → cQ, flatMap_cons → cR, range → cT, getElem?_append_left → cX, drop_eq_getElem_cons → cY, mem_singleton → dl, pairwise_cons → dn, set_cons_zero → dq, set_cons_succ → dt, mem_range → dE, all_eq_true → dN, cons_append → dO, all_cons → dR, mem_of_getElem? → dS, of_mem_zip → dW, map_append → dY, filterMap_cons → dZ, getElem?_range → d4, getElem?_append_right → ez, getElem?_zip_eq_some → eG, ext_getElem? → eM, sum_cons → eP, length_erase_of_mem → eQ, getElem_mem → eR, take_length → eS, flatten_nil → eU, getElem?_replicate → eV, getElem?_set_self → fc, foldl_cons → fj, mem_iff_getElem? → fu, cons_lt_cons_iff → fy, getElem?_set_ne → fA, length_eraseIdx → fB, mem_erase_of_ne → fC, getD_cons_zero → fM, getD_cons_succ → fN, mem_filterMap → fT, contains_cons → fY, zip_cons_cons → gf, take_sublist → gz, foldl_append → gD, contains_nil → gE, isEmpty_cons → gF, drop_length → gM, mem_flatten → gP, mem_filter → gX, sum_append → gZ, take_succ → g9, map_take → ik
open PySem.W renaming kitOne → ae, Frag → aj, mg_of → aq, findIn → aH, mg_none_of → aR, kitAny → aU, isFn → aV, kia_one → bc, keepIn → bg, nsIn → bq, plainGet → br, hasDictIn → bv, emptyDict → bw, plainOver → bH, instObj → bS, makesIn → bT, kitx_dict → cj, mroIn → cr, fnOf → cJ, kitx_list → dC, plainGet_of → d3, lookIn → d8, codeIn → d9, methodObj → eJ, specialIn → eK, cellsFrom_some → fe, takerIn → fh, takesIn → fi, kitx_float → fU, kitx_tuple → fV, callWith_K → fW, kitx_none → gx, kitx_bool → gy, handedIn → gH, kitx_int → gI, kitx_str → gJ, kitx_own → gK, WalkO → ig
open PySem.Heap renaming get?_push_of_some → ak, lt_size → ay, get?_push_size → aE, get?_update_other → aY, size_push → bF, SameBut → cI, get?_update_self → dJ
open Bool renaming false_ne_true → aw, false_eq_true → aQ, and_eq_true → bu, not_true → cu, eq_iff_iff → cN, false_and → dB, or_false → dQ, and_false → eh, true_and → eN, and_true → eO, or_eq_true → gY, not_false → hJ, false_or → im, or_true → iu, true_or → iw
open Nat renaming le_refl → az, ne_of_lt → aB, lt_of_lt_of_le → aF, le_trans → aM, lt_succ_of_lt → bx, zero_le → bJ, lt_irrefl → bV, lt_succ_self → bY, le_of_lt → dA, le_succ → eH, ne_of_gt → e9, le_of_eq → fb, lt_trans → gq, min_eq_left → g4, zero_add → ir
open PySem.Str renaming ofString → aI, empty → dM, ofString_eq_toList → ff
open PySem.Txt renaming join → aK
open Option renaming bind_some → aP, map_some → cf, getD_none → gL, bind_none → gN, map_none → g0
open PySem.F renaming plain_max_loop → aZ, entry_max_loop → cK, plain_list_iadd → eW, plain_set_new → fv, slot_set_iter → fw
open Option.some renaming inj → ba
open PySem.Around renaming under_plainId → be, under → gm
open Ne renaming symm → bp
open List.Perm renaming refl → bG
open PySem.PassesOwn renaming never → bK
open Array renaming getElem?_eq_getElem → bL, getElem?_eq_none → dF, eq_empty_of_size_eq_zero → dP, getElem?_toList → ft, length_toList → fK, append_assoc → fS, toList_push → gA, ext → io
open Int renaming emod_lt_of_pos → bM, toNat_natCast → bP, emod_nonneg → cg, natCast_add → fk, cast_ofNat_Int → fZ, le_trans → gt
open PySem.Obj renaming mapSeq → bR, putSet → g7
open PyProof.Rows.F renaming plain_set_update_loop → bU, entry_set_update_loop → cZ
open PyProof.Rows.KTD renaming strsLook → cb
open PySem.SetTable renaming grown → cy, below → eo
open PySem.Builtin.List renaming listTooLong → dg, listExtendWith → d6
open PySem.SetTable.below renaming go → dD
open List.cons renaming injEq → dX
open PyProof.Rows renaming callWith_type1 → d5, joinParts_cons → fG
open PySem.Builtin.Builtins renaming bindParams → d7
open PySem.Calls renaming Name_function_global → ey
open PySem.Walks renaming list → eZ, strAscii → g8, strWide → ii
open PySem.Heap.SameBut renaming update → fL
open PySem.Shared renaming TypeIs → fO
open Char renaming toNat → fR
open PySem.Code renaming isFrame → gp, frames → iy
open PySem.Moved renaming trans → gT
open PySem.Value renaming isStrOf → ic
open PySem.Paired renaming length → ie
open Sum.inr renaming injEq → il
open PySem.W.WShape renaming has → iz
namespace L2
open PySem PySem.Spec PyProof.Rows
abbrev y4 := Sum Int Str
def V4 : y4 -> Value -> Bool
 | .inl k, v => Value.isInt k v
 | .inr x, v => ic x v
def zoG (w : World) : y4 -> Int
 | .inl k => hashInt k
 | .inr x => hashStr w x
theorem ji : ∀ {k : y4} {v : Value}, V4 k v = true -> (∃ i t, k = Sum.inl i /\ v = Value.int i t) \/ (∃ x t, k = Sum.inr x /\ v = Value.str x t)
 | .inl i, v, h => by
  obtain ⟨t, e⟩ := Value.isInt_shape (k := i) (v := v) h
  exact .inl ⟨i, t, rfl, e⟩
 | .inr x, v, h => by
  obtain ⟨t, e⟩ := Value.isStrOf_shape (x := x) (v := v) h
  exact .inr ⟨x, t, rfl, e⟩
theorem zbM (x : Str) (t : Tok) : V4 (.inr x) (.str x t) = true := by simp [V4, ic]
theorem zl0 (a b : Int) : decide ((Sum.inl a : y4) = Sum.inl b) = (a == b) := by
 by_cases e : a = b
 · subst e; simp
 · have h : ¬ (Sum.inl a : y4) = Sum.inl b := fun q => e (Sum.inl.inj q)
   rw [decide_eq_false h]
   exact (beq_eq_false_iff_ne.mpr e).symm
theorem zl1 (a b : Str) : decide ((Sum.inr a : y4) = Sum.inr b) = decide (a = b) := by
 by_cases e : a = b
 · subst e; simp
 · have h : ¬ (Sum.inr a : y4) = Sum.inr b := fun q => e (Sum.inr.inj q)
   rw [decide_eq_false h, decide_eq_false e]
theorem zl2 (a : Int) (b : Str) : decide ((Sum.inl a : y4) = Sum.inr b) = false := decide_eq_false (fun q => nomatch q)
theorem zl3 (a : Str) (b : Int) : decide ((Sum.inr a : y4) = Sum.inl b) = false := decide_eq_false (fun q => nomatch q)
def yt (prog : Program) (w : World) : PySem.KeyKind prog w y4 where
 is := V4
 hash := zoG w
 inj := fun v a b ha hb => by
  rcases ji ha with ⟨i, t, rfl, rfl⟩ | ⟨x, t, rfl, rfl⟩
  · rcases ji hb with ⟨j, u, rfl, e⟩ | ⟨y, u, rfl, e⟩
    · injection e with e1 _; rw [e1]
    · exact nomatch e
  · rcases ji hb with ⟨j, u, rfl, e⟩ | ⟨y, u, rfl, e⟩
    · exact nomatch e
    · injection e with e1 _; rw [e1]
 byValue := fun k v h => by
  rcases ji h with ⟨i, t, rfl, rfl⟩ | ⟨x, t, rfl, rfl⟩ <;> rfl
 pyHash := fun hv h => by
  rcases ji hv with ⟨i, t, rfl, rfl⟩ | ⟨x, t, rfl, rfl⟩
  · exact wpAny_pyHash_int h
  · exact wpAny_pyHash_str h
 eqBool := fun hu hv h => by
  rcases ji hu with ⟨i, t, rfl, rfl⟩ | ⟨x, t, rfl, rfl⟩
  · rcases ji hv with ⟨j, u, rfl, rfl⟩ | ⟨y, u, rfl, rfl⟩
    · rw [zl0] at h; exact wpAny_eqBool_int h
    · rw [zl2] at h; exact SeqAt.EqAt.int_str i t y u _ _ _ _ h
  · rcases ji hv with ⟨j, u, rfl, rfl⟩ | ⟨y, u, rfl, rfl⟩
    · rw [zl3] at h; exact SeqAt.EqAt.str_int x t j u _ _ _ _ h
    · rw [zl1] at h; exact wpAny_eqBool_str h
 «strs» := fun k x t v h => by
  rcases ji h with ⟨i, u, rfl, e⟩ | ⟨y, u, rfl, e⟩
  · exact nomatch e
  · injection e with e1 _
    subst e1
    cases v <;> rfl
inductive V where
 | non | bl (b : Bool) | int (i : Int) | str (x : Str) | byt (b : Array UInt8) | flt (b : UInt64) | ref (a : Addr) | ty (n : String)
 deriving DecidableEq
def RelV : V -> Value -> Prop
 | .non, u => u = Value.none
 | .bl b, u => u = Value.bool b
 | .int i, u => ∃ t, u = Value.int i t
 | .str x, u => ∃ t, u = Value.str x t
 | .byt b, u => ∃ t, u = Value.bytes b t
 | .flt b, u => ∃ t, u = Value.float b t
 | .ref a, u => u = Value.ref a
 | .ty n, u => u = Value.type n
abbrev Vals : List V -> List Value -> Prop := Paired RelV
theorem Vals.length {xs : List V} {us : List Value} (r : Vals xs us) : xs.length = us.length := ie r
theorem Vals.get : ∀ {xs : List V} {us : List Value} {i : Nat} {x : V}, Vals xs us -> xs[i]? = some x -> ∃ u, us[i]? = some u /\ RelV x u
 | _, _, _, _, .nil, e => by simp at e
 | _, _, 0, _, .cons r _, e => by simp at e; subst e; exact ⟨_, rfl, r⟩
 | _, _, i + 1, x, .cons _ t, e => by
  obtain ⟨u, h1, h2⟩ := Vals.get (i := i) (x := x) t (by simpa using e)
  exact ⟨u, by simpa using h1, h2⟩
theorem Vals.set (r : RelV x u) : ∀ {xs : List V} {us : List Value} (i : Nat), Vals xs us -> Vals (xs.set i x) (us.set i u)
 | _, _, _, .nil => .nil
 | _, _, 0, .cons _ t => .cons r t
 | _, _, i + 1, .cons q t => .cons q (Vals.set r i t)
theorem Vals.append : ∀ {xs ys : List V} {us ws : List Value}, Vals xs us -> Vals ys ws -> Vals (xs ++ ys) (us ++ ws)
 | _, _, _, _, .nil, s => s
 | _, _, _, _, .cons r t, s => .cons r (Vals.append t s)
theorem Vals.take : ∀ {xs : List V} {us : List Value} (n : Nat), Vals xs us -> Vals (xs.take n) (us.take n)
 | _, _, 0, _ => .nil
 | _, _, _ + 1, .nil => .nil
 | _, _, n + 1, .cons r t => .cons r (Vals.take n t)
theorem Vals.drop : ∀ {xs : List V} {us : List Value} (n : Nat), Vals xs us -> Vals (xs.drop n) (us.drop n)
 | _, _, 0, r => r
 | _, _, _ + 1, .nil => .nil
 | _, _, n + 1, .cons _ t => Vals.drop n t
def RelO : Option V -> Option Value -> Prop
 | some v, some u => RelV v u
 | none, none => True
 | _, _ => False
def KV {κ : Type} : List (κ × V) -> List (κ × Value) -> Prop := Paired fun (p : κ × V) (q : κ × Value) => p.1 = q.1 /\ RelV p.2 q.2
def kV : y4 -> V
 | .inl i => .int i
 | .inr x => .str x
inductive HO where
 | lst (xs : List V)
 | tup (xs : List V)
 | dK (kvs : List (y4 × V)) | dT (kvs : List (List y4 × V))
 | set (S : Int -> Bool) (n : Nat)
 | ins (C dx : Addr) (fs : List (Str × V))
 | own (x : Addr)
 | xd (fs : List (Str × V))
 | met (f x : Addr)
 | rng (lo hi : Int)
 | frz (o : Obj) (u : HO)
 | tbl (ps : Array Value)
 | ext (φ : Heap -> Prop)
abbrev Hp := Addr -> Option HO
def ye (H : Hp) (a : Addr) (o : HO) : Hp := fun b => if b = a then some o else H b
theorem jC : ye H a o a = some o := by unfold ye; rw [if_pos rfl]
theorem z7 (h : b ≠ a) : ye H a o b = H b := by unfold ye; rw [if_neg h]
theorem yH {H : Hp} {a b : Addr} {o : HO} (h : H a = some o) (h' : H b = none) : a ≠ b := by
 intro e; subst e; rw [h] at h'; cases h'
section
variable (P : Program) (w : World)
def ObjOk (H : Hp) (h : Heap) (a : Addr) : HO -> Prop
 | .lst xs => xs.length <= aG /\ ∃ (its : List Value) (n : Nat), Vals xs its /\ h.get? a = some { cls := .type "list", data := .seq its.toArray n }
 | .tup xs => xs.length <= aG /\ ∃ its : List Value, Vals xs its /\ IsTup h a its.toArray
 | .dK kvs => kvs.length <= aG /\ (a == gg) = false /\ ∃ vs, KV kvs vs /\ h.DictOf (yt P w) a vs
 | .dT kvs => kvs.length <= aG /\ (a == gg) = false /\ ∃ xs : List (List y4 × Addr × Value),
  Paired (fun (p : List y4 × V) (q : List y4 × Addr × Value) => p.1 = q.1 /\ H q.2.1 = some (.tup (p.1.map kV)) /\ RelV p.2 q.2.2) kvs xs /\
  ∃ o es ep, h.get? a = some o /\ o.ExactDict /\ o.data = .dict es ep /\ es.toList = xs.map (entryOfKey (tupleKind (yt P w))) /\ (xs.map (·.1)).Nodup
 | .set S n => h.SetOf (intKind P w) a S n
 | .ins C dx fs => H dx = some (.own a) /\ fs.length <= 1000 /\ dx ≠ a /\ h.get? a = some (bS C dx) /\
  ∃ mA, h.Ns1 dx mA /\ (∀ f, RelO (fs.lookup f) (mA f)) /\ gk mA (fs.map (·.1))
 | .own _ => ∃ o, h.get? a = some o
 | .xd fs => ∃ mA, h.Ns1 a mA /\ ∀ f, RelO (fs.lookup f) (mA f)
 | .rng lo hi => ∃ t u v, h.get? a = some { cls := .type "range", data := .fields #[.int lo t, .int hi u, .int 1 v] }
 | .frz o u => h.get? a = some o /\ ObjOk H h a u
 | .tbl ps => h.get? a = some { cls := .none, data := .fields ps }
 | .met f x => h.get? a = some (eJ (.ref f) (.ref x))
 | .ext φ => φ h /\ (∃ o, h.get? a = some o) /\ ∀ h1 h2 : Heap, φ h1 -> (∀ o, h1.get? a = some o -> h2.get? a = some o) -> φ h2
def HOk (H : Hp) (h : Heap) : Prop := ∀ a o, H a = some o -> ObjOk P w H h a o
end
section
variable {P : Program} {w : World} {H H' : Hp} {h h' : Heap} {a : Addr} {o : HO}
theorem ObjOk.lt (x : ObjOk P w H h a o) : a < h.objs.size := by
 cases o with
 | lst xs => obtain ⟨_, _, _, _, e⟩ := x; exact ay e
 | tup xs => obtain ⟨_, _, _, p⟩ := x; exact p.lt
 | dK kvs => obtain ⟨_, _, _, _, o, _, _, e, _⟩ := x; exact ay e
 | dT kvs => obtain ⟨_, _, _, _, o, _, _, e, _⟩ := x; exact ay e
 | set S n => obtain ⟨o, _, _, _, e, _⟩ := x; exact ay e
 | ins C dx fs => obtain ⟨_, _, _, e, _⟩ := x; exact ay e
 | own y => obtain ⟨_, e⟩ := x; exact ay e
 | xd fs => obtain ⟨_, ⟨_, _, _, e, _⟩, _⟩ := x; exact ay e
 | rng lo hi => obtain ⟨_, _, _, e⟩ := x; exact ay e
 | frz ob u => obtain ⟨e, _⟩ := x; exact ay e
 | tbl ps => exact ay (show h.get? a = some _ from x)
 | met f y => exact ay (show h.get? a = some _ from x)
 | ext φ => obtain ⟨_, ⟨_, e⟩, _⟩ := x; exact ay e
theorem Paired.mapP {α β : Type} {F G : α -> β -> Prop} : ∀ {l₁ : List α} {l₂ : List β}, Paired F l₁ l₂ -> (∀ a b, F a b -> G a b) -> Paired G l₁ l₂
 | _, _, .nil, _ => .nil
 | _, _, .cons r t, f => .cons (f _ _ r) (Paired.mapP t f)
theorem ObjOk.stay (x : ObjOk P w H h a o) (k : ∀ b u, (b = a \/ H b = some (.own a)) -> h.get? b = some u -> h'.get? b = some u)
 (ho : ∀ b, H b = some (.own a) -> H' b = some (.own a)) (ht : ∀ b xs, H b = some (.tup xs) -> H' b = some (.tup xs)) : ObjOk P w H' h' a o := by
 induction o with
 | lst xs => obtain ⟨z, its, n, r, e⟩ := x; exact ⟨z, its, n, r, k _ _ (.inl rfl) e⟩
 | tup xs => obtain ⟨z, its, r, ob, e, c⟩ := x; exact ⟨z, its, r, ob, k _ _ (.inl rfl) e, c⟩
 | dK kvs => obtain ⟨z, y, vs, r, ob, es, ep, e, c⟩ := x; exact ⟨z, y, vs, r, ob, es, ep, k _ _ (.inl rfl) e, c⟩
 | dT kvs =>
  obtain ⟨z, y, xs, r, ob, es, ep, e, c⟩ := x
  exact ⟨z, y, xs, Paired.mapP r fun p q z => ⟨z.1, ht _ _ z.2.1, z.2.2⟩, ob, es, ep, k _ _ (.inl rfl) e, c⟩
 | set S n => obtain ⟨ob, es, ep, t, e, c⟩ := x; exact ⟨ob, es, ep, t, k _ _ (.inl rfl) e, c⟩
 | ins C dx fs =>
  obtain ⟨d, z, ne, e, mA, ⟨od, es, ep, e2, c⟩, r⟩ := x
  exact ⟨ho _ d, z, ne, k _ _ (.inl rfl) e, mA, ⟨od, es, ep, k _ _ (.inr d) e2, c⟩, r⟩
 | own y => obtain ⟨ob, e⟩ := x; exact ⟨ob, k _ _ (.inl rfl) e⟩
 | xd fs => obtain ⟨mA, ⟨od, es, ep, e, c⟩, r⟩ := x; exact ⟨mA, ⟨od, es, ep, k _ _ (.inl rfl) e, c⟩, r⟩
 | rng lo hi => obtain ⟨t, u, v, e⟩ := x; exact ⟨t, u, v, k _ _ (.inl rfl) e⟩
 | frz ob u ih => obtain ⟨e, q⟩ := x; exact ⟨k _ _ (.inl rfl) e, ih q⟩
 | tbl ps =>
  have e : h.get? a = some { cls := .none, data := .fields ps } := x
  show h'.get? a = some { cls := .none, data := .fields ps }
  exact k a _ (.inl rfl) e
 | met f y =>
  have e : h.get? a = some (eJ (.ref f) (.ref y)) := x
  show h'.get? a = some (eJ (.ref f) (.ref y))
  exact k a _ (.inl rfl) e
 | ext φ => obtain ⟨p, ⟨o, e⟩, st⟩ := x; exact ⟨st _ _ p fun o q => k _ _ (.inl rfl) q, ⟨o, k _ _ (.inl rfl) e⟩, st⟩
theorem HOk.lt (x : HOk P w H h) (e : H a = some o) : a < h.objs.size := (x a o e).lt
theorem HOk.fresh (x : HOk P w H h) (e : h.objs.size <= a) : H a = none := by
 cases q : H a with
 | none => rfl
 | some u => exact absurd (aF (x.lt q) e) (bV _)
theorem HOk.kept (x : HOk P w H h) (k : ∀ b u, h.get? b = some u -> h'.get? b = some u) : HOk P w H h' := fun a o e =>
 (x a o e).stay (fun b u _ q => k b u q) (fun _ q => q) fun _ _ q => q
theorem HOk.laid (x : HOk P w H h) (k : ∀ b u, h.get? b = some u -> h'.get? b = some u) (hp : h.objs.size <= a) (new : ObjOk P w (ye H a o) h' a o) : HOk P w (ye H a o) h' := fun b u e => by
 have hn := x.fresh hp
 by_cases hb : b = a
 · subst hb; rw [jC] at e; cases e; exact new
 · rw [z7 hb] at e
   exact (x b u e).stay (fun c v _ q => k c v q) (fun c q => by rw [z7 (yH q hn)]; exact q) fun c xs q => by rw [z7 (yH q hn)]; exact q
end
def Rd (H : Hp) (a : Addr) (u : HO) : Prop := H a = some u \/ ∃ o, H a = some (.frz o u)
theorem Rd.ok (r : Rd H a u) (x : HOk P w H h) : ObjOk P w H h a u := by
 rcases r with r | ⟨o, r⟩
 · exact x a u r
 · obtain ⟨_, q⟩ := x a _ r
   exact q
def Mut : Option HO -> Prop
 | some (.lst _) => True
 | some (.dK _) => True
 | some (.dT _) => True
 | some (.set _ _) => True
 | some (.ins _ _ _) => True
 | some (.ext _) => True
 | _ => False
section
variable {P : Program} {w : World} {H : Hp} {h h' : Heap} {x e : Addr} {o' : HO}
theorem HOk.write (ok : HOk P w H h) (mu : Mut (H x)) (he : e = x \/ H e = some (.own x)) (k : ∀ b u, b ≠ e -> h.get? b = some u -> h'.get? b = some u) (heo : ∃ u, h'.get? e = some u)
 (new : ObjOk P w (ye H x o') h' x o') : HOk P w (ye H x o') h' := fun b u q => by
 have nown : ∀ c y, H c = some (.own y) -> c ≠ x := fun c y r z => by subst z; rw [r] at mu; exact mu
 have ntup : ∀ c xs, H c = some (.tup xs) -> c ≠ x := fun c xs r z => by subst z; rw [r] at mu; exact mu
 by_cases hb : b = x
 · subst hb; rw [jC] at q; cases q; exact new
 · rw [z7 hb] at q
   by_cases hbe : b = e
   · have q' : H b = some (.own x) := by
      rcases he with z | z
      · exact absurd (hbe.trans z) hb
      · rw [hbe]; exact z
     rw [q] at q'; cases q'
     obtain ⟨v, hv⟩ := heo
     exact ⟨v, by rw [hbe]; exact hv⟩
   · refine (ok b u q).stay (fun c v hc r => k c v ?_ r) (fun c r => by rw [z7 (nown c b r)]; exact r) fun c xs r => by rw [z7 (ntup c xs r)]; exact r
     rcases hc with rfl | hc
     · exact hbe
     · rintro rfl
       rcases he with z | z
       · exact nown c b hc z
       · rw [hc] at z; cases z; exact hb rfl
end
structure Un (fs ex : List Addr) (H H' : Hp) (h h' : Heap) : Prop where
 keep : ∀ b o, h.get? b = some o -> H b = none -> b ∉ fs -> b ∉ ex -> h'.get? b = some o
 slot : ∀ b o, h.get? b = some o -> H b = none -> b ∈ fs -> b ∉ ex -> ∃ sl, h'.get? b = some { o with slots := sl }
 free : ∀ b o, h.get? b = some o -> H b = none -> b ∉ ex -> H' b = none
 there : ∀ b o, h.get? b = some o -> b ∉ ex -> ∃ o', h'.get? b = some o'
 tups : ∀ b xs, H b = some (.tup xs) -> H' b = some (.tup xs)
 frzs : ∀ b o u, H b = some (.frz o u) -> H' b = some (.frz o u)
 tbls : ∀ b ps, H b = some (.tbl ps) -> ∃ more, H' b = some (.tbl (ps ++ more))
section
variable {fs fs' ex ex' : List Addr} {H H1 H2 : Hp} {h h1 h2 h' : Heap} {a x e : Addr} {o : HO}
theorem Un.any (u : Un fs ex H H1 h h1) (q : h.get? b = some ob) (n : H b = none) (hx : b ∉ ex) : ∃ sl, h1.get? b = some { ob with slots := sl } := by
 by_cases hb : b ∈ fs
 · exact u.slot b ob q n hb hx
 · exact ⟨ob.slots, u.keep b ob q n hb hx⟩
theorem Un.kept (k : ∀ b u, h.get? b = some u -> h'.get? b = some u) : Un fs ex H H h h' :=
 ⟨fun b ob q _ _ _ => k b ob q, fun b ob q _ _ _ => ⟨ob.slots, k b ob q⟩, fun _ _ _ n _ => n, fun b ob q _ => ⟨ob, k b ob q⟩, fun _ _ q => q, fun _ _ _ q => q, fun _ ps q => ⟨#[], by rw [q]; simp⟩⟩
theorem Un.refl : Un fs ex H H h h := Un.kept fun _ _ q => q
theorem Un.laid (k : ∀ b u, h.get? b = some u -> h'.get? b = some u) (hp : h.objs.size <= a) (hn : H a = none) : Un fs ex H (ye H a o) h h' where
 keep := fun b u q _ _ _ => k b u q
 slot := fun b u q _ _ _ => ⟨u.slots, k b u q⟩
 free := fun b u q n _ => by rw [z7 (aB (aF (ay q) hp))]; exact n
 there := fun b u q _ => ⟨u, k b u q⟩
 tups := fun b xs q => by rw [z7 (yH q hn)]; exact q
 frzs := fun b u xs q => by rw [z7 (yH q hn)]; exact q
 tbls := fun b ps q => ⟨#[], by rw [z7 (yH q hn), q]; simp⟩
theorem Un.write (mu : Mut (H x)) (he : e = x \/ H e = some (.own x)) (k : ∀ b u, b ≠ e -> h.get? b = some u -> h'.get? b = some u) (heo : ∃ u, h'.get? e = some u) : Un fs ex H (ye H x o) h h' := by
 have hx : ∀ b, H b = none -> b ≠ x := fun b n z => by subst z; rw [n] at mu; exact mu
 have hb : ∀ b, H b = none -> b ≠ e := fun b n z => by
  subst z
  rcases he with r | r
  · exact hx b n r
  · rw [n] at r; cases r
 have hm : ∀ b u, H b = some u -> ¬ Mut (some u) -> b ≠ x := fun b u q nm z => by subst z; rw [q] at mu; exact nm mu
 refine ⟨fun b u q n _ _ => k b u (hb b n) q, fun b u q n _ _ => ⟨u.slots, k b u (hb b n) q⟩, fun b u q n _ => by rw [z7 (hx b n)]; exact n, fun b u q _ => ?_,
  fun b xs q => by rw [z7 (hm b _ q fun z => z)]; exact q, fun b u xs q => by rw [z7 (hm b _ q fun z => z)]; exact q, fun b ps q => ⟨#[], by rw [z7 (hm b _ q fun z => z), q]; simp⟩⟩
 by_cases hbe : b = e
 · subst hbe; exact heo
 · exact ⟨u, k b u hbe q⟩
end
def trk (h : Heap) (H : Hp) : List Addr := (cT h.objs.size).filter fun a => (H a).isSome
def Ua (h : Heap) (H : Hp) : Heap := PySem.W.hideAll h (trk h H)
theorem zg3 (h : Heap) (H : Hp) : (Ua h H).objs.size = h.objs.size := PySem.W.hideAll_size _ _
theorem ziQ {h : Heap} (e : h.get? b = some o) (n : H b = none) : (Ua h H).get? b = some o :=
 PySem.W.hideAll_get _ e fun hm => by
  have q : (H b).isSome = true := (gX.mp hm).2
  rw [n] at q; simp at q
theorem zkW {h : Heap} (e : (Ua h H).get? b = some o) : h.get? b = some o /\ H b = none := by
 have e' : h.get? b = some o := PySem.W.of_hideAll (trk h H) e
 refine ⟨e', ?_⟩
 cases q : H b with
 | none => rfl
 | some x =>
  have hm : b ∈ trk h H := gX.mpr ⟨dE.mpr (ay e'), by simp [q]⟩
  have z : (Ua h H).get? b = none := PySem.W.hideAll_none (trk h H) hm
  rw [z] at e; cases e
def zkX (g h : Heap) (L : Addr) : List (Addr × Obj) := (cT h.objs.size).filterMap fun a => if a = L \/ (g.get? a).isSome = true then none else (h.get? a).map fun o => (a, o)
def rest (g h : Heap) (L d : Addr) : List (Addr × Obj) := (zkX g h L).filter fun p => decide (p.1 ≠ d)
structure Mod (K : aj) (mg : Str -> Option Value) (base : Heap) : Prop where
 kin : K.In base
 glob : base.Ns aT mg
 blt : ∃ mb, base.Ns hZ mb /\ ∀ x : Str, x ≠ "__name__" -> mb x = bN x
 nolimit : base.NoLimit
structure Cx where
 prog : Program
 w : World
 K : aj
 mg : Str -> Option Value
 base : Heap
 A : Around
 N : List Str
 s₀ : Shared
 H₀ : Hp
 env : Env
 outer : List Env
 stack : List Env
 ex : List Addr
 fn : Str -> Bool
 calm : Bool
 pn : List (Addr × Obj)
 xe : Value -> Shared -> Prop
def Vg (l : List Env) : List Addr := l.filterMap (·.frame)
abbrev Cx.fs (X : Cx) : List Addr := Vg X.outer
def Z5 (sc : Scope) (x : Str) : Prop := sc.names.lookup x = some .local \/ sc.names.lookup x = some .cell \/ sc.names.lookup x = some .free
def Loc (sc : Scope) (x : Str) : Prop := sc.names.lookup x = some .local \/ sc.names.lookup x = some .cell
def zoH (env : Env) (h : Heap) (m : Str -> Option Value) (x : Str) (u : Value) : Prop :=
 (env.kindOf x = some .local /\ m x = some u) \/ ((env.kindOf x = some .cell \/ env.kindOf x = some .free) /\ ∃ c, env.cells.lookup x = some c /\ h.IsCell c (some u))
structure Cx.Ok (X : Cx) : Prop where
 mod : Mod X.K X.mg X.base
 kind : X.env.scope.kind = .function
 glob : X.env.globals = aT
 blt : X.env.builtins = hZ
 above : X.s₀.heap.objs.size <= X.env.locals
 inj : ∀ x y c, X.env.cells.lookup x = some c -> X.env.cells.lookup y = some c -> x = y
 has : ∀ x, (X.env.kindOf x = some .cell \/ X.env.kindOf x = some .free) -> ∃ c, X.env.cells.lookup x = some c
 cab : ∀ x c, X.fn x = true -> X.env.cells.lookup x = some c -> X.s₀.heap.objs.size <= c
 hd : X.calm = true -> X.A.handled = none
 frames : X.A.frames = some X.stack
 stk : X.stack = X.outer \/ (X.stack = X.env :: X.outer /\ X.env.frame = some X.env.locals)
 exf : ∀ b ∈ X.ex, b ≠ X.env.locals /\ ∀ x c, X.env.cells.lookup x = some c -> c ≠ b
 bs : ∀ b o, X.base.get? b = some o -> X.s₀.heap.get? b = some o /\ X.H₀ b = none
 bsz : X.base.objs.size <= X.s₀.heap.objs.size
 noex : ∀ b o, X.base.get? b = some o -> b ∉ X.ex
 exfs : ∀ b ∈ X.ex, b ∉ X.fs
 funs : X.s₀.heap.FunFrames X.base X.outer
 frf : ∀ b ∈ X.fs, X.H₀ b = none
structure Inv (X : Cx) (pins : List (Addr × Obj)) (σ : List (Option V)) (H : Hp) (s : Shared) : Prop where
 ok : X.Ok
 os : s.os = X.s₀.os
 bare : AllBare s.gens
 base : Un X.fs X.ex X.H₀ H X.s₀.heap s.heap
 loc : ∃ m, s.heap.Ns X.env.locals m /\ ∀ (i : Nat) (x : Str) (v : V), X.N[i]? = some x -> σ[i]? = some (some v) -> Z5 X.env.scope x -> ∃ u, RelV v u /\ zoH X.env s.heap m x u
 cell : ∀ x c, X.env.cells.lookup x = some c -> ∃ v, s.heap.IsCell c v
 free : H X.env.locals = none
 freeC : ∀ x c, X.env.cells.lookup x = some c -> H c = none
 pin : ∀ p ∈ X.pn ++ pins, s.heap.get? p.1 = some p.2 /\ H p.1 = none /\ p.1 ≠ X.env.locals /\ p.1 ∉ X.fs /\ ∀ v, p.2.data ≠ .cell v
 hok : HOk X.prog X.w H s.heap
 len : σ.length = X.N.length
section
variable {X : Cx} {pins : List (Addr × Obj)} {σ : List (Option V)} {H H' : Hp} {s : Shared} {h' : Heap}
theorem Cx.Ok.nofr (ok : X.Ok) (e : X.base.get? b = some o) : b ∉ X.fs := fun hb => by
 have := (ok.funs.mem hb).1
 rw [e] at this; cases this
theorem Inv.bs (I : Inv X pins σ H s) : ∀ b o, X.base.get? b = some o -> s.heap.get? b = some o /\ H b = none := fun b o e =>
 ⟨I.base.keep b o (I.ok.bs b o e).1 (I.ok.bs b o e).2 (I.ok.nofr e) (I.ok.noex b o e), I.base.free b o (I.ok.bs b o e).1 (I.ok.bs b o e).2 (I.ok.noex b o e)⟩
theorem Inv.bk (I : Inv X pins σ H s) : ∀ b o, X.base.get? b = some o -> s.heap.get? b = some o := fun b o e => (I.bs b o e).1
theorem Inv.mod (I : Inv X pins σ H s) : Mod X.K X.mg X.base := I.ok.mod
theorem Inv.kIn (I : Inv X pins σ H s) : X.K.In s.heap := I.ok.mod.kin.keeps I.bk
theorem Inv.lt (I : Inv X pins σ H s) : X.env.locals < s.heap.objs.size := let ⟨_, hn, _⟩ := I.loc; hn.lt
theorem Inv.sz (I : Inv X pins σ H s) : X.s₀.heap.objs.size <= s.heap.objs.size := aM I.ok.above (dA I.lt)
theorem Inv.nofs (I : Inv X pins σ H s) (h : s.heap.objs.size <= a) : a ∉ X.fs := fun hb => by
 obtain ⟨_, o, ho, _⟩ := I.ok.funs.mem hb
 exact absurd (aF (ay ho) (aM I.sz h)) (bV _)
theorem Inv.cne (I : Inv X pins σ H s) : ∀ x c, X.env.cells.lookup x = some c -> c ≠ X.env.locals := fun x c e z => by
 obtain ⟨v, o, ho, hd⟩ := I.cell x c e
 obtain ⟨m, ⟨o', es, ep, ho', hd', _⟩, _⟩ := I.loc
 rw [z, ho'] at ho; cases ho; rw [hd'] at hd; cases hd
theorem Inv.funs (I : Inv X pins σ H s) : s.heap.FunFrames X.base X.outer := by
 have all : ∀ (l : List Env), (∀ b ∈ Vg l, b ∈ X.fs) -> X.s₀.heap.FunFrames X.base l -> s.heap.FunFrames X.base l := by
  intro l
  induction l with
  | nil => intro _ _; trivial
  | cons env r ih =>
   intro hs hl
   obtain ⟨hk, ⟨L, o, hf, hn, ho, hd⟩, hr⟩ := hl
   have hL : L ∈ X.fs := hs L (by unfold Vg; rw [dZ, hf]; exact ai)
   obtain ⟨sl, e⟩ := I.base.slot L o ho (I.ok.frf L hL) hL fun z => I.ok.exfs L z hL
   exact ⟨hk, ⟨L, _, hf, hn, e, hd⟩, ih (fun b hb => hs b (by unfold Vg; rw [dZ, hf]; exact ah _ hb)) hr⟩
 exact all X.outer (fun _ hb => hb) I.ok.funs
theorem Inv.stack (I : Inv X pins σ H s) : s.heap.FunFrames X.base X.stack := by
 rcases I.ok.stk with e | ⟨e, hf⟩
 · rw [e]; exact I.funs
 · rw [e]
   obtain ⟨m, hn, _⟩ := I.loc
   refine .cons (by rw [I.ok.kind]; decide) hf hn ?_ I.funs
   exact Heap.get?_none_of_le (aM I.ok.bsz I.ok.above)
theorem Inv.stkSub (I : Inv X pins σ H s) : ∀ b ∈ Vg X.stack, b ∈ X.env.locals :: X.fs := fun b hb => by
 rcases I.ok.stk with e | ⟨e, hf⟩
 · rw [e] at hb; exact ah _ hb
 · rw [e] at hb
   unfold Vg at hb
   rw [dZ, hf] at hb
   exact hb
theorem Inv.stkFree (I : Inv X pins σ H s) : ∀ b ∈ Vg X.stack, H b = none := fun b hb => by
 rcases ar.mp (I.stkSub b hb) with e | hb
 · rw [e]; exact I.free
 · obtain ⟨_, o, ho, _⟩ := I.ok.funs.mem hb
   exact I.base.free b o ho (I.ok.frf b hb) fun z => I.ok.exfs b z hb
theorem Inv.step {g' : Array GenState} {t' : Nat} {d' : Drawn} {ch : List Addr} (I : Inv X pins σ H s)
 (hch : ∀ b ∈ ch, (b ∈ X.ex \/ X.s₀.heap.objs.size <= b) /\ b ≠ X.env.locals /\ (∀ x c, X.env.cells.lookup x = some c -> c ≠ b) /\ ∀ p ∈ X.pn ++ pins, p.1 ≠ b)
 (keep : ∀ b o, b ≠ X.env.locals -> b ∉ X.fs -> b ∉ ch -> s.heap.get? b = some o -> H b = none -> h'.get? b = some o)
 (slot : ∀ b o, b ≠ X.env.locals -> b ∈ X.fs -> b ∉ ch -> s.heap.get? b = some o -> H b = none -> ∃ sl, h'.get? b = some { o with slots := sl }) (free : ∀ b o, b ∉ ch -> s.heap.get? b = some o -> H b = none -> H' b = none)
 (there : ∀ b o, b ∉ ch -> s.heap.get? b = some o -> ∃ o', h'.get? b = some o')
 (tups : ∀ b xs, H b = some (.tup xs) -> H' b = some (.tup xs)) (frzs : ∀ b o u, H b = some (.frz o u) -> H' b = some (.frz o u)) (tbls : ∀ b ps, H b = some (.tbl ps) -> ∃ more, H' b = some (.tbl (ps ++ more)))
 (ns : ∀ m, s.heap.Ns X.env.locals m -> h'.Ns X.env.locals m) (hok : HOk X.prog X.w H' h') (hg : AllBare g') :
 Inv X pins σ H' { s with heap := h', gens := g', drawn := d', toks := t' } := by
 have neL : ∀ b o, X.s₀.heap.get? b = some o -> b ≠ X.env.locals := fun b o e => aB (aF (ay e) I.ok.above)
 have neC : ∀ b o, X.s₀.heap.get? b = some o -> b ∉ X.ex -> b ∉ ch := fun b o e hx hb => by
  rcases (hch b hb).1 with z | z
  · exact hx z
  · exact absurd (aF (ay e) z) (bV _)
 have cellK : ∀ x c, X.env.cells.lookup x = some c -> ∀ v, s.heap.IsCell c v -> h'.IsCell c v := fun x c e v ⟨o, ho, hd⟩ => by
  have nch : c ∉ ch := fun z => (hch c z).2.2.1 x c e rfl
  by_cases hc : c ∈ X.fs
  · obtain ⟨sl, q⟩ := slot c o (I.cne x c e) hc nch ho (I.freeC x c e)
    exact ⟨_, q, hd⟩
  · exact ⟨o, keep c o (I.cne x c e) hc nch ho (I.freeC x c e), hd⟩
 refine ⟨I.ok, I.os, hg, ⟨fun b o e n hb hx => ?_, fun b o e n hb hx => ?_, fun b o e n hx => ?_, fun b o e hx => ?_, fun b xs e => tups b xs (I.base.tups b xs e), fun b o xs e => frzs b o xs (I.base.frzs b o xs e), fun b ps e => ?_⟩, ?_, fun x c e => ?_, ?_, fun x c e => ?_, fun p hp => ?_, hok, I.len⟩
 · exact keep b o (neL b o e) hb (neC b o e hx) (I.base.keep b o e n hb hx) (I.base.free b o e n hx)
 · obtain ⟨sl, e1⟩ := I.base.slot b o e n hb hx
   obtain ⟨sl', e2⟩ := slot b _ (neL b o e) hb (neC b o e hx) e1 (I.base.free b o e n hx)
   exact ⟨sl', e2⟩
 · obtain ⟨o', e1⟩ := I.base.there b o e hx
   exact free b o' (neC b o e hx) e1 (I.base.free b o e n hx)
 · obtain ⟨o', e1⟩ := I.base.there b o e hx
   exact there b o' (neC b o e hx) e1
 · obtain ⟨m1, e1⟩ := I.base.tbls b ps e
   obtain ⟨m2, e2⟩ := tbls b _ e1
   exact ⟨m1 ++ m2, by rw [e2, fS]⟩
 · obtain ⟨m, hn, hl⟩ := I.loc
   refine ⟨m, ns m hn, fun i x v e1 e2 e3 => ?_⟩
   obtain ⟨u, r, l⟩ := hl i x v e1 e2 e3
   refine ⟨u, r, ?_⟩
   rcases l with l | ⟨k, c, e, z⟩
   · exact .inl l
   · exact .inr ⟨k, c, e, cellK x c e _ z⟩
 · obtain ⟨v, z⟩ := I.cell x c e
   exact ⟨v, cellK x c e v z⟩
 · obtain ⟨m, ⟨o, _, _, ho, _⟩, _⟩ := I.loc
   exact free _ o (fun z => (hch _ z).2.1 rfl) ho I.free
 · obtain ⟨v, o, ho, hd⟩ := I.cell x c e
   exact free c o (fun z => (hch c z).2.2.1 x c e rfl) ho (I.freeC x c e)
 · obtain ⟨e, n, ne, nf, d⟩ := I.pin p hp
   have nch : p.1 ∉ ch := fun z => (hch p.1 z).2.2.2 p hp rfl
   exact ⟨keep p.1 p.2 ne nf nch e n, free p.1 p.2 nch e n, ne, nf, d⟩
theorem Inv.un {t' : Nat} (I : Inv X pins σ H s) (u : Un X.fs [] H H' s.heap h') (hok : HOk X.prog X.w H' h') : Inv X pins σ H' { s with heap := h', toks := t' } := by
 obtain ⟨m, ⟨o, es, ep, ho, r⟩, _⟩ := id I.loc
 obtain ⟨sl, hL⟩ := u.any ho I.free (by simp)
 exact I.step (g' := s.gens) (d' := s.drawn) (ch := []) (fun _ z => nomatch z) (fun b o _ hb _ e n => u.keep b o e n hb (by simp)) (fun b o _ hb _ e n => u.slot b o e n hb (by simp)) (fun b o _ e n => u.free b o e n (by simp)) (fun b o _ e => u.there b o e (by simp)) u.tups u.frzs u.tbls (fun m' hm => by
  obtain ⟨o', es', ep', ho', r'⟩ := hm
  rw [ho] at ho'; cases ho'
  exact ⟨_, es', ep', hL, r'⟩) hok I.bare
theorem Inv.call {g' : Array GenState} {t' : Nat} {d' : Drawn} {ch : List Addr} (I : Inv X pins σ H s) (u : Un (Vg X.stack) ch H H' s.heap h') (hok : HOk X.prog X.w H' h') (hg : AllBare g')
 (hch : ∀ b ∈ ch, (b ∈ X.ex \/ X.s₀.heap.objs.size <= b) /\ b ≠ X.env.locals /\ (∀ x c, X.env.cells.lookup x = some c -> c ≠ b) /\ ∀ p ∈ X.pn ++ pins, p.1 ≠ b) :
 Inv X pins σ H' { s with heap := h', gens := g', drawn := d', toks := t' } := by
 obtain ⟨m, ⟨o, es, ep, ho, r⟩, _⟩ := id I.loc
 obtain ⟨sl, hL⟩ := u.any ho I.free fun z => (hch _ z).2.1 rfl
 exact I.step (ch := ch) hch (fun b o hL hb hc e n => u.keep b o e n (fun z => (ar.mp (I.stkSub b z)).elim hL hb) hc) (fun b o _ _ hc e n => u.any e n hc) (fun b o hc e n => u.free b o e n hc) (fun b o hc e => u.there b o e hc) u.tups u.frzs u.tbls (fun m' hm => by
  obtain ⟨o', es', ep', ho', r'⟩ := hm
  rw [ho] at ho'; cases ho'
  exact ⟨_, es', ep', hL, r'⟩) hok hg
theorem Inv.turned {t' : Nat} {it : Addr} (I : Inv X pins σ H s) (k : ∀ b o, b ≠ it -> s.heap.get? b = some o -> h'.get? b = some o) (hn : H it = none) (hL : it ≠ X.env.locals)
 (h1 : it ∈ X.ex \/ X.s₀.heap.objs.size <= it) (h2 : ∀ x c, X.env.cells.lookup x = some c -> c ≠ it) (h3 : ∀ p ∈ X.pn ++ pins, p.1 ≠ it) : Inv X pins σ H { s with heap := h', toks := t' } := by
 have nit : ∀ b u, H b = some u -> b ≠ it := fun b u e z => by rw [z, hn] at e; cases e
 refine I.step (g' := s.gens) (d' := s.drawn) (ch := [it]) (fun b hb => ?_) (fun b o _ _ hc e _ => k b o (fun z => hc (by simp [z])) e) (fun b o _ _ hc e _ => ⟨o.slots, k b o (fun z => hc (by simp [z])) e⟩) (fun _ _ _ _ n => n)
  (fun b o hc e => ⟨o, k b o (fun z => hc (by simp [z])) e⟩) (fun _ _ e => e) (fun _ _ _ e => e) (fun b ps e => ⟨#[], by rw [e]; simp⟩) (fun m hm => ?_) (fun b u e => ?_) I.bare
 · have e : b = it := by simpa using hb
   subst e
   exact ⟨h1, hL, h2, h3⟩
 · obtain ⟨o, es, ep, ho, r⟩ := hm
   exact ⟨o, es, ep, k _ o (bp hL) ho, r⟩
 · refine (I.hok b u e).stay (fun c v hc q => k c v ?_ q) (fun _ q => q) fun _ _ q => q
   rcases hc with z | z
   · rw [z]; exact nit b u e
   · exact nit c _ z
theorem Inv.tok (I : Inv X pins σ H s) (t : Nat) : Inv X pins σ H { s with toks := t } := I.un (h' := s.heap) (t' := t) Un.refl I.hok
theorem Inv.kept (I : Inv X pins σ H s) (k : ∀ b u, s.heap.get? b = some u -> h'.get? b = some u) : Inv X pins σ H { s with heap := h', toks := t' } := I.un (Un.kept k) (I.hok.kept k)
theorem Inv.laid (I : Inv X pins σ H s) (k : ∀ b u, s.heap.get? b = some u -> h'.get? b = some u) (hp : s.heap.objs.size <= a) (new : ObjOk X.prog X.w (ye H a o) h' a o) :
 Inv X pins σ (ye H a o) { s with heap := h', toks := t' } := I.un (Un.laid k hp (I.hok.fresh hp)) (I.hok.laid k hp new)
theorem Inv.write (I : Inv X pins σ H s) (mu : Mut (H x)) (he : e = x \/ H e = some (.own x)) (k : ∀ b u, b ≠ e -> s.heap.get? b = some u -> h'.get? b = some u) (heo : ∃ u, h'.get? e = some u)
 (new : ObjOk X.prog X.w (ye H x o) h' x o) : Inv X pins σ (ye H x o) { s with heap := h', toks := t' } := I.un (Un.write mu he k heo) (I.hok.write mu he k heo new)
theorem Inv.pins_of (I : Inv X pins σ H s) (h : ∀ p ∈ pins', s.heap.get? p.1 = some p.2 /\ H p.1 = none /\ p.1 ≠ X.env.locals /\ p.1 ∉ X.fs /\ ∀ v, p.2.data ≠ .cell v) : Inv X pins' σ H s :=
 ⟨I.ok, I.os, I.bare, I.base, I.loc, I.cell, I.free, I.freeC, fun p hp => (aN.mp hp).elim (fun z => I.pin p (aS _ z)) (h p), I.hok, I.len⟩
theorem zc2 {N : List Str} (hN : N.Nodup) {i j : Nat} {x : Str} (a : N[i]? = some x) (b : N[j]? = some x) : i = j := by
 obtain ⟨h1, e1⟩ := aL.mp a
 obtain ⟨h2, e2⟩ := aL.mp b
 exact (List.getElem_inj hN).mp (e1.trans e2.symm)
theorem zbN {E : Value -> Shared -> Prop} {Q : Unit -> Shared -> Prop} (I : Inv X pins σ H s) (hN : X.N.Nodup) (hi : X.N[i]? = some x) (hx : Loc X.env.scope x) (r : RelV v u)
 (h : ∀ s', Inv X pins (σ.set i (some v)) H s' -> (∃ a, cI a s.heap s'.heap /\ (a = X.env.locals \/ X.env.cells.lookup x = some a)) -> Q () s') (hf : X.fn x = true \/ X.env.scope.names.lookup x = some .local := by first | exact .inl rfl | exact .inr rfl | assumption) : wpAny M A (storeName X.env x u) Q E s := by
 obtain ⟨m, hn, hl⟩ := id I.loc
 have hcls : (X.env.scope.kind == .class || (X.env.scope.kind == .module && X.env.locals != X.env.globals)) = false := by rw [I.ok.kind]; rfl
 have hiσ : i < σ.length := by rw [I.len]; exact (aL.mp hi).1
 have cne := I.cne
 have tracked : ∀ {a : Addr} {h' : Heap}, (∃ o, s.heap.get? a = some o /\ H a = none) -> cI a s.heap h' -> HOk X.prog X.w H h' := fun {a h'} ha hs b ob e => by
  obtain ⟨_, _, hfree⟩ := ha
  refine (I.hok b ob e).stay (fun c w' hc q => (hs.2 c ?_).trans q) (fun _ q => q) fun _ _ q => q
  rintro rfl
  rcases hc with rfl | hc
  · rw [hfree] at e; cases e
  · rw [hfree] at hc; cases hc
 rcases hx with hk | hk
 · refine wpAny_storeName_local hk hn (fun h' hn' hs => ?_) hcls
   obtain ⟨oL, _, _, hoL, _⟩ := id hn
   refine h _ ⟨I.ok, I.os, I.bare, ⟨fun b o e n hb hx => ?_, fun b o e n hb hx => ?_, I.base.free, fun b o e hx => ?_, I.base.tups, I.base.frzs, I.base.tbls⟩, ⟨_, hn', fun j y v' e1 e2 e3 => ?_⟩, fun y c e => ?_, I.free, I.freeC, fun p hp => ?_, tracked ⟨oL, hoL, I.free⟩ hs, by simpa using I.len⟩ ⟨_, hs, .inl rfl⟩
   · exact (hs.2 b (aB (aF (ay e) I.ok.above))).trans (I.base.keep b o e n hb hx)
   · obtain ⟨sl, e1⟩ := I.base.slot b o e n hb hx
     exact ⟨sl, (hs.2 b (aB (aF (ay e) I.ok.above))).trans e1⟩
   · obtain ⟨o', e1⟩ := I.base.there b o e hx
     exact ⟨o', (hs.2 b (aB (aF (ay e) I.ok.above))).trans e1⟩
   · by_cases hj : j = i
     · subst hj
       rw [hi] at e1; cases e1
       rw [fc hiσ] at e2
       cases e2
       exact ⟨u, r, .inl ⟨hk, by simp⟩⟩
     · rw [fA (bp hj)] at e2
       obtain ⟨u', r', q⟩ := hl j y v' e1 e2 e3
       refine ⟨u', r', ?_⟩
       rcases q with ⟨k, e⟩ | ⟨k, c, e, z⟩
       · refine .inl ⟨k, ?_⟩
         have : y ≠ x := fun e => hj (zc2 hN e1 (e ▸ hi))
         simp [this, e]
       · exact .inr ⟨k, c, e, z.sameBut hs (cne y c e)⟩
   · obtain ⟨w', z⟩ := I.cell y c e
     exact ⟨w', z.sameBut hs (cne y c e)⟩
   · obtain ⟨e, n, ne, nf, d⟩ := I.pin p hp
     exact ⟨(hs.2 p.1 ne).trans e, n, ne, nf, d⟩
 · have hfn : X.fn x = true := by
    rcases hf with z | z
    · exact z
    · rw [z] at hk; cases hk
   obtain ⟨c, hc⟩ := I.ok.has x (.inl hk)
   obtain ⟨w', z⟩ := I.cell x c hc
   refine wpAny_storeName_cell I.ok.kind hk hc z (fun h' hc' hs => ?_)
   obtain ⟨oc, hoc, hocd⟩ := id z
   refine h { s with heap := h' } ⟨I.ok, I.os, I.bare, ⟨fun b o e n hb hx => ?_, fun b o e n hb hx => ?_, I.base.free, fun b o e hx => ?_, I.base.tups, I.base.frzs, I.base.tbls⟩, ⟨m, hn.sameBut hs (bp (cne x c hc)), fun j y v' e1 e2 e3 => ?_⟩, fun y c' e => ?_, I.free, I.freeC, fun p hp => ?_, tracked ⟨oc, hoc, I.freeC x c hc⟩ hs, by simpa using I.len⟩ ⟨c, hs, .inr hc⟩
   · exact (hs.2 b (aB (aF (ay e) (I.ok.cab x c hfn hc)))).trans (I.base.keep b o e n hb hx)
   · obtain ⟨sl, e1⟩ := I.base.slot b o e n hb hx
     exact ⟨sl, (hs.2 b (aB (aF (ay e) (I.ok.cab x c hfn hc)))).trans e1⟩
   · obtain ⟨o', e1⟩ := I.base.there b o e hx
     exact ⟨o', (hs.2 b (aB (aF (ay e) (I.ok.cab x c hfn hc)))).trans e1⟩
   · by_cases hj : j = i
     · subst hj
       rw [hi] at e1; cases e1
       rw [fc hiσ] at e2
       cases e2
       exact ⟨u, r, .inr ⟨.inl hk, c, hc, hc'⟩⟩
     · rw [fA (bp hj)] at e2
       obtain ⟨u', r', q⟩ := hl j y v' e1 e2 e3
       refine ⟨u', r', ?_⟩
       rcases q with q | ⟨k, c', e, z'⟩
       · exact .inl q
       · refine .inr ⟨k, c', e, z'.sameBut hs ?_⟩
         rintro rfl
         exact hj (zc2 hN e1 (I.ok.inj _ _ _ e hc ▸ hi))
   · by_cases hcc : c' = c
     · subst hcc; exact ⟨_, hc'⟩
     · obtain ⟨w2, z2⟩ := I.cell y c' e
       exact ⟨w2, z2.sameBut hs hcc⟩
   · obtain ⟨e, n, ne, nf, d⟩ := I.pin p hp
     refine ⟨(hs.2 p.1 ?_).trans e, n, ne, nf, d⟩
     intro q
     rw [q, hoc] at e
     have q' : oc = p.2 := ba e
     exact d w' (by rw [← q']; exact hocd)
theorem zc3 {E : Value -> Shared -> Prop} {Q : Unit -> Shared -> Prop} (I : Inv X pins σ H s) (hN : X.N.Nodup) (hi : X.N[i]? = some x) (hx : Loc X.env.scope x) (r : RelV v u)
 (h : ∀ s', Inv X pins (σ.set i (some v)) H s' -> Q () s') (hf : X.fn x = true \/ X.env.scope.names.lookup x = some .local := by first | exact .inl rfl | exact .inr rfl | assumption) : wpAny M A (storeName X.env x u) Q E s :=
 zbN I hN hi hx r (fun s' I' _ => h s' I') hf
theorem Inv.call' {s' : Shared} (I : Inv X pins σ H s) (ho : s'.os = s.os) (u : Un (Vg X.stack) ch H H' s.heap s'.heap) (hok : HOk X.prog X.w H' s'.heap) (hg : AllBare s'.gens)
 (hch : ∀ b ∈ ch, (b ∈ X.ex \/ X.s₀.heap.objs.size <= b) /\ b ≠ X.env.locals /\ (∀ x c, X.env.cells.lookup x = some c -> c ≠ b) /\ ∀ p ∈ X.pn ++ pins, p.1 ≠ b) : Inv X pins σ H' s' := by
 obtain ⟨h', g', d', t', o'⟩ := s'
 have e : o' = s.os := ho
 subst e
 exact I.call (g' := g') (t' := t') (d' := d') u hok hg hch
end
abbrev XK := Value -> Option Addr -> Hp -> Prop
abbrev St := List (Option V)
abbrev VK := V -> Hp -> Prop
abbrev TE := St -> Hp -> VK -> Prop
abbrev TT := St -> Hp -> (Bool -> Hp -> Prop) -> Prop
abbrev TA := St -> Hp -> (List V -> Hp -> Prop) -> Prop
structure zc4 where
 nx : St -> Hp -> Prop
 rt : VK
 bk : St -> Hp -> Prop := fun _ _ => False
 ct : St -> Hp -> Prop := fun _ _ => False
abbrev TS := zc4 -> St -> Hp -> Prop
def EP (X : Cx) (pins : List (Addr × Obj)) (σ : St) (Q : VK) (u : Value) (s' : Shared) : Prop := ∃ v H', Inv X pins σ H' s' /\ RelV v u /\ Q v H'
def TP (X : Cx) (pins : List (Addr × Obj)) (σ : St) (Q : Bool -> Hp -> Prop) (b : Bool) (s' : Shared) : Prop := ∃ H', Inv X pins σ H' s' /\ Q b H'
def AP (X : Cx) (pins : List (Addr × Obj)) (σ : St) (Q : List V -> Hp -> Prop) (us : List Value) (s' : Shared) : Prop := ∃ vs H', Inv X pins σ H' s' /\ Vals vs us /\ Q vs H'
def SP (X : Cx) (pins : List (Addr × Obj)) (D : zc4) (f : Flow) (s' : Shared) : Prop :=
 match f with
 | .next => ∃ σ' H', Inv X pins σ' H' s' /\ D.nx σ' H'
 | .brk => ∃ σ' H', Inv X pins σ' H' s' /\ D.bk σ' H'
 | .cont => ∃ σ' H', Inv X pins σ' H' s' /\ D.ct σ' H'
 | .ret u => ∃ v σ' H', Inv X pins σ' H' s' /\ RelV v u /\ D.rt v H'
def PE (X : Cx) (e : Expr) (t : TE) : Prop :=
 ∀ (pins : List (Addr × Obj)) (s : Shared) (σ : St) (H : Hp) (Q : VK), Inv X pins σ H s -> t σ H Q -> wpAny (model X.prog X.w) X.A (eval e X.env) (EP X pins σ Q) X.xe s
def PT (X : Cx) (e : Expr) (t : TT) : Prop :=
 ∀ (pins : List (Addr × Obj)) (s : Shared) (σ : St) (H : Hp) (Q : Bool -> Hp -> Prop), Inv X pins σ H s -> t σ H Q -> wpAny (model X.prog X.w) X.A (isTrue e X.env (eval e X.env)) (TP X pins σ Q) X.xe s
def PW (X : Cx) (e : Expr) (t : TT) : Prop :=
 ∀ (whole : Sem Value) (pins : List (Addr × Obj)) (s : Shared) (σ : St) (H : Hp) (Q : Bool -> Hp -> Prop), Inv X pins σ H s -> t σ H Q -> wpAny (model X.prog X.w) X.A (isTrue e X.env whole) (TP X pins σ Q) X.xe s
theorem PW.pt (h : PW X e t) : PT X e t := h _
def PA (X : Cx) (es : List Expr) (t : TA) : Prop :=
 ∀ (pos : Pos) (pins : List (Addr × Obj)) (s : Shared) (σ : St) (H : Hp) (Q : List V -> Hp -> Prop), Inv X pins σ H s -> t σ H Q -> wpAny (model X.prog X.w) X.A (spliced (backTo pos (ap es X.env))) (AP X pins σ Q) X.xe s
def PS (X : Cx) (st : Stmt) (t : TS) : Prop :=
 ∀ (pins : List (Addr × Obj)) (s : Shared) (σ : St) (H : Hp) (D : zc4), Inv X pins σ H s -> t D σ H -> wpAny (model X.prog X.w) X.A (exec st X.env) (SP X pins D) X.xe s
def PSs (X : Cx) (st : List Stmt) (t : TS) : Prop :=
 ∀ (pins : List (Addr × Obj)) (s : Shared) (σ : St) (H : Hp) (D : zc4), Inv X pins σ H s -> t D σ H -> wpAny (model X.prog X.w) X.A (execs st X.env) (SP X pins D) X.xe s
theorem zZ {α : Type} {t : Sem α} {Q Q' : α -> Shared -> Prop} {M : Model} {A : Around} {E : Value -> Shared -> Prop} {s : Shared} (h : wpAny M A t Q E s) (hQ : ∀ a s, Q a s -> Q' a s) : wpAny M A t Q' E s := cL h hQ fun _ _ x => x
section
variable {X : Cx}
def QB (i : Nat) : TE := fun σ H Q => ∃ v, σ[i]? = some (some v) /\ Q v H
def tC (v : V) : TE := fun _ H Q => Q v H
theorem QC (hN : X.N[i]? = some x) (hv : Z5 X.env.scope x) (hd : (x == ("__debug__" : Str)) = false := by decide) (hcd : (x == ("__classdict__" : Str)) = false := by decide) : PE X (.Name x pos) (QB i) := by
 intro pins s σ H Q I h
 obtain ⟨v, e, h⟩ := h
 obtain ⟨m, hn, hl⟩ := I.loc
 obtain ⟨u, r, l⟩ := hl i x v hN e hv
 have fin : EP X pins σ Q u s := ⟨v, H, I, r, h⟩
 rcases l with ⟨hk, hm⟩ | ⟨hk, c, hc, hcell⟩
 · exact h9 (wpAny_loadName_local I.ok.kind hk hn hm fin) hd
 · rcases hk with hk | hk
   · exact h9 (wpAny_loadName_cell I.ok.kind hk hc hcell fin) hd
   · exact h9 (wpAny_loadName_free I.ok.kind hk hc hcell fin hcd) hd
theorem zl4 : PE X (.Constant (.int i) j pos) (tC (.int i)) := fun _ _ _ H _ I h => wpAny_Constant_int ⟨.int i, H, I.tok _, ⟨_, rfl⟩, h⟩
theorem znN : PE X (.Constant (.bool b) j pos) (tC (.bl b)) := fun _ _ _ H _ I h => Constant_bool ⟨.bl b, H, I, rfl, h⟩
theorem zg4 : PE X (.Constant (.str x) j pos) (tC (.str x)) := fun _ _ _ H _ I h => Calls.Constant_str ⟨.str x, H, I.tok _, ⟨_, rfl⟩, h⟩
def Gl (X : Cx) (x : Str) : Prop := X.env.kindOf x = some .globalImplicit
theorem zbc {E : Value -> Shared -> Prop} {Q : Value -> Shared -> Prop} (I : Inv X pins σ H s) (hg : Gl X x) (hm : X.mg x = some u) (h : Q u s)
 (hd : (x == ("__debug__" : Str)) = false := by decide) : wpAny (model X.prog X.w) X.A (eval (.Name x pos) X.env) Q E s :=
 ey I.ok.kind hg (Calls.loadGlobal_global (by rw [I.ok.glob]; exact I.mod.glob.keeps I.bk) hm h) hd
theorem Vh {E : Value -> Shared -> Prop} {Q : Value -> Shared -> Prop} (I : Inv X pins σ H s) (hg : Gl X x) (hm : X.mg x = none) (hv : bN x = some u) (h : Q u s)
 (hn : x ≠ "__name__" := by decide) (hd : (x == ("__debug__" : Str)) = false := by decide) : wpAny (model X.prog X.w) X.A (eval (.Name x pos) X.env) Q E s := by
 obtain ⟨mb, h1, h2⟩ := I.mod.blt
 exact ey I.ok.kind hg (Calls.loadGlobal_builtin (by rw [I.ok.glob]; exact I.mod.glob.keeps I.bk) hm (by rw [I.ok.blt]; exact h1.keeps I.bk) ((h2 x hn).trans hv) h) hd
theorem zbd (hg : Gl X x) (hm : X.mg x = some u) (r : RelV v u) (hd : (x == ("__debug__" : Str)) = false := by decide) : PE X (.Name x pos) (tC v) :=
 fun _ _ _ H _ I h => zbc I hg hm ⟨v, H, I, r, h⟩ hd
theorem zkY (hg : Gl X x) (hm : X.mg x = none) (hv : bN x = some u) (r : RelV v u) (hn : x ≠ "__name__" := by decide) (hd : (x == ("__debug__" : Str)) = false := by decide) : PE X (.Name x pos) (tC v) :=
 fun _ _ _ H _ I h => Vh I hg hm hv ⟨v, H, I, r, h⟩ hn hd
variable {a b : Expr} {ta tb : TE} {pos : Pos}
def tB (t : TE) : TT := fun σ H Q => t σ H fun x H1 => ∃ c, x = .bl c /\ Q c H1
theorem zl5 {e : Expr} {t : TE} (h : PE X e t) (he : ∀ whole, isTrue e X.env whole = (do let v ← whole; fg e.pos; cW [v] (truthy v)) := by intro _; rfl) : PT X e (tB t) := by
 intro pins s σ H Q I hw
 refine isTrue_plain (zZ (h pins s σ H _ I hw) fun v s1 ⟨x, H1, I1, r1, q1⟩ => ?_) (he _)
 obtain ⟨d, rfl, q⟩ := q1
 cases r1
 exact bi ⟨H1, I1, q⟩
variable {tA tB' : TT} {rest : List Expr}
def tOr (t u : TT) : TT := fun σ H Q => t σ H fun c H1 => if c = true then Q true H1 else u σ H1 Q
def zl6 (t : TT) : TT := fun σ H Q => t σ H fun c H1 => Q (!c) H1
theorem zl7 (ha : PT X a tA) : PW X (.BoolOp .Or [a] pos) tA := by
 intro wh pins s σ H Q I h
 refine isTrue_or (zZ (ha pins s σ H Q I h) fun c s1 e => ?_)
 cases c with
 | false => exact isTrue_or_nil e
 | true => exact e
theorem znO (ha : PT X a tA) (hb : PW X (.BoolOp .Or (b :: rest) pos) tB') : PW X (.BoolOp .Or (a :: b :: rest) pos) (tOr tA tB') := by
 intro wh pins s σ H Q I h
 refine isTrue_or (zZ (ha pins s σ H _ I h) fun c s1 ⟨H1, I1, q1⟩ => ?_)
 cases c with
 | true => exact ⟨H1, I1, q1⟩
 | false => exact hb wh pins s1 σ H1 Q I1 q1
theorem zl8 (ha : PT X a tA) : PT X (.UnaryOp .Not a pos) (zl6 tA) := by
 intro pins s σ H Q I h
 exact isTrue_not (ha pins s σ H (fun c H1 => Q (!c) H1) I h)
def zko (ta tb : TE) : TE := fun σ H Q => ta σ H fun x H1 => ∃ c, x = .bl c /\ if c = true then tb σ H1 Q else Q (.bl false) H1
def zkp (ta : TE) : TE := fun σ H Q => ta σ H fun x H1 => ∃ c, x = .bl c /\ Q (.bl (!c)) H1
theorem zl9 (h : PE X a t) : PE X (.BoolOp op [a] pos) t := fun pins s σ H Q I hw => BoolOp_one (h pins s σ H Q I hw)
theorem zl_ (ha : PE X a ta) (hb : PE X (.BoolOp .And (b :: rest) pos) tb) : PE X (.BoolOp .And (a :: b :: rest) pos) (zko ta tb) := by
 intro pins s σ H Q I h
 refine BoolOp_and (zZ (ha pins s σ H _ I h) fun v s1 ⟨x, H1, I1, r1, q1⟩ => ?_)
 obtain ⟨c, rfl, q1⟩ := q1
 cases r1
 refine bi ?_
 cases c with
 | true => exact hb pins s1 σ H1 Q I1 q1
 | false => exact ⟨.bl false, H1, I1, rfl, q1⟩
theorem zma (ha : PE X a ta) : PE X (.UnaryOp .Not a pos) (zkp ta) := by
 intro pins s σ H Q I h
 refine UnaryOp_ (zZ (ha pins s σ H _ I h) fun v s1 ⟨x, H1, I1, r1, q1⟩ => ?_)
 obtain ⟨c, rfl, q1⟩ := q1
 cases r1
 exact not_of (bi ⟨.bl (!c), H1, I1, rfl, q1⟩)
end
def jQ (K : aj) (H : Hp) (a : Addr) (xs : List V) : Prop :=
 Rd H a (.lst xs) \/
  ∃ (o : Obj) (its : Array Value) (n : Nat), K.lookup a = some o /\ o.cls = .type "list" /\ o.dict = none /\ o.data = .seq its n /\ its.size <= aG /\ Vals xs its.toList
def SqT (K : aj) (H : Hp) (a : Addr) (xs : List V) : Prop :=
 Rd H a (.tup xs) \/
  ∃ (o : Obj) (its : Array Value) (n : Nat), K.lookup a = some o /\ o.cls = .type "tuple" /\ o.data = .seq its n /\ its.size <= aG /\ Vals xs its.toList
def zoI : Value -> Option V
 | .none => some .non
 | .bool b => some (.bl b)
 | .int i _ => some (.int i)
 | .str x _ => some (.str x)
 | .bytes b _ => some (.byt b)
 | .float b _ => some (.flt b)
 | .ref a => some (.ref a)
 | .type n => some (.ty n)
 | _ => none
theorem RelV.abs (r : RelV x u) : zoI u = some x := by
 cases x with
 | non => cases r; rfl
 | bl _ => cases r; rfl
 | int _ => obtain ⟨t, rfl⟩ := r; rfl
 | str _ => obtain ⟨t, rfl⟩ := r; rfl
 | byt _ => obtain ⟨t, rfl⟩ := r; rfl
 | flt _ => obtain ⟨t, rfl⟩ := r; rfl
 | ref _ => cases r; rfl
 | ty _ => cases r; rfl
theorem RelV.inj (r : RelV x u) (q : RelV y u) : x = y := ba (r.abs.symm.trans q.abs)
theorem Vals.inj : ∀ {xs ys : List V} {us : List Value}, Vals xs us -> Vals ys us -> xs = ys
 | _, _, _, .nil, .nil => rfl
 | _, _, _, .cons r t, .cons r' t' => by rw [r.inj r', Vals.inj t t']
section
variable {X : Cx} {pins : List (Addr × Obj)} {σ : St} {H : Hp} {s : Shared} {a : Addr} {xs ys : List V}
theorem SqT.of {K : aj} (h : H a = some (.tup xs)) : SqT K H a xs := .inl (.inl h)
theorem Inv.list (I : Inv X pins σ H s) (h : jQ X.K H a xs) : ∃ its : List Value, Vals xs its /\ PlainL s.heap a its.toArray /\ xs.length <= aG := by
 rcases h with h | ⟨o, its, n, hk, hc, hd, hs, hz, r⟩
 · obtain ⟨z, its, n, r, e⟩ := h.ok I.hok
   exact ⟨its, r, ⟨_, n, e, rfl, rfl, rfl⟩, z⟩
 · refine ⟨its.toList, r, ⟨o, n, I.kIn a o hk, hc, hd, by simpa using hs⟩, ?_⟩
   have e := r.length
   simp only [fK] at e
   omega
theorem Inv.tuple (I : Inv X pins σ H s) (h : SqT X.K H a xs) : ∃ its : List Value, Vals xs its /\ IsTup s.heap a its.toArray /\ xs.length <= aG := by
 rcases h with h | ⟨o, its, n, hk, hc, hs, hz, r⟩
 · obtain ⟨z, its, r, p⟩ := h.ok I.hok
   exact ⟨its, r, p, z⟩
 · refine ⟨its.toList, r, ⟨o, I.kIn a o hk, hc, n, by simpa using hs⟩, ?_⟩
   have e := r.length
   simp only [fK] at e
   omega
theorem Inv.list_inj (I : Inv X pins σ H s) (h : jQ X.K H a xs) (h' : jQ X.K H a ys) : xs = ys := by
 obtain ⟨its, r, ⟨o, n, e, _, _, d⟩, _⟩ := I.list h
 obtain ⟨its', r', ⟨o', n', e', _, _, d'⟩, _⟩ := I.list h'
 rw [e] at e'; cases e'
 rw [d] at d'
 injection d' with d1 _
 have : its = its' := by simpa using congrArg Array.toList d1
 subst this
 exact r.inj r'
end
abbrev Cx.wish (X : Cx) (E : Value -> Shared -> Prop) : Cx := { X with xe := E }
abbrev Cx.nox (X : Cx) : Cx := X.wish fun _ _ => False
theorem Cx.Ok.wish {X : Cx} (ok : X.Ok) (E : Value -> Shared -> Prop) : (X.wish E).Ok :=
 ⟨ok.mod, ok.kind, ok.glob, ok.blt, ok.above, ok.inj, ok.has, ok.cab, ok.hd, ok.frames, ok.stk, ok.exf, ok.bs, ok.bsz, ok.noex, ok.exfs, ok.funs, ok.frf⟩
theorem Cx.Ok.unwish {X : Cx} {E : Value -> Shared -> Prop} (ok : (X.wish E).Ok) : X.Ok :=
 ⟨ok.mod, ok.kind, ok.glob, ok.blt, ok.above, ok.inj, ok.has, ok.cab, ok.hd, ok.frames, ok.stk, ok.exf, ok.bs, ok.bsz, ok.noex, ok.exfs, ok.funs, ok.frf⟩
section
variable {X : Cx} {pins : List (Addr × Obj)} {σ : St} {H : Hp} {s : Shared} {E : Value -> Shared -> Prop}
theorem Inv.wish (I : Inv X pins σ H s) (E : Value -> Shared -> Prop) : Inv (X.wish E) pins σ H s := ⟨I.ok.wish E, I.os, I.bare, I.base, I.loc, I.cell, I.free, I.freeC, I.pin, I.hok, I.len⟩
theorem Inv.unwish (I : Inv (X.wish E) pins σ H s) : Inv X pins σ H s := ⟨I.ok.unwish, I.os, I.bare, I.base, I.loc, I.cell, I.free, I.freeC, I.pin, I.hok, I.len⟩
theorem SP.unwish (h : SP (X.wish E) pins D f s') : SP X pins D f s' := by
 cases f with
 | next => obtain ⟨σ', H', I, q⟩ := h; exact ⟨σ', H', I.unwish, q⟩
 | brk => obtain ⟨σ', H', I, q⟩ := h; exact ⟨σ', H', I.unwish, q⟩
 | cont => obtain ⟨σ', H', I, q⟩ := h; exact ⟨σ', H', I.unwish, q⟩
 | ret u => obtain ⟨v, σ', H', I, r, q⟩ := h; exact ⟨v, σ', H', I.unwish, r, q⟩
theorem PSs.nox {st : List Stmt} {t : TS} (h : PSs X.nox st t) : PSs X st t := fun pins s σ H D I hw =>
 cL (h pins s σ H D (I.wish _) hw) (fun _ _ q => q.unwish) fun _ _ z => aa z
end
section
variable {X : Cx} {st : Stmt} {rest : List Stmt} {t u : TS} {e : Expr} {te : TE} {pos : Pos}
def zkq : TS := fun D σ H => D.nx σ H
def zmb (t u : TS) : TS := fun D σ H => t { D with nx := u D } σ H
theorem zkZ : PSs X [] zkq := fun _ _ σ H _ I h => fm ⟨σ, H, I, h⟩
theorem ziR (h1 : PS X st t) (h2 : PSs X rest u) : PSs X (st :: rest) (zmb t u) := by
 intro pins s σ H D I h
 refine wpAny_execs_cons (zZ (h1 pins s σ H { D with nx := u D } I h) fun f s1 q => ?_)
 cases f with
 | next =>
  obtain ⟨σ', H', I', q⟩ := q
  exact h2 pins s1 σ' H' D I' q
 | ret v => exact q
 | brk => exact q
 | cont => exact q
theorem zk0 (h1 : PS X st t) : PSs X [st] t := by
 intro pins s σ H D I h
 refine wpAny_execs_cons (zZ (h1 pins s σ H D I h) fun f s1 q => ?_)
 cases f with
 | next => exact fm q
 | ret v => exact q
 | brk => exact q
 | cont => exact q
theorem Inv.quiet (I : Inv X pins σ H s) : interactive X.env = false := by simp [interactive, I.ok.kind]
def zkr (te : TE) : TS := fun D σ H => te σ H fun _ H1 => D.nx σ H1
theorem zk1 (he : PE X e te) (hs : du e none pos.line X.env = pure false := by rfl) : PS X (.Expr e pos) (zkr te) := by
 intro pins s σ H D I h
 exact wpAny_Expr_any (zZ (he pins s σ H _ I h) fun v s1 ⟨x, H1, I1, r1, q1⟩ => ⟨σ, H1, I1, q1⟩) I.quiet hs
def ziS (te : TE) : TS := fun D σ H => te σ H D.rt
theorem zg5 (he : PE X e te) : PS X (.Return (some e) pos) (ziS te) := by
 intro pins s σ H D I h
 exact wpAny_Return_some (zZ (he pins s σ H _ I h) fun v s1 ⟨x, H1, I1, r1, q1⟩ => ⟨x, σ, H1, I1, r1, q1⟩)
def zmc (c : TT) (t u : TS) : TS := fun D σ H => c σ H fun b H1 => if b = true then t D σ H1 else u D σ H1
theorem znP {c : Expr} {a b : List Stmt} {tc : TT} (hc : PT X c tc) (ha : PSs X a t) (hb : PSs X b u) : PS X (.If c a b pos) (zmc tc t u) := by
 intro pins s σ H D I h
 refine wpAny_If (zZ (hc pins s σ H _ I h) fun d s1 ⟨H1, I1, q1⟩ => ?_)
 cases d with
 | true => exact ha pins s1 σ H1 D I1 q1
 | false => exact hb pins s1 σ H1 D I1 q1
def zmd : TS := fun _ _ _ => False
theorem ziT : PS X st zmd := fun _ _ _ _ _ _ h => h.elim
end
abbrev TG := V -> St -> Hp -> (St -> Hp -> Prop) -> Prop
abbrev TGs := List V -> St -> Hp -> (St -> Hp -> Prop) -> Prop
def PG (X : Cx) (target : Expr) (t : TG) : Prop :=
 ∀ (pins : List (Addr × Obj)) (s : Shared) (σ : St) (H : Hp) (v : V) (u : Value) (Q : St -> Hp -> Prop), Inv X pins σ H s -> RelV v u -> t v σ H Q ->
  wpAny (model X.prog X.w) X.A (assign target X.env u) (fun _ s' => ∃ σ' H', Inv X pins σ' H' s' /\ Q σ' H') X.xe s
def PGs (X : Cx) (ts : List Expr) (t : TGs) : Prop :=
 ∀ (pins : List (Addr × Obj)) (s : Shared) (σ : St) (H : Hp) (vs : List V) (us : List Value) (Q : St -> Hp -> Prop), Inv X pins σ H s -> Vals vs us -> t vs σ H Q ->
  wpAny (model X.prog X.w) X.A (assignInOrder ((cv ts X.env).map (·.2)) us) (fun _ s' => ∃ σ' H', Inv X pins σ' H' s' /\ Q σ' H') X.xe s
abbrev ziU := V -> V -> V -> Hp -> (Hp -> Prop) -> Prop
def zme (X : Cx) (t : ziU) : Prop :=
 ∀ (pins : List (Addr × Obj)) (s : Shared) (σ : St) (H : Hp) (o i v : V) (ov iv u : Value) (Q : Hp -> Prop), Inv X pins σ H s -> RelV o ov -> RelV i iv -> RelV v u -> t o i v H Q ->
  wpAny (model X.prog X.w) X.A (setItem ov iv u) (fun _ s' => ∃ H', Inv X pins σ H' s' /\ Q H') X.xe s
section
variable {X : Cx} {pos : Pos}
def V5 (i : Nat) : TG := fun v σ H Q => Q (σ.set i (some v)) H
theorem zk2 (hN : X.N.Nodup) (hi : X.N[i]? = some x) (hx : Loc X.env.scope x) (hf : X.fn x = true \/ X.env.scope.names.lookup x = some .local := by first | exact .inl rfl | exact .inr rfl | assumption) : PG X (.Name x pos) (V5 i) := by
 intro pins s σ H v u Q I r h
 exact wpAny_assign_Name (zc3 I hN hi hx r (fun s' I' => ⟨_, H, I', h⟩) hf)
def gNil : TGs := fun vs σ H Q => vs = [] /\ Q σ H
def gCons (t : TG) (u : TGs) : TGs := fun vs σ H Q => ∃ v r, vs = v :: r /\ t v σ H fun σ' H' => u r σ' H' Q
theorem zk3 : PGs X [] gNil := by
 intro pins s σ H vs us Q I r h
 obtain ⟨e, h⟩ := h
 subst e
 cases r
 exact assignInOrder_nil ⟨σ, H, I, h⟩
theorem ziV {e : Expr} {es : List Expr} {t : TG} {u : TGs} (h1 : PG X e t) (h2 : PGs X es u)
 (hs : (cv (e :: es) X.env).map (·.2) = assign e X.env :: (cv es X.env).map (·.2) := by rfl) : PGs X (e :: es) (gCons t u) := by
 intro pins s σ H vs us Q I r h
 obtain ⟨v, vr, e1, h⟩ := h
 subst e1
 cases r with
 | cons r rr =>
  rw [hs]
  refine assignInOrder_cons (zZ (h1 pins s σ H _ _ _ I r h) fun _ s1 ⟨σ1, H1, I1, q1⟩ => ?_)
  exact h2 pins s1 σ1 H1 _ _ Q I1 rr q1
def gTup (K : aj) (n : Nat) (t : TGs) : TG := fun v σ H Q => ∃ a xs, v = .ref a /\ SqT K H a xs /\ xs.length = n /\ t xs σ H Q
theorem zmf (hc : X.calm = true) (h : PGs X es t)
 (hn : (cv es X.env).length = n := by rfl) (hst : (cv es X.env).findIdx? (·.1) = none := by rfl) : PG X (.Tuple es k pos) (gTup X.K n t) := by
 intro pins s σ H v u Q I r hw
 obtain ⟨a, xs, e1, hq, hl, hw⟩ := hw
 subst e1
 cases r
 obtain ⟨its, rv, ht, hz⟩ := I.tuple hq
 refine assign_Tuple_tuple (I.ok.hd hc) ht (by simp [hn, ← hl, rv.length]) hst fun h' hx => ?_
 have I1 : Inv X pins σ H { s with heap := h' } := I.kept (t' := s.toks) fun b o e => hx b o (aB (ay e)) e
 exact h pins _ σ H xs _ Q I1 (by simpa using rv) hw
def zmg (to ti : TE) (t : ziU) : TG := fun v σ H Q => to σ H fun o H1 => ti σ H1 fun i H2 => t o i v H2 fun H3 => Q σ H3
theorem zmh {o i : Expr} {to ti : TE} {t : ziU} (ho : PE X o to) (hi : PE X i ti) (hs : zme X t)
 (ha : ∀ v, assign (.Subscript o i pos) X.env v = (do
  let ov ← cW [v] (eval o X.env)
  let iv ← cW [v, ov] (eval i X.env)
  fg pos
  cW [v, ov, iv] (setItem ov iv v)
  release [v, ov, iv] []) := by intro _; rfl) : PG X (.Subscript o i pos) (zmg to ti t) := by
 intro pins s σ H v u Q I r h
 rw [ha]
 refine ab (bO (zZ (ho pins s σ H _ I h) fun ov s1 ⟨x, H1, I1, r1, q1⟩ => ?_))
 refine ab (bO (zZ (hi pins s1 σ H1 _ I1 q1) fun iv s2 ⟨y, H2, I2, r2, q2⟩ => ?_))
 refine ab (fP (ab (bO (zZ (hs pins s2 σ H2 x y v ov iv u _ I2 r1 r2 r q2) fun _ s3 ⟨H3, I3, q3⟩ => ?_))))
 exact wpAny_release ⟨σ, H3, I3, q3⟩
def zbe (te : TE) (g : TG) : TS := fun D σ H => te σ H fun x H1 => g x σ H1 D.nx
theorem zmi {tg e : Expr} {te : TE} {g : TG} (he : PE X e te) (hg : PG X tg g) (hs : swapsWithSole [tg] e pos.line X.env = pure false := by rfl) (hw : swappedStores [tg] e X.env = pure none := by rfl)
 (h1 : (cv [tg] X.env).map (·.2) = [assign tg X.env] := by rfl) : PS X (.Assign [tg] e pos) (zbe te g) := by
 intro pins s σ H D I h
 refine wpAny_Assign_stores (zZ (he pins s σ H _ I h) fun v s1 ⟨x, H1, I1, r1, q1⟩ => ?_) hs hw
 rw [h1]
 exact zZ (hg pins s1 σ H1 x v _ I1 r1 q1) fun _ s2 q => q
theorem zg7 {i : Nat} {x : Str} {e : Expr} {te : TE} {pos' : Pos} (hN : X.N.Nodup) (hi : X.N[i]? = some x) (hx : Loc X.env.scope x) (he : PE X e te) (hs : du e (some (.Name x pos')) pos.line X.env = pure false := by rfl) (hf : X.fn x = true \/ X.env.scope.names.lookup x = some .local := by first | exact .inl rfl | exact .inr rfl | assumption) :
 PS X (.Assign [.Name x pos'] e pos) (zbe te (V5 i)) := by
 intro pins s σ H D I h
 refine wpAny_Assign_Name (zZ (he pins s σ H _ I h) fun v s1 ⟨y, H1, I1, r1, q1⟩ => ?_) hs
 exact zc3 I1 hN hi hx r1 (fun s2 I2 => ⟨_, H1, I2, q1⟩) hf
end
structure It where
 go : Nat -> Hp -> Prop
 yld : Nat -> Hp -> V -> Hp -> Prop
 stop : Nat -> Hp -> Prop
def FpOk (X : Cx) (pins : List (Addr × Obj)) (H : Hp) (b : Addr) : Prop :=
 H b = none /\ b ≠ X.env.locals /\ b ∉ X.fs /\ (b ∈ X.ex \/ X.s₀.heap.objs.size <= b) /\ (∀ x c, X.env.cells.lookup x = some c -> c ≠ b) /\ ∀ p ∈ X.pn ++ pins, p.1 ≠ b
theorem Inv.fpOk {s : Shared} (I : Inv X pins σ H s) (hb : s.heap.objs.size <= b) (hn : H' b = none) : FpOk X pins H' b := by
 refine ⟨hn, e9 (aF I.lt hb), I.nofs hb, .inr (aM I.sz hb), fun x c e z => ?_, fun p hp z => ?_⟩
 · obtain ⟨v, q⟩ := I.cell x c e
   exact absurd (aF q.lt (by rw [z]; exact hb)) (bV _)
 · exact absurd (aF (ay (I.pin p hp).1) (by rw [z]; exact hb)) (bV _)
structure zc6 (P : Program) (w : World) (K : aj) (tg : Expr) (J : It) (fp : List Addr) (it : Addr) (tn : Nat -> Heap -> Prop) : Prop where
 mem : it ∈ fp
 obj : ∀ i h, tn i h -> ∀ b ∈ fp, ∃ o, h.get? b = some o /\ ∀ v, o.data ≠ .cell v
 keep : ∀ i h h', tn i h -> (∀ b ∈ fp, ∀ o, h.get? b = some o -> h'.get? b = some o) -> tn i h'
 item : ∀ (X : Cx), X.prog = P -> X.w = w -> X.K = K -> X.calm = true -> ∀ (i : Nat) (pins : List (Addr × Obj)) (s : Shared) (σ : St) (H : Hp) (E : Value -> Shared -> Prop), Inv X pins σ H s -> (∀ b ∈ fp, FpOk X pins H b) -> tn i s.heap -> J.go i H ->
  wpAny (model P w) X.A (pyNext (.ref it)) (fun r s1 => ∃ u, r = some u /\
   wpAny (model P w) X.A (dj tg (.ref it) u) (fun _ s2 => ∃ x H', Inv X pins σ H' s2 /\ RelV x u /\ J.yld i H x H' /\ tn (i + 1) s2.heap /\ ∀ b ∈ fp, H' b = none) E s1) E s
 done : ∀ (X : Cx), X.prog = P -> X.w = w -> X.K = K -> X.calm = true -> ∀ (i : Nat) (pins : List (Addr × Obj)) (s : Shared) (σ : St) (H : Hp) (E : Value -> Shared -> Prop), Inv X pins σ H s -> (∀ b ∈ fp, FpOk X pins H b) -> tn i s.heap -> J.stop i H ->
  wpAny (model P w) X.A (pyNext (.ref it)) (fun r s1 => r = none /\ Inv X pins σ H s1) E s
 self : ∀ (A : Around) (i : Nat) (s : Shared) (Q : Value -> Shared -> Prop) (E : Value -> Shared -> Prop), tn i s.heap -> Q (.ref it) s -> wpAny (model P w) A (pyIter (.ref it)) Q E s
abbrev TI := St -> Hp -> (It -> Hp -> Prop) -> Prop
def PIE (X : Cx) (pins : List (Addr × Obj)) (σ : St) (tg : Expr) (R : It -> Hp -> Prop) (itv : Value) (s2 : Shared) : Prop :=
 ∃ (it : Addr) (fp : List Addr) (tn : Nat -> Heap -> Prop) (J : It) (H' : Hp), itv = .ref it /\ Inv X pins σ H' s2 /\ zc6 X.prog X.w X.K tg J fp it tn /\ tn 0 s2.heap /\ (∀ b ∈ fp, FpOk X pins H' b) /\ R J H'
def PI (X : Cx) (tg iter : Expr) (wi : TI) : Prop :=
 ∀ (pins : List (Addr × Obj)) (s : Shared) (σ : St) (H : Hp) (R : It -> Hp -> Prop), Inv X pins σ H s -> wi σ H R ->
  wpAny (model X.prog X.w) X.A (eval iter X.env) (fun v s1 => wpAny (model X.prog X.w) X.A (pyIter v) (PIE X pins σ tg R) X.xe s1) X.xe s
theorem zfL {E : Value -> Shared -> Prop} {s : Shared} {o : Obj} {Q : Unit -> Shared -> Prop} (ho : s.heap.get? it = some o) (hc : o.cls = .type n) (hd : o.data = .fields vs)
 (hn : ["enumerate", "zip", "dict_itemiterator", "dict_reverseitemiterator", "odict_iterator", "itertools.zip_longest", "itertools.pairwise"].contains n = false) (hQ : Q () s) : wpAny M A (dj tg (.ref it) u) Q E s := by
 unfold dj
 cases tg <;> first
  | exact ao hQ
  | (cases u <;> first
   | exact ao hQ
   | (refine ab (wpAny_load ho ?_)
      rw [hc, hd]
      show wpAny M A (if (["enumerate", "zip", "dict_itemiterator", "dict_reverseitemiterator", "odict_iterator", "itertools.zip_longest", "itertools.pairwise"].contains n && vs[0]? == some (rawInt _)) = true then _ else _) Q E s
      rw [if_neg (by intro h; rw [hn, dB] at h; cases h)]
      exact ao hQ))
def Itl (K : aj) (a : Addr) : It :=
 ⟨fun i H => ∃ xs x, jQ K H a xs /\ xs[i]? = some x, fun i H x H' => H' = H /\ ∀ xs, jQ K H a xs -> xs[i]? = some x, fun i H => ∃ xs, jQ K H a xs /\ xs.length <= i⟩
def Itr (lo : Int) (n : Nat) : It := ⟨fun i _ => i < n, fun i H x H' => H' = H /\ x = .int (lo + i), fun i _ => n <= i⟩
theorem zg8 {P : Program} {w : World} {K : aj} {tg : Expr} (a it : Addr) : zc6 P w K tg (Itl K a) [it] it (fun i h => h.IsListIter it a i) where
 mem := by simp
 obj := fun i h st b hb => by
  have e : b = it := by simpa using hb
  subst e
  obtain ⟨o, e, c, d⟩ := st
  exact ⟨o, e, fun v z => by rw [d] at z; cases z⟩
 keep := fun i h h' st k => st.at fun o e => k it (by simp) o e
 item := by
  intro X hP hw hK hc i pins s σ H E I hf st hg
  subst hP hw hK
  obtain ⟨xs, x, hq, hx⟩ := hg
  obtain ⟨its, rv, p, hz⟩ := I.list hq
  obtain ⟨u, hu, ru⟩ := rv.get hx
  obtain ⟨f0, f1, f2, f3, f4, f5⟩ := hf it (by simp)
  refine wpAny_pyNext_list_item st p.isList (x := u) (by simpa using hu) fun h' st' sb => ?_
  have I1 : Inv X pins σ H { s with heap := h' } := I.turned (t' := s.toks) (fun b o hb e => (sb.2 b hb).trans e) f0 f1 f3 f4 f5
  obtain ⟨o, e, c, d⟩ := id st'
  exact ⟨u, rfl, zfL (s := { s with heap := h' }) e c d (by decide) ⟨x, H, I1, ru, ⟨rfl, fun ys hy => by rw [I.list_inj hy hq]; exact hx⟩, st', fun b hb => (hf b hb).1⟩⟩
 done := by
  intro X hP hw hK hc i pins s σ H E I hf st hg
  subst hP hw hK
  obtain ⟨xs, hq, hx⟩ := hg
  obtain ⟨its, rv, p, hz⟩ := I.list hq
  obtain ⟨f0, f1, f2, f3, f4, f5⟩ := hf it (by simp)
  have hl := rv.length
  exact wpAny_pyNext_list_end (I.ok.hd hc) st p.isList (by simp; omega) fun h' eb => ⟨rfl, I.turned (t' := s.toks) (fun b o hb e => eb b o hb e) f0 f1 f3 f4 f5⟩
 self := fun _ _ _ _ _ st h => wpAny_pyIter_listiter st h
theorem zfM {P : Program} {w : World} {K : aj} {tg : Expr} (it : Addr) (lo : Int) (n : Nat) : zc6 P w K tg (Itr lo n) [it] it (fun i h => IsRangeIter h it (lo + (i : Nat) * 1) ((n : Int) - (i : Nat)) 1) where
 mem := by simp
 obj := fun i h st b hb => by
  have e : b = it := by simpa using hb
  subst e
  exact ⟨_, st, fun v z => by
   have z' : Data.fields _ = Data.cell v := z
   cases z'⟩
 keep := fun i h h' st k => k it (by simp) _ st
 item := by
  intro X hP hw hK hc i pins s σ H E I hf st hg
  subst hP hw hK
  obtain ⟨f0, f1, f2, f3, f4, f5⟩ := hf it (by simp)
  have W := Walks.range (prog := X.prog) (w := X.w) (I.ok.hd hc) it lo 1 n
  refine W.item i s _ _ hg st fun v h' tk hv st' kk => ?_
  obtain ⟨t, rfl⟩ := hv
  have I1 : Inv X pins σ H { s with heap := h', toks := tk } := I.turned (fun b o hb e => kk b o (by simpa using hb) e) f0 f1 f3 f4 f5
  refine ⟨_, rfl, zfL (s := { s with heap := h', toks := tk }) (n := "range_iterator") st' rfl rfl (by decide) ⟨.int (lo + i), H, I1, ⟨t, ?_⟩, ⟨rfl, rfl⟩, st', fun b hb => (hf b hb).1⟩⟩
  rw [Int.mul_one]
 done := by
  intro X hP hw hK hc i pins s σ H E I hf st hg
  subst hP hw hK
  obtain ⟨f0, f1, f2, f3, f4, f5⟩ := hf it (by simp)
  exact wpAny_pyNext_range_end (I.ok.hd hc) st (by have : n <= i := hg; omega) fun h' eb => ⟨rfl, I.turned (t' := s.toks) (fun b o hb e => eb b o hb e) f0 f1 f3 f4 f5⟩
 self := fun _ _ _ _ _ st h => wpAny_pyIter_rangeiter st h
section
variable {X : Cx} {tg : Expr}
def zkt (K : aj) (tl : TE) : TI := fun σ H R => tl σ H fun x H1 => ∃ a, x = .ref a /\ (∃ xs, jQ K H1 a xs) /\ R (Itl K a) H1
theorem zk4 {l : Expr} {tl : TE} (hl : PE X l tl) : PI X tg l (zkt X.K tl) := by
 intro pins s σ H R I h
 refine zZ (hl pins s σ H _ I h) fun v s1 ⟨x, H1, I1, r1, q1⟩ => ?_
 obtain ⟨a, e, ⟨xs, hq⟩, q⟩ := q1
 subst e
 cases r1
 obtain ⟨its, rv, p, hz⟩ := I1.list hq
 refine cn p.isList ?_
 refine ⟨s1.heap.objs.size, [s1.heap.objs.size], _, _, H1, rfl, I1.kept (t' := s1.toks) fun b o e => ak _ e, zg8 a _, ⟨_, aE _ rfl, rfl, rfl⟩, fun b hb => ?_, q⟩
 have e : b = s1.heap.objs.size := by simpa using hb
 subst e
 exact I1.fpOk (az _) (I1.hok.fresh (az _))
theorem ziW {pins : List (Addr × Obj)} {σ : St} {H : Hp} {s : Shared} {R : It -> Hp -> Prop} {E : Value -> Shared -> Prop} {lo hi : Int} {t u v : Tok} {tk : Nat} (I : Inv X pins σ H s) (h1 : -(2 ^ 62) <= lo) (h2 : lo < 2 ^ 62) (h3 : -(2 ^ 62) <= hi) (h4 : hi < 2 ^ 62)
 (q : R (Itr lo (hi - lo).toNat) H) : wpAny (model X.prog X.w) X.A (pyIter (.ref s.heap.objs.size)) (PIE X pins σ tg R) E { s with heap := s.heap.push { cls := .type "range", data := .fields #[.int lo t, .int hi u, .int 1 v] }, toks := tk } := by
 refine wpAny_pyIter_range (IsRange.new ..) (small_one h1 h2 h3 h4) ?_
 have I1 : Inv X pins σ H { s with heap := s.heap.push { cls := .type "range", data := .fields #[.int lo t, .int hi u, .int 1 v] }, toks := tk } := I.kept fun b o e => ak _ e
 refine ⟨(s.heap.push { cls := .type "range", data := .fields #[.int lo t, .int hi u, .int 1 v] }).objs.size, [(s.heap.push { cls := .type "range", data := .fields #[.int lo t, .int hi u, .int 1 v] }).objs.size], _, _, H, rfl,
  I1.kept (t' := tk) fun b o e => ak _ e, zfM _ lo (hi - lo).toNat, ?_, fun b hb => ?_, q⟩
 · have e1 : lo + ((0 : Nat) : Int) * 1 = lo := by simp
   have e2 : (((hi - lo).toNat : Nat) : Int) - ((0 : Nat) : Int) = Builtin.Range.rangeSize lo hi 1 := by rw [rangeSize_one]; split <;> omega
   show IsRangeIter _ _ (lo + ((0 : Nat) : Int) * 1) ((((hi - lo).toNat : Nat) : Int) - ((0 : Nat) : Int)) 1
   rw [e1, e2]
   exact aE _ rfl
 · have e : b = (s.heap.push { cls := .type "range", data := .fields #[.int lo t, .int hi u, .int 1 v] }).objs.size := by simpa using hb
   subst e
   exact I1.fpOk (az _) (I1.hok.fresh (az _))
def zku (ta : TA) : TI := fun σ H R => ta σ H fun vs H1 => ∃ j : Int, vs = [.int j] /\ -(2 ^ 62) <= j /\ j < 2 ^ 62 /\ R (Itr 0 j.toNat) H1
theorem zg9 (hg : Gl X "range") (hm : X.mg "range" = none) (ha : PA X [a] ta) (hs : ap [a] X.env = [(false, eval a X.env)] := by rfl) : PI X tg (.Call (.Name "range" p) [a] [] pos) (zku ta) := by
 intro pins s σ H R I h
 refine Call_ (Vh I hg hm boot_range (d5 (zZ (ha pos pins s σ H _ I h) fun us s1 ⟨vs, H1, I1, r1, q1⟩ => ?_) hs rfl))
 obtain ⟨j, e, q1, q2, q⟩ := q1
 subst e
 cases r1 with
 | cons r rr =>
  cases rr
  obtain ⟨t, rfl⟩ := r
  exact call_range_1 (ziW I1 (by omega) (by omega) q1 q2 (by simpa using q))
def zmk (wi : TI) (g : TG) (tb : TS) : TS := fun D σ H => wi σ H fun J H1 => ∃ W : Nat -> Nat -> St -> Hp -> Prop, (∃ m, W 0 m σ H1) /\ ∀ i m σ H, W i m σ H ->
 (J.stop i H /\ D.nx σ H) \/ (J.go i H /\ ∃ N : St -> Hp -> Prop, (∀ σ' H', N σ' H' -> ∃ m', m' < m /\ W (i + 1) m' σ' H') /\ ∀ x H', J.yld i H x H' -> g x σ H' fun σ2 H2 => tb { D with nx := N, ct := N, bk := D.nx } σ2 H2)
def Vi (fp : List Addr) (h : Heap) : List (Addr × Obj) := fp.filterMap fun b => (h.get? b).map fun o => (b, o)
theorem ZL {h : Heap} (hb : b ∈ fp) (e : h.get? b = some o) : (b, o) ∈ Vi fp h := fT.mpr ⟨b, hb, by rw [e]; rfl⟩
theorem zg_ {h : Heap} (hp : p ∈ Vi fp h) : p.1 ∈ fp /\ h.get? p.1 = some p.2 := by
 obtain ⟨b, hb, e⟩ := fT.mp hp
 cases q : h.get? b with
 | none => rw [q] at e; cases e
 | some o =>
  rw [q] at e
  have e' : (b, o) = p := ba e
  subst e'
  exact ⟨hb, q⟩
theorem Inv.pinned {s : Shared} (I : Inv X pins σ H s) (hf : ∀ b ∈ fp, FpOk X pins H b) (ho : ∀ b ∈ fp, ∃ o, s.heap.get? b = some o /\ ∀ v, o.data ≠ .cell v) : Inv X (pins ++ Vi fp s.heap) σ H s :=
 I.pins_of fun p hp => (aN.mp hp).elim (fun z => I.pin p (aC _ z)) fun z => by
  obtain ⟨hb, e⟩ := zg_ z
  obtain ⟨f0, f1, f2, _⟩ := hf p.1 hb
  obtain ⟨o, e', d⟩ := ho p.1 hb
  rw [e] at e'; cases e'
  exact ⟨e, f0, f1, f2, d⟩
theorem Inv.unpinned (I : Inv X (pins ++ pl) σ H s) : Inv X pins σ H s := I.pins_of fun p hp => I.pin p (aC _ (aS _ hp))
theorem zml (hp : PassesOwn (model X.prog X.w) X.A X.env X.xe) (hc : X.calm = true) (hi : PI X tg iter wi) (hg : PG X tg g) (hb : PSs X body tb)
 (hs : ∀ x, cp iter X.env x = pure x := by intro _; rfl) : PS X (.For tg iter body [] pos) (zmk wi g tb) := by
 intro pins s σ H D I h
 refine wpAny_For (zZ (hi pins s σ H _ I h) fun v s1 h1 => zZ h1 fun itv s2 h2 => ?_) hs
 obtain ⟨it, fp, tn, J, H2, e, I2, T, st2, f2, W, ⟨m0, w0⟩, turn⟩ := h2
 subst e
 have stat : ∀ {H' : Hp}, (∀ b ∈ fp, H' b = none) -> ∀ b ∈ fp, FpOk X pins H' b := fun hn b hb => ⟨hn b hb, (f2 b hb).2⟩
 refine codeAny_forLoop_any (fun n s' => ∃ i σ' H', Inv X pins σ' H' s' /\ tn i s'.heap /\ (∀ b ∈ fp, H' b = none) /\ W i n σ' H') ?_ m0 ⟨0, σ, H2, I2, st2, fun b hb => (f2 b hb).1, w0⟩
 rintro n s3 ⟨i, σ3, H3, I3, st3, fr3, w3⟩
 rcases turn i n σ3 H3 w3 with ⟨stop, qn⟩ | ⟨go, N, hN, step⟩
 · refine dk hp (zZ (T.done X rfl rfl rfl hc i pins s3 σ3 H3 X.xe I3 (stat fr3) st3 stop) fun r s4 ⟨hr, I4⟩ => ?_)
   subst hr
   exact fm ⟨σ3, H3, I4, qn⟩
 · refine dk hp (zZ (T.item X rfl rfl rfl hc i pins s3 σ3 H3 X.xe I3 (stat fr3) st3 go) fun r s4 ⟨u, hr, h4⟩ => ?_)
   subst hr
   refine dk hp (zZ h4 fun _ s5 ⟨x, H5, I5, r5, y5, st5, fr5⟩ => ?_)
   have I5' := I5.pinned (stat fr5) (T.obj _ _ st5)
   refine dk hp (zZ (hg _ s5 σ3 H5 x u _ I5' r5 (step x H5 y5)) fun _ s6 ⟨σ6, H6, I6, q6⟩ => ?_)
   refine dk hp (zZ (hb _ s6 σ6 H6 _ I6 q6) fun f s7 q7 => ?_)
   have again : ∀ {σ7 : St} {H7 : Hp}, Inv X (pins ++ Vi fp s5.heap) σ7 H7 s7 -> N σ7 H7 -> ∃ m, m < n /\ ∃ i σ' H', Inv X pins σ' H' s7 /\ tn i s7.heap /\ (∀ b ∈ fp, H' b = none) /\ W i m σ' H' := fun {σ7 H7} I7 n7 => by
    obtain ⟨m', hm, w7⟩ := hN σ7 H7 n7
    refine ⟨m', hm, i + 1, σ7, H7, I7.unpinned, T.keep _ _ _ st5 fun b hb o e => (I7.pin (b, o) (aC _ (aC _ (ZL hb e)))).1, fun b hb => ?_, w7⟩
    obtain ⟨o, e, d⟩ := T.obj _ _ st5 b hb
    exact (I7.pin (b, o) (aC _ (aC _ (ZL hb e)))).2.1
   cases f with
   | next => obtain ⟨σ7, H7, I7, n7⟩ := q7; exact again I7 n7
   | cont => obtain ⟨σ7, H7, I7, n7⟩ := q7; exact again I7 n7
   | brk => obtain ⟨σ7, H7, I7, q7⟩ := q7; exact ⟨σ7, H7, I7.unpinned, q7⟩
   | ret v => obtain ⟨x7, σ7, H7, I7, r7, q7⟩ := q7; exact ⟨x7, σ7, H7, I7.unpinned, r7, q7⟩
end
abbrev R2 := V -> V -> Hp -> VK -> Prop
def jV (X : Cx) (f : Value -> Value -> Sem Value) (r : R2) : Prop :=
 ∀ (pins : List (Addr × Obj)) (s : Shared) (σ : St) (H : Hp) (x y : V) (v u : Value) (Q : VK), Inv X pins σ H s -> RelV x v -> RelV y u -> r x y H Q ->
  wpAny (model X.prog X.w) X.A (f v u) (EP X pins σ Q) X.xe s
def jt (X : Cx) (f : Value) (r : List V -> Hp -> VK -> Prop) : Prop :=
 ∀ (pins : List (Addr × Obj)) (s : Shared) (σ : St) (H : Hp) (xs : List V) (us : List Value) (Q : VK), Inv X pins σ H s -> Vals xs us -> r xs H Q ->
  wpAny (model X.prog X.w) X.A (call f us) (EP X pins σ Q) X.xe s
def zoJ (X : Cx) (r : V -> Hp -> (Bool -> Hp -> Prop) -> Prop) : Prop :=
 ∀ (pins : List (Addr × Obj)) (s : Shared) (σ : St) (H : Hp) (x : V) (v : Value) (Q : Bool -> Hp -> Prop), Inv X pins σ H s -> RelV x v -> r x H Q ->
  wpAny (model X.prog X.w) X.A (truthy v) (TP X pins σ Q) X.xe s
def tOp (r : R2) (ta tb : TE) : TE := fun σ H Q => ta σ H fun x H1 => tb σ H1 fun y H2 => r x y H2 Q
def tUn (r : V -> Hp -> VK -> Prop) (ta : TE) : TE := fun σ H Q => ta σ H fun x H1 => r x H1 Q
def rI (C : Int -> Int -> Prop) (g : Int -> Int -> V) : R2 := fun x y H Q => ∃ i j, x = .int i /\ y = .int j /\ C i j /\ Q (g i j) H
def YY (g : Int -> Int -> V) : R2 := fun x y H Q => ∃ i j, x = .int i /\ y = .int j /\ Q (g i j) H
section
variable {X : Cx} {a b c : Expr} {ta tb tc : TE} {pos : Pos}
theorem ziX (ha : PE X a ta) (hb : PE X b tb) {R : V -> V -> Hp -> Prop} (I : Inv X pins σ H s)
 (h : ta σ H fun x H1 => tb σ H1 fun y H2 => R x y H2) {Q : Value -> Shared -> Prop} {f : Value -> Value -> Sem Value}
 (hf : ∀ v u s2 x y H2, Inv X pins σ H2 s2 -> RelV x v -> RelV y u -> R x y H2 -> wpAny (model X.prog X.w) X.A (f v u) Q X.xe s2) :
 wpAny (model X.prog X.w) X.A (eval a X.env) (fun v s₁ => wpAny (model X.prog X.w) X.A (eval b X.env) (fun u s₂ => wpAny (model X.prog X.w) X.A (f v u) Q X.xe s₂) X.xe s₁) X.xe s := by
 refine zZ (ha pins s σ H _ I h) fun v s1 ⟨x, H1, I1, r1, q1⟩ => ?_
 refine zZ (hb pins s1 σ H1 _ I1 q1) fun u s2 ⟨y, H2, I2, r2, q2⟩ => ?_
 exact hf v u s2 x y H2 I2 r1 r2 q2
theorem zkv (ho : jV X (dh op) r) (ha : PE X a ta) (hb : PE X b tb) : PE X (.BinOp a op b pos) (tOp r ta tb) := by
 intro pins s σ H Q I h
 exact wpAny_BinOp (ziX ha hb I h fun v u s2 x y H2 I2 rx ry q => ho pins s2 σ H2 x y v u Q I2 rx ry q)
theorem opI {f : Value -> Value -> Sem Value} {C : Int -> Int -> Prop} {g : Int -> Int -> Int}
 (rule : ∀ (i j : Int) (t u : Tok) (s : Shared) (Q : Value -> Shared -> Prop) (E : Value -> Shared -> Prop), C i j -> Q (.int (g i j) s.toks) { s with toks := s.toks + 1 } -> wpAny (model X.prog X.w) X.A (f (.int i t) (.int j u)) Q E s) :
 jV X f (rI C fun i j => .int (g i j)) := by
 intro pins s σ H x y v u Q I rx ry h
 obtain ⟨i, j, rfl, rfl, hc, q⟩ := h
 obtain ⟨t, rfl⟩ := rx
 obtain ⟨t', rfl⟩ := ry
 exact rule i j t t' s _ _ hc ⟨.int (g i j), H, I.tok _, ⟨_, rfl⟩, q⟩
theorem zmn {f : Value -> Value -> Sem Value} {g : Int -> Int -> Int}
 (rule : ∀ (i j : Int) (t u : Tok) (s : Shared) (Q : Value -> Shared -> Prop) (E : Value -> Shared -> Prop), Q (.int (g i j) s.toks) { s with toks := s.toks + 1 } -> wpAny (model X.prog X.w) X.A (f (.int i t) (.int j u)) Q E s) :
 jV X f (YY fun i j => .int (g i j)) := by
 intro pins s σ H x y v u Q I rx ry h
 obtain ⟨i, j, rfl, rfl, q⟩ := h
 obtain ⟨t, rfl⟩ := rx
 obtain ⟨t', rfl⟩ := ry
 exact rule i j t t' s _ _ ⟨.int (g i j), H, I.tok _, ⟨_, rfl⟩, q⟩
theorem zfN {f : Value -> Value -> Sem Value} {g : Int -> Int -> Bool}
 (rule : ∀ (i j : Int) (t u : Tok) (s : Shared) (Q : Value -> Shared -> Prop) (E : Value -> Shared -> Prop), Q (.bool (g i j)) s -> wpAny (model X.prog X.w) X.A (f (.int i t) (.int j u)) Q E s) :
 jV X f (YY fun i j => .bl (g i j)) := by
 intro pins s σ H x y v u Q I rx ry h
 obtain ⟨i, j, rfl, rfl, q⟩ := h
 obtain ⟨t, rfl⟩ := rx
 obtain ⟨t', rfl⟩ := ry
 exact rule i j t t' s _ _ ⟨.bl (g i j), H, I, rfl, q⟩
def Rk (i j : Int) : Prop := 0 <= j /\ j <= 1000000 /\ i.natAbs < 2 ^ 64
def CMul (i j : Int) : Prop := (-(2 ^ 64) < i /\ i < 2 ^ 64) \/ (-(2 ^ 64) < j /\ j < 2 ^ 64)
theorem CMul.ok (h : CMul i j) : IntMulOk i j := by
 rcases h with ⟨h1, h2⟩ | ⟨h1, h2⟩
 · exact .of_left (intBits_le_64 h1 h2)
 · exact .of_right (intBits_le_64 h1 h2)
theorem zmo : jV X (dh .Add) (YY fun i j => .int (i + j)) := zmn fun _ _ _ _ _ _ _ q => add_int q
theorem zmp : jV X (dh .Sub) (YY fun i j => .int (i - j)) := zmn fun _ _ _ _ _ _ _ q => sub_int q
theorem zmq : jV X (dh .Mult) (rI CMul fun i j => .int (i * j)) := opI fun _ _ _ _ _ _ _ hc q => mul_int q hc.ok
theorem zmr : jV X (dh .Mod) (rI (fun _ j => 0 < j) fun i j => .int (i % j)) := opI fun i j _ _ _ _ _ hc q => by
 have h1 : (0 : Int) < j := hc
 exact mod_int' (by omega) (by rw [Int.fmod_eq_emod_of_nonneg i (by omega)]; exact q)
theorem zms : jV X (dh .Pow) (rI Rk fun i j => .int (i ^ j.toNat)) := opI fun _ _ _ _ _ _ _ hc q => pow_int_small hc.1 hc.2.1 hc.2.2 q
end
def ziY : V -> V -> Bool
 | .non, .non => true | .non, .int _ => true | .int _, .non => true | .non, .bl _ => true | .bl _, .non => true | .non, .str _ => true | .str _, .non => true
 | .int _, .int _ => true | .bl _, .bl _ => true | .str _, .str _ => true | .byt _, .byt _ => true
 | .int _, .str _ => true | .str _, .int _ => true | .bl _, .str _ => true | .str _, .bl _ => true
 | _, _ => false
def rEq : R2 := fun x y H Q => ziY x y = true /\ Q (.bl (decide (x = y))) H
def rNe : R2 := fun x y H Q => ziY x y = true /\ Q (.bl (!decide (x = y))) H
theorem zeM : decide (V.int i = V.int j) = (i == j) := by
 rw [cN]
 simp
theorem zha : decide (V.bl i = V.bl j) = (i == j) := by
 rw [cN]
 simp
theorem zeN : decide (V.str i = V.str j) = (i == j) := by
 rw [cN]
 simp
theorem zeO {i j : Array UInt8} : decide (V.byt i = V.byt j) = (i.toList == j.toList) := by
 rw [cN]
 cases i
 cases j
 simp
section
variable {X : Cx} {a b c : Expr} {ta tb tc : TE} {pos : Pos}
theorem yi (I : Inv X pins σ H s) (q : Q (.bl k) H) (e : k = k') : EP X pins σ Q (.bool k') s := by
 subst e
 exact ⟨.bl k, H, I, rfl, q⟩
theorem jX : jV X (bA .Eq) rEq := by
 intro pins s σ H x y v u Q I rx ry h
 obtain ⟨hs, q⟩ := h
 cases x with
 | non =>
  cases rx
  cases y with
  | non => cases ry; exact PySem.EqNone.eq_none_none (yi I q (by simp))
  | bl j => cases ry; exact PySem.EqNone.eq_none_bool (yi I q (by simp))
  | int j => obtain ⟨t', rfl⟩ := ry; exact PySem.EqNone.eq_none_int (yi I q (by simp))
  | str j => obtain ⟨t', rfl⟩ := ry; exact PySem.EqNone.eq_none_str (yi I q (by simp))
  | _ => exact absurd (show false = true from hs) aw
 | bl i =>
  cases rx
  cases y with
  | non => cases ry; exact PySem.EqNone.eq_bool_none (yi I q (by simp))
  | bl j => cases ry; exact eq_bool (yi I q zha)
  | str j => obtain ⟨t', rfl⟩ := ry; exact PySem.EqMixed.eq_bool_str (yi I q (by simp))
  | _ => exact absurd (show false = true from hs) aw
 | int i =>
  obtain ⟨t, rfl⟩ := rx
  cases y with
  | non => cases ry; exact PySem.EqNone.eq_int_none (yi I q (by simp))
  | int j => obtain ⟨t', rfl⟩ := ry; exact eq_int (yi I q zeM)
  | str j => obtain ⟨t', rfl⟩ := ry; exact PySem.EqMixed.eq_int_str (yi I q (by simp))
  | _ => exact absurd (show false = true from hs) aw
 | str i =>
  obtain ⟨t, rfl⟩ := rx
  cases y with
  | non => cases ry; exact PySem.EqNone.eq_str_none (yi I q (by simp))
  | bl j => cases ry; exact PySem.EqMixed.eq_str_bool (yi I q (by simp))
  | int j => obtain ⟨t', rfl⟩ := ry; exact PySem.EqMixed.eq_str_int (yi I q (by simp))
  | str j => obtain ⟨t', rfl⟩ := ry; exact eq_str (yi I q zeN)
  | _ => exact absurd (show false = true from hs) aw
 | byt i =>
  obtain ⟨t, rfl⟩ := rx
  cases y with
  | byt j => obtain ⟨t', rfl⟩ := ry; exact PySem.W.eq_bytes (yi I q zeO)
  | _ => exact absurd (show false = true from hs) aw
 | _ => cases y <;> exact absurd (show false = true from hs) aw
theorem V6 : jV X (bA .NotEq) rNe := by
 intro pins s σ H x y v u Q I rx ry h
 obtain ⟨hs, q⟩ := h
 cases x with
 | non =>
  cases rx
  cases y with
  | non => cases ry; exact PySem.EqNone.ne_none_none (yi I q (by simp))
  | bl j => cases ry; exact PySem.EqNone.ne_none_bool (yi I q (by simp))
  | int j => obtain ⟨t', rfl⟩ := ry; exact PySem.EqNone.ne_none_int (yi I q (by simp))
  | str j => obtain ⟨t', rfl⟩ := ry; exact PySem.EqNone.ne_none_str (yi I q (by simp))
  | _ => exact absurd (show false = true from hs) aw
 | bl i =>
  cases rx
  cases y with
  | non => cases ry; exact PySem.EqNone.ne_bool_none (yi I q (by simp))
  | bl j => cases ry; exact ne_bool (yi I q (congrArg not zha))
  | str j => obtain ⟨t', rfl⟩ := ry; exact PySem.EqMixed.ne_bool_str (yi I q (by simp))
  | _ => exact absurd (show false = true from hs) aw
 | int i =>
  obtain ⟨t, rfl⟩ := rx
  cases y with
  | non => cases ry; exact PySem.EqNone.ne_int_none (yi I q (by simp))
  | int j => obtain ⟨t', rfl⟩ := ry; exact ne_int (yi I q (congrArg not zeM))
  | str j => obtain ⟨t', rfl⟩ := ry; exact PySem.EqMixed.ne_int_str (yi I q (by simp))
  | _ => exact absurd (show false = true from hs) aw
 | str i =>
  obtain ⟨t, rfl⟩ := rx
  cases y with
  | non => cases ry; exact PySem.EqNone.ne_str_none (yi I q (by simp))
  | bl j => cases ry; exact PySem.EqMixed.ne_str_bool (yi I q (by simp))
  | int j => obtain ⟨t', rfl⟩ := ry; exact PySem.EqMixed.ne_str_int (yi I q (by simp))
  | str j => obtain ⟨t', rfl⟩ := ry; exact ne_str (yi I q (congrArg not zeN))
  | _ => exact absurd (show false = true from hs) aw
 | byt i =>
  obtain ⟨t, rfl⟩ := rx
  cases y with
  | byt j => obtain ⟨t', rfl⟩ := ry; exact PySem.W.ne_bytes (yi I q (congrArg not zeO))
  | _ => exact absurd (show false = true from hs) aw
 | _ => cases y <;> exact absurd (show false = true from hs) aw
theorem zfO : jV X (bA .Lt) (YY fun i j => .bl (decide (i < j))) := zfN fun _ _ _ _ _ _ _ q => lt_int q
theorem ZM : jV X (bA .LtE) (YY fun i j => .bl (decide (i <= j))) := zfN fun _ _ _ _ _ _ _ q => le_int q
theorem znQ : jV X (bA .Gt) (YY fun i j => .bl (decide (j < i))) := zfN fun _ _ _ _ _ _ _ q => gt_int q
theorem znR : jV X (bA .GtE) (YY fun i j => .bl (decide (j <= i))) := zfN fun _ _ _ _ _ _ _ q => ge_int q
theorem yb (b : Expr) (h : op ≠ .In := by decide) (h2 : op ≠ .NotIn := by decide) : di op b = false := by
 have e1 : (op == CmpOp.In) = false := by cases op <;> first | rfl | exact absurd rfl h
 have e2 : (op == CmpOp.NotIn) = false := by cases op <;> first | rfl | exact absurd rfl h2
 cases b <;> simp [di, e1, e2]
theorem zk5 (ho : jV X (bA op) r) (ha : PE X a ta) (hb : PE X b tb) (hm : di op b = false) : PE X (.Compare a [op] [b] pos) (tOp r ta tb) := by
 intro pins s σ H Q I h
 exact wpAny_Compare1 (ziX ha hb I h fun v u s2 x y H2 I2 rx ry q => ho pins s2 σ H2 x y v u Q I2 rx ry q) hm
def zfP (t : TE) : TT := fun σ H Q => t σ H fun x H' => ∃ k, x = .bl k /\ Q k H'
theorem zk6 (ho : jV X (bA op) r) (ha : PE X a ta) (hb : PE X b tb) (hm : di op b = false) : PT X (.Compare a [op] [b] pos) (zfP (tOp r ta tb)) := by
 intro pins s σ H Q I h
 refine wpAny_isTrue_Compare1 (zZ (ha pins s σ H _ I h) fun v s1 ⟨x, H1, I1, r1, q1⟩ => zZ (hb pins s1 σ H1 _ I1 q1) fun u s2 ⟨y, H2, I2, r2, q2⟩ =>
  zZ (ho pins s2 σ H2 x y v u _ I2 r1 r2 q2) fun c s3 ⟨z, H3, I3, r3, k, e, q3⟩ => ?_) hm
 subst e
 cases r3
 exact bi ⟨H3, I3, q3⟩
def zc7 (r r' : R2) (ta tb tc : TE) : TE := fun σ H Q => ta σ H fun x H1 => tb σ H1 fun y H2 => r x y H2 fun z H3 => ∃ k, z = .bl k /\
 (if k = true then tc σ H3 fun w' H4 => r' y w' H4 Q else Q (.bl false) H3)
theorem ziZ (ho : jV X (bA op) r) (ho' : jV X (bA op') r') (ha : PE X a ta) (hb : PE X b tb) (hc : PE X c tc)
 (hm : gQ [op, op'] [b, c] = false := by with_unfolding_all rfl) : PE X (.Compare a [op, op'] [b, c] pos) (zc7 r r' ta tb tc) := by
 intro pins s σ H Q I h
 refine Compare_chain (zZ (ha pins s σ H _ I h) fun v s1 ⟨x, H1, I1, r1, q1⟩ => chain_link (zZ (hb pins s1 σ H1 _ I1 q1) fun u s2 ⟨y, H2, I2, r2, q2⟩ =>
  zZ (ho pins s2 σ H2 x y v u _ I2 r1 r2 q2) fun d s3 ⟨z, H3, I3, r3, k, e, q3⟩ => ?_)) hm
 subst e
 cases r3
 refine bi ?_
 cases k with
 | false => exact ite_ff ⟨.bl false, H3, I3, rfl, q3⟩
 | true => exact ite_tt (chain_last (zZ (hc pins s3 σ H3 _ I3 q3) fun w' s4 ⟨z', H4, I4, r4, q4⟩ => ho' pins s4 σ H4 y z' u w' Q I4 r2 r4 q4))
theorem zi0 (ho : jV X (bA op) r) (ho' : jV X (bA op') r') (ha : PE X a ta) (hb : PE X b tb) (hc : PE X c tc)
 (hm : gQ [op, op'] [b, c] = false := by with_unfolding_all rfl) : PT X (.Compare a [op, op'] [b, c] pos) (zfP (zc7 r r' ta tb tc)) := by
 intro pins s σ H Q I h
 refine isTrue_chain (zZ (ha pins s σ H _ I h) fun v s1 ⟨x, H1, I1, r1, q1⟩ => test_link (zZ (hb pins s1 σ H1 _ I1 q1) fun u s2 ⟨y, H2, I2, r2, q2⟩ =>
  zZ (ho pins s2 σ H2 x y v u _ I2 r1 r2 q2) fun d s3 ⟨z, H3, I3, r3, k, e, q3⟩ => ?_)) hm
 subst e
 cases r3
 refine bi ?_
 cases k with
 | false =>
  obtain ⟨k', e', q'⟩ := q3
  cases e'
  exact ite_ff ⟨H3, I3, q'⟩
 | true =>
  refine ite_tt (test_last (zZ (hc pins s3 σ H3 _ I3 q3) fun w' s4 ⟨z', H4, I4, r4, q4⟩ => zZ (ho' pins s4 σ H4 y z' u w' _ I4 r2 r4 q4) fun d' s5 ⟨z2, H5, I5, r5, k2, e2, q5⟩ => ?_))
  subst e2
  cases r5
  exact bi ⟨H5, I5, q5⟩
def zi1 (K : aj) (x : V) (H : Hp) (k : Bool) : Prop :=
 match x with
 | .non => k = false
 | .bl b => k = b
 | .int i => k = (i != 0)
 | .str y => y.length <= aG /\ k = ((y.length : Int) != 0)
 | .byt y => y.size <= aG /\ k = ((y.size : Int) != 0)
 | .ref p => (∃ xs, jQ K H p xs /\ k = !xs.isEmpty) \/ (∃ xs, SqT K H p xs /\ k = !xs.isEmpty) \/ ∃ kvs, H p = some (.dK kvs) /\ k = !kvs.isEmpty
 | _ => False
theorem zfQ {κ : Type} {kvs : List (κ × V)} {vs : List (κ × Value)} (r : KV kvs vs) : (!vs.isEmpty) = !kvs.isEmpty := by
 cases r <;> rfl
theorem RV {xs : List V} {its : List Value} (r : Vals xs its) : (!its.toArray.isEmpty) = !xs.isEmpty := by
 cases r <;> simp
theorem YZ : (aG : Nat) < 2 ^ 63 := by rw [dU]; decide
theorem zmt : zoJ X (fun x H Q => ∃ k, zi1 X.K x H k /\ Q k H) := by
 intro pins s σ H x v Q I rx h
 obtain ⟨k, e, q⟩ := h
 have hl := YZ
 have hs : aG = 16777216 := dU
 cases x with
 | non =>
  cases rx
  have e' : k = false := e
  subst e'
  exact truthy_none ⟨H, I, q⟩
 | bl b =>
  cases rx
  have e' : k = b := e
  subst e'
  exact bi ⟨H, I, q⟩
 | int i =>
  obtain ⟨t, rfl⟩ := rx
  have e' : k = (i != 0) := e
  subst e'
  exact PySem.P.truthy_int ⟨H, I, q⟩
 | str y =>
  obtain ⟨t, rfl⟩ := rx
  obtain ⟨hy, e'⟩ : y.length <= aG /\ k = ((y.length : Int) != 0) := e
  subst e'
  exact PySem.P.truthy_str (by omega) ⟨H, I.tok _, q⟩
 | byt y =>
  obtain ⟨t, rfl⟩ := rx
  obtain ⟨hy, e'⟩ : y.size <= aG /\ k = ((y.size : Int) != 0) := e
  subst e'
  exact PySem.W.truthy_bytes (by omega) ⟨H, I.tok _, q⟩
 | ref p =>
  cases rx
  have e' : (∃ xs, jQ X.K H p xs /\ k = !xs.isEmpty) \/ (∃ xs, SqT X.K H p xs /\ k = !xs.isEmpty) \/ ∃ kvs, H p = some (.dK kvs) /\ k = !kvs.isEmpty := e
  rcases e' with ⟨xs, hx, e'⟩ | ⟨xs, hx, e'⟩ | ⟨kvs, hx, e'⟩
  · subst e'
    obtain ⟨its, r, pl, hz⟩ := I.list hx
    have hlen := r.length
    exact wpAny_truthy_list pl.isList (by simp only [av]; omega) ⟨H, I.tok _, by rw [RV r]; exact q⟩
  · subst e'
    obtain ⟨its, r, pl, hz⟩ := I.tuple hx
    have hlen := r.length
    exact truthy_tuple pl (by simp only [av]; omega) ⟨H, I.tok _, by rw [RV r]; exact q⟩
  · subst e'
    obtain ⟨hz, hS, vs, r, m⟩ : kvs.length <= aG /\ (p == gg) = false /\ ∃ vs, KV kvs vs /\ s.heap.DictOf (yt X.prog X.w) p vs := I.hok p _ hx
    have hlen : kvs.length = vs.length := ie r
    exact wpAny_truthy_dict hS m (by omega) ⟨H, I.tok _, by rw [zfQ r]; exact q⟩
 | _ => exact (show False from e).elim
theorem zi2 (ha : PE X a ta) (he : ∀ whole, isTrue a X.env whole = (do let v ← whole; fg a.pos; cW [v] (truthy v))) :
 PT X a (fun σ H Q => ta σ H fun x H' => ∃ k, zi1 X.K x H' k /\ Q k H') := by
 intro pins s σ H Q I h
 exact isTrue_plain (zZ (ha pins s σ H _ I h) fun v s1 ⟨x, H1, I1, r1, q1⟩ => zmt pins s1 σ H1 x v Q I1 r1 q1) (he _)
theorem zfR : jV X (dh .Add) (fun x y H Q => ∃ i j, x = .str i /\ y = .str j /\ i.length + j.length <= aG /\ Q (.str (i ++ j)) H) := by
 intro pins s σ H x y v u Q I rx ry h
 obtain ⟨i, j, rfl, rfl, hz, q⟩ := h
 obtain ⟨t, rfl⟩ := rx
 obtain ⟨t', rfl⟩ := ry
 exact add_str (fun t' tk => ⟨.str (i ++ j), H, I.tok _, ⟨_, rfl⟩, q⟩) hz
theorem V7 (r : Vals [x] us) : ∃ u, us = [u] /\ RelV x u := by
 cases r with
 | cons r1 r2 => cases r2; exact ⟨_, rfl, r1⟩
theorem zkx (r : Vals [x, y] us) : ∃ u w', us = [u, w'] /\ RelV x u /\ RelV y w' := by
 cases r with
 | cons r1 r2 =>
  cases r2 with
  | cons r3 r4 => cases r4; exact ⟨_, _, rfl, r1, r3⟩
theorem zhb (hc : X.calm = true) : jt X (.builtin "max") (fun xs H Q => ∃ i j, xs = [.int i, .int j] /\ Q (.int (if j > i then j else i)) H) := by
 intro pins s σ H xs us Q I r h
 obtain ⟨i, j, rfl, q⟩ := h
 obtain ⟨u, w', rfl, ⟨t, rfl⟩, ⟨t', rfl⟩⟩ := zkx r
 refine max_two_ints (I.ok.hd hc) fun h' tk k => ⟨_, H, I.kept k, ?_, q⟩
 by_cases hj : j > i
 · rw [if_pos hj, if_pos hj]; exact ⟨_, rfl⟩
 · rw [if_neg hj, if_neg hj]; exact ⟨_, rfl⟩
theorem zhc (hc : X.calm = true) : jt X (.builtin "min") (fun xs H Q => ∃ i j, xs = [.int i, .int j] /\ Q (.int (if j < i then j else i)) H) := by
 intro pins s σ H xs us Q I r h
 obtain ⟨i, j, rfl, q⟩ := h
 obtain ⟨u, w', rfl, ⟨t, rfl⟩, ⟨t', rfl⟩⟩ := zkx r
 refine min_two_ints (I.ok.hd hc) fun h' tk k => ⟨_, H, I.kept k, ?_, q⟩
 by_cases hj : j < i
 · rw [if_pos hj, if_pos hj]; exact ⟨_, rfl⟩
 · rw [if_neg hj, if_neg hj]; exact ⟨_, rfl⟩
theorem zhd : jt X (.type "int") (fun xs H Q => (∃ i, xs = [.int i] /\ Q (.int i) H) \/ ∃ k, xs = [.bl k] /\ Q (.int (if k then 1 else 0)) H) := by
 intro pins s σ H xs us Q I r h
 rcases h with ⟨i, rfl, q⟩ | ⟨k, rfl, q⟩
 · obtain ⟨u, rfl, t, rfl⟩ := V7 r
   exact call_int_int ⟨.int i, H, I, ⟨_, rfl⟩, q⟩
 · obtain ⟨u, rfl, r1⟩ := V7 r
   cases r1
   exact call_int_bool ⟨.int (if k then 1 else 0), H, I.tok _, ⟨_, rfl⟩, q⟩
theorem zc8 : jt X (.type "str") (fun xs H Q => ∃ i, xs = [.int i] /\ i.natAbs.log2 < 1920 /\ Q (.str (toString i)) H) := by
 intro pins s σ H xs us Q I r h
 obtain ⟨i, rfl, hz, q⟩ := h
 obtain ⟨u, rfl, t, rfl⟩ := V7 r
 exact PySem.P.str_of_int hz ⟨.str _, H, I.tok _, ⟨_, rfl⟩, q⟩
def zmu (K : aj) (x : V) (H : Hp) (n : Nat) : Prop :=
 match x with
 | .str y => y.length <= aG /\ n = y.length
 | .byt y => y.size <= aG /\ n = y.size
 | .ref p => (∃ xs, jQ K H p xs /\ n = xs.length) \/ ∃ xs, SqT K H p xs /\ n = xs.length
 | _ => False
theorem zi3 : jt X (.builtin "len") (fun xs H Q => ∃ x n, xs = [x] /\ zmu X.K x H n /\ Q (.int n) H) := by
 intro pins s σ H xs us Q I r h
 obtain ⟨x, n, rfl, e, q⟩ := h
 obtain ⟨u, rfl, rx⟩ := V7 r
 have hl := YZ
 have hs : aG = 16777216 := dU
 cases x with
 | str y =>
  obtain ⟨t, rfl⟩ := rx
  obtain ⟨hy, e'⟩ : y.length <= aG /\ n = y.length := e
  subst e'
  exact len_str (by omega) ⟨.int _, H, I.tok _, ⟨_, rfl⟩, q⟩
 | byt y =>
  obtain ⟨t, rfl⟩ := rx
  obtain ⟨hy, e'⟩ : y.size <= aG /\ n = y.size := e
  subst e'
  exact PySem.W.len_bytes (by omega) ⟨.int _, H, I.tok _, ⟨_, rfl⟩, q⟩
 | ref p =>
  cases rx
  have e' : (∃ xs, jQ X.K H p xs /\ n = xs.length) \/ ∃ xs, SqT X.K H p xs /\ n = xs.length := e
  rcases e' with ⟨xs, hx, e'⟩ | ⟨xs, hx, e'⟩
  · subst e'
    obtain ⟨its, r', pl, hz⟩ := I.list hx
    have hlen := r'.length
    exact Calls.call_len_list pl.isList (by simp only [av]; omega) ⟨.int xs.length, H, I.tok _, ⟨_, by simp only [av]; rw [hlen]⟩, q⟩
  · subst e'
    obtain ⟨its, r', pl, hz⟩ := I.tuple hx
    have hlen := r'.length
    exact len_tuple pl (by simp only [av]; omega) ⟨.int xs.length, H, I.tok _, ⟨_, by simp only [av]; rw [hlen]⟩, q⟩
 | _ => exact (show False from e).elim
end
structure ObjM (h : Heap) (x dx C : Addr) (mA : Str -> Option Value) : Prop where
 obj : h.get? x = some (bS C dx)
 ns : h.Ns1 dx mA
 ne : dx ≠ x
theorem zhe {h : Heap} {mA : Str -> Option Value} (n : h.Ns1 dx mA) : ∃ od, h.get? dx = some od /\ ∀ name, d8 name od = some (mA name) := by
 obtain ⟨o, es, ep, ho, hd, hk, _, hm⟩ := n
 refine ⟨o, ho, fun name => ?_⟩
 have e := hm name
 unfold nsFind findBy at e
 rw [← Array.find?_toList] at e
 unfold d8
 rw [hd]
 dsimp only
 split
 · rename_i y q
   rw [q] at e
   exact congrArg some e
 · rename_i q
   rw [q] at e
   have a : es.toList.any (·.refKey) = false := by
    rw [List.any_eq_false]
    intro y hy
    obtain ⟨z, t, hkey⟩ := hk y (Array.mem_toList_iff.mp hy)
    simp [DictEntry.refKey, hkey]
   have a' : ¬ es.toList.any (·.refKey) = true := by rw [a]; exact aw
   rw [if_neg a']
   exact congrArg some e
theorem ObjM.look {mA : Str -> Option Value} (I : ObjM h x dx C mA) : ∃ od, PySem.W.InstAt h x (bS C dx) C (some od) /\ ∀ name, d8 name od = some (mA name) :=
 let ⟨od, ho, hl⟩ := zhe I.ns
 ⟨od, ⟨I.obj, rfl, rfl, ho⟩, hl⟩
section
variable {prog : Program} {w : World} {A : Around} {E : Value -> Shared -> Prop} {s : Shared} {K : aj} {x dx C f : Addr} {mA : Str -> Option Value} {name : Str} {v : Value}
theorem zk7 {Q : Value -> Shared -> Prop} (X : K.In s.heap) (I : ObjM s.heap x dx C mA) (hg : br K C name = true) (hh : bv K C = true)
 (ha : aH K (.ref C) name = some none) (hv : mA name = some v) (hv' : gH v = true) (h : Q v { s with toks := s.toks + 1 }) :
 wpAny (model prog w) A (getAttr (.ref x) name expr) Q E s := by
 obtain ⟨od, J, hl⟩ := I.look
 exact PySem.W.get_value X J (d3 hg).1 (PySem.W.findObj_own hh ha rfl (by rw [hl, hv])) hv' h
theorem zi4 {Q : Value × List Value -> Shared -> Prop} (X : K.In s.heap) (I : ObjM s.heap x dx C mA) (hg : br K C name = true)
 (hf : aH K (.ref C) name = some (some (.ref f))) (ht : aV K (.ref f) = true) (hv : mA name = none) (h : Q (.ref f, [.ref x]) s) :
 wpAny (model prog w) A (gR (.ref x) name pl) Q E s := by
 obtain ⟨od, J, hl⟩ := I.look
 exact PySem.W.method_fn X J (d3 hg).1 (d3 hg).2 hf (beq_iff_eq.mp ht) (by show (d8 name od).map (·.isSome) = some false; rw [hl, hv]; rfl) h
theorem zk8 {ns : List Str} {Q : Unit -> Shared -> Prop} (X : K.In s.heap) (I : ObjM s.heap x dx C mA)
 (hs : aH K (.ref C) "__setattr__" = some (some (.builtin "object.__setattr__"))) (hp : bH K C = true) (ht : fh K C name = some none) (hh : bv K C = true)
 (hw : gk mA ns) (hsz : ns.length <= aG)
 (h : ∀ h', ObjM h' x dx C (fun y => if y = name then some v else mA y) -> cI dx s.heap h' -> Q () { s with heap := h', toks := s.toks + 2 }) :
 wpAny (model prog w) A (setAttr (.ref x) name v) Q E s := by
 obtain ⟨od, J, hl⟩ := I.look
 refine PySem.W.set_plain X J hs (PySem.W.osa_open (s := { s with toks := s.toks + 1 }) (r := none) X J hp ht fun b => ?_)
 obtain ⟨cd, hc, hd'⟩ := PySem.W.any_some hh
 have hx : s.heap.get? x = some ⟨.ref C, some dx, .plain, #[]⟩ := I.obj
 refine ab (ao (ab (ab (wpAny_loadPart hx (ab (PySem.W.Looks.here (s := { s with toks := s.toks + 1 }) (PySem.W.looks_clsIn X hc) ?_))))))
 rw [hd']
 refine ao (a := some dx) (ab (ao (ab ?_)))
 refine wpAny_nsSet1 (s := { s with toks := s.toks + 1 }) I.ns fun h' hn2 hs2 => ?_
 obtain ⟨oD, esD, epD, hoD, hdD, hcD⟩ := hn2.count (gk.cons name v hw)
 refine ab (wpAny_lookBehind hoD (by rw [hdD]; exact pastItsLine_dict (aM hcD (by rw [ac]; omega))) ?_)
 exact ao (h _ ⟨(hs2.2 _ (bp I.ne)).trans I.obj, hn2, I.ne⟩ hs2)
theorem zi5 {R : Result -> Shared -> Prop} (X : K.In s.heap) (hm : bT K C = true)
 (hi : aH K (.ref C) "__init__" = some (some (.ref f))) (hf : PySem.W.typeIn K (.ref f) = some (.type "function"))
 (h : cS (model prog w) (A.under (.builtin "type.__call__" ⟨.ref C :: vs, kw⟩)) (.call (.ref f) ⟨.ref (s.heap.objs.size + 1) :: vs, kw⟩) (PySem.W.InitBack (s.heap.objs.size + 1) R)
  { s with heap := (s.heap.push bw).push (bS C s.heap.objs.size) }) :
 cS (model prog w) A (.call (.ref C) ⟨vs, kw⟩) R s := by
 obtain ⟨hh, g, d, t, os⟩ := s
 exact PySem.W.make_core (PySem.W.makes_of X hm) (PySem.W.looks_findIn X hi) (fun self => PySem.W.bind_fn X self hf) (.inl rfl) h
end
def j9 (f : Str) (v : V) : List (Str × V) -> List (Str × V)
 | [] => [(f, v)]
 | (g, x) :: r => if g = f then (g, v) :: r else (g, x) :: j9 f v r
theorem WD (f g : Str) (v : V) : ∀ fs : List (Str × V), (j9 f v fs).lookup g = if g = f then some v else fs.lookup g
 | [] => by
  show cG g [(f, v)] = _
  by_cases h : g = f
  · have hb : (g == f) = true := beq_iff_eq.mpr h
    simp only [cG, hb, if_pos h]
  · have hb : (g == f) = false := beq_eq_false_iff_ne.mpr h
    simp only [cG, hb, if_neg h]
 | (k, x) :: r => by
  have ih := WD f g v r
  rw [show j9 f v ((k, x) :: r) = (if k = f then (k, v) :: r else (k, x) :: j9 f v r) from rfl]
  by_cases hk : k = f
  · rw [if_pos hk]
    by_cases h : g = k
    · have hb : (g == k) = true := beq_iff_eq.mpr h
      simp only [cG, hb, if_pos (h.trans hk)]
    · have hb : (g == k) = false := beq_eq_false_iff_ne.mpr h
      simp only [cG, hb, if_neg (fun e : g = f => h (e.trans hk.symm))]
  · rw [if_neg hk]
    by_cases h : g = k
    · have hb : (g == k) = true := beq_iff_eq.mpr h
      simp only [cG, hb, if_neg (fun e : g = f => hk (h.symm.trans e))]
    · have hb : (g == k) = false := beq_eq_false_iff_ne.mpr h
      simp only [cG, hb]
      exact ih
theorem Vj (f : Str) (v : V) : ∀ fs : List (Str × V), f ∈ (j9 f v fs).map (·.1) /\ ∀ g, g ∈ fs.map (·.1) -> g ∈ (j9 f v fs).map (·.1)
 | [] => ⟨by simp [j9], fun g h => by simp at h⟩
 | (k, x) :: r => by
  obtain ⟨i1, i2⟩ := Vj f v r
  rw [show j9 f v ((k, x) :: r) = (if k = f then (k, v) :: r else (k, x) :: j9 f v r) from rfl]
  by_cases hk : k = f
  · rw [if_pos hk]
    subst hk
    exact ⟨by simp, fun g h => by simpa using h⟩
  · rw [if_neg hk]
    refine ⟨?_, fun g h => ?_⟩
    · rw [al]
      exact ah _ i1
    · rw [al] at h ⊢
      rcases ar.mp h with e | e
      · exact ar.mpr (.inl e)
      · exact ah _ (i2 g e)
theorem WE (f : Str) (v : V) : ∀ fs : List (Str × V), (j9 f v fs).length <= fs.length + 1
 | [] => by simp [j9]
 | (k, x) :: r => by
  have ih := WE f v r
  rw [show j9 f v ((k, x) :: r) = (if k = f then (k, v) :: r else (k, x) :: j9 f v r) from rfl]
  by_cases hk : k = f
  · rw [if_pos hk, ac, ac]; omega
  · rw [if_neg hk, ac, ac]; omega
theorem RelO.some_of (r : RelO (some v) o) : ∃ u, o = some u /\ RelV v u := by
 cases o with
 | none => exact (show False from r).elim
 | some u => exact ⟨u, rfl, r⟩
theorem RelO.none_of (r : RelO none o) : o = none := by
 cases o with
 | none => rfl
 | some u => exact (show False from r).elim
theorem zhf (r : RelV v u) : gH u = true := by
 cases v with
 | non => cases (show u = Value.none from r); rfl
 | bl b => cases (show u = Value.bool b from r); rfl
 | int i => obtain ⟨t, e⟩ := (show ∃ t, u = Value.int i t from r); cases e; rfl
 | str x => obtain ⟨t, e⟩ := (show ∃ t, u = Value.str x t from r); cases e; rfl
 | byt b => obtain ⟨t, e⟩ := (show ∃ t, u = Value.bytes b t from r); cases e; rfl
 | flt b => obtain ⟨t, e⟩ := (show ∃ t, u = Value.float b t from r); cases e; rfl
 | ref a => cases (show u = Value.ref a from r); rfl
 | ty n => cases (show u = Value.type n from r); rfl
section
variable {P : Program} {w : World} {H H' : Hp} {h h' : Heap} {a C dx : Addr} {fs fs' : List (Str × V)}
theorem Y0 (hok : HOk P w H h) (e : H a = some (.ins C dx fs)) : ∃ mA, ObjM h a dx C mA /\ (∀ f, RelO (fs.lookup f) (mA f)) /\ gk mA (fs.map (·.1)) /\ fs.length <= 1000 /\ H dx = some (.own a) := by
 obtain ⟨d, z, ne, ob, mA, n, r, q⟩ := (show ObjOk P w H h a (.ins C dx fs) from hok a _ e)
 exact ⟨mA, ⟨ob, n, ne⟩, r, q, z, d⟩
end
structure Cls (K : aj) (C : Addr) : Prop where
 pg : br K C dM = true
 hd : bv K C = true
 po : bH K C = true
 sa : aH K (.ref C) "__setattr__" = some (some (.builtin "object.__setattr__"))
theorem Cls.get {K : aj} {C : Addr} (c : Cls K C) (f : Str) : br K C f = true := c.pg
def NoAttr (K : aj) (C : Addr) (f : Str) : Prop := aH K (.ref C) f = some none
theorem NoAttr.taker {K : aj} {C : Addr} {f : Str} (n : NoAttr K C f) : fh K C f = some none := by
 unfold fh
 rw [show aH K (.ref C) f = some none from n]
 rfl
structure zi6 (K : aj) (C : Addr) (m : Str) (f : Addr) : Prop where
 at_ : aH K (.ref C) m = some (some (.ref f))
 fn : aV K (.ref f) = true
 kp : bg K (.ref f) = true
section
variable {X : Cx} {pins : List (Addr × Obj)} {σ : St} {H : Hp} {s : Shared} {a C dx : Addr} {fs : List (Str × V)} {f : Str} {v : V} {A : Around} {E : Value -> Shared -> Prop}
theorem zfS {Q : Value -> Shared -> Prop} (I : Inv X pins σ H s) (e : H a = some (.ins C dx fs)) (c : Cls X.K C) (n : NoAttr X.K C f) (l : fs.lookup f = some v)
 (h : ∀ u s', Inv X pins σ H s' -> RelV v u -> Q u s') : wpAny (model X.prog X.w) A (getAttr (.ref a) f b) Q E s := by
 obtain ⟨mA, O, r, _, _, _⟩ := Y0 I.hok e
 obtain ⟨u, hu, ru⟩ := RelO.some_of (v := v) (o := mA f) (by rw [← l]; exact r f)
 exact zk7 I.kIn O (c.get f) c.hd n hu (zhf ru) (h u _ (I.tok _) ru)
theorem zfT {Q : Value × List Value -> Shared -> Prop} (I : Inv X pins σ H s) (e : H a = some (.ins C dx fs)) (c : Cls X.K C) (k : zi6 X.K C m g) (l : fs.lookup m = none)
 (h : Q (.ref g, [.ref a]) s) : wpAny (model X.prog X.w) A (gR (.ref a) m pl) Q E s := by
 obtain ⟨mA, O, r, _, _, _⟩ := Y0 I.hok e
 have hn : mA m = none := RelO.none_of (by rw [← l]; exact r m)
 exact zi4 I.kIn O (c.get m) k.at_ k.fn hn h
theorem zfU {Q : Unit -> Shared -> Prop} (I : Inv X pins σ H s) (e : H a = some (.ins C dx fs)) (c : Cls X.K C) (n : NoAttr X.K C f) (hl : fs.length < 1000) (ry : RelV y u)
 (h : ∀ s', Inv X pins σ (ye H a (.ins C dx (j9 f y fs))) s' -> Q () s') : wpAny (model X.prog X.w) A (setAttr (.ref a) f u) Q E s := by
 obtain ⟨mA, O, r, wi, _, ho⟩ := Y0 I.hok e
 have hz : (fs.map (·.1)).length <= aG := by rw [am, dU]; omega
 refine zk8 I.kIn O c.sa c.po n.taker c.hd wi hz fun h' O' sb => h _ ?_
 have hd : ∃ o, h'.get? dx = some o := let ⟨o, _, _, e', _⟩ := O'.ns; ⟨o, e'⟩
 refine I.write (x := a) (e := dx) (by rw [e]; exact True.intro) (.inr ho) (fun b q hb z => (sb.2 b hb).trans z) hd ?_
 refine ⟨by rw [z7 O.ne]; exact ho, ?_, O.ne, O'.obj, _, O'.ns, fun g => ?_, fun g hg => ?_⟩
 · have := WE f y fs; omega
 · show RelO ((j9 f y fs).lookup g) (if g = f then some u else mA g)
   rw [WD]
   by_cases q : g = f
   · rw [if_pos q, if_pos q]; exact ry
   · rw [if_neg q, if_neg q]; exact r g
 · by_cases q : g = f
   · rw [q]; exact (Vj f y fs).1
   · refine (Vj f y fs).2 g (wi g fun z => hg ?_)
     show (if g = f then some u else mA g) = none
     rw [if_neg q]; exact z
theorem Inv.made (I : Inv X pins σ H s) : Inv X pins σ (ye (ye H s.heap.objs.size (.own (s.heap.objs.size + 1))) (s.heap.objs.size + 1) (.ins C s.heap.objs.size []))
 { s with heap := (s.heap.push bw).push (bS C s.heap.objs.size) } := by
 have e1 : (s.heap.push bw).get? s.heap.objs.size = some bw := aE s.heap rfl
 have e2 : ((s.heap.push bw).push (bS C s.heap.objs.size)).get? (s.heap.objs.size + 1) = some (bS C s.heap.objs.size) := by
  have := aE (s.heap.push bw) (o := bS C s.heap.objs.size) rfl
  rwa [bF] at this
 have e3 : (s.heap.push bw).Ns s.heap.objs.size (fun _ => none) := ⟨bw, #[], _, e1, rfl, (fun e he => absurd he (by simp)), fun _ => rfl⟩
 have I1 := I.laid (a := s.heap.objs.size) (o := .own (s.heap.objs.size + 1)) (h' := s.heap.push bw) (t' := s.toks) (fun b u q => ak _ q) (az _) ⟨_, e1⟩
 refine I1.laid (a := s.heap.objs.size + 1) (o := .ins C s.heap.objs.size []) (t' := s.toks) (fun b u q => ak _ q) (fb (bF _ _)) ?_
 have ne : s.heap.objs.size ≠ s.heap.objs.size + 1 := aB (bY _)
 refine ⟨by rw [z7 ne, jC], bJ _, ne, e2, fun _ => none, (Heap.Ns1.of_empty e3).at fun o q => ak _ q, fun _ => True.intro, fun y hy => absurd rfl hy⟩
theorem zk9 {Q : Value -> Shared -> Prop} (hb : bW e f env (eval e env) = eval e env)
 (h : wpAny (model prog w) A (eval e env) (fun o s₁ => wpAny (model prog w) A (getAttr o f true) Q E s₁) E s) : wpAny (model prog w) A (eval (.Attribute e f pos) env) Q E s :=
 Attribute_any_ h (by rw [arm_eval_Attribute, hb])
end
def zmv (K : aj) (ta : TE) (f : Str) : TE := fun σ H Q => ta σ H fun x H1 => ∃ a C dx fs v, x = .ref a /\ H1 a = some (.ins C dx fs) /\ Cls K C /\ NoAttr K C f /\ fs.lookup f = some v /\ Q v H1
def zmw (K : aj) (ta tv : TE) (f : Str) : TS := fun D σ H => tv σ H fun y H1 => ta σ H1 fun x H2 => ∃ a C dx fs, x = .ref a /\ H2 a = some (.ins C dx fs) /\ Cls K C /\ NoAttr K C f /\ fs.length < 1000 /\
 D.nx σ (ye H2 a (.ins C dx (j9 f y fs)))
section
variable {X : Cx} {o e value : Expr} {f : Str} {pos pos' tpos : Pos} {ta tv : TE}
theorem zmx (he : PE X e ta) (hb : bW e f X.env (eval e X.env) = eval e X.env) : PE X (.Attribute e f pos) (zmv X.K ta f) := by
 intro pins s σ H Q I h
 refine zk9 hb (zZ (he pins s σ H _ I h) fun u s1 ⟨x, H1, I1, rx, a, C, dx, fs, v, ex, ea, c, n, l, q⟩ => ?_)
 subst ex
 obtain rfl : u = Value.ref a := rx
 exact zfS I1 ea c n l fun u' s2 I2 ru => ⟨v, H1, I2, ru, q⟩
theorem zmy (ha : PE X o ta) (hv : PE X value tv) (hs : du value (some (.Attribute o f pos')) pos.line X.env = pure false) : PS X (.Assign [.Attribute o f pos'] value pos) (zmw X.K ta tv f) := by
 intro pins s σ H D I h
 refine plainObj_wpAny_Assign_Attribute (zZ (hv pins s σ H _ I h) fun u s1 ⟨y, H1, I1, ry, q⟩ => zZ (ha pins s1 σ H1 _ I1 q) fun ov s2 ⟨x, H2, I2, rx, a, C, dx, fs, ex, ea, c, n, l, q2⟩ => ?_) hs
 subst ex
 obtain rfl : ov = Value.ref a := rx
 exact zfU I2 ea c n l ry fun s3 I3 => ⟨σ, _, I3, q2⟩
end
section
variable {X : Cx} {pins : List (Addr × Obj)} {σ : St} {H : Hp} {s : Shared} {A : Around} {E : Value -> Shared -> Prop} {Q : Value -> Shared -> Prop} {c : Value} {b : Bool}
inductive QV (K : aj) (H : Hp) : V -> Value -> Prop where
 | non : QV K H .non (.type "NoneType")
 | bl (x : Bool) : QV K H (.bl x) (.type "bool")
 | int (i : Int) : QV K H (.int i) (.type "int")
 | str (x : Str) : QV K H (.str x) (.type "str")
 | flt (x : UInt64) : QV K H (.flt x) (.type "float")
 | lst {a : Addr} {xs : List V} (e : H a = some (.lst xs)) : QV K H (.ref a) (.type "list")
 | frz {a : Addr} {o : Obj} {xs : List V} (e : H a = some (.frz o (.lst xs))) : QV K H (.ref a) (.type "list")
 | tup {a : Addr} {xs : List V} (e : H a = some (.tup xs)) : QV K H (.ref a) (.type "tuple")
 | dK {a : Addr} {kvs : List (y4 × V)} (e : H a = some (.dK kvs)) : QV K H (.ref a) (.type "dict")
 | dT {a : Addr} {kvs : List (List y4 × V)} (e : H a = some (.dT kvs)) : QV K H (.ref a) (.type "dict")
 | ins {a C dx : Addr} {fs : List (Str × V)} (e : H a = some (.ins C dx fs)) (cl : Cls K C) (ha : aH K (.ref C) "__class__" = some (some (.builtin "object.__class__")))
  (hn : eK K (.builtin "object.__class__") "__get__" = some (some (.builtin "getset_descriptor.__get__"))) (htk : fi K (.builtin "object.__class__") = some true)
  (hm : cr K C (.type "object") = some true) : QV K H (.ref a) (.ref C)
theorem zhg (I : Inv X pins σ H s) (rx : RelV x u) (ty : QV X.K H x t) (e : ae X.K t c = some b) (h : ∀ tk, Q (.bool b) { s with toks := tk }) :
 wpAny (model X.prog X.w) A (call (.builtin "isinstance") [u, c]) Q E s := by
 cases ty with
 | non => cases (show u = Value.none from rx); exact bc gx I.kIn True.intro e (fun z => nomatch z) h
 | bl y => cases (show u = Value.bool y from rx); exact bc gy I.kIn True.intro e (fun z => nomatch z) h
 | int i => obtain ⟨t, q⟩ := (show ∃ t, u = Value.int i t from rx); cases q; exact bc gI I.kIn True.intro e (fun z => nomatch z) h
 | str y => obtain ⟨t, q⟩ := (show ∃ t, u = Value.str y t from rx); cases q; exact bc gJ I.kIn True.intro e (fun z => nomatch z) h
 | flt y => obtain ⟨t, q⟩ := (show ∃ t, u = Value.float y t from rx); cases q; exact bc fU I.kIn True.intro e (fun z => nomatch z) h
 | @lst a xs ea =>
  cases (show u = Value.ref a from rx)
  obtain ⟨_, _, n, _, h1⟩ := (show ObjOk X.prog X.w H s.heap a (.lst xs) from I.hok a _ ea)
  exact bc dC I.kIn ⟨_, h1, rfl⟩ e (fun z => nomatch z) h
 | @frz a ob xs ea =>
  cases (show u = Value.ref a from rx)
  obtain ⟨_, _, _, n, _, h1⟩ := (show ObjOk X.prog X.w H s.heap a (.frz ob (.lst xs)) from I.hok a _ ea)
  exact bc dC I.kIn ⟨_, h1, rfl⟩ e (fun z => nomatch z) h
 | @tup a xs ea =>
  cases (show u = Value.ref a from rx)
  obtain ⟨_, _, _, p⟩ := (show ObjOk X.prog X.w H s.heap a (.tup xs) from I.hok a _ ea)
  obtain ⟨o, h1, h2, _⟩ := p
  exact bc fV I.kIn ⟨o, h1, h2⟩ e (fun z => nomatch z) h
 | @dK a kvs ea =>
  cases (show u = Value.ref a from rx)
  obtain ⟨_, _, vs, _, p⟩ := (show ObjOk X.prog X.w H s.heap a (.dK kvs) from I.hok a _ ea)
  obtain ⟨o, es, ep, h1, h2, _⟩ := p
  exact bc cj I.kIn ⟨o, h1, h2.1⟩ e (fun z => nomatch z) h
 | @dT a kvs ea =>
  cases (show u = Value.ref a from rx)
  obtain ⟨_, _, xs, _, o, es, ep, h1, h2, _⟩ := (show ObjOk X.prog X.w H s.heap a (.dT kvs) from I.hok a _ ea)
  exact bc cj I.kIn ⟨o, h1, h2.1⟩ e (fun z => nomatch z) h
 | @ins a C dx fs ea cl ha hn htk hm =>
  cases (show u = Value.ref a from rx)
  obtain ⟨mA, O, _⟩ := Y0 I.hok ea
  obtain ⟨od, J, _⟩ := O.look
  exact bc (gK (cl.get _) cl.hd ha hn htk hm) I.kIn J e (fun z => nomatch z) h
end
structure Room (k : Nat) (A : Around) : Prop where
 hd : A.handled = none
 dp : A.depth + 3 * k + 5 < recursionLimit
 un : A.units + 16 * k + 200 < cLine
theorem Room.mono (r : Room k A) (h : j <= k) : Room j A := ⟨r.hd, by have := r.dp; omega, by have := r.un; omega⟩
theorem Room.deeper {A : Around} (r : Room (k + 1) A) (env : Env) : Room k (A.deeper env) :=
 ⟨r.hd, by have := r.dp; show A.depth + 1 + 3 * k + 5 < _; omega, by have := r.un; show A.units + 3 + 16 * k + 200 < _; omega⟩
theorem zfV {A : Around} : (A.under (.builtin "type.__call__" ⟨.ref C :: us, kw⟩)).depth = A.depth + 1 := by
 first | rfl | simp [gm, Code.weight, Code.isCreation, Code.isGuard, Code.isCaller, iy, gp, guardIds]
theorem zfW {A : Around} : (A.under (.builtin "type.__call__" ⟨.ref C :: us, kw⟩)).units = A.units + 1 := by
 first | rfl | simp [gm, Code.cUnits, iy, gp]
theorem Room.make {A : Around} (r : Room (k + 1) A) (C : Addr) (us : List Value) (kw : List (Str × Value)) : Room k (A.under (.builtin "type.__call__" ⟨.ref C :: us, kw⟩)) :=
 ⟨r.hd, by have := r.dp; rw [zfV]; omega, by have := r.un; rw [zfW]; omega⟩
theorem Room.depth {A : Around} (r : Room k A) : A.depth < recursionLimit := by have := r.dp; omega
def Zy : TA := fun _ H Q => Q [] H
def J4 (ta : TE) (tr : TA) : TA := fun σ H Q => ta σ H fun x H1 => tr σ H1 fun xs H2 => Q (x :: xs) H2
section
variable {X : Cx} {e : Expr} {es : List Expr} {te : TE} {t : TA} {pos : Pos}
theorem jJ : PA X [] Zy := fun _ _ _ _ H Q I h => Calls.spliced_nil ⟨[], H, I, .nil, h⟩
theorem yQ (ha : PE X e te) (hr : PA X es t) (hs : ap (e :: es) X.env = (false, eval e X.env) :: ap es X.env := by rfl) : PA X (e :: es) (J4 te t) := by
 intro pos pins s σ H Q I h
 rw [hs]
 show wpAny _ _ (spliced ((false, eval e X.env) :: backTo pos (ap es X.env))) _ _ s
 refine Calls.spliced_cons (zZ (ha pins s σ H _ I h) fun u s1 ⟨x, H1, I1, r1, q1⟩ => ?_)
 exact zZ (hr pos pins s1 σ H1 _ I1 q1) fun us s2 ⟨xs, H2, I2, r2, q2⟩ => ⟨x :: xs, H2, I2, .cons r1 r2, q2⟩
def zmz (t : TA) : TE := fun σ H Q => t σ H fun xs H1 => xs.length <= aG /\ ∀ p, H1 p = none -> Q (.ref p) (ye H1 p (.tup xs))
def zmA (t : TA) : TE := fun σ H Q => t σ H fun xs H1 => xs.length <= aG /\ ∀ p, H1 p = none -> Q (.ref p) (ye H1 p (.lst xs))
theorem zhh (h : PA X es t) : PE X (.Tuple es x1 pos) (zmz t) := by
 intro pins s σ H Q I hq
 refine wpAny_Tuple_spliced (zZ (h pos pins s σ H _ I hq) fun us s1 ⟨xs, H1, I1, r, z, q⟩ => ⟨by rw [← r.length]; exact z, ?_⟩)
 have hf : H1 s1.heap.objs.size = none := I1.hok.fresh (az _)
 refine ⟨.ref s1.heap.objs.size, ye H1 s1.heap.objs.size (.tup xs), I1.laid (t' := s1.toks) (fun b u e => ak _ e) (az _) ?_, rfl, q _ hf⟩
 exact ⟨z, us, r, ⟨_, aE _ rfl, rfl, _, rfl⟩⟩
theorem zmB (h : PA X es t) : PE X (.List es pos) (zmA t) := by
 intro pins s σ H Q I hq
 refine wpAny_List_spliced (zZ (h pos pins s σ H _ I hq) fun us s1 ⟨xs, H1, I1, r, z, q⟩ => ⟨by rw [← r.length]; exact z, ?_⟩)
 have hf : H1 s1.heap.objs.size = none := I1.hok.fresh (az _)
 refine ⟨.ref s1.heap.objs.size, ye H1 s1.heap.objs.size (.lst xs), I1.laid (t' := s1.toks) (fun b u e => ak _ e) (az _) ?_, rfl, q _ hf⟩
 exact ⟨z, us, 0, r, aE _ rfl⟩
end
abbrev Sp := List V -> Hp -> VK -> XK -> Prop
abbrev Y1 := List Env -> Hp -> Shared -> XK -> Value -> Shared -> Prop
structure Env0 (P : Program) (w : World) (K : aj) (mg : Str -> Option Value) (base : Heap) (A : Around) (outer : List Env) (s : Shared) (H : Hp) : Prop where
 frames : A.frames = some outer
 mod : Mod K mg base
 bs : ∀ b o, base.get? b = some o -> s.heap.get? b = some o /\ H b = none
 bsz : base.objs.size <= s.heap.objs.size
 funs : s.heap.FunFrames base outer
 frf : ∀ b ∈ Vg outer, H b = none
 hok : HOk P w H s.heap
 bare : AllBare s.gens
def CE (outer : List Env) (P : Program) (w : World) (H : Hp) (s : Shared) (Q : VK) (u : Value) (s' : Shared) : Prop :=
 ∃ v H', s'.os = s.os /\ AllBare s'.gens /\ Un (Vg outer) [] H H' s.heap s'.heap /\ HOk P w H' s'.heap /\ RelV v u /\ Q v H'
def CR (CX : Y1) (outer : List Env) (P : Program) (w : World) (H : Hp) (s : Shared) (Q : VK) (E : XK) (r : Result) (s' : Shared) : Prop :=
 match r with
 | .ok (.ret u) => CE outer P w H s Q u s'
 | .ok _ => False
 | .error e => CX outer H s E e s'
structure FnOk (P : Program) (w : World) (K : aj) (mg : Str -> Option Value) (base : Heap) (CX : Y1) (k : Nat) (f : Addr) (fd : FuncData) (ps : List Str) (sp : Sp) : Prop where
 len : ∀ vs H Q E, sp vs H Q E -> vs.length = ps.length
 run : ∀ (A : Around) (outer : List Env) (s : Shared) (H : Hp) (args : Args) (us : List Value) (vs : List V) (Q : VK) (E : XK), Room k A -> Env0 P w K mg base A outer s H -> BindsTo s fd args (ps.zip us) -> Vals vs us -> sp vs H Q E ->
  cS (model P w) A (.call (.ref f) args) (CR CX outer P w H s Q E) s
theorem FnOk.mono {P : Program} {w : World} {K : aj} {mg : Str -> Option Value} {base : Heap} {CX : Y1} {j k : Nat} {f : Addr} {fd : FuncData} {ps : List Str} {sp : Sp} (F : FnOk P w K mg base CX j f fd ps sp) (h : j <= k) :
 FnOk P w K mg base CX k f fd ps sp := ⟨F.len, fun A outer s H args us vs Q E hr => F.run A outer s H args us vs Q E (hr.mono h)⟩
theorem FnOk.imp {P : Program} {w : World} {K : aj} {mg : Str -> Option Value} {base : Heap} {CX : Y1} {k : Nat} {f : Addr} {fd : FuncData} {ps : List Str} {sp sp' : Sp} (F : FnOk P w K mg base CX k f fd ps sp)
 (h : ∀ vs H Q E, sp' vs H Q E -> sp vs H Q E) : FnOk P w K mg base CX k f fd ps sp' :=
 ⟨fun vs H Q E q => F.len vs H Q E (h _ _ _ _ q), fun A outer s H args us vs Q E hr he hb hv hs => F.run A outer s H args us vs Q E hr he hb hv (h _ _ _ _ hs)⟩
theorem Env0.make {P : Program} {w : World} {K : aj} {mg : Str -> Option Value} {base : Heap} {A : Around} {outer : List Env} {s : Shared} {H : Hp} (e : Env0 P w K mg base A outer s H) (C : Addr) (us : List Value) (kw : List (Str × Value)) :
 Env0 P w K mg base (A.under (.builtin "type.__call__" ⟨.ref C :: us, kw⟩)) outer s H := ⟨by first | exact e.frames | (simpa [gm, Code.envs, gp, pushEnvs] using e.frames), e.mod, e.bs, e.bsz, e.funs, e.frf, e.hok, e.bare⟩
section
variable {X : Cx} {pins : List (Addr × Obj)} {σ : St} {H : Hp} {s s' : Shared}
theorem Inv.env0 (I : Inv X pins σ H s) : Env0 X.prog X.w X.K X.mg X.base X.A X.stack s H :=
 ⟨I.ok.frames, I.ok.mod, I.bs, aM I.ok.bsz I.sz, I.stack, I.stkFree, I.hok, I.bare⟩
theorem Inv.after (I : Inv X pins σ H s) (h : CE X.stack X.prog X.w H s Q u s') : EP X pins σ Q u s' := by
 obtain ⟨v, H', os, bare, un, hok, r, q⟩ := h
 obtain ⟨hh, g, d, t, os'⟩ := s'
 obtain rfl : os' = s.os := os
 exact ⟨v, H', I.call (h' := hh) (g' := g) (d' := d) (t' := t) (ch := []) un hok bare (fun b z => absurd z (by simp)), r, q⟩
end
def V8 (sp : Sp) (dvs : List V) (E : XK) (t : TA) : TE := fun σ H Q => t σ H fun vs H1 => sp (vs ++ dvs) H1 Q E
def zky (C : Addr) (sp : Sp) (dvs : List V) (E : XK) (t : TA) : TE := fun σ H Q => t σ H fun vs H1 => ∀ x dx, H1 x = none -> H1 dx = none -> dx ≠ x ->
 sp (.ref x :: (vs ++ dvs)) (ye (ye H1 dx (.own x)) x (.ins C dx [])) (fun v H2 => v = .non /\ Q (.ref x) H2) E
def Binds (K : aj) (fd : FuncData) (ps : List Str) (ds : List Value) : Prop :=
 ∀ (s : Shared) (us : List Value), K.In s.heap -> (us ++ ds).length = ps.length -> BindsTo s fd ⟨us, []⟩ (ps.zip (us ++ ds))
theorem Binds.all {K : aj} {fd : FuncData} {ps : List Str} (h : ∀ us : List Value, us.length = ps.length -> bindArgs fd ⟨us, []⟩ = pure (ps.zip us)) : Binds K fd ps [] := fun s us _ hl => by
 rw [aJ] at hl ⊢
 exact .of_eq (h us hl)
def Vk (CX : Y1) (X : Cx) (E : XK) : Prop := ∀ (pins : List (Addr × Obj)) (σ : St) (H : Hp) (s : Shared) (e : Value) (s' : Shared), Inv X pins σ H s -> CX X.stack H s E e s' -> X.xe e s'
section
variable {X : Cx} {CX : Y1} {k : Nat} {f C : Addr} {fd : FuncData} {ps : List Str} {sp : Sp} {dvs : List V} {ds : List Value} {E : XK} {x m : Str} {p pos apos : Pos} {e o : Expr} {es : List Expr} {ta : TE} {t : TA}
theorem zhi (F : FnOk X.prog X.w X.K X.mg X.base CX k f fd ps sp) (hr : Room k X.A) (hb : Binds X.K fd ps ds) (hd : Vals dvs ds) (hx : Vk CX X E)
 (I : Inv X pins σ H s) (r : Vals vs us) (h : sp (vs ++ dvs) H Q E) : wpAny (model X.prog X.w) X.A (call (.ref f) us) (EP X pins σ Q) X.xe s := by
 have r2 : Vals (vs ++ dvs) (us ++ ds) := r.append hd
 have hl : (us ++ ds).length = ps.length := by rw [← r2.length]; exact F.len _ _ _ _ h
 refine gh (dG (F.run X.A X.stack s H ⟨us, []⟩ (us ++ ds) (vs ++ dvs) Q E hr I.env0 (hb s us I.kIn hl) r2 h) fun r s' hq => ?_)
 cases r with
 | error e => exact hx pins σ H s e s' I hq
 | ok fl =>
  cases fl with
  | ret u => exact I.after hq
  | next => exact aa hq
  | brk => exact aa hq
  | cont => exact aa hq
theorem zk_ (F : FnOk X.prog X.w X.K X.mg X.base CX k f fd ps sp) (hr : Room k X.A) (hg : Gl X x) (hm : X.mg x = some (.ref f)) (hk : bg X.K (.ref f) = true) (hb : Binds X.K fd ps ds) (hd : Vals dvs ds) (hx : Vk CX X E)
 (ha : PA X (e :: es) t) (hdb : (x == ("__debug__" : Str)) = false := by decide) (he : ap (e :: es) X.env = (false, eval e X.env) :: ap es X.env := by rfl) (hpl : (backTo pos (ap es X.env)).any (·.1) = false := by rfl) :
 PE X (.Call (.Name x p) (e :: es) [] pos) (V8 sp dvs E t) := by
 intro pins s σ H Q I h
 refine cM (zbc I hg hm ?_ hdb)
 refine fW (h₀ := X.base) I.ok.mod.kin hk (zZ (ha pos pins s σ H _ I h) fun us s1 ⟨vs, H1, I1, r, q⟩ => ⟨I1.kIn, ?_⟩) he hpl
 exact zhi F hr hb hd hx I1 r q
structure Mk (K : aj) (C f : Addr) : Prop where
 makes : bT K C = true
 init : aH K (.ref C) "__init__" = some (some (.ref f))
 fn : aV K (.ref f) = true
 kp : bg K (.ref C) = true
theorem zi7 (M : Mk X.K C f) (F : FnOk X.prog X.w X.K X.mg X.base CX k f fd ps sp) (hr : Room (k + 1) X.A) (hb : Binds X.K fd ps ds) (hd : Vals dvs ds)
 (hx : Vk CX X E) (I : Inv X pins σ H s) (r : Vals vs us)
 (h : ∀ x dx, H x = none -> H dx = none -> dx ≠ x -> sp (.ref x :: (vs ++ dvs)) (ye (ye H dx (.own x)) x (.ins C dx [])) (fun v H2 => v = .non /\ Q (.ref x) H2) E) :
 wpAny (model X.prog X.w) X.A (call (.ref C) us) (EP X pins σ Q) X.xe s := by
 have hq := h (s.heap.objs.size + 1) s.heap.objs.size (I.hok.fresh (eH _)) (I.hok.fresh (az _)) (aB (bY _))
 have I2 := Inv.made (C := C) I
 have r2 : Vals (V.ref (s.heap.objs.size + 1) :: (vs ++ dvs)) (Value.ref (s.heap.objs.size + 1) :: (us ++ ds)) := .cons rfl (r.append hd)
 have hl : (Value.ref (s.heap.objs.size + 1) :: us ++ ds).length = ps.length := by
  have e := r2.length
  rw [F.len _ _ _ _ hq] at e
  exact e.symm
 refine gh (zi5 (f := f) I.kIn M.makes M.init (beq_iff_eq.mp M.fn) (dG (F.run _ X.stack _ _ ⟨Value.ref (s.heap.objs.size + 1) :: us, []⟩ (Value.ref (s.heap.objs.size + 1) :: (us ++ ds)) _ _ E (hr.make C us [])
  (I2.env0.make C us []) (hb _ (Value.ref (s.heap.objs.size + 1) :: us) I2.kIn hl) r2 hq) fun r s' hq' => ?_))
 cases r with
 | error e => exact hx pins σ _ _ e s' I2 hq'
 | ok fl =>
  cases fl with
  | ret u =>
   obtain ⟨v, H', I3, rv, ev, q3⟩ := I2.after hq'
   subst ev
   exact ⟨rv, ⟨V.ref (s.heap.objs.size + 1), H', I3, rfl, q3⟩⟩
  | next => exact aa hq'
  | brk => exact aa hq'
  | cont => exact aa hq'
theorem zla (M : Mk X.K C f) (F : FnOk X.prog X.w X.K X.mg X.base CX k f fd ps sp) (hr : Room (k + 1) X.A) (hg : Gl X x) (hm : X.mg x = some (.ref C)) (hb : Binds X.K fd ps ds) (hd : Vals dvs ds) (hx : Vk CX X E)
 (ha : PA X (e :: es) t) (hdb : (x == ("__debug__" : Str)) = false := by decide) (he : ap (e :: es) X.env = (false, eval e X.env) :: ap es X.env := by rfl) (hpl : (backTo pos (ap es X.env)).any (·.1) = false := by rfl) :
 PE X (.Call (.Name x p) (e :: es) [] pos) (zky C sp dvs E t) := by
 intro pins s σ H Q I h
 refine cM (zbc I hg hm ?_ hdb)
 refine fW (h₀ := X.base) I.ok.mod.kin M.kp (zZ (ha pos pins s σ H _ I h) fun us s1 ⟨vs, H1, I1, r, q⟩ => ⟨I1.kIn, ?_⟩) he hpl
 exact zi7 M F hr hb hd hx I1 r q
end
section
variable {X : Cx} {CX : Y1} {k : Nat} {f C : Addr} {fd : FuncData} {ps ks : List Str} {sp : Sp} {E : XK} {x m : Str} {p pos apos kpos : Pos} {e o : Expr} {es : List Expr} {kws : List Keyword} {te ta : TE} {t tk : TA} {nm : Option Str}
variable {g : List Value -> List Value -> List Value} {gV : List V -> List V -> List V}
end
structure zE (N P : List Str) (sc : Scope) : Prop where
 kind : sc.kind = .function
 co : sc.isCoroutine = false
 gen : sc.isGenerator = false
 nd : N.Nodup
 pre : N.take P.length = P
 par : ∀ x ∈ P, sc.names.lookup x = some .local \/ sc.names.lookup x = some .cell
 nofree : ∀ y ∈ sc.names, y.2 ≠ .free
theorem zbP {kindOf : Str -> Option NameKind} : ∀ {binds : List (Str × Value)} {m : Str -> Option Value}, (∀ v, (x, v) ∉ binds) -> bindL kindOf binds m x = m x
 | [], _, _ => rfl
 | (n, v) :: r, m, h => by
  unfold bindL
  rw [zbP fun w hw => h w (ah _ hw)]
  split
  · have : x ≠ n := by rintro rfl; exact h v ai
    simp [this]
  · rfl
theorem zbQ {kindOf : Str -> Option NameKind} : ∀ {binds : List (Str × Value)} {m : Str -> Option Value}, (∀ v, (x, v) ∉ binds) -> bindC kindOf binds m x = m x
 | [], _, _ => rfl
 | (n, v) :: r, m, h => by
  unfold bindC
  rw [zbQ fun w hw => h w (ah _ hw)]
  split
  · rfl
  · have : x ≠ n := by rintro rfl; exact h v ai
    simp [this]
theorem zbR {kindOf : Str -> Option NameKind} : ∀ {P : List Str} {vs : List Value} {i : Nat} {m : Str -> Option Value}, P.Nodup -> P[i]? = some x -> vs[i]? = some v -> kindOf x = some .local ->
 bindL kindOf (P.zip vs) m x = some v
 | [], _, _, _, _, h, _, _ => by simp at h
 | _ :: _, [], _, _, _, _, h, _ => by simp at h
 | p :: P, w :: vs, 0, m, nd, h1, h2, hk => by
  simp at h1 h2; subst h1; subst h2
  show bindL kindOf ((p, w) :: P.zip vs) m p = _
  unfold bindL
  rw [zbP fun v hv => (ce.mp nd).1 (dW hv).1, if_pos hk]
  simp
 | p :: P, w :: vs, i + 1, m, nd, h1, h2, hk => by
  show bindL kindOf ((p, w) :: P.zip vs) m x = _
  unfold bindL
  exact zbR (i := i) (ce.mp nd).2 (by simpa using h1) (by simpa using h2) hk
theorem zbS {kindOf : Str -> Option NameKind} : ∀ {P : List Str} {vs : List Value} {i : Nat} {m : Str -> Option Value}, P.Nodup -> P[i]? = some x -> vs[i]? = some v -> kindOf x ≠ some .local ->
 bindC kindOf (P.zip vs) m x = some v
 | [], _, _, _, _, h, _, _ => by simp at h
 | _ :: _, [], _, _, _, _, h, _ => by simp at h
 | p :: P, w :: vs, 0, m, nd, h1, h2, hk => by
  simp at h1 h2; subst h1; subst h2
  show bindC kindOf ((p, w) :: P.zip vs) m p = _
  unfold bindC
  rw [zbQ fun v hv => (ce.mp nd).1 (dW hv).1, if_neg hk]
  simp
 | p :: P, w :: vs, i + 1, m, nd, h1, h2, hk => by
  show bindC kindOf ((p, w) :: P.zip vs) m x = _
  unfold bindC
  exact zbS (i := i) (ce.mp nd).2 (by simpa using h1) (by simpa using h2) hk
def start (N : List Str) (vs : List V) : St := vs.map some ++ aX (N.length - vs.length) none
def Rl (CX : Y1) (P : Program) (w : World) (K : aj) (mg : Str -> Option Value) (base : Heap) (N : List Str) (qual : Str) (scope : Scope) (f : Addr) (cd : Value) (A : Around) (outer : List Env) (s : Shared) (H : Hp) (E : XK) : Cx where
 prog := P
 w := w
 K := K
 mg := mg
 base := base
 A := A.deeper (envOfC qual scope s.heap.objs.size f cd)
 N := N
 s₀ := s
 H₀ := H
 env := envOfC qual scope s.heap.objs.size f cd
 outer := outer
 stack := envOfC qual scope s.heap.objs.size f cd :: outer
 ex := []
 calm := true
 fn := fun _ => true
 pn := []
 xe := fun e s' => wpAny (model P w) (A.deeper (envOfC qual scope s.heap.objs.size f cd)) (leaving (envOfC qual scope s.heap.objs.size f cd) e) (fun _ s'' => CX outer H s E e s'') (fun e' s'' => CX outer H s E e' s'') s'
theorem zc9 {sc : Scope} (h : sc.names.lookup x = some .cell) : ∃ c, (ip n sc.names []).lookup x = some c := by
 have q := fe sc.names n [] (.inl h)
 exact Option.isSome_iff_exists.mp q
theorem zhj {CX : Y1} {P : Program} {w : World} {K : aj} {mg : Str -> Option Value} {base : Heap} {N ps : List Str} {qual : Str} {scope : Scope} {f : Addr} {cd : Value} {A : Around} {outer : List Env} {s s1 : Shared} {H : Hp} {E : XK} {us : List Value} {vs : List V}
 (S : zE N ps scope) (hd : A.handled = none) (e0 : Env0 P w K mg base A outer s H) (hl : vs.length = ps.length) (r : Vals vs us)
 (x : InCallC s s.heap.objs.size (bindL (envOfC qual scope s.heap.objs.size f cd).kindOf (ps.zip us) fun _ => none) (ip (s.heap.objs.size + 1) scope.names []) (bindC (envOfC qual scope s.heap.objs.size f cd).kindOf (ps.zip us) fun _ => none) s1) :
 Inv (Rl CX P w K mg base N qual scope f cd A outer s H E) [] (start N vs) H s1 := by
 have hpl : ps.length <= N.length := by have := congrArg ci S.pre; rw [cz] at this; omega
 obtain ⟨h1, tk, rfl, hk⟩ := x.done
 have noA : ∀ b : Addr, b ∉ (Rl CX P w K mg base N qual scope f cd A outer s H E).ex := fun b z => absurd (show b ∈ ([] : List Addr) from z) (by simp)
 refine ⟨⟨e0.mod, S.kind, rfl, rfl, az _, fun y z c h1 h2 => ?_, fun y hy => ?_, fun y c _ h => ?_, fun _ => hd, Around.frames_deeper e0.frames, .inr ⟨rfl, rfl⟩, fun b z => absurd z (noA b), e0.bs, e0.bsz, fun b _ _ => noA b, fun b z => absurd z (noA b), e0.funs, e0.frf⟩,
  rfl, e0.bare, Un.kept hk, ⟨_, x.toInCall.ns, fun i y v h1 h2 h3 => ?_⟩, fun y c h => ⟨_, x.cell y c h⟩, e0.hok.fresh (az _), fun y c h => ?_, fun p hp => absurd (show p ∈ ([] : List (Addr × Obj)) from hp) (by simp), e0.hok.kept hk, ?_⟩
 · exact name_of_addr x.apart (cw h1) (cw h2)
 · have hy : scope.names.lookup y = some .cell \/ scope.names.lookup y = some .free := hy
   rcases hy with hy | hy
   · exact zc9 hy
   · exact absurd rfl (S.nofree _ (cw hy))
 · exact dA (x.above y c (cw h))
 · have hi : i < vs.length := by
    unfold start at h2
    by_cases hi : i < vs.length
    · exact hi
    · rw [ez (by simpa using hi)] at h2
      rw [eV] at h2
      split at h2 <;> cases h2
   have ha : vs[i]? = some v := by
    unfold start at h2
    rw [cX (by simpa using hi), au] at h2
    cases e : vs[i]? with
    | none => rw [e] at h2; cases h2
    | some a => rw [e] at h2; cases h2; rfl
   obtain ⟨u, hu, rv⟩ := r.get ha
   have hp : ps[i]? = some y := by
    rw [← S.pre, List.getElem?_take_of_lt (by omega)]; exact h1
   have ndP : ps.Nodup := by rw [← S.pre]; exact S.nd.sublist (gz _ _)
   refine ⟨u, rv, ?_⟩
   rcases S.par y (dS hp) with k | k
   · exact .inl ⟨k, zbR ndP hp hu k⟩
   · obtain ⟨c, e⟩ := zc9 (n := s.heap.objs.size + 1) k
     refine .inr ⟨.inl k, c, e, ?_⟩
     have q := x.cell y c e
     rw [zbS ndP hp hu (by show scope.names.lookup y ≠ _; rw [k]; decide)] at q
     exact q
 · exact e0.hok.fresh (dA (x.above y c (cw h)))
 · unfold start
   show _ = N.length
   rw [ax, am, List.length_replicate]
   omega
theorem znS {CX : Y1} {P : Program} {w : World} {K : aj} {mg : Str -> Option Value} {base : Heap} {k : Nat} {f : Addr} {name qual : Str} {params : Arguments} {body : List Stmt} {scope : Scope} {dV kV doc pm cdv ct oc : Value} {an od : Option Addr}
 {osl : Array (Option Value)} {N ps : List Str} {sp : Sp} (lk : K.lookup f = some ⟨oc, od, .func (cJ name qual params body scope dV kV doc pm an cdv ct), osl⟩) (hcd : d9 K cdv qual = true) (S : zE N ps scope)
 (len : ∀ vs H Q E, sp vs H Q E -> vs.length = ps.length)
 (hbody : ∀ (A : Around) (outer : List Env) (s : Shared) (H : Hp) (vs : List V) (Q : VK) (E : XK), Room k (A.deeper (envOfC qual scope s.heap.objs.size f cdv)) -> sp vs H Q E ->
  ∃ t, PSs (Rl CX P w K mg base N qual scope f cdv A outer s H E) body t /\ t { nx := fun _ H' => Q .non H', rt := Q } (start N vs) H) :
 FnOk P w K mg base CX (k + 1) f (cJ name qual params body scope dV kV doc pm an cdv ct) ps sp := by
 refine ⟨len, fun A outer s H args us vs Q E hr e0 hb r hsp => ?_⟩
 have hl := len _ _ _ _ hsp
 have KX : K.In s.heap := e0.mod.kin.keeps fun b o e => (e0.bs b o e).1
 have lim : s.heap.NoLimit := e0.mod.nolimit.keeps fun b o e => (e0.bs b o e).1
 have hkind : ∀ y ∈ ps.zip us, scope.names.lookup y.1 = some .local \/ (scope.names.lookup y.1 = some .cell /\ ((ip (s.heap.objs.size + 1) scope.names []).lookup y.1).isSome = true) := fun ⟨n, v⟩ hy => by
  rcases S.par n (dW hy).1 with q | q
  · exact .inl q
  · exact .inr ⟨q, fe _ _ _ (.inl q)⟩
 refine codeAny_call_function hr.depth (KX _ _ lk) rfl S.co S.gen rfl (PySem.W.codeRec_of KX hcd) (hb _ _ _ _ ?_)
 refine wpAny_newFunctionEnv_cells S.kind hkind fun env he s1 x => ?_
 subst he
 refine ⟨lim.keeps x.toInCall.keep, codeAny_func ?_⟩
 obtain ⟨t, ht, hq⟩ := hbody A outer s H vs Q E (hr.deeper _) hsp
 have I : Inv (Rl CX P w K mg base N qual scope f cdv A outer s H E) [] (start N vs) H s1 := zhj S hr.hd e0 hl r x
 refine cL (ht [] s1 (start N vs) H _ I hq) (fun fl s' hs => ?_) fun e s' hs => hs
 have fin : ∀ {σ' : St} {H' : Hp} {v : V} {u : Value}, Inv (Rl CX P w K mg base N qual scope f cdv A outer s H E) [] σ' H' s' -> RelV v u -> Q v H' -> CE outer P w H s Q u s' :=
  fun {σ' H' v u} J rv q => ⟨v, H', J.os, J.bare, J.base, J.hok, rv, q⟩
 cases fl with
 | ret u =>
  obtain ⟨v, σ', H', J, rv, q⟩ := hs
  exact fin J rv q
 | next =>
  obtain ⟨σ', H', J, q⟩ := hs
  exact fin (v := V.non) (u := Value.none) J rfl q
 | brk =>
  obtain ⟨_, _, _, q⟩ := hs
  exact aa q
 | cont =>
  obtain ⟨_, _, _, q⟩ := hs
  exact aa q
section
variable {X : Cx} {x : Str} {p pos : Pos} {e : Expr} {es : List Expr} {t : TA} {id T : String} {r : List V -> Hp -> VK -> Prop}
def tCB (r : List V -> Hp -> VK -> Prop) (t : TA) : TE := fun σ H Q => t σ H fun vs H1 => r vs H1 Q
theorem QW (hc : jt X (.builtin id) r) (hg : Gl X x) (hm : X.mg x = none) (hv : bN x = some (.builtin id)) (ha : PA X (e :: es) t) (hn : x ≠ "__name__" := by decide) (hdb : (x == ("__debug__" : Str)) = false := by decide)
 (he : ap (e :: es) X.env = (false, eval e X.env) :: ap es X.env := by rfl) (hpl : (backTo pos (ap es X.env)).any (·.1) = false := by rfl) : PE X (.Call (.Name x p) (e :: es) [] pos) (tCB r t) := by
 intro pins s σ H Q I h
 refine cM (Vh I hg hm hv ?_ hn hdb)
 exact PyProof.Rows.callWith_builtin1 (zZ (ha pos pins s σ H _ I h) fun us s1 ⟨vs, H1, I1, r1, q1⟩ => hc pins s1 σ H1 vs us Q I1 r1 q1) he hpl
theorem Yp (hc : jt X (.type T) r) (hg : Gl X x) (hm : X.mg x = none) (hv : bN x = some (.type T)) (ha : PA X (e :: es) t) (hn : x ≠ "__name__" := by decide) (hdb : (x == ("__debug__" : Str)) = false := by decide)
 (he : ap (e :: es) X.env = (false, eval e X.env) :: ap es X.env := by rfl) (hpl : (backTo pos (ap es X.env)).any (·.1) = false := by rfl) : PE X (.Call (.Name x p) (e :: es) [] pos) (tCB r t) := by
 intro pins s σ H Q I h
 refine cM (Vh I hg hm hv ?_ hn hdb)
 exact d5 (zZ (ha pos pins s σ H _ I h) fun us s1 ⟨vs, H1, I1, r1, q1⟩ => hc pins s1 σ H1 vs us Q I1 r1 q1) he hpl
end
end L2
namespace HT
open PySem PyProof.Rows
section
open PySem.SeqAt
open PySem.AutoSeq1 (wpAny_loadPart')
open PySem.MeetsSeq PySem.MeetsSeq2 PySem.MeetsSeq3
end
section
variable {prog : Program} {w : World} {A : Around} {E : Value -> Shared -> Prop} {s : Shared}
def sIx (n d : Nat) : Option Int -> Nat
 | none => d
 | some v => if v < 0 then (v + (n : Int)).toNat else min v.toNat n
theorem sIx_none (n d : Nat) : sIx n d none = d := rfl
theorem sIx_nat (n d k : Nat) : sIx n d (some (k : Int)) = min k n := by
 show (if (k : Int) < 0 then ((k : Int) + (n : Int)).toNat else min (k : Int).toNat n) = min k n
 rw [if_neg (by omega), bP]
end
end HT
namespace L2
open PySem PySem.Spec PyProof.Rows
abbrev TO := St -> Hp -> (Option Int -> Hp -> Prop) -> Prop
def PO (X : Cx) (e : Option Expr) (t : TO) : Prop :=
 ∀ (pins : List (Addr × Obj)) (s : Shared) (σ : St) (H : Hp) (Q : Option Int -> Hp -> Prop), Inv X pins σ H s -> t σ H Q ->
  wpAny (model X.prog X.w) X.A (evalPart e X.env) (fun u s' => ∃ o H', Inv X pins σ H' s' /\ IsPart u o /\ Q o H') X.xe s
def zeP : TO := fun _ H Q => Q none H
def zkz (t : TE) : TO := fun σ H Q => t σ H fun x H1 => ∃ i, x = .int i /\ Q (some i) H1
section
variable {X : Cx} {e : Expr} {te : TE} {lo hi : Option Expr} {tl th : TO} {pos p2 : Pos}
theorem zlb : PO X none zeP := by
 intro pins s σ H Q I h
 rw [evalPart_none]
 exact ao ⟨none, H, I, .none, h⟩
theorem zlc (h : PE X e te) : PO X (some e) (zkz te) := by
 intro pins s σ H Q I hw
 rw [evalPart_some]
 refine zZ (h pins s σ H _ I hw) fun u s1 ⟨x, H1, I1, r1, q1⟩ => ?_
 obtain ⟨i, rfl, q⟩ := q1
 obtain ⟨t, rfl⟩ := r1
 exact ⟨some i, H1, I1, .int i t, q⟩
def SlR (X : Cx) (r : V -> Option Int -> Option Int -> Hp -> VK -> Prop) : Prop :=
 ∀ (pins : List (Addr × Obj)) (s : Shared) (σ : St) (H : Hp) (x : V) (v vl vu : Value) (lo hi : Option Int) (sl : Addr) (Q : VK), Inv X pins σ H s -> RelV x v -> s.heap.IsSliceOf sl vl vu .none -> IsPart vl lo -> IsPart vu hi -> r x lo hi H Q ->
  ∃ T id, ia (.type T) "__getitem__" = pure (some (.builtin id)) /\ s.TypeIs v T /\ wpAny (model X.prog X.w) X.A (getItem v (.ref sl)) (EP X pins σ Q) X.xe s
def tSl (r : V -> Option Int -> Option Int -> Hp -> VK -> Prop) (te : TE) (tl th : TO) : TE := fun σ H Q => te σ H fun x H1 => tl σ H1 fun l H2 => th σ H2 fun u H3 => r x l u H3 Q
theorem zi8 {r : V -> Option Int -> Option Int -> Hp -> VK -> Prop} (hr : SlR X r) (he : PE X e te) (hl : PO X lo tl) (hu : PO X hi th) : PE X (.Subscript e (.Slice lo hi none p2) pos) (tSl r te tl th) := by
 intro pins s σ H Q I h
 refine Subscript_ (zZ (he pins s σ H _ I h) fun v s1 ⟨x, H1, I1, r1, q1⟩ => ?_)
 refine wpAny_Slice (zZ (hl pins s1 σ H1 _ I1 q1) fun vl s2 ⟨l, H2, I2, pl, q2⟩ => zZ (hu pins s2 σ H2 _ I2 q2) fun vu s3 ⟨u, H3, I3, pu, q3⟩ => ?_)
 rw [evalPart_none]
 refine ao ?_
 have I4 : Inv X pins σ H3 { s3 with heap := s3.heap.push { cls := .type "slice", data := .fields #[vl, vu, .none] } } := I3.kept (t' := s3.toks) fun b ob q => ak _ q
 obtain ⟨T, id, hT, ht, hg⟩ := hr pins { s3 with heap := s3.heap.push { cls := .type "slice", data := .fields #[vl, vu, .none] } } σ H3 x v vl vu l u s3.heap.objs.size Q I4 r1 (Heap.IsSliceOf.new ..) pl pu q3
 show wpAny (model X.prog X.w) X.A (subscriptTail e (.Slice lo hi none p2) v (.ref s3.heap.objs.size)) (EP X pins σ Q) X.xe { s3 with heap := s3.heap.push { cls := .type "slice", data := .fields #[vl, vu, .none] } }
 exact tail_any (ops := [.ref s3.heap.objs.size, v]) ht hT hg (by with_unfolding_all rfl)
def zbf (xs : List V) (lo hi : Option Int) : List V := (xs.drop (HT.sIx xs.length 0 lo)).take (HT.sIx xs.length xs.length hi - HT.sIx xs.length 0 lo)
theorem zey (xs : List V) (lo hi : Option Int) : (zbf xs lo hi).length <= xs.length := by
 unfold zbf
 rw [cz, List.length_drop]
 omega
end
def J9 (n : Nat) (i : Int) : Option Nat := if 0 <= i then (if i < n then some i.toNat else none) else if -(n : Int) <= i then some (i + n).toNat else none
def RW {α : Type} (xs : List α) (i : Int) : Option α := (J9 xs.length i).bind fun j => xs[j]?
theorem zeQ (h : J9 n i = some j) : fJ i n = some j /\ j < n /\ -(n : Int) <= i /\ i < n := by
 unfold J9 at h
 by_cases h0 : 0 <= i
 · rw [if_pos h0] at h
   by_cases h1 : i < n
   · rw [if_pos h1] at h
     have e : i.toNat = j := ba h
     exact ⟨by rw [gU h0 h1, e], by omega, by omega, h1⟩
   · rw [if_neg h1] at h; cases h
 · rw [if_neg h0] at h
   by_cases h1 : -(n : Int) <= i
   · rw [if_pos h1] at h
     have e : (i + n).toNat = j := ba h
     exact ⟨by rw [gG (by omega) h1, e], by omega, h1, by omega⟩
   · rw [if_neg h1] at h; cases h
theorem zbg {α : Type} {xs : List α} {i : Int} {v : α} (h : RW xs i = some v) : ∃ j, fJ i xs.length = some j /\ xs[j]? = some v /\ j < xs.length /\ -(xs.length : Int) <= i /\ i < xs.length := by
 unfold RW at h
 cases e : J9 xs.length i with
 | none => rw [e] at h; cases h
 | some j =>
  rw [e] at h
  obtain ⟨h1, h2, h3, h4⟩ := zeQ e
  exact ⟨j, h1, h, h2, h3, h4⟩
def zeR (b : Expr) : Prop := ∀ o i, subscripted b false o i = operate [o, i] (getItem o i)
def IxR (X : Cx) (r : R2) : Prop :=
 ∀ (value slice : Expr) (pins : List (Addr × Obj)) (s : Shared) (σ : St) (H : Hp) (x y : V) (v u : Value) (Q : VK), Inv X pins σ H s -> RelV x v -> RelV y u -> r x y H Q ->
  subscripted slice false v u = operate [v, u] (getItem v u) -> wpAny (model X.prog X.w) X.A (subscriptTail value slice v u) (EP X pins σ Q) X.xe s
def MtR (X : Cx) (id : String) (r : V -> List V -> Hp -> VK -> Prop) : Prop :=
 ∀ (pins : List (Addr × Obj)) (s : Shared) (σ : St) (H : Hp) (x : V) (xs : List V) (v : Value) (us : List Value) (Q : VK), Inv X pins σ H s -> RelV x v -> Vals xs us -> r x xs H Q ->
  wpAny (model X.prog X.w) X.A (call (.builtin id) (v :: us)) (EP X pins σ Q) X.xe s
section
variable {X : Cx} {a b : Expr} {ta tb : TE} {pos : Pos}
theorem IxR.or (h : IxR X r) (h' : IxR X r') : IxR X (fun x y H Q => r x y H Q \/ r' x y H Q) := by
 intro value slice pins s σ H x y v u Q I rx ry q hs
 rcases q with q | q
 · exact h value slice pins s σ H x y v u Q I rx ry q hs
 · exact h' value slice pins s σ H x y v u Q I rx ry q hs
theorem znT (hr : IxR X r) (ha : PE X a ta) (hb : PE X b tb) (hs : zeR b) : PE X (.Subscript a b pos) (tOp r ta tb) := by
 intro pins s σ H Q I h
 exact Subscript_ (ziX ha hb I h fun v u s2 x y H2 I2 rx ry q => hr a b pins s2 σ H2 x y v u Q I2 rx ry q (hs _ _))
def zi9 (K : aj) : R2 := fun x y H Q => ∃ p xs i v, x = .ref p /\ y = .int i /\ jQ K H p xs /\ RW xs i = some v /\ Q v H
def zi_ (K : aj) : R2 := fun x y H Q => ∃ p xs i v, x = .ref p /\ y = .int i /\ SqT K H p xs /\ RW xs i = some v /\ Q v H
def zja : R2 := fun x y H Q => ∃ z i c, x = .str z /\ y = .int i /\ z.length <= aG /\ RW z.cps.toList i = some c /\ Q (.str ⟨#[c]⟩) H
theorem ix_list : IxR X (zi9 X.K) := by
 intro value slice pins s σ H x y v u Q I rx ry h hs
 obtain ⟨p, xs, i, z, rfl, rfl, hq, he, q⟩ := h
 cases rx
 obtain ⟨t, rfl⟩ := ry
 obtain ⟨its, r, pl, hz⟩ := I.list hq
 obtain ⟨j, h1, h2, h3, h4, h5⟩ := zbg he
 obtain ⟨w, ew, rw'⟩ := r.get h2
 have hl := r.length
 have hn := YZ
 have fin : EP X pins σ Q w s := ⟨z, H, I, rw', q⟩
 by_cases h0 : 0 <= i
 · have hj : i.toNat = j := by
    rw [gU h0 h5] at h1
    exact ba h1
   exact item_listR pl.isList h0 (by omega) (by rw [hj]; simpa using ew) fin hs
 · have hj : (i + (its.toArray.size : Int)).toNat = j := by
    rw [gG (by omega) h4] at h1
    rw [av, ← hl]
    exact ba h1
   exact subscriptTail_builtinR (x := w) pl.isList.typeIs slot_list_getitem.lookup
    (wpAny_getItem_list_neg (Q := fun r s' => r = w /\ EP X pins σ Q r s') pl.isList (by omega) (by rw [av] <;> omega) (by omega) (by rw [hj]; simpa using ew) ⟨rfl, fin⟩) hs
theorem ix_tup : IxR X (zi_ X.K) := by
 intro value slice pins s σ H x y v u Q I rx ry h hs
 obtain ⟨p, xs, i, z, rfl, rfl, hq, he, q⟩ := h
 cases rx
 obtain ⟨t, rfl⟩ := ry
 obtain ⟨its, r, pl, hz⟩ := I.tuple hq
 obtain ⟨j, h1, h2, h3, h4, h5⟩ := zbg he
 obtain ⟨w, ew, rw'⟩ := r.get h2
 have hl := r.length
 have hn := YZ
 have fin : EP X pins σ Q w s := ⟨z, H, I, rw', q⟩
 exact subscriptTail_builtinR (x := w) pl.typeIs slot_tuple_getitem.lookup
  (getItem_tuple (j := j) (Q := fun r s' => r = w /\ EP X pins σ Q r s') pl (by omega) (by omega) (by rw [av, ← hl]; exact h1) (by simpa using ew) ⟨rfl, fin⟩) hs
theorem zmD : IxR X zja := by
 intro value slice pins s σ H x y v u Q I rx ry h hs
 obtain ⟨z, i, c, rfl, rfl, hz, he, q⟩ := h
 obtain ⟨t, rfl⟩ := rx
 obtain ⟨t', rfl⟩ := ry
 obtain ⟨j, h1, h2, h3, h4, h5⟩ := zbg he
 have hl : z.cps.toList.length = z.length := by simp [Str.length]
 rw [hl] at h1 h4 h5
 have hn := YZ
 exact tail_any (typeIs_str s z t) slot_str_getitem.lookup (getItem_str (c := c) (by
  have e1 : decide (i < -(2 ^ 63 : Int)) = false := decide_eq_false (by omega)
  have e2 : decide (i ≥ 2 ^ 63) = false := decide_eq_false (by omega)
  rw [e1, e2, dQ]) (by rw [h1]; simpa using h2) ⟨.str ⟨#[c]⟩, H, I.tok _, ⟨_, rfl⟩, q⟩) hs
def rIx (K : aj) : R2 := fun x y H Q => zi9 K x y H Q \/ zi_ K x y H Q \/ zja x y H Q
theorem zmE : IxR X (rIx X.K) := ix_list.or (ix_tup.or zmD)
theorem zfX (its : List Value) (n j : Nat) (u : Value) : bR (·.setIfInBounds j u) { cls := .type "list", data := .seq its.toArray n } = { cls := .type "list", data := .seq (its.set j u).toArray n } := by
 simp [bR]
theorem Inv.lst {s : Shared} {xs : List V} (I : Inv X pins σ H s) (h : H p = some (.lst xs)) :
 ∃ (its : List Value) (n : Nat), Vals xs its /\ s.heap.get? p = some { cls := .type "list", data := .seq its.toArray n } /\ xs.length <= aG := by
 obtain ⟨z, its, n, r, e⟩ := I.hok p _ h
 exact ⟨its, n, r, e, z⟩
theorem Inv.lstUpd {s : Shared} {xs ys : List V} {its its' : List Value} {f : Obj -> Obj} (I : Inv X pins σ H s) (h : H p = some (.lst xs))
 (ho : s.heap.get? p = some { cls := .type "list", data := .seq its.toArray n }) (hf : f { cls := .type "list", data := .seq its.toArray n } = { cls := .type "list", data := .seq its'.toArray n' }) (r : Vals ys its') (hz : ys.length <= aG) (t : Nat) :
 Inv X pins σ (ye H p (.lst ys)) { s with heap := s.heap.update p f, toks := t } := by
 have e : (s.heap.update p f).get? p = some { cls := .type "list", data := .seq its'.toArray n' } := by
  rw [dJ f ho (by rw [hf] <;> rfl), hf]
 refine I.write (x := p) (e := p) (by rw [h]; trivial) (.inl rfl) (fun b u hb q => (aY _ _ (bp hb)).trans q) ⟨_, e⟩ ?_
 exact ⟨hz, its', n', r, e⟩
def zkA : V -> V -> V -> Hp -> (Hp -> Prop) -> Prop := fun o i v H Q => ∃ p xs k j, o = .ref p /\ i = .int k /\ H p = some (.lst xs) /\ J9 xs.length k = some j /\ Q (ye H p (.lst (xs.set j v)))
theorem zjb : zme X zkA := by
 intro pins s σ H o i v ov iv u Q I ro ri rv h
 obtain ⟨p, xs, k, j, rfl, rfl, hp, hj, q⟩ := h
 cases ro
 obtain ⟨t, rfl⟩ := ri
 obtain ⟨its, n, r, ho, hz⟩ := I.lst hp
 obtain ⟨h1, h2, h3, h4⟩ := zeQ hj
 have hl := r.length
 have hn := YZ
 have I' : Inv X pins σ (ye H p (.lst (xs.set j v))) { s with heap := s.heap.update p (bR (·.setIfInBounds j u)) } :=
  I.lstUpd hp ho (zfX its n j u) (r.set rv j) (by rw [List.length_set]; exact hz) s.toks
 by_cases h0 : 0 <= k
 · have hk : k.toNat = j := by
    rw [gU h0 h4] at h1
    exact ba h1
   exact PySem.W.ki_setAt ho h0 (by omega) (by rw [av, ← hl]; exact h4) (by rw [hk]; exact ⟨_, I', q⟩)
 · have hk : (k + (its.toArray.size : Int)).toNat = j := by
    rw [gG (by omega) h3] at h1
    rw [av, ← hl]
    exact ba h1
   exact PySem.W.ki_setBack ho (by omega) (by rw [av, ← hl]; exact h3) (by omega) (by rw [hk]; exact ⟨_, I', q⟩)
theorem zc_ (lo hi : Option Int) (n : Nat) : (dw lo hi none n).1 = ((HT.sIx n 0 lo : Nat) : Int) /\ (dw lo hi none n).2.1 = ((HT.sIx n n hi : Nat) : Int) /\ (dw lo hi none n).2.2 = 1 := by
 refine ⟨?_, ?_, rfl⟩
 · cases lo with
   | none => simp [dw, HT.sIx]
   | some i =>
    simp only [dw, HT.sIx, gL, show (1 : Int) > 0 by decide, if_true]
    by_cases h : i < 0
    · simp only [h, if_true] <;> omega
    · simp only [h, if_false] <;> omega
 · cases hi with
   | none => simp [dw, HT.sIx]
   | some i =>
    simp only [dw, HT.sIx, gL, show (1 : Int) > 0 by decide, if_true]
    by_cases h : i < 0
    · simp only [h, if_true] <;> omega
    · simp only [h, if_false] <;> omega
theorem zcD (its : List Value) (lo hi : Option Int) : slicePick its.toArray lo hi none = ((its.drop (HT.sIx its.length 0 lo)).take (HT.sIx its.length its.length hi - HT.sIx its.length 0 lo)).toArray := by
 obtain ⟨h1, h2, h3⟩ := zc_ lo hi its.toArray.size
 unfold slicePick
 rw [h1, h2, h3]
 simp only [sliceRange_one, pick_run, av] <;> rfl
def zmF (K : aj) : V -> Option Int -> Option Int -> Hp -> VK -> Prop := fun x lo hi H Q => ∃ a xs, x = .ref a /\ jQ K H a xs /\ ∀ p, H p = none -> Q (.ref p) (ye H p (.lst (zbf xs lo hi)))
theorem zld : SlR X (zmF X.K) := by
 intro pins s σ H x v vl vu lo hi sl Q I rx hs pl pu h
 obtain ⟨a, xs, rfl, hx, q⟩ := h
 cases rx
 obtain ⟨its, r, ht, hz⟩ := I.list hx
 have hlen := r.length
 refine ⟨"list", _, slot_list_getitem.lookup, ht.isList.typeIs, ?_⟩
 refine wpAny_getItem_list_slice ht.isList hs pl pu .none (by simp) ?_ (by rw [av] <;> omega)
 rw [zcD, ← hlen]
 refine ⟨.ref s.heap.objs.size, _, I.laid (t' := s.toks) (o := .lst (zbf xs lo hi)) (fun b ob q => ak _ q) (az _) ?_, rfl, q _ (I.hok.fresh (az _))⟩
 exact ⟨aM (zey xs lo hi) hz, _, 0, (r.drop (HT.sIx xs.length 0 lo)).take (HT.sIx xs.length xs.length hi - HT.sIx xs.length 0 lo), aE _ rfl⟩
theorem zda : jt X (.type "list") (fun xs H Q => ∃ p ys, xs = [.ref p] /\ (jQ X.K H p ys \/ SqT X.K H p ys) /\ ∀ l, H l = none -> Q (.ref l) (ye H l (.lst ys))) := by
 intro pins s σ H xs us Q I r h
 obtain ⟨p, ys, rfl, hq, q⟩ := h
 obtain ⟨u, rfl, rx⟩ := V7 r
 cases rx
 have fin : ∀ (its : List Value), Vals ys its -> ys.length <= aG -> ∀ (h' : Heap) (c' : Nat), (∀ b o', s.heap.get? b = some o' -> h'.get? b = some o') ->
  h'.get? s.heap.objs.size = some { cls := .type "list", dict := none, data := .seq its.toArray c', slots := #[] } -> EP X pins σ Q (.ref s.heap.objs.size) { s with heap := h' } := fun its r' hz h' c' kp e =>
  ⟨.ref s.heap.objs.size, _, I.laid (t' := s.toks) kp (az _) (show ObjOk X.prog X.w _ h' _ (.lst ys) from ⟨hz, its, c', r', e⟩), rfl, q _ (I.hok.fresh (az _))⟩
 rcases hq with hq | hq
 · obtain ⟨its, r', pl, hz⟩ := I.list hq
   have hlen := r'.length
   obtain ⟨o, ho, hc, n, hd⟩ := pl.isList
   exact call_list_seq p (.inl rfl) ho hc hd (fun h' c' kp e => fin its r' hz h' c' kp e) (by simp only [av] <;> omega)
 · obtain ⟨its, r', pl, hz⟩ := I.tuple hq
   have hlen := r'.length
   obtain ⟨o, ho, hc, n, hd⟩ := pl
   exact call_list_seq p (.inr rfl) ho hc hd (fun h' c' kp e => fin its r' hz h' c' kp e) (by simp only [av] <;> omega)
def tyV (K : aj) (T : String) (x : V) (H : Hp) : Prop := match x with
 | .str _ => T = "str"
 | .int _ => T = "int"
 | .ref p => (T = "list" /\ ∃ xs, jQ K H p xs) \/ (T = "tuple" /\ ∃ o, K.lookup p = some o /\ o.cls = .type "tuple" /\ o.dict = none) \/
  (T = "dict" /\ ((∃ kvs, H p = some (.dK kvs)) \/ ∃ kvs, H p = some (.dT kvs))) \/ (T = "set" /\ ∃ S n, H p = some (.set S n))
 | _ => False
theorem zmG {s : Shared} (I : Inv X pins σ H s) (r : RelV x v) (ty : tyV X.K T x H) :
 s.TypeIs v T /\ ∀ a, v = .ref a -> ∃ ob, s.heap.get? a = some ob /\ ob.dict = none := by
 cases x with
 | str z =>
  obtain ⟨t, rfl⟩ := r
  cases (show T = "str" from ty)
  exact ⟨typeIs_str s z t, fun _ e => nomatch e⟩
 | int i =>
  obtain ⟨t, rfl⟩ := r
  cases (show T = "int" from ty)
  exact ⟨typeIs_int s i t, fun _ e => nomatch e⟩
 | ref p =>
  cases r
  rcases ty with ⟨rfl, xs, hq⟩ | ⟨rfl, o, hk, hc, hd⟩ | ⟨rfl, hk⟩ | ⟨rfl, S, n, hk⟩
  · obtain ⟨its, _, pl, _⟩ := I.list hq
    refine ⟨pl.isList.typeIs, fun a e => ?_⟩
    cases e
    obtain ⟨o, n, e, c, hd, _⟩ := pl
    exact ⟨o, e, hd⟩
  · refine ⟨⟨o, I.kIn p o hk, hc⟩, fun a e => ?_⟩
    cases e
    exact ⟨o, I.kIn _ o hk, hd⟩
  · have z : ∃ o, s.heap.get? p = some o /\ o.ExactDict := by
     rcases hk with ⟨kvs, hk⟩ | ⟨kvs, hk⟩
     · obtain ⟨_, _, _, _, o, _, _, e, ex, _⟩ := I.hok p _ hk
       exact ⟨o, e, ex⟩
     · obtain ⟨_, _, _, _, o, _, _, e, ex, _⟩ := I.hok p _ hk
       exact ⟨o, e, ex⟩
    obtain ⟨o, e, ex⟩ := z
    refine ⟨⟨o, e, ex.1⟩, fun a e2 => ?_⟩
    cases e2
    exact ⟨o, e, ex.2.1⟩
  · obtain ⟨o, _, _, _, e, ex, _⟩ := I.hok p _ hk
    refine ⟨⟨o, e, ex.1⟩, fun a e2 => ?_⟩
    cases e2
    exact ⟨o, e, ex.2.1⟩
 | _ => exact aa ty
def tBM (K : aj) (T : String) (r : V -> List V -> Hp -> VK -> Prop) (to : TE) (t : TA) : TE := fun σ H Q => to σ H fun x H1 => tyV K T x H1 /\ t σ H1 fun xs H2 => r x xs H2 Q
variable {o e : Expr} {es : List Expr} {to : TE} {t : TA} {name : Str} {apos cpos : Pos} {T id : String} {r : V -> List V -> Hp -> VK -> Prop}
theorem zkB (pa : PlainAttrs T) (slot : Slot T name id) (hty : typeOf (.builtin id) = pure (.type "method_descriptor")) (hm : MtR X id r) (ho : PE X o to) (ha : PA X (e :: es) t)
 (hbase : bW o name X.env (eval o X.env) = eval o X.env := by rfl)
 (hfew : ((backTo cpos (ap (e :: es) X.env)).all (fun x => !x.1) && (eE cpos (cU [] X.env)).all (fun x => x.1.isSome)
  && decide ((e :: es).length + ([] : List Keyword).length + (if ([] : List Keyword).isEmpty then 0 else 1) < 30)) = true := by rfl)
 (hline : (apos.endLine == cpos.line) = true := by rfl) (hs : ap (e :: es) X.env = (false, eval e X.env) :: ap es X.env := by rfl) (hplain : (backTo cpos (ap es X.env)).any (·.1) = false := by rfl) :
 PE X (.Call (.Attribute o name apos) (e :: es) [] cpos) (tBM X.K T r to t) := by
 intro pins s σ H Q I h
 refine wpAny_Call_method_late hbase hfew hline rfl (zZ (ho pins s σ H _ I h) fun v s1 ⟨x, H1, I1, r1, ty, q1⟩ => ?_)
 obtain ⟨h1, h2⟩ := zmG I1 r1 ty
 refine ⟨T, id, pa, slot, hty, h1, h2, ?_⟩
 have hA := ha cpos pins s1 σ H1 _ I1 q1
 rw [hs] at hA ⊢
 refine Calls.callWith_builtin (by show (false || (backTo cpos (ap es X.env)).any (·.1)) = false; rw [hplain] <;> rfl) (Calls.evalArgs_plain ?_)
 exact zZ hA fun us s2 ⟨vs, H2, I2, r2, q2⟩ => hm pins s2 σ H2 x vs v us Q I2 r1 r2 q2
end
def MtM (X : Cx) (id : String) (r : V -> List V -> Hp -> VK -> Prop) : Prop :=
 ∀ (pins : List (Addr × Obj)) (s : Shared) (σ : St) (H : Hp) (x : V) (xs : List V) (v : Value) (us : List Value) (Q : VK), Inv X pins σ H s -> RelV x v -> Vals xs us -> r x xs H Q ->
  wpAny (model X.prog X.w) X.A (call (.builtin id) (v :: us)) (EP X pins σ Q) X.xe s
theorem Vals.one : ∀ {x : V} {us : List Value}, Vals [x] us -> ∃ u, us = [u] /\ RelV x u
 | _, _, .cons r .nil => ⟨_, rfl, r⟩
theorem Vals.two : ∀ {x y : V} {us : List Value}, Vals [x, y] us -> ∃ u v, us = [u, v] /\ RelV x u /\ RelV y v
 | _, _, _, .cons r (.cons q .nil) => ⟨_, _, rfl, r, q⟩
theorem Vals.eraseIdx : ∀ {xs : List V} {us : List Value} (i : Nat), Vals xs us -> Vals (xs.eraseIdx i) (us.eraseIdx i)
 | _, _, _, .nil => .nil
 | _, _, 0, .cons _ t => t
 | _, _, i + 1, .cons r t => .cons r (Vals.eraseIdx i t)
theorem zbT {α : Type} : ∀ (l : List α) (i : Nat), (l.eraseIdx i).length <= l.length
 | [], _ => az _
 | _ :: _, 0 => eH _
 | _ :: r, i + 1 => Nat.succ_le_succ (zbT r i)
section
variable {X : Cx} {pins : List (Addr × Obj)} {σ : St} {H : Hp} {s : Shared} {l b : Addr} {xs ys zs : List V}
theorem Inv.lset {its its' : List Value} {f : Array Value -> Array Value} (I : Inv X pins σ H s) (hH : H l = some (.lst xs))
 (e : s.heap.get? l = some { cls := .type "list", data := .seq its.toArray n }) (hf : f its.toArray = its'.toArray) (hv : Vals ys its') (hz : ys.length <= aG) :
 Inv X pins σ (ye H l (.lst ys)) { s with heap := s.heap.update l (bR f), toks := t' } := by
 have q := PySem.IsL.update e f
 rw [hf] at q
 refine I.write (x := l) (e := l) (by rw [hH]; exact trivial) (.inl rfl) (fun b' u hb hu => (aY s.heap (bR f) (bp hb)).trans hu) ⟨_, q⟩ ?_
 exact ⟨hz, its', _, hv, q⟩
theorem Inv.lnew {its : List Value} (I : Inv X pins σ H s) (hv : Vals ys its) (hz : ys.length <= aG) :
 Inv X pins σ (ye H s.heap.objs.size (.lst ys)) { s with heap := s.heap.push { cls := .type "list", data := .seq its.toArray }, toks := t' } :=
 I.laid (fun _ _ q => ak _ q) (az _) ⟨hz, its, 0, hv, aE _ rfl⟩
theorem Inv.fresh (I : Inv X pins σ H s) : H s.heap.objs.size = none := I.hok.fresh (az _)
theorem Inv.lstM (I : Inv X pins σ H s) (hH : H l = some (.lst xs)) : xs.length <= aG /\ ∃ (its : List Value) (n : Nat), Vals xs its /\ xs.length = its.length /\ s.heap.get? l = some { cls := .type "list", data := .seq its.toArray n } := by
 obtain ⟨z, its, n, r, e⟩ := I.hok l _ hH
 exact ⟨z, its, n, r, r.length, e⟩
theorem zjc (h : n <= aG) : dg n = false := by
 unfold dg
 exact decide_eq_false (by omega)
end
section
variable {X : Cx}
def zeT : V -> List V -> Hp -> VK -> Prop := fun x vs H Q => ∃ l xs y, x = .ref l /\ vs = [y] /\ H l = some (.lst xs) /\ xs.length < aG /\ Q .non (ye H l (.lst (xs ++ [y])))
theorem zhl : MtM X "list.append" zeT := by
 intro pins s σ H x vs v us Q I rx rv h
 obtain ⟨l, xs, y, rfl, rfl, hH, hz, q⟩ := h
 cases rx
 obtain ⟨u, rfl, ru⟩ := rv.one
 obtain ⟨z, its, n, r, hl, e⟩ := I.lstM hH
 refine ib F.slot_list_append ⟨_, e, rfl⟩ F.entry_list_append (F.args_list_append_2 _ _) (PySem.list_append l its.toArray n u (by rw [av]; omega)) ⟨e, ?_⟩
 refine ⟨.non, _, I.lset (its' := its ++ [u]) hH e (by simp) (r.append (.cons ru .nil)) ?_, rfl, q⟩
 rw [ax, cQ]
 omega
def zeU : V -> List V -> Hp -> VK -> Prop := fun x vs H Q => ∃ l b xs zs, x = .ref l /\ vs = [.ref b] /\ H l = some (.lst xs) /\ H b = some (.lst zs) /\ xs.length + zs.length <= aG /\ Q .non (ye H l (.lst (xs ++ zs)))
theorem zhm : MtM X "list.extend" zeU := by
 intro pins s σ H x vs v us Q I rx rv h
 obtain ⟨l, b, xs, zs, rfl, rfl, hH, hB, hz, q⟩ := h
 cases rx
 obtain ⟨u, rfl, ru⟩ := rv.one
 cases ru
 obtain ⟨z, its, n, r, hl, e⟩ := I.lstM hH
 obtain ⟨z2, its2, n2, r2, hl2, e2⟩ := I.lstM hB
 have hsz : its.toArray.size + its2.toArray.size <= aG := by rw [av, av]; omega
 have hlong : ¬ (!its.toArray.isEmpty && dg (its.toArray.size + its2.toArray.size)) = true := by
  rw [zjc hsz, eh]
  exact aw
 refine ib F.slot_list_extend ⟨_, e, rfl⟩ F.entry_list_extend (F.args_list_extend_2 _ _)
  (AutoSeq1.list_extend_list_list_0 l its.toArray n b its2.toArray n2 hlong (by rw [av]; omega) (by omega)) ⟨e, e2, ?_⟩
 refine ⟨.non, _, I.lset (its' := its ++ its2) hH e (by simp) (r.append r2) ?_, rfl, q⟩
 rw [ax]
 omega
def zhn : V -> List V -> Hp -> VK -> Prop := fun x vs H Q => ∃ l xs i k y, x = .ref l /\ vs = [.int i] /\ H l = some (.lst xs) /\ -(2 ^ 63) <= i /\ i < 2 ^ 63 /\ fJ i xs.length = some k /\ xs[k]? = some y /\ Q y (ye H l (.lst (xs.eraseIdx k)))
theorem zjd : MtM X "list.pop" zhn := by
 intro pins s σ H x vs v us Q I rx rv h
 obtain ⟨l, xs, i, k, y, rfl, rfl, hH, h1, h2, hk, hy, q⟩ := h
 cases rx
 obtain ⟨u, rfl, ru⟩ := rv.one
 obtain ⟨t, rfl⟩ := ru
 obtain ⟨z, its, n, r, hl, e⟩ := I.lstM hH
 obtain ⟨w, hw, rw'⟩ := r.get hy
 refine ib F.slot_list_pop ⟨_, e, rfl⟩ F.entry_list_pop (F.args_list_pop_2 _ _)
  (MeetsSeq.list_pop_at l its.toArray n i t k w (fitsIndex_both h1 h2) (by rw [av, ← hl]; exact hk) (by rw [← ft]; exact hw) (by rw [av]; omega)) ⟨e, ?_⟩
 refine ⟨y, _, I.lset (its' := its.eraseIdx k) hH e ?_ (r.eraseIdx k) ?_, rw', q⟩
 · show its.toArray.eraseIdxIfInBounds k = (its.eraseIdx k).toArray
   rw [List.eraseIdxIfInBounds_toArray]
 · have := zbT xs k
   omega
def zmI : R2 := fun x y H Q => ∃ l b xs zs, x = .ref l /\ y = .ref b /\ H l = some (.lst xs) /\ H b = some (.lst zs) /\ xs.length + zs.length <= aG /\ ∀ p, H p = none -> Q (.ref p) (ye H p (.lst (xs ++ zs)))
theorem zmJ : jV X (dh .Add) zmI := by
 intro pins s σ H x y v u Q I rx ry h
 obtain ⟨l, b, xs, zs, rfl, rfl, hH, hB, hz, q⟩ := h
 cases rx
 cases ry
 obtain ⟨z, its, n, r, hl, e⟩ := I.lstM hH
 obtain ⟨z2, its2, n2, r2, hl2, e2⟩ := I.lstM hB
 refine PySem.P.add_list e e2 ?_ (by rw [av, av]; omega)
 have ea : its.toArray ++ its2.toArray = (its ++ its2).toArray := by simp
 rw [ea]
 exact ⟨.ref _, _, I.lnew (t' := s.toks) (r.append r2) (by rw [ax]; omega), rfl, q _ I.fresh⟩
end
section
variable {prog : Program} {w : World} {A : Around} {E : Value -> Shared -> Prop} {s : Shared}
end
section
variable {X : Cx}
end
end L2
namespace Att
open PySem PySem.W PySem.Calls PyProof.Rows
theorem RX : ∀ (ns : List Int) (vs : List Value), WellAll P h vs (ns.map WData.int) -> IntsAre vs ns := by
 intro ns
 induction ns with
 | nil =>
  intro vs w
  rw [bB] at w
  cases w
  exact .nil
 | cons n ns ih =>
  intro vs w
  rw [al] at w
  cases w with
  | cons a b =>
   cases a
   exact .cons _ _ (ih _ b)
theorem zho {l : OpenLaw} (hn : l.most = some n) {h : Heap} 
 (hpre : l.row.toRowW.claim.pre args = true) (hwl : WellAll P h vals args) :
 ∃ a vs ns, vals = [Value.ref a] /\ args = [WData.list (ns.map WData.int)] /\ h.get? a = some { cls := .type "list", data := .seq vs.toArray } /\ IntsAre vs ns /\ ns.length <= n := by
 have hsh : WShape.hasAll [] args [.list .int] = true := (pre_splitW hpre).1
 have hc : l.pre.holds [] { args := args } = true := (pre_splitW hpre).2
 obtain ⟨d, r, rfl, h1, h2⟩ := hasAllW_cons hsh
 obtain rfl := hasAllW_nil h2
 obtain ⟨xs, rfl, h3⟩ := hasW_list h1
 obtain ⟨ns, rfl⟩ := items_int h3
 have hlen : ns.length <= n := by
  unfold OpenLaw.pre at hc
  have h4 : (WTm.not (.lt (.lit (.int (n : Int))) (.len (.arg 0)))).holds [] { args := [.list (ns.map .int)] } = true := by
   have h4 := (holds_andW hc).1
   rw [hn] at h4
   exact h4
  have h5 := condW_of h4 (w_not (w_lt w_lit (w_len_list (w_arg rfl))))
  rw [am] at h5
  refine Nat.le_of_not_lt fun q => ?_
  have q' : (n : Int) < ((ns.length : Nat) : Int) := by omega
  first
   | (rw [decide_eq_true q'] at h5; exact absurd h5 (by decide))
   | (simp at h5; omega)
 cases hwl with
 | cons w1 w2 =>
  cases w2
  cases w1 with
  | list ho hall => exact ⟨_, _, ns, rfl, rfl, ho, RX ns _ hall, hlen⟩
theorem zhp (l : OpenLaw) (args : List WData) : l.row.toRowW.claim.post args (.bool true) args = true :=
 postW_of (r := l.row.toRowW) (X := (true == true))
  (show iz [] (.bool true) .bool = true by first | rfl | decide | simp [iz, WShape.arms, WShape.armsAll])
  (show (WTm.eq .res (.lit (.bool true))).value [] { args := args, res := some (.bool true), after := args } = some (.bool (true == true)) from w_eq_bool (w_res rfl) w_lit) rfl
theorem attach_call {l : OpenLaw} {XP : (Str -> Option Value) -> Heap -> Prop} {YP : World -> Heap -> Prop} {d : DefRec}
 (hn : l.most = some n) (hdf : d.params.defaults = [])
 (call : ∀ (w : World) (s₀ s₁ : Shared) (mg mb : Str -> Option Value) (fa : Addr) (o : Obj) (pm cd doc : Value) (a : Addr) (vs : List Value) (ns : List Int),
  Ground q loose [] XP w s₀ mg mb s₁.heap -> YP w s₁.heap ->
  s₁.heap.get? fa = some o -> o.data = .func (docDef d.name d.params d.body d.scope pm cd doc) -> s₁.heap.CodeRec cd d.name -> mg d.name = some (.ref fa) ->
  s₁.heap.get? a = some { cls := .type "list", data := .seq vs.toArray } -> IntsAre vs ns -> ns.length <= n -> s₁.gens = #[] ->
  cS (model l.prog w) fH (.call (.ref fa) ⟨[.ref a], []⟩) (fun r s' => r = .ok (.ret (.bool true)) /\ OldK s₁.heap s'.heap /\ s'.os = s₁.os /\ AllBare s'.gens) s₁) :
 WalkO q loose XP YP l.row.toRowW d [] (fun f vs => g6 f vs) := by
 intro w s₀ s₁ mg mb G Y fa o pm cd doc dV kV ho hd hcd hD hmg hg args vals as hpre hlay hrd hwl hlo
 obtain rfl : dV = .none := Dflts.none hD hdf
 obtain rfl : kV = .none := Dflts.noKw hD
 obtain ⟨a, vs, ns, rfl, rfl, hobj, hints, hlen⟩ := zho hn hpre hwl
 refine enter_call (dG (call w s₀ s₁ mg mb fa o pm cd doc a vs ns G Y ho (fd_plain hd) hcd hmg hobj hints hlen hg) fun r s' hq => ?_)
 obtain ⟨rfl, h2, h3, h4⟩ := hq
 exact ⟨.inl ⟨.bool true, .bool true, [], rfl, fun _ => rfl, .bool true, zhp l _, fun _ => ⟨List.Pairwise.nil, fun _ hm => (nomatch hm)⟩⟩, h2, h3, h4⟩
section
variable {prog : Program} {w : World} {A : Around} {E : Value -> Shared -> Prop} {s : Shared} {K : Frag}
end
end Att
namespace L2
open PySem PySem.Spec PyProof.Rows
theorem zbU : ∀ {vs : List Value} {ns : List Int}, IntsAre vs ns -> Vals (ns.map V.int) vs
 | _, _, .nil => .nil
 | _, _, .cons n t h => .cons ⟨t, rfl⟩ (zbU h)
def zje (H : Hp) : Prop := ∀ b, H b = none \/ ∃ o xs, H b = some (.frz o (.lst xs))
theorem zjf {K : aj} {mg mb : Str -> Option Value} {s₁ : Shared} {vs : List Value} {ns : List Int}
 (KX : K.In s₁.heap) (hns : s₁.heap.Ns aT mg) (hb : s₁.heap.Ns hZ mb) (hbb : ∀ x : Str, x ≠ "__name__" -> mb x = bN x) (hlim : s₁.heap.NoLimit) (hg : s₁.gens = #[])
 (ha : s₁.heap.get? a = some { cls := .type "list", data := .seq vs.toArray }) (hi : IntsAre vs ns) (hl : ns.length <= aG) (hr : Room k fH)
 (F : ∀ base : Heap, K.In base -> base.Ns aT mg -> FnOk P w K mg base CX k fa fd [x] sp) (hbind : ∀ (s : Shared) (u : Value), BindsTo s fd ⟨[u], []⟩ [(x, u)])
 (hsp : ∀ H : Hp, zje H -> jQ K H a (ns.map V.int) -> sp [.ref a] H (fun v _ => v = .bl true) fun _ _ _ => False)
 (hCX : ∀ H e s', CX [] H s₁ (fun _ _ _ => False) e s' -> False) :
 cS (model P w) fH (.call (.ref fa) ⟨[.ref a], []⟩) (fun r s' => r = .ok (.ret (.bool true)) /\ OldK s₁.heap s'.heap /\ s'.os = s₁.os /\ AllBare s'.gens) s₁ := by
 have rv := zbU hi
 have lenV := hi.length
 have core : ∀ H : Hp, zje H -> jQ K H a (ns.map V.int) -> HOk P w H s₁.heap -> (∀ b, H b ≠ none -> b = a) -> (H a ≠ none -> K.lookup a = none) ->
  cS (model P w) fH (.call (.ref fa) ⟨[.ref a], []⟩) (fun r s' => r = .ok (.ret (.bool true)) /\ OldK s₁.heap s'.heap /\ s'.os = s₁.os /\ AllBare s'.gens) s₁ := by
  intro H hO hS hok hA hK
  have base_of : ∀ {b : Addr} {o : Obj}, s₁.heap.get? b = some o -> H b = none -> (Ua s₁.heap H).get? b = some o := fun e n => ziQ e n
  have noA : ∀ {b : Addr} {o : Obj} {es : Array DictEntry} {ep : Nat}, s₁.heap.get? b = some o -> o.data = .dict es ep -> H b = none := fun {b o es ep} e d => by
   cases q : H b with
   | none => rfl
   | some u =>
    have e' : b = a := hA b (by rw [q]; simp)
    subst e'
    rw [ha] at e; cases e
    have d' : Data.seq vs.toArray _ = Data.dict es ep := d
    cases d'
  have nsK : ∀ {b : Addr} {m : Str -> Option Value}, s₁.heap.Ns b m -> (Ua s₁.heap H).Ns b m := fun {b m} ⟨o, es, ep, e, d, r⟩ => ⟨o, es, ep, base_of e (noA e d), d, r⟩
  have hKb : K.In (Ua s₁.heap H) := fun b o e => base_of (KX b o e) (by
   cases q : H b with
   | none => rfl
   | some u =>
    have e' : b = a := hA b (by rw [q]; simp)
    subst e'
    rw [hK (by rw [q]; simp)] at e; cases e)
  have hM : Mod K mg (Ua s₁.heap H) := ⟨hKb, nsK hns, ⟨mb, nsK hb, hbb⟩, let ⟨mc, h1, h2⟩ := hlim; ⟨mc, nsK h1, h2⟩⟩
  have e0 : Env0 P w K mg (Ua s₁.heap H) fH [] s₁ H := ⟨rfl, hM, fun b o e => zkW e, fb (zg3 _ _), trivial, fun b hb => absurd (show b ∈ ([] : List Addr) from hb) (by simp), hok, .of_eq hg⟩
  refine dG ((F _ hKb (nsK hns)).run fH [] s₁ H ⟨[.ref a], []⟩ [.ref a] [.ref a] _ _ hr e0 (hbind s₁ (.ref a)) (.cons rfl .nil) (hsp H hO hS)) fun r s' h => ?_
  cases r with
  | error e => exact (hCX H e s' h).elim
  | ok fl =>
   cases fl with
   | next => exact aa h
   | brk => exact aa h
   | cont => exact aa h
   | ret u =>
    obtain ⟨v, H', os, bare, un, hok', r', q⟩ := h
    have q' : v = .bl true := q
    subst q'
    obtain rfl : u = Value.bool true := r'
    refine ⟨rfl, OldK.of_keep fun b o e => ?_, os, bare⟩
    cases q : H b with
    | none => exact un.keep b o e q (by intro z; exact absurd (show b ∈ ([] : List Addr) from z) (by simp)) (by simp)
    | some u =>
     rcases hO b with z | ⟨ob, xs, z⟩
     · rw [q] at z; cases z
     · have z2 := un.frzs b ob _ z
       obtain ⟨e1, _⟩ := hok b _ z
       obtain ⟨e2, _⟩ := hok' b _ z2
       rw [e] at e1; cases e1
       exact e2
 cases hk : K.lookup a with
 | some o =>
  have e := KX a o hk
  rw [ha] at e
  cases e
  refine core (fun _ => none) (fun _ => .inl rfl) (.inr ⟨_, vs.toArray, _, hk, rfl, rfl, rfl, by rw [av, lenV]; exact hl, by simpa using rv⟩) (fun b u z => by have z' : (none : Option HO) = some u := z; cases z') (fun b z => absurd rfl z) fun z => absurd rfl z
 | none =>
  refine core (fun b => if b = a then some (.frz { cls := .type "list", data := .seq vs.toArray } (.lst (ns.map V.int))) else none) (fun b => ?_) (.inl (.inr ⟨{ cls := .type "list", data := .seq vs.toArray }, if_pos rfl⟩)) (fun b u z => ?_) (fun b z => ?_) fun _ => hk
  · by_cases hb : b = a
    · exact .inr ⟨_, _, if_pos hb⟩
    · exact .inl (if_neg hb)
  · by_cases hb : b = a
    · have z' := (if_pos hb).symm.trans z
      cases z'
      subst hb
      exact ⟨ha, by rw [am]; exact hl, vs, _, rv, ha⟩
    · have z' := (if_neg hb).symm.trans z
      cases z'
  · by_cases hb : b = a
    · exact hb
    · exact absurd (if_neg hb) z
theorem walk_of {l : PySem.W.OpenLaw} {XP : (Str -> Option Value) -> Heap -> Prop} {YP : World -> Heap -> Prop} {d : DefRec} {K : Params -> aj} {CX : World -> Y1} {sp : World -> Sp} 
 (hn : l.most = some n) (hn2 : n <= aG) (hdf : d.params.defaults = []) (hr : Room k fH)
 (hY : ∀ (w : World) (h : Heap), YP w h -> (K w.params).In h)
 (F : ∀ (w : World) (mg : Str -> Option Value) (fa : Addr) (h : Heap), (K w.params).In h -> h.Ns aT mg -> mg d.name = some (.ref fa) ->
  ∃ fd : FuncData, (∀ (s : Shared) (u : Value), BindsTo s fd ⟨[u], []⟩ [(x, u)]) /\
   ∀ base : Heap, (K w.params).In base -> base.Ns aT mg -> FnOk l.prog w (K w.params) mg base (CX w) k fa fd [x] (sp w))
 (hsp : ∀ (w : World) (H : Hp) (a : Addr) (ns : List Int), ns.length <= n -> zje H -> jQ (K w.params) H a (ns.map V.int) -> sp w [.ref a] H (fun v _ => v = .bl true) fun _ _ _ => False)
 (hCX : ∀ (w : World) (H : Hp) (s : Shared) (e : Value) (s' : Shared), CX w [] H s (fun _ _ _ => False) e s' -> False) :
 ig q loose XP YP l.row.toRowW d [] (fun f vs => g6 f vs) := by
 refine Att.attach_call hn hdf fun w s₀ s₁ mg mb fa o pm cd doc a vs ns G Y ho hd hcd hmg hobj hints hlen hg => ?_
 have KX := hY w _ Y
 obtain ⟨fd, hb, hF⟩ := F w mg fa _ KX G.T.g hmg
 exact zjf KX G.T.g G.T.b G.T.builtins G.T.nolimit hg hobj hints (aM hlen hn2) hr hF hb (fun H hO hS => hsp w H a ns hlen hO hS) fun H e s' => hCX w H s₁ e s'
def zt (s : Stmt) (j : Nat) : Stmt := match s with
 | .ClassDef _ _ _ body _ _ _ _ _ _ _ => body.getD j (.Pass ⟨0, 0, 0, 0⟩)
 | _ => .Pass ⟨0, 0, 0, 0⟩
def ZU (s : Stmt) : Arguments := match s with
 | .FunctionDef _ a _ _ _ _ _ _ _ _ => a
 | _ => { posonlyargs := [], args := [], vararg := none, kwonlyargs := [], kw_defaults := [], kwarg := none, defaults := [] }
def Qw (s : Stmt) : List Stmt := match s with
 | .FunctionDef _ _ b _ _ _ _ _ _ _ => b
 | _ => []
def zv (s : Stmt) : Scope := match s with
 | .FunctionDef _ _ _ _ _ _ sc _ _ _ => sc
 | _ => { kind := .function, names := [], isGenerator := false, isCoroutine := false }
abbrev yD : Y1 := fun _ _ _ _ _ _ => False
abbrev E0 : XK := fun _ _ _ => False
theorem zfY : Vk yD X E0 := fun _ _ _ _ _ _ _ h => h.elim
structure Fun (K : aj) (x qual : Str) (st : Stmt) (f : Addr) (fd : FuncData) : Prop where
 ex : ∃ (oc : Value) (od : Option Addr) (kV doc pm : Value) (an : Option Addr) (cdv ct : Value) (osl : Array (Option Value)),
  fd = cJ x qual (ZU st) (Qw st) (zv st) .none kV doc pm an cdv ct /\ K.lookup f = some ⟨oc, od, .func fd, osl⟩ /\ d9 K cdv qual = true
 kp : bg K (.ref f) = true
section
variable {P : Program} {w : World} {K : aj} {mg : Str -> Option Value} {base : Heap}
theorem Fun.ok {x qual : Str} {st : Stmt} {f : Addr} {fd : FuncData} {N ps : List Str} {k : Nat} {sp : Sp} (F : Fun K x qual st f fd) (S : zE N ps (zv st)) (len : ∀ vs H Q E, sp vs H Q E -> vs.length = ps.length)
 (hbody : ∀ (cdv : Value) (A : Around) (outer : List Env) (s : Shared) (H : Hp) (vs : List V) (Q : VK) (E : XK), Room k (A.deeper (envOfC qual (zv st) s.heap.objs.size f cdv)) -> sp vs H Q E ->
  ∃ t, PSs (Rl yD P w K mg base N qual (zv st) f cdv A outer s H E).nox (Qw st) t /\ t { nx := fun _ H' => Q .non H', rt := Q } (start N vs) H) : FnOk P w K mg base yD (k + 1) f fd ps sp := by
 obtain ⟨oc, od, kV, doc, pm, an, cdv, ct, osl, rfl, lk, hcd⟩ := F.ex
 refine znS lk hcd S len fun A outer s H vs Q E hr hsp => ?_
 obtain ⟨t, h, q⟩ := hbody cdv A outer s H vs Q E hr hsp
 exact ⟨t, h.nox, q⟩
theorem Fun.binds {x qual : Str} {st : Stmt} {f : Addr} {fd : FuncData} {ps : List Str} (F : Fun K x qual st f fd)
 (h : ∀ (kV doc pm : Value) (an : Option Addr) (cdv ct : Value) (us : List Value), us.length = ps.length -> bindArgs (cJ x qual (ZU st) (Qw st) (zv st) .none kV doc pm an cdv ct) ⟨us, []⟩ = pure (ps.zip us)) : Binds K fd ps [] := by
 obtain ⟨oc, od, kV, doc, pm, an, cdv, ct, osl, rfl, lk, hcd⟩ := F.ex
 exact .all (h kV doc pm an cdv ct)
theorem zO {x qual : Str} {st : Stmt} {f : Addr} {oc : Value} {od an : Option Addr} {osl : Array (Option Value)} {kV doc pm cdv ct : Value} (l : K.lookup f = some ⟨oc, od, .func (cJ x qual (ZU st) (Qw st) (zv st) .none kV doc pm an cdv ct), osl⟩)
 (c : d9 K cdv qual = true) (k : bg K (.ref f) = true) : Fun K x qual st f (cJ x qual (ZU st) (Qw st) (zv st) .none kV doc pm an cdv ct) := ⟨⟨oc, od, kV, doc, pm, an, cdv, ct, osl, rfl, l, c⟩, k⟩
end
theorem zhq (h : n <= 1000) : n < aG := Nat.lt_of_le_of_lt h (by decide)
section
variable {X : Cx}
theorem pv (i : Nat) (hN : X.N[i]? = some x := by rfl) (hv : Z5 X.env.scope x := by first | exact Or.inl rfl | exact Or.inr (Or.inl rfl) | exact Or.inr (Or.inr rfl)) (hd : (x == ("__debug__" : Str)) = false := by decide)
 (hcd : (x == ("__classdict__" : Str)) = false := by decide) : PE X (.Name x pos) (QB i) := QC hN hv hd hcd
end
def Same (H H' : Hp) : Prop := ∀ b o, H b = some o -> H' b = some o
theorem Same.refl (H : Hp) : Same H H := fun _ _ h => h
section
variable {κ : Type} [DecidableEq κ]
end
section
variable {P : Program} {w : World} {H : Hp} {h : Heap} {a : Addr}
end
section
variable {X : Cx} {pins : List (Addr × Obj)} {σ : St} {H : Hp} {s : Shared} {a : Addr} {y v : V} {u r : Value} {o : Option V} {A : Around} {E : Value -> Shared -> Prop}
end
section
variable {X : Cx} {pins : List (Addr × Obj)} {σ : St} {H : Hp} {s : Shared} {a : Addr} {kvs : List (y4 × V)} {k : y4} {u : Value} {A : Around} {E : Value -> Shared -> Prop}
end
section
variable {X : Cx} {o i e value : Expr} {pos pos' tpos : Pos} {td ty tv : TE}
end
section
variable {X : Cx} {pos : Pos}
end
section
variable {X : Cx} {pins : List (Addr × Obj)} {σ : St} {H : Hp} {s : Shared} {a : Addr} {y d : V} {u r : Value} {o : Option V} {A : Around} {E : Value -> Shared -> Prop}
end
section
variable {X : Cx} {o e f : Expr} {apos cpos : Pos} {td ty tx : TE}
end
section
variable {X : Cx} {pins : List (Addr × Obj)} {σ : St} {H : Hp} {s : Shared} {a : Addr} {kvs : List (y4 × V)} {A : Around} {E : Value -> Shared -> Prop}
end
section
variable {X : Cx} {pins : List (Addr × Obj)} {σ : St} {H : Hp} {s : Shared} {a : Addr} {y : V} {u : Value} {A : Around} {E : Value -> Shared -> Prop}
end
section
variable {X : Cx}
end
section
variable {κ : Type} [DecidableEq κ]
end
def yM (env : Env) : List (Str × NameKind) -> List (Str × Addr) -> List (Str × Addr)
 | [], cs => cs
 | (n, k) :: r, cs => yM env r (if k == .free then (match env.cells.lookup n with | some a => (n, a) :: cs | none => cs) else cs)
theorem zeV {env : Env} {scope : Scope} (h : ∀ p ∈ scope.names, p.2 = .free -> ∃ a, env.cells.lookup p.1 = some a) : closureFor scope env = pure (yM env scope.names []) := by
 have go : ∀ (l : List (Str × NameKind)) (cs : List (Str × Addr)), (∀ p ∈ l, p.2 = .free -> ∃ a, env.cells.lookup p.1 = some a) ->
  (forIn l cs fun (x : Str × NameKind) (r : List (Str × Addr)) => if (x.2 == .free) = true then (do let a ← cellOf env x.1; pure (ForInStep.yield ((x.1, a) :: r))) else (pure (ForInStep.yield r) : Sem _)) = (pure (yM env l cs) : Sem _) := by
  intro l
  induction l with
  | nil => intro cs _; rfl
  | cons p r ih =>
   intro cs hp
   obtain ⟨n, k⟩ := p
   rw [List.forIn_cons]
   cases hk : k == NameKind.free with
   | false =>
    simp only [hk, aQ, if_false]
    have e : yM env ((n, k) :: r) cs = yM env r cs := by simp only [yM, hk, aQ, if_false]
    rw [e, ← ih cs fun q hq => hp q (ah _ hq)]
    rfl
   | true =>
    obtain ⟨a, ha⟩ := hp (n, k) ai (by simpa using hk)
    have ha' : env.cells.lookup n = some a := ha
    have e : yM env ((n, k) :: r) cs = yM env r ((n, a) :: cs) := by simp only [yM, hk, ha', if_true]
    have ec : cellOf env n = pure a := by unfold cellOf; rw [ha']
    simp only [hk, if_true, ec]
    rw [e, ← ih ((n, a) :: cs) fun q hq => hp q (ah _ hq)]
    rfl
 have q := go scope.names [] h
 simp only [closureFor]
 refine Eq.trans (congrArg (fun z => z >>= fun s => pure s) q) ?_
 rfl
theorem Z6 {env : Env} : ∀ (l : List (Str × NameKind)) (cs : List (Str × Addr)), (cs.lookup x = some c -> env.cells.lookup x = some c) -> (yM env l cs).lookup x = some c -> env.cells.lookup x = some c
 | [], _, h, e => h e
 | (n, k) :: r, cs, h, e => by
  unfold yM at e
  refine Z6 r _ ?_ e
  intro q
  split at q
  · split at q
    · rename_i a ha
      rw [bD] at q
      split at q
      · rename_i hx
        have : x = n := by simpa using hx
        cases q
        rw [this]; exact ha
      · exact h q
    · exact h q
  · exact h q
theorem Rm {env : Env} : ∀ (l : List (Str × NameKind)) (cs : List (Str × Addr)), (∀ p ∈ l, p.2 = .free -> ∃ a, env.cells.lookup p.1 = some a) ->
 ((∃ c, cs.lookup x = some c) \/ (x, NameKind.free) ∈ l) -> ∃ c, (yM env l cs).lookup x = some c
 | [], _, _, h => h.elim id (fun z => nomatch z)
 | (n, k) :: r, cs, hf, h => by
  unfold yM
  refine Rm r _ (fun p hp => hf p (ah _ hp)) ?_
  rcases h with ⟨c, h⟩ | h
  · left
    split
    · split
      · rw [bD]
        split
        · exact ⟨_, rfl⟩
        · exact ⟨c, h⟩
      · exact ⟨c, h⟩
    · exact ⟨c, h⟩
  · rcases ar.mp h with e | h
    · cases e
      left
      obtain ⟨a, ha⟩ := hf (x, .free) ai rfl
      have ha' : env.cells.lookup x = some a := ha
      simp only [ha']
      refine ⟨a, ?_⟩
      show cG x (if (NameKind.free == NameKind.free) = true then (x, a) :: cs else cs) = some a
      rw [if_pos (by decide), bD]
      simp
    · exact .inr h
def yV (X : Cx) (N' : List Str) (scope : Scope) (cl : List (Str × Addr)) (C : Addr) (s2 : Shared) (H2 : Hp) (fp : List Addr) : Cx where
 prog := X.prog
 w := X.w
 K := X.K
 mg := X.mg
 base := X.base
 A := X.A
 N := N'
 s₀ := s2
 H₀ := H2
 env := hU scope cl C X.env
 outer := X.stack
 stack := X.stack
 ex := fp
 fn := fun _ => false
 calm := X.calm
 pn := []
 xe := fun _ _ => False
def blk (js : List (Option Nat)) (σ : St) : St := js.map fun j => match j with | some j => (σ[j]?).join | none => none
def PTs (X : Cx) (ifs : List Expr) (tc : TT) : Prop :=
 ∀ (pins : List (Addr × Obj)) (s : Shared) (σ : St) (H : Hp) (Q : Bool -> Hp -> Prop), Inv X pins σ H s -> tc σ H Q ->
  wpAny (model X.prog X.w) X.A (forIn ifs true fun c r => if r = true then do let ok ← isTrue c X.env (eval c X.env); pure (ForInStep.yield ok) else pure (ForInStep.yield r)) (TP X pins σ Q) X.xe s
def tTT : TT := fun _ H Q => Q true H
theorem zle : PTs X [] tTT := fun _ _ _ H _ I h => wpAny_tests_nil ⟨H, I, h⟩
def zkC (J : It) (g : TG) (tc : TT) (te : TE) (σ : St) (H : Hp) (Q : List V -> Hp -> Prop) : Prop :=
 ∃ W : Nat -> Nat -> List V -> St -> Hp -> Prop, (∃ m, W 0 m [] σ H) /\ ∀ i m ys σ H, W i m ys σ H ->
  (J.stop i H /\ ys.length <= aG /\ Q ys H) \/
  (J.go i H /\ ys.length < aG /\ ∃ N : List V -> St -> Hp -> Prop, (∀ ys' σ' H', N ys' σ' H' -> ∃ m', m' < m /\ W (i + 1) m' ys' σ' H') /\
   ∀ x H', J.yld i H x H' -> g x σ H' fun σ2 H2 => tc σ2 H2 fun b H3 => if b = true then te σ2 H3 fun y H4 => N (ys ++ [y]) σ2 H4 else N ys σ2 H3)
def zfZ (wi : TI) (js : List (Option Nat)) (g : TG) (tc : TT) (te : TE) : TE := fun σ H Q => wi σ H fun J H1 => zkC J g tc te (blk js σ) H1 fun ys H2 => ∀ p, H2 p = none -> Q (.ref p) (ye H2 p (.lst ys))
theorem zhs {R : Result -> Shared -> Prop} (I : Nat -> Shared -> Prop)
 (turn : ∀ n s, I n s -> wpAny (model prog w) A (pyNext it) (fun r s₁ => match r with
  | none => R (.ok .next) s₁
  | some v => wpAny (model prog w) A (dj target it v) (fun _ s₁ => wpAny (model prog w) A (assign target env v) (fun _ s₂ =>
   wpAny (model prog w) A (forIn ifs true fun c r => if r = true then do let ok ← isTrue c env (eval c env); pure (ForInStep.yield ok) else pure (ForInStep.yield r)) (fun ok s₃ =>
    if ok = true then wpAny (model prog w) A (eval elt env) (fun x s₄ =>
     wpAny (model prog w) A (call (.builtin "list.append") [acc, x]) (fun _ s₅ => ∃ m, m < n /\ I m s₅) (fun _ _ => False) s₄) (fun _ _ => False) s₃
    else ∃ m, m < n /\ I m s₃) (fun _ _ => False) s₂) (fun _ _ => False) s₁) (fun _ _ => False) s₁) (fun _ _ => False) s)
 (n : Nat) (h : I n s) : cS (model prog w) A (.compLoop (.ListComp elt [⟨target, iter, ifs, 0⟩] scope pos) 0 it acc env) R s := by
 refine codeAny_loop rfl I (fun n s hI => ?_) n h
 show wpAny _ A ((compTurn (.ListComp elt [⟨target, iter, ifs, 0⟩] scope pos) 0 it acc env).onRaise (fun x => do noteFrame x env; theTreesLotGoes x)) _ _ s
 refine wpAny_noted ?_
 rw [compTurn_list]
 refine ab (fP (ab (cL (turn n s hI) (fun r s₁ h₁ => ?_) fun _ _ h' => h'.elim)))
 cases r with
 | none => exact ao h₁
 | some v =>
  refine ab (cL h₁ (fun _ s₁ h₁ => ?_) fun _ _ h' => h'.elim)
  refine ab (cL h₁ (fun _ s₂ h₂ => ab (cL h₂ (fun ok s₃ h₃ => ?_) fun _ _ h' => h'.elim)) fun _ _ h' => h'.elim)
  cases ok with
  | false => exact ao ⟨rfl, h₃⟩
  | true =>
   exact ab (ab (cL h₃ (fun x s₄ h₄ => ab (cL h₄ (fun _ s₅ h₅ => ao (ao ⟨rfl, h₅⟩)) fun _ _ h' => h'.elim)) fun _ _ h' => h'.elim))
section
variable {X : Cx} {pins : List (Addr × Obj)} {σ : St} {H H2 : Hp} {s2 : Shared}
theorem mem_of_lookup {α : Type} {x : Str} {k : α} : ∀ {l : List (Str × α)}, l.lookup x = some k -> (x, k) ∈ l
 | [], h => by simp at h
 | (n, k') :: r, h => by
  rw [bD] at h
  split at h
  · rename_i hx
    have : x = n := by simpa using hx
    cases h; rw [this]; exact ai
  · exact ah _ (mem_of_lookup h)
theorem QX {env : Env} {x : Str} {k : NameKind} : ∀ {l : List (Str × NameKind)},
 (l.map fun (n, k) => if (k == NameKind.free && env.scope.kind == .function && env.kindOf n == some .cell) then (n, NameKind.cell) else (n, k)).lookup x = some k ->
 l.lookup x = some k \/ (k = .cell /\ l.lookup x = some .free)
 | [], h => by simp at h
 | (n, k') :: r, h => by
  have ih := @QX env x k r
  rw [al, bD] at h
  rw [bD]
  by_cases hc : (k' == NameKind.free && env.scope.kind == .function && env.kindOf n == some .cell) = true
  · simp only [hc, if_true] at h
    have hk : k' = .free := by
     simp only [bu] at hc
     simpa using hc.1.1
    cases hx : x == n with
    | true => rw [hx] at h; cases h; exact .inr ⟨rfl, by rw [hk]⟩
    | false => rw [hx] at h; exact ih h
  · simp only [hc, if_false, aQ] at h
    cases hx : x == n with
    | true => rw [hx] at h; exact .inl h
    | false => rw [hx] at h; exact ih h
structure CompOk (X : Cx) (N' : List Str) (js : List (Option Nat)) (scope : Scope) : Prop where
 kind : scope.kind = .function
 cell : ∀ y ∈ scope.names, y.2 ≠ .cell
 names : ∀ y ∈ scope.names, y.2 = .local -> scope.names.lookup y.1 = some .local
 free : ∀ y ∈ scope.names, y.2 = .free -> X.env.kindOf y.1 = some .cell \/ X.env.kindOf y.1 = some .free
 len : js.length = N'.length
 ix : ∀ (i j : Nat) (x : Str), js[i]? = some (some j) -> N'[i]? = some x -> X.N[j]? = some x /\ scope.names.lookup x = some .free
variable {N' : List Str} {js : List (Option Nat)} {scope : Scope} {fp : List Addr}
theorem CompOk.clos (K : CompOk X N' js scope) (I : Inv X pins σ H s2) : ∀ p ∈ scope.names, p.2 = .free -> ∃ a, X.env.cells.lookup p.1 = some a := fun p hp hf => I.ok.has p.1 (K.free p hp hf)
theorem znU : (hU scope cl C X.env).kindOf x = (scope.names.map fun (n, k) => if (k == NameKind.free && X.env.scope.kind == .function && X.env.kindOf n == some .cell) then (n, NameKind.cell) else (n, k)).lookup x := rfl
theorem CompOk.ok (K : CompOk X N' js scope) (I : Inv X pins σ H2 s2) (hf : ∀ b ∈ fp, FpOk X pins H2 b) (hfp : ∀ b ∈ fp, b < s2.heap.objs.size) (hC : s2.heap.objs.size <= C) :
 (yV X N' scope (yM X.env scope.names []) C s2 H2 fp).Ok := by
 have sub : ∀ x c, (yM X.env scope.names []).lookup x = some c -> X.env.cells.lookup x = some c := fun x c e => Z6 scope.names [] (fun z => by simp at z) e
 refine ⟨I.mod, K.kind, I.ok.glob, I.ok.blt, hC, fun x y c a b => I.ok.inj x y c (sub x c a) (sub y c b), fun x hk => ?_, fun x c h => (nomatch h), I.ok.hd, I.ok.frames, .inl rfl, fun b hb => ⟨?_, fun x c e => ?_⟩, I.bs, ?_, fun b o e hb => ?_, fun b hb => ?_, I.stack, I.stkFree⟩
 · refine Rm scope.names [] (K.clos I) (.inr ?_)
   have z : ∀ k, (hU scope (yM X.env scope.names []) C X.env).kindOf x = some k -> k = .cell \/ k = .free -> (x, NameKind.free) ∈ scope.names := fun k e hk => by
    rw [znU] at e
    rcases QX e with e | ⟨_, e⟩
    · rcases hk with rfl | rfl
      · exact absurd rfl (K.cell _ (mem_of_lookup e))
      · exact mem_of_lookup e
    · exact mem_of_lookup e
   rcases hk with e | e
   · exact z _ e (.inl rfl)
   · exact z _ e (.inr rfl)
 · exact aB (aF (hfp b hb) hC)
 · exact (hf b hb).2.2.2.2.1 x c (sub x c e)
 · exact aM I.ok.bsz I.sz
 · rcases (hf b hb).2.2.2.1 with z | z
   · exact I.ok.noex b o e z
   · exact absurd (aF (aF (ay e) I.ok.bsz) z) (bV _)
 · intro hs
   rcases ar.mp (I.stkSub b hs) with e | e
   · exact (hf b hb).2.1 e
   · exact (hf b hb).2.2.1 e
theorem CompOk.inv (K : CompOk X N' js scope) (I : Inv X pins σ H2 s2) (hf : ∀ b ∈ fp, FpOk X pins H2 b) (hfp : ∀ b ∈ fp, b < s2.heap.objs.size) {o : Obj} {h1 : Heap} {m : Str -> Option Value}
 (hD : s2.heap.objs.size <= D) (hC : s2.heap.objs.size <= C) (hDC : D ≠ C) (up : ∀ b u, s2.heap.get? b = some u -> h1.get? b = some u) (hn : h1.Ns C m) (ho : h1.get? D = some o) (hcell : ∀ v, o.data ≠ .cell v) :
 Inv (yV X N' scope (yM X.env scope.names []) C s2 H2 fp) [(D, o)] (blk js σ) H2 { s2 with heap := h1, toks := tk } := by
 have ok := K.ok I hf hfp hC
 have sub : ∀ x c, (yM X.env scope.names []).lookup x = some c -> X.env.cells.lookup x = some c := fun x c e => Z6 scope.names [] (fun z => by simp at z) e
 refine ⟨ok, rfl, I.bare, Un.kept up, ⟨m, hn, fun i x v e1 e2 e3 => ?_⟩, fun x c e => ?_, I.hok.fresh hC, fun x c e => I.freeC x c (sub x c e), fun p hp => ?_, I.hok.kept up, ?_⟩
 · have e2' : (js.map fun j => match j with | some j => (σ[j]?).join | none => none)[i]? = some (some v) := e2
   rw [au] at e2'
   cases hj : js[i]? with
   | none => rw [hj] at e2'; cases e2'
   | some j =>
    rw [hj] at e2'
    cases j with
    | none => cases e2'
    | some j =>
     have e4 : (σ[j]?).join = some v := ba e2'
     have e5 : σ[j]? = some (some v) := by
      cases q : σ[j]? with
      | none => rw [q] at e4; cases e4
      | some z => rw [q] at e4; cases z with
       | none => cases e4
       | some z => cases e4; rfl
     obtain ⟨hX, hfr⟩ := K.ix i j x hj e1
     obtain ⟨mX, hnX, hl⟩ := I.loc
     have hm := mem_of_lookup hfr
     have hk := K.free _ hm rfl
     have hv : Z5 X.env.scope x := hk.elim (fun z => .inr (.inl z)) fun z => .inr (.inr z)
     obtain ⟨u, r, q⟩ := hl j x v hX e5 hv
     refine ⟨u, r, ?_⟩
     rcases q with ⟨q, _⟩ | ⟨_, c, ec, z⟩
     · rcases hk with hk | hk
       · have hk' : X.env.kindOf x = some .cell := hk
         rw [q] at hk'; cases hk'
       · have hk' : X.env.kindOf x = some .free := hk
         rw [q] at hk'; cases hk'
     · obtain ⟨c', ec'⟩ := Rm (x := x) scope.names [] (K.clos I) (.inr hm)
       have e6 := sub x c' ec'
       rw [ec] at e6; cases e6
       obtain ⟨oz, hoz, hdz⟩ := z
       refine .inr ⟨?_, c, ec', ⟨oz, up _ _ hoz, hdz⟩⟩
       rcases e3 with e3 | e3 | e3
       · rcases QX e3 with e | ⟨z, _⟩
         · rw [hfr] at e; cases e
         · cases z
       · exact .inl e3
       · exact .inr e3
 · obtain ⟨v, oz, hoz, hdz⟩ := I.cell x c (sub x c e)
   exact ⟨v, oz, up _ _ hoz, hdz⟩
 · have e : p = (D, o) := by
    have : p ∈ ([] : List (Addr × Obj)) ++ [(D, o)] := hp
    simpa using this
   subst e
   refine ⟨ho, I.hok.fresh hD, hDC, fun z => ?_, hcell⟩
   rcases ar.mp (I.stkSub D z) with e | e
   · exact absurd (aF I.lt hD) (by rw [show D = X.env.locals from e]; exact bV _)
   · exact I.nofs hD e
 · show (js.map _).length = N'.length
   rw [am]; exact K.len
theorem zht (I : Inv X pins σ H2 s2) (hf : ∀ b ∈ fp, FpOk X pins H2 b) {ys : List V} {us : List Value} 
 (hD : s2.heap.objs.size <= D) (I4 : Inv (yV X N' scope cl C s2 H2 fp) pl σ' H4 s4) (hp : (D, o) ∈ pl) (ho : o = { cls := .type "list", data := .seq us.toArray k }) (r : Vals ys us) (hz : ys.length <= aG) :
 Inv X pins σ (ye H4 D (.lst ys)) s4 := by
 have pD := I4.pin (D, o) (aC _ hp)
 have nD : H4 D = none := pD.2.1
 have eD : s4.heap.get? D = some o := pD.1
 have neD : ∀ b u, s2.heap.get? b = some u -> b ≠ D := fun b u e => aB (aF (ay e) hD)
 have n2 : H2 D = none := I.hok.fresh hD
 have U := I4.base
 refine I.call' (ch := fp) I4.os ⟨fun b u e n hb hx => U.keep b u e n hb hx, fun b u e n hb hx => U.slot b u e n hb hx, fun b u e n hx => ?_, fun b u e hx => U.there b u e hx, fun b xs e => ?_, fun b u xs e => ?_, fun b ps e => ?_⟩ (fun b u e => ?_) I4.bare fun b hb => ⟨(hf b hb).2.2.2.1, (hf b hb).2.1, (hf b hb).2.2.2.2.1, (hf b hb).2.2.2.2.2⟩
 · rw [z7 (neD b u e)]; exact U.free b u e n hx
 · have q := U.tups b xs e
   rw [z7 (yH q nD)]; exact q
 · have q := U.frzs b u xs e
   rw [z7 (yH q nD)]; exact q
 · obtain ⟨more, q⟩ := U.tbls b ps e
   exact ⟨more, by rw [z7 (yH q nD)]; exact q⟩
 · by_cases hb : b = D
   · subst hb
     rw [jC] at e
     cases e
     exact ⟨hz, us, k, r, by rw [eD, ho]⟩
   · rw [z7 hb] at e
     exact (I4.hok b u e).stay (fun c v _ q => q) (fun c q => by rw [z7 (yH q nD)]; exact q) fun c xs q => by rw [z7 (yH q nD)]; exact q
end
section
variable {X : Cx} {pins : List (Addr × Obj)} {σ : St} {H H2 : Hp} {s2 : Shared} {N' : List Str} {js : List (Option Nat)} {scope : Scope} {fp : List Addr}
abbrev Z7 (us : List Value) : Obj := { cls := .type "list", data := .seq us.toArray us.length }
theorem zbV {tn : Nat -> Heap -> Prop} {Qy : List V -> Hp -> Prop} {RR : Value -> Addr -> Result -> Shared -> Prop} {E : Value -> Shared -> Prop}
 (hc : X.calm = true) (K : CompOk X N' js scope) (I : Inv X pins σ H2 s2) (T : zc6 X.prog X.w X.K tg J fp it tn) (st2 : tn 0 s2.heap) (f2 : ∀ b ∈ fp, FpOk X pins H2 b)
 (hb : ∀ C cl, PG (yV X N' scope cl C s2 H2 fp) tg g /\ PTs (yV X N' scope cl C s2 H2 fp) ifs tc /\ PE (yV X N' scope cl C s2 H2 fp) elt te)
 (hw : zkC J g tc te (blk js σ) H2 Qy)
 (hR : ∀ D C s4 H4 ys m, Inv X pins σ (ye H4 D (.lst ys)) s4 -> s4.heap.Ns C m -> s2.heap.objs.size <= C -> D ≠ C -> H4 C = none -> H4 D = none -> Qy ys H4 -> RR (.ref D) C (.ok .next) s4) :
 wpAny (model X.prog X.w) X.A (newList []) (fun acc s₃ => wpAny (model X.prog X.w) X.A (newFunctionEnv scope X.env.globals (yM X.env scope.names []) [] X.env.qual none .none (some X.env)) (fun cenv s₄ =>
  cS (model X.prog X.w) X.A (.compStart (.ListComp elt [⟨tg, iter, ifs, 0⟩] scope pos) 0 (.ref it) acc { cenv with scope := relabel scope X.env }) (RR acc cenv.locals) s₄) E s₃) E s2 := by
 refine cq (wpAny_newFunctionEnv K.cell (by intro y hy; simp at hy) (fun h₁ hns₁ hsb₁ => ?_) K.kind)
 dsimp only at hns₁ hsb₁ ⊢
 generalize hH2 : s2.heap.push { cls := .type "list", dict := none, data := .seq ([] : List Value).toArray } = HH at hns₁ hsb₁ ⊢
 have hC : HH.objs.size = s2.heap.objs.size + 1 := by rw [← hH2, bF]
 have hDC : s2.heap.objs.size ≠ HH.objs.size := by rw [hC]; exact aB (bY _)
 have below : ∀ b, b < s2.heap.objs.size -> b ≠ HH.objs.size /\ b ≠ s2.heap.objs.size := fun b hb => ⟨by rw [hC]; exact aB (bx hb), aB hb⟩
 have old : ∀ b o, s2.heap.get? b = some o -> h₁.get? b = some o := fun b o e => hsb₁.extBut b o (below b (ay e)).1 (ak _ (hH2 ▸ ak _ e))
 have hacc : h₁.get? s2.heap.objs.size = some (Z7 []) := hsb₁.extBut _ _ hDC (ak _ (hH2 ▸ aE _ rfl))
 have hfp : ∀ b ∈ fp, b < s2.heap.objs.size := fun b hb => by obtain ⟨o, e, _⟩ := T.obj 0 _ st2 b hb; exact ay e
 have hCle : s2.heap.objs.size <= HH.objs.size := by rw [hC]; exact eH _
 generalize hCC : HH.objs.size = C at *
 generalize hDD : s2.heap.objs.size = D at *
 obtain ⟨W, ⟨m0, w0⟩, turn⟩ := hw
 obtain ⟨hG, hT, hE⟩ := hb C (yM X.env scope.names [])
 have st1 : tn 0 h₁ := T.keep 0 _ _ st2 fun b _ o e => old b o e
 have loop : ∀ s₃ : Shared, s₃ = { s2 with heap := h₁, toks := s2.toks + ([] : List (Str × Value)).length } ->
  cS (model X.prog X.w) X.A (.compLoop (.ListComp elt [⟨tg, iter, ifs, 0⟩] scope pos) 0 (.ref it) (.ref D) (hU scope (yM X.env scope.names []) C X.env)) (RR (.ref D) C) s₃ := by
  rintro s₃ rfl
  have I0 : Inv (yV X N' scope (yM X.env scope.names []) C s2 H2 fp) [(D, Z7 [])] (blk js σ) H2 { s2 with heap := h₁, toks := s2.toks + ([] : List (Str × Value)).length } :=
   K.inv I f2 (fun b hb => by rw [hDD]; exact hfp b hb) (by rw [hDD]; exact az _) (by rw [hDD]; exact hCle) hDC old hns₁ hacc (fun v z => by cases z)
  have cfree : ∀ {σ' : St} {H' : Hp} {s' : Shared} {pl : List (Addr × Obj)}, Inv (yV X N' scope (yM X.env scope.names []) C s2 H2 fp) pl σ' H' s' -> H' C = none := fun I' => I'.free
  have stat : ∀ {H' : Hp} {us : List Value}, (∀ b ∈ fp, H' b = none) -> ∀ b ∈ fp, FpOk (yV X N' scope (yM X.env scope.names []) C s2 H2 fp) [(D, Z7 us)] H' b := fun {H' us} hn b hb => by
   refine ⟨hn b hb, (below b (hfp b hb)).1, fun z => ?_, .inl hb, fun x c e => ?_, fun p hp => ?_⟩
   · rcases ar.mp (I.stkSub b z) with e | e
     · exact (f2 b hb).2.1 e
     · exact (f2 b hb).2.2.1 e
   · exact (f2 b hb).2.2.2.2.1 x c (Z6 scope.names [] (fun z => by simp at z) e)
   · have e : p = (D, Z7 us) := by
      have hp' : p ∈ ([] : List (Addr × Obj)) ++ [(D, Z7 us)] := hp
      simpa using hp'
     subst e
     exact bp (below b (hfp b hb)).2
  refine zhs (fun n s' => ∃ i ys us σ' H', Inv (yV X N' scope (yM X.env scope.names []) C s2 H2 fp) [(D, Z7 us)] σ' H' s' /\ tn i s'.heap /\ (∀ b ∈ fp, H' b = none) /\ Vals ys us /\ W i n ys σ' H') ?_ m0
   ⟨0, [], [], blk js σ, H2, I0, st1, fun b hb => (f2 b hb).1, .nil, w0⟩
  rintro n s3 ⟨i, ys, us, σ3, H3, I3, st3, fr3, rv, w3⟩
  rcases turn i n ys σ3 H3 w3 with ⟨stop, hz, q⟩ | ⟨go, hz, N, hN, step⟩
  · refine zZ (T.done (yV X N' scope (yM X.env scope.names []) C s2 H2 fp) rfl rfl rfl hc i _ s3 σ3 H3 _ I3 (stat fr3) st3 stop) fun r s4 ⟨hr, I4⟩ => ?_
    subst hr
    obtain ⟨mC, hnC, _⟩ := I4.loc
    exact hR D C s4 H3 ys mC (zht I f2 (by rw [hDD]; exact az _) I4 ai rfl rv hz) hnC (by first | exact hCle | (rw [hDD]; exact hCle)) hDC (cfree I4) (I4.pin (D, Z7 us) (aC _ ai)).2.1 q
  · refine zZ (T.item (yV X N' scope (yM X.env scope.names []) C s2 H2 fp) rfl rfl rfl hc i _ s3 σ3 H3 _ I3 (stat fr3) st3 go) fun r s4 ⟨u, hr, h4⟩ => ?_
    subst hr
    refine zZ h4 fun _ s5 ⟨x, H5, I5, r5, y5, st5, fr5⟩ => ?_
    have I5' := I5.pinned (stat fr5) (T.obj _ _ st5)
    refine zZ (hG _ s5 σ3 H5 x u _ I5' r5 (step x H5 y5)) fun _ s6 ⟨σ6, H6, I6, q6⟩ => ?_
    refine zZ (hT _ s6 σ6 H6 _ I6 q6) fun ok s7 ⟨H7, I7, q7⟩ => ?_
    have again : ∀ {H8 : Hp} {s8 : Shared}, Inv (yV X N' scope (yM X.env scope.names []) C s2 H2 fp) ([(D, Z7 us)] ++ Vi fp s5.heap) σ6 H8 s8 -> tn (i + 1) s8.heap /\ ∀ b ∈ fp, H8 b = none := fun {H8 s8} I8 =>
     ⟨T.keep _ _ _ st5 fun b hb o e => (I8.pin (b, o) (aC _ (aC _ (ZL hb e)))).1, fun b hb => by
      obtain ⟨o, e, d⟩ := T.obj _ _ st5 b hb
      exact (I8.pin (b, o) (aC _ (aC _ (ZL hb e)))).2.1⟩
    cases ok with
    | false =>
     have q7' : N ys σ6 H7 := by simpa using q7
     obtain ⟨m', hm, w7⟩ := hN _ _ _ q7'
     obtain ⟨t7, fr7⟩ := again I7
     exact ⟨m', hm, i + 1, ys, us, σ6, H7, I7.unpinned, t7, fr7, rv, w7⟩
    | true =>
     have q7' : te σ6 H7 fun y H4 => N (ys ++ [y]) σ6 H4 := by simpa using q7
     refine zZ (hE _ s7 σ6 H7 _ I7 q7') fun z s8 ⟨y, H8, I8, r8, q8⟩ => ?_
     obtain ⟨t8, fr8⟩ := again I8
     obtain ⟨eD, nD, neL, nf, _⟩ := I8.pin (D, Z7 us) (aC _ (aS _ ai))
     have hul : us.length < aG := by rw [← rv.length]; exact hz
     refine append_at (hsz := by show us.toArray.size <= aG; rw [av]; exact dA hul) eD fun h₉ hs₉ hD₉ => ?_
     obtain ⟨m', hm, w8⟩ := hN _ _ _ q8
     have I8' : Inv (yV X N' scope (yM X.env scope.names []) C s2 H2 fp) [] σ6 H8 s8 := I8.pins_of fun p hp => (nomatch hp)
     have I9 : Inv (yV X N' scope (yM X.env scope.names []) C s2 H2 fp) [] σ6 H8 { s8 with heap := h₉ } := I8'.turned (t' := s8.toks) (it := D) (fun b o hb e => (hs₉.2 b hb).trans e) nD neL (.inr (by show s2.heap.objs.size <= D; rw [hDD]; exact az _)) (fun x c e z => by
      have e' : (yM X.env scope.names []).lookup x = some c := e
      obtain ⟨v, q⟩ := I.cell x c (Z6 scope.names [] (fun z => by simp at z) e')
      have l := q.lt
      rw [hDD, z] at l; exact bV _ l) (fun p hp => (nomatch hp))
     have eq9 : h₉.get? D = some (Z7 (us ++ [z])) := hD₉.trans (congrArg some (by
      show ({ cls := .type "list", data := .seq (us.toArray.push z) (us.length + 1) } : Obj) = { cls := .type "list", data := .seq (us ++ [z]).toArray (us ++ [z]).length }
      rw [ax, cQ, List.push_toArray]))
     refine ⟨m', hm, i + 1, ys ++ [y], us ++ [z], σ6, H8, I9.pins_of fun p hp => ?_, T.keep _ _ _ t8 fun b hb o e => (hs₉.2 b ((below b (hfp b hb)).2)).trans e, fr8, rv.append (.cons r8 .nil), w8⟩
     have e : p = (D, Z7 (us ++ [z])) := by simpa using hp
     subst e
     exact ⟨eq9, nD, neL, nf, fun v z => by cases z⟩
 exact codeAny_compStart_list (loop _ rfl) (T.self X.A 0 _ _ _ st1 (loop _ rfl))
end
section
variable {X : Cx} {N' : List Str} {js : List (Option Nat)} {scope : Scope} {tg elt iter : Expr} {ifs : List Expr} {pos : Pos} {wi : TI} {g : TG} {tc : TT} {te : TE}
def PB (X : Cx) (N' : List Str) (scope : Scope) (tg : Expr) (ifs : List Expr) (elt : Expr) (g : TG) (tc : TT) (te : TE) : Prop :=
 ∀ s2 H2 fp C cl, PG (yV X N' scope cl C s2 H2 fp) tg g /\ PTs (yV X N' scope cl C s2 H2 fp) ifs tc /\ PE (yV X N' scope cl C s2 H2 fp) elt te
theorem zlf (hc : X.calm = true) (K : CompOk X N' js scope) (hi : PI X tg iter wi) (hb : PB X N' scope tg ifs elt g tc te) (hs : ∀ x, cp iter X.env x = pure x := by intro _; rfl) :
 PE X (.ListComp elt [⟨tg, iter, ifs, 0⟩] scope pos) (zfZ wi js g tc te) := by
 intro pins s σ H Q I h
 rw [eval_ListComp]
 refine wpAny_comprehension_free (use := none) rfl hs (zeV (K.clos I)) K.kind K.names (zZ (hi pins s σ H _ I h) fun v s1 h1 => zZ h1 fun itv s2 h2 => ?_)
 obtain ⟨it, fp, tn, J, H2, e, I2, T, st2, f2, hw⟩ := h2
 subst e
 refine zbV hc K I2 T st2 f2 (fun C cl => hb s2 H2 fp C cl) hw fun D C s4 H4 ys m I4 hn hC hDC nC nD q => ?_
 have nC' : ye H4 D (.lst ys) C = none := by rw [z7 (bp hDC)]; exact nC
 obtain ⟨f0, f1, f2', f3, f4, f5⟩ := I2.fpOk (H' := ye H4 D (.lst ys)) hC nC'
 refine ⟨m, hn, fun h' hs' => ⟨.ref D, _, I4.turned (t' := s4.toks) (it := C) (fun b o hb e => (hs'.2 b hb).trans e) nC' f1 f3 f4 f5, rfl, q D nD⟩⟩
theorem zlg {py spos : Pos} (hc : X.calm = true) (hN : X.N.Nodup) (hi' : X.N[i]? = some y) (hy : X.env.scope.names.lookup y = some .local) (K : CompOk X N' js scope) (hi : PI X tg iter wi) (hb : PB X N' scope tg ifs elt g tc te)
 (hsw : du (.ListComp elt [⟨tg, iter, ifs, 0⟩] scope pos) (some (.Name y py)) spos.line X.env = pure true) (hs : ∀ x, cp iter X.env x = pure x := by intro _; rfl) :
 PS X (.Assign [.Name y py] (.ListComp elt [⟨tg, iter, ifs, 0⟩] scope pos) spos) (zbe (zfZ wi js g tc te) (V5 i)) := by
 intro pins s σ H Dn I h
 rw [exec_Assign_Name_used _ _ _ _ hsw]
 refine ab (fP (ab ?_))
 show wpAny _ _ (do let _ ← comprehension (.ListComp elt [⟨tg, iter, ifs, 0⟩] scope pos) scope X.env _ (newList []) false (eval iter X.env) (some (assign (.Name y py) X.env))) _ _ s
 refine ab (cL (wpAny_comprehension_free (use := some (assign (.Name y py) X.env)) (Q := fun _ s' => SP X pins Dn .next s') rfl hs (zeV (K.clos I)) K.kind K.names
  (zZ (hi pins s σ H _ I h) fun v s1 h1 => zZ h1 fun itv s2 h2 => ?_)) (fun _ s' hq => ao (ao hq)) fun _ _ e => e)
 obtain ⟨it, fp, tn, J, H2, e, I2, T, st2, f2, hw⟩ := h2
 subst e
 refine zbV hc K I2 T st2 f2 (fun C cl => hb s2 H2 fp C cl) hw fun D C s4 H4 ys m I4 hn hC hDC nC nD q => ?_
 have nC' : ye H4 D (.lst ys) C = none := by rw [z7 (bp hDC)]; exact nC
 obtain ⟨f0, f1, f2', f3, f4, f5⟩ := I2.fpOk (H' := ye H4 D (.lst ys)) hC nC'
 show wpAny _ _ (assign (.Name y py) X.env (.ref D)) _ _ _
 refine wpAny_assign_Name (zbN (v := .ref D) I4 hN hi' (.inl hy) rfl (fun s5 I5 ⟨a, sb, ha⟩ => ?_) (.inr hy))
 have nCa : C ≠ a := by
  rcases ha with e | e
  · rw [e]; exact f1
  · exact fun z => f4 y a e z.symm
 exact ⟨m, hn.sameBut sb nCa, fun h' hs' => ⟨_, _, I5.turned (t' := s5.toks) (it := C) (fun b o hb e => (hs'.2 b hb).trans e) nC' f1 f3 f4 f5, q D nD⟩⟩
end
section
variable {g : TG} {tc : TT} {te : TE} {σ : St} {H : Hp} {Q : List V -> Hp -> Prop}
end
section
variable {X : Cx}
theorem zbW : jV X (bA .LtE) (fun x y H Q => ∃ i j, x = .str i /\ y = .str j /\ Q (.bl (!(decide (j.cps.toList < i.cps.toList)))) H) := by
 intro pins s σ H x y v u Q I rx ry h
 obtain ⟨i, j, rfl, rfl, q⟩ := h
 obtain ⟨t, rfl⟩ := rx
 obtain ⟨t', rfl⟩ := ry
 exact PySem.P.le_str (yi I q rfl)
theorem Vals.texts : ∀ {ys : List Str} {us : List Value}, Vals (ys.map V.str) us -> StrsAre us ys
 | [], _, r => by cases r; exact .nil
 | y :: ys, _, r => by
  cases r with
  | cons r1 r2 =>
   obtain ⟨t, rfl⟩ := r1
   exact .cons y t (Vals.texts r2)
def znV (K : aj) : V -> List V -> Hp -> VK -> Prop := fun x vs H Q => ∃ z a ys, x = .str z /\ vs = [.ref a] /\ jQ K H a (ys.map V.str) /\ (ys.map (·.length)).sum + ys.length * z.length <= 16777216 /\ Q (.str (aK z ys)) H
theorem zlh : MtR X "str.join" (znV X.K) := by
 intro pins s σ H x vs v us Q I rx rv h
 obtain ⟨z, a, ys, rfl, rfl, hq, hz, q⟩ := h
 obtain ⟨t, rfl⟩ := rx
 obtain ⟨u, rfl, ru⟩ := rv.one
 cases ru
 obtain ⟨its, r, pl, _⟩ := I.list hq
 exact join_list pl.isList (by simpa using Vals.texts r) hz fun t' k => ⟨.str _, H, I.tok k, ⟨t', rfl⟩, q⟩
def Its (x : Str) : It := ⟨fun i _ => i < x.cps.size, fun i H v H' => H' = H /\ ∃ c, x.cps[i]? = some c /\ v = .str ⟨#[c]⟩, fun i _ => i = x.cps.size⟩
theorem zjg {P : Program} {w : World} {K : aj} {tg : Expr} (it : Addr) (x : Str) (t : Tok) (T : String) (hT : T = "str_ascii_iterator" \/ T = "str_iterator") : zc6 P w K tg (Its x) [it] it (fun i h => h.IsStrIter it T x t i) where
 mem := by simp
 obj := fun i h st b hb => by
  have e : b = it := by simpa using hb
  subst e
  obtain ⟨o, e, c, d⟩ := st
  exact ⟨o, e, fun v z => by rw [d] at z; cases z⟩
 keep := fun i h h' st k => by obtain ⟨o, e, r⟩ := st; exact ⟨o, k it (by simp) o e, r⟩
 item := by
  intro X hP hw hK hc i pins s σ H E I hf st hg
  subst hP hw hK
  obtain ⟨f0, f1, f2, f3, f4, f5⟩ := hf it (by simp)
  have fin : ∀ v h' tk, SignAt x i v -> h'.IsStrIter it T x t (i + 1) -> (∀ b o, b ∉ [it] -> s.heap.get? b = some o -> h'.get? b = some o) -> ∃ u, some v = some u /\
   wpAny (model X.prog X.w) X.A (dj tg (.ref it) u) (fun _ s2 => ∃ y H', Inv X pins σ H' s2 /\ RelV y u /\ (Its x).yld i H y H' /\ s2.heap.IsStrIter it T x t (i + 1) /\ ∀ b ∈ [it], H' b = none) E { s with heap := h', toks := tk } := by
   intro v h' tk hv st' kk
   obtain ⟨c, u, hcu, rfl⟩ := hv
   have I1 : Inv X pins σ H { s with heap := h', toks := tk } := I.turned (fun b o hb e => kk b o (by simpa using hb) e) f0 f1 f3 f4 f5
   obtain ⟨o, e, cc, d⟩ := id st'
   refine ⟨_, rfl, zfL (s := { s with heap := h', toks := tk }) e cc d ?_ ⟨.str ⟨#[c]⟩, H, I1, ⟨u, rfl⟩, ⟨rfl, c, hcu, rfl⟩, st', fun b hb => (hf b hb).1⟩⟩
   rcases hT with rfl | rfl <;> decide
  rcases hT with rfl | rfl
  · exact (g8 (prog := X.prog) (w := X.w) (I.ok.hd hc) it x t).item i s _ _ hg st fin
  · exact (ii (prog := X.prog) (w := X.w) (I.ok.hd hc) it x t).item i s _ _ hg st fin
 done := by
  intro X hP hw hK hc i pins s σ H E I hf st hg
  subst hP hw hK
  obtain ⟨f0, f1, f2, f3, f4, f5⟩ := hf it (by simp)
  have hg' : i = x.cps.size := hg
  subst hg'
  have fin : ∀ (h' : Heap) (tk : Nat), (∀ b o, b ∉ [it] -> s.heap.get? b = some o -> h'.get? b = some o) -> (none : Option Value) = none /\ Inv X pins σ H { s with heap := h', toks := tk } := fun h' tk kk =>
   ⟨rfl, I.turned (fun b o hb e => kk b o (by simpa using hb) e) f0 f1 f3 f4 f5⟩
  rcases hT with rfl | rfl
  · exact (g8 (prog := X.prog) (w := X.w) (I.ok.hd hc) it x t).done s _ _ st fin
  · exact (ii (prog := X.prog) (w := X.w) (I.ok.hd hc) it x t).done s _ _ st fin
 self := fun A i s Q E st h => by
  rcases hT with rfl | rfl
  · exact wpAny_pyIter_striter_ascii st h
  · exact wpAny_pyIter_striter_wide st h
def zmL (tl : TE) : TI := fun σ H R => tl σ H fun x H1 => ∃ z, x = .str z /\ R (Its z) H1
theorem zmM (hl : PE X l tl) : PI X tg l (zmL tl) := by
 intro pins s σ H R I h
 refine zZ (hl pins s σ H _ I h) fun v s1 ⟨x, H1, I1, r1, q1⟩ => ?_
 obtain ⟨z, e, q⟩ := q1
 subst e
 obtain ⟨t, rfl⟩ := r1
 have fin : ∀ (o : Obj) (T : String), T = "str_ascii_iterator" \/ T = "str_iterator" -> o.cls = .type T -> o.data = .fields #[.str z t, .int 0 0] -> PIE X pins σ tg R (.ref s1.heap.objs.size) { s1 with heap := s1.heap.push o } := fun o T hT hc hd => by
  refine ⟨s1.heap.objs.size, [s1.heap.objs.size], _, _, H1, rfl, I1.kept (t' := s1.toks) fun b o e => ak _ e, zjg _ z t T hT, ⟨o, aE _ (by obtain ⟨c0, d0, dt0, sl0⟩ := o; cases hd; rfl), hc, hd⟩, fun b hb => ?_, q⟩
  have e : b = s1.heap.objs.size := by simpa using hb
  subst e
  exact I1.fpOk (az _) (I1.hok.fresh (az _))
 cases ha : z.cps.all (· < 128)
 · exact wpAny_pyIter_wide ha (fin _ "str_iterator" (.inr rfl) rfl rfl)
 · exact wpAny_pyIter_ascii ha (fin _ "str_ascii_iterator" (.inl rfl) rfl rfl)
theorem zjh (hc : X.calm = true) : jt X (.builtin "all") (fun xs H Q => ∃ (a : Addr) (bs : List Bool), xs = [.ref a] /\ jQ X.K H a (bs.map V.bl) /\ Q (.bl (bs.all id)) H) := by
 intro pins s σ H xs us Q I rv h
 obtain ⟨a, bs, rfl, hq, q⟩ := h
 obtain ⟨u, rfl, ru⟩ := rv.one
 cases ru
 obtain ⟨its, r, pl, hz⟩ := I.list hq
 have hlt : a < s.heap.objs.size := by obtain ⟨o, n, e, _⟩ := pl; exact ay e
 refine call_all_walk (cn pl.isList ⟨_, _, _, _, _, _, fun i => bs.getD i true, rfl, eZ (by simpa using I.ok.hd hc) s.heap.objs.size a (aB hlt) its.toArray, ⟨⟨_, aE _ rfl, rfl, rfl⟩, pl.isList.push _⟩, ?_, ?_⟩)
 · intro i v s' Q' E' hP hQ
   have hv : its[i]? = some v := by simpa using hP
   have hi : i < its.length := (aL.mp hv).1
   have hl := r.length
   rw [am] at hl
   obtain ⟨u, hu, ru⟩ := r.get (i := i) (x := .bl (bs.getD i true)) (by
    rw [au, af (by omega), aA, af (by omega)]; rfl)
   rw [hv] at hu; cases hu; cases ru
   exact bi hQ
 · intro h' tk kk
   have hl := r.length
   rw [am] at hl
   have e : (cT its.toArray.size).all (fun i => bs.getD i true) = bs.all id := by
    rw [av, ← hl]
    rw [cN, dN, dN]
    constructor
    · intro z b hb
      obtain ⟨i, hi, e⟩ := List.mem_iff_getElem.mp hb
      have z' := z i (dE.mpr hi)
      rw [aA, af hi, e] at z'
      exact z'
    · intro z i hi
      have hi' := dE.mp hi
      rw [aA, af hi']
      exact z _ (eR hi')
   have I1 : Inv X pins σ H { s with heap := h', toks := tk } := I.kept fun b o e => kk b o (by simp only [dl]; exact aB (ay e)) (ak _ e)
   refine ⟨.bl (bs.all id), H, I1, ?_, q⟩
   rw [e]; rfl
end
def QD (xs : List y4) (k : y4) : Bool := xs.any fun y => decide (y = k)
theorem isIn_iff : QD xs k = true ↔ k ∈ xs := by
 unfold QD
 rw [List.any_eq_true]
 constructor
 · rintro ⟨y, hy, e⟩; have := of_decide_eq_true e; subst this; exact hy
 · intro h; exact ⟨k, h, decide_eq_true rfl⟩
def jK : List y4 -> List y4 -> Nat
 | _, [] => 0
 | pre, x :: r => (if QD pre x then 0 else 1) + jK (pre ++ [x]) r
theorem Vl : ∀ (r pre : List y4), jK pre r <= r.length
 | [], _ => az _
 | x :: r, pre => by
  have := Vl r (pre ++ [x])
  simp only [jK, ac]
  split <;> omega
section
variable {prog : Program} {w : World} {A : Around} {R : Result -> Shared -> Prop}
end
section
variable {prog : Program} {w : World} {A : Around} {E : Value -> Shared -> Prop} {s : Shared}
abbrev JK (led : Bool) : Obj := { cls := .type "set", dict := none, data := .set #[] 0 (.fresh 0 0 led) }
end
def zmN (P : Program) (w : World) (a : Addr) (ks : List y4) : HO := .ext fun h => h.SetOf (yt P w) a (QD ks) (jK [] ks)
section
variable {X : Cx}
theorem call_len_set : jt X (.builtin "len") (fun xs H Q => ∃ (a : Addr) (ks : List y4), xs = [.ref a] /\ H a = some (zmN X.prog X.w a ks) /\ Q (.int (jK [] ks)) H) := by
 intro pins s σ H xs us Q I rv h
 obtain ⟨a, ks, rfl, hq, q⟩ := h
 obtain ⟨u, rfl, ru⟩ := rv.one
 cases ru
 obtain ⟨hS, _, _⟩ := (show ObjOk X.prog X.w H s.heap a (zmN X.prog X.w a ks) from I.hok a _ hq)
 obtain ⟨o, es, ep, t, ho, hex, hd, hel, hmem, hb, hf, hn⟩ := hS
 have hb' : (es.size : Int) < 2 ^ 63 := by unfold cP at hb; omega
 have q' : Q (.int es.size) H := by rw [hn]; exact q
 exact fX ho hex hd hf hb' ⟨.int es.size, H, I.tok _, ⟨_, rfl⟩, q'⟩
def zf0 (a : Addr) : HO := .ext fun h => ∃ o, h.get? a = some o /\ o.cls = .type "dict"
inductive Zi (K : aj) (H : Hp) : V -> Value -> Prop where
 | of {x : V} {t : Value} (h : QV K H x t) : Zi K H x t
 | dict {a : Addr} (e : H a = some (zf0 a)) : Zi K H (.ref a) (.type "dict")
theorem zdb : jt X (.builtin "isinstance") (fun xs H Q => ∃ x t c b, xs = [x, .ty c] /\ Zi X.K H x t /\ ae X.K t (.type c) = some b /\ Q (.bl b) H) := by
 intro pins s σ H xs us Q I rv h
 obtain ⟨x, t, c, b, rfl, ht, hk, q⟩ := h
 obtain ⟨u, u', rfl, ru, ru'⟩ := rv.two
 cases ru'
 cases ht with
 | of ht => exact zhg I ru ht hk fun tk => ⟨.bl b, H, I.tok tk, rfl, q⟩
 | @dict a e =>
  cases (show u = Value.ref a from ru)
  obtain ⟨⟨o, ho, hc⟩, _, _⟩ := (show ObjOk X.prog X.w H s.heap a (zf0 a) from I.hok a _ e)
  exact bc cj I.kIn ⟨o, ho, hc⟩ hk (fun z => nomatch z) fun tk => ⟨.bl b, H, I.tok tk, rfl, q⟩
end
def zeW (names outer : List (Str × NameKind)) (N' N : List Str) (js : List (Option Nat)) : Bool :=
 names.all (fun y => decide (y.2 ≠ .cell) && (decide (y.2 ≠ .local) || decide (names.lookup y.1 = some .local)) && (decide (y.2 ≠ .free) || (decide (outer.lookup y.1 = some .cell) || decide (outer.lookup y.1 = some .free))))
 && decide (js.length = N'.length) && (js.zip N').all fun p => match p.1 with | none => true | some j => decide (N[j]? = some p.2) && decide (names.lookup p.2 = some .free)
theorem CompOk.of_b {X : Cx} {scope : Scope} (hk : scope.kind = .function) (h : zeW scope.names X.env.scope.names N' X.N js = true) : CompOk X N' js scope := by
 unfold zeW at h
 simp only [bu, dN, gY, decide_eq_true_eq] at h
 obtain ⟨⟨h1, h2⟩, h3⟩ := h
 refine ⟨hk, fun y hy => (h1 y hy).1.1, fun y hy e => (h1 y hy).1.2.elim (fun z => absurd e z) id, fun y hy e => (h1 y hy).2.elim (fun z => absurd e z) id, h2, fun i j x e1 e2 => ?_⟩
 have hm : (some j, x) ∈ js.zip N' := by
  refine fu.mpr ⟨i, ?_⟩
  rw [eG]
  exact ⟨e1, e2⟩
 have q := h3 _ hm
 simp only [bu, decide_eq_true_eq] at q
 exact q
def Has (P : Program) (w : World) (K : aj) (mg : Str -> Option Value) (base : Heap) (x : Str) (k : Nat) (ps : List Str) (sp : Sp) : Prop :=
 ∃ f fd, FnOk P w K mg base yD k f fd ps sp /\ Binds K fd ps [] /\ bg K (.ref f) = true /\ mg x = some (.ref f)
section
variable {X : Cx} {x : Str} {k : Nat} {ps : List Str} {sp : Sp} {p pos : Pos} {e : Expr} {es : List Expr} {t : TA}
theorem Ub (h : Has X.prog X.w X.K X.mg X.base x k ps sp) (hr : Room k X.A) (hg : Gl X x) (ha : PA X (e :: es) t) (hd : (x == ("__debug__" : Str)) = false := by decide)
 (hs : ap (e :: es) X.env = (false, eval e X.env) :: ap es X.env := by rfl) (hp : (backTo pos (ap es X.env)).any (·.1) = false := by rfl) :
 PE X (.Call (.Name x p) (e :: es) [] pos) (V8 sp [] E0 t) := by
 obtain ⟨f, fd, G, b, kp, m⟩ := h
 exact zk_ G hr hg m kp b .nil zfY ha hd hs hp
end
def Zp : List Expr -> Option (List Str)
 | [] => some []
 | .Constant (.str x) _ _ :: r => (Zp r).map (x :: ·)
 | _ => none
def zkD (ss : List Str) : TA := fun _ H Q => Q (ss.map V.str) H
theorem zeX : ∀ {es : List Expr} {ss : List Str}, Zp es = some ss -> PA X es (zkD ss)
 | [], ss, h => by
  cases h
  intro pos pins s σ H Q I hq
  exact jJ pos pins s σ H Q I hq
 | e :: es, ss, h => by
  cases e with
  | Constant c j p =>
   cases c with
   | str x =>
    have h' : (Zp es).map (x :: ·) = some ss := h
    cases hr : Zp es with
    | none => rw [hr] at h'; cases h'
    | some r =>
     rw [hr] at h'
     cases h'
     exact fun pos pins s σ H Q I hq => yQ zg4 (zeX hr) rfl pos pins s σ H Q I hq
   | _ => exact nomatch h
  | _ => exact nomatch h
section
variable {X : Cx} {N' : List Str} {js : List (Option Nat)} {scope : Scope} {tg elt iter : Expr} {ifs : List Expr} {pos : Pos} {wi : TI} {g : TG} {tc : TT} {te : TE}
end
section
variable {prog : Program} {w : World} {A : Around} {E : Value -> Shared -> Prop}
end
section
variable {X : Cx}
end
section
variable {X : Cx} {pins : List (Addr × Obj)} {σ : St} {H : Hp} {s : Shared}
end
section
variable {P : Program} {w : World} {K : aj} {mg : Str -> Option Value} {base : Heap} {N : List Str} {qual : Str} {scope : Scope} {f : Addr} {cd : Value} {A : Around} {outer : List Env} {s₀ : Shared} {H₀ : Hp} {E E₀ : XK}
end
def zoK (e : Addr) (cls : Value) (h : Heap) : Prop := ∃ oe vs, h.get? e = some oe /\ oe.cls = cls /\ oe.data = .fields vs
section
variable {X : Cx} {pins : List (Addr × Obj)} {σ : St} {H : Hp} {s : Shared}
end
section
variable {X : Cx} {CX : Y1} {k : Nat} {f C : Addr} {fd : FuncData} {ps : List Str} {sp : Sp} {dvs : List V} {ds : List Value} {E : St -> XK} {x m : Str} {p pos apos : Pos} {e o : Expr} {es : List Expr} {ta : TE} {t : TA}
end
theorem zbX : ∀ {ds : List Addr} {its : List Value}, Vals (ds.map V.ref) its -> its = ds.map Value.ref
 | [], _, .nil => rfl
 | d :: ds, _, .cons r t => by rw [zbX t]; cases r; rfl
section
variable {X : Cx}
end
section
variable {X : Cx} {pins : List (Addr × Obj)} {σ : St} {H : Hp} {s : Shared}
end
end L2
namespace M
open PySem L2
inductive D where
 | non | bl (b : Bool) | int (i : Int) | str (x : Str) | ty (n : String)
 | lst (xs : List D) | tup (xs : List D) | fz (ns : List Int)
 | dK (kvs : List (y4 × D)) | dT (kvs : List (List y4 × D))
 | obj (c : Nat) (fs : List (Nat × D))
 | exc (k : Nat)
 | kt (xs : List Str)
 | kd (kvs : List (Str × List Str))
inductive Slot where
 | no | val (d : D) | own (o : D)
abbrev Env := List Slot
def fNames : List Str := ["many", "names", "least", "pairs", "each", "houses", "wishes", "one", "other", "name", "ask", "value", "stamp", "seal", "at"]
def yP (n : Nat) : Str := fNames.getD n ""
theorem zeY (a f : Nat) (hf : f < fNames.length) (h : yP a = yP f) : a = f := by
 by_cases ha : a < fNames.length
 · have : ∀ a, a < 15 -> ∀ f, f < 15 -> yP a = yP f -> a = f := by decide +kernel
   exact this a ha f hf h
 · have e : yP a = "" := by
    unfold yP
    rw [aA, bz (by omega)]; rfl
   have : ∀ f, f < 15 -> yP f ≠ "" := by decide +kernel
   exact absurd (h.symm.trans e) (this f hf)
structure Cn where
 K : aj
 cls : Nat -> Option Addr
def KnL (K : aj) (a : Addr) (xs : List V) : Prop :=
 ∃ (o : Obj) (its : Array Value) (n : Nat), K.lookup a = some o /\ o.cls = .type "list" /\ o.dict = none /\ o.data = .seq its n /\ its.size <= aG /\ Vals xs its.toList
def KnT (K : aj) (a : Addr) (xs : List V) : Prop :=
 ∃ (o : Obj) (its : Array Value) (n : Nat), K.lookup a = some o /\ o.cls = .type "tuple" /\ o.data = .seq its n /\ its.size <= aG /\ Vals xs its.toList
def KnD (K : aj) (a : Addr) (kvs : List (Str × List Str)) : Prop :=
 (a == gg) = false /\ ∃ (o : Obj) (es : Array DictEntry) (n : Nat), K.lookup a = some o /\ o.ExactDict /\ o.data = .dict es n /\ PyProof.Rows.KTD.Rows (fun (ss : List Str) v => ∃ t, v = .ref t /\ KnT K t (ss.map V.str)) es.toList kvs
inductive Rep (Γ : Cn) (E : Addr -> Prop) (H : Hp) : V -> D -> Prop where
 | non : Rep Γ E H .non .non
 | bl (b : Bool) : Rep Γ E H (.bl b) (.bl b)
 | int (i : Int) : Rep Γ E H (.int i) (.int i)
 | str (x : Str) : Rep Γ E H (.str x) (.str x)
 | ty (n : String) : Rep Γ E H (.ty n) (.ty n)
 | lst {a : Addr} {xs : List V} {ds : List D} (ne : ¬ E a) (h : H a = some (.lst xs)) (l : xs.length = ds.length) (r : ∀ (i : Nat) v d, xs[i]? = some v -> ds[i]? = some d -> Rep Γ E H v d) : Rep Γ E H (.ref a) (.lst ds)
 | fz {a : Addr} {ns : List Int} (h : (¬ E a /\ Rd H a (.lst (ns.map V.int))) \/ KnL Γ.K a (ns.map V.int)) : Rep Γ E H (.ref a) (.fz ns)
 | tup {a : Addr} {xs : List V} {ds : List D} (ne : ¬ E a) (h : H a = some (.tup xs)) (l : xs.length = ds.length) (r : ∀ (i : Nat) v d, xs[i]? = some v -> ds[i]? = some d -> Rep Γ E H v d) : Rep Γ E H (.ref a) (.tup ds)
 | dK {a : Addr} {ks : List (y4 × V)} {ds : List (y4 × D)} (ne : ¬ E a) (h : H a = some (.dK ks)) (l : ks.map (·.1) = ds.map (·.1)) (r : ∀ (i : Nat) v d, (ks.map (·.2))[i]? = some v -> (ds.map (·.2))[i]? = some d -> Rep Γ E H v d) : Rep Γ E H (.ref a) (.dK ds)
 | dT {a : Addr} {ks : List (List y4 × V)} {ds : List (List y4 × D)} (ne : ¬ E a) (h : H a = some (.dT ks)) (l : ks.map (·.1) = ds.map (·.1)) (r : ∀ (i : Nat) v d, (ks.map (·.2))[i]? = some v -> (ds.map (·.2))[i]? = some d -> Rep Γ E H v d) : Rep Γ E H (.ref a) (.dT ds)
 | obj {a C dx : Addr} {c : Nat} {gs : List (Str × V)} {fs : List (Nat × D)} (ne : ¬ E a) (hc : Γ.cls c = some C) (h : H a = some (.ins C dx gs)) (l : gs.map (·.1) = fs.map fun x => yP x.1) (r : ∀ (i : Nat) v d, (gs.map (·.2))[i]? = some v -> (fs.map (·.2))[i]? = some d -> Rep Γ E H v d) : Rep Γ E H (.ref a) (.obj c fs)
 | exc {a C : Addr} {k : Nat} (ne : ¬ E a) (hc : Γ.cls k = some C) (h : H a = some (.ext (zoK a (.ref C)))) : Rep Γ E H (.ref a) (.exc k)
 | kt {a : Addr} {xs : List Str} (h : KnT Γ.K a (xs.map V.str)) : Rep Γ E H (.ref a) (.kt xs)
 | kd {a : Addr} {kvs : List (Str × List Str)} (h : KnD Γ.K a kvs) : Rep Γ E H (.ref a) (.kd kvs)
def Reps (Γ : Cn) (E : Addr -> Prop) (H : Hp) (xs : List V) (ds : List D) : Prop := xs.length = ds.length /\ ∀ (i : Nat) v d, xs[i]? = some v -> ds[i]? = some d -> Rep Γ E H v d
section
variable {Γ : Cn} {E E' : Addr -> Prop} {H H' : Hp}
theorem znW (h : Rd H a u) : H a ≠ none := by
 rcases h with h | ⟨o, h⟩ <;> rw [h] <;> simp
theorem zli (h : Rd H a u) (k : ∀ o, H a = some o -> H' a = some o) : Rd H' a u := by
 rcases h with h | ⟨o, h⟩
 · exact .inl (k _ h)
 · exact .inr ⟨o, k _ h⟩
theorem Rep.up (r : Rep Γ E H v d) (he : ∀ b, H b ≠ none -> E' b -> E b) (k : ∀ b o, ¬ E b -> H b = some o -> H' b = some o) : Rep Γ E' H' v d := by
 induction r with
 | non => exact .non
 | bl b => exact .bl b
 | int i => exact .int i
 | str x => exact .str x
 | ty n => exact .ty n
 | lst ne h l _ ih => exact .lst (fun z => ne (he _ (by rw [h]; simp) z)) (k _ _ ne h) l ih
 | fz h => exact .fz (h.imp (fun ⟨ne, h⟩ => ⟨fun z => ne (he _ (znW h) z), zli h fun o => k _ o ne⟩) id)
 | tup ne h l _ ih => exact .tup (fun z => ne (he _ (by rw [h]; simp) z)) (k _ _ ne h) l ih
 | dK ne h l _ ih => exact .dK (fun z => ne (he _ (by rw [h]; simp) z)) (k _ _ ne h) l ih
 | dT ne h l _ ih => exact .dT (fun z => ne (he _ (by rw [h]; simp) z)) (k _ _ ne h) l ih
 | obj ne hc h l _ ih => exact .obj (fun z => ne (he _ (by rw [h]; simp) z)) hc (k _ _ ne h) l ih
 | exc ne hc h => exact .exc (fun z => ne (he _ (by rw [h]; simp) z)) hc (k _ _ ne h)
 | kt h => exact .kt h
 | kd h => exact .kd h
theorem Reps.up (r : Reps Γ E H xs ds) (he : ∀ b, H b ≠ none -> E' b -> E b) (k : ∀ b o, ¬ E b -> H b = some o -> H' b = some o) : Reps Γ E' H' xs ds := ⟨r.1, fun i v d h1 h2 => (r.2 i v d h1 h2).up he k⟩
theorem Reps.nil : Reps Γ E H [] [] := ⟨rfl, fun i v d h => by simp at h⟩
theorem Reps.cons (h : Rep Γ E H v d) (r : Reps Γ E H xs ds) : Reps Γ E H (v :: xs) (d :: ds) := by
 refine ⟨by simp [r.1], fun i v' d' h1 h2 => ?_⟩
 cases i with
 | zero => simp at h1 h2; subst h1 h2; exact h
 | succ i => simp at h1 h2; exact r.2 i v' d' h1 h2
theorem Reps.head (r : Reps Γ E H (v :: xs) (d :: ds)) : Rep Γ E H v d := r.2 0 v d rfl rfl
theorem Reps.tail (r : Reps Γ E H (v :: xs) (d :: ds)) : Reps Γ E H xs ds := ⟨by simpa using r.1, fun i v' d' h1 h2 => r.2 (i + 1) v' d' (by simpa using h1) (by simpa using h2)⟩
theorem Reps.append (a : Reps Γ E H xs ds) (b : Reps Γ E H ys es) : Reps Γ E H (xs ++ ys) (ds ++ es) := by
 induction xs generalizing ds with
 | nil => have h := a.1; cases ds with | nil => exact b | cons _ _ => simp at h
 | cons x xs ih => cases ds with | nil => have h := a.1; simp at h | cons d ds => exact .cons a.head (ih a.tail)
theorem Reps.get {xs : List V} {ds : List D} {i : Nat} {d : D} (r : Reps Γ E H xs ds) (h : ds[i]? = some d) : ∃ v, xs[i]? = some v /\ Rep Γ E H v d := by
 have hl := r.1
 have hi : i < xs.length := by rw [hl]; exact (aL.mp h).1
 exact ⟨xs[i], af hi, r.2 i _ d (af hi) h⟩
theorem Reps.sub {xs' : List V} {ds' : List D} (r : Reps Γ E H xs ds) (hl : xs'.length = ds'.length) (h : ∀ (i : Nat) v d, xs'[i]? = some v -> ds'[i]? = some d -> ∃ (j : Nat), xs[j]? = some v /\ ds[j]? = some d) : Reps Γ E H xs' ds' :=
 ⟨hl, fun i v d h1 h2 => let ⟨j, a, b⟩ := h i v d h1 h2; r.2 j v d a b⟩
theorem Reps.drop {xs : List V} {ds : List D} (r : Reps Γ E H xs ds) (n : Nat) : Reps Γ E H (xs.drop n) (ds.drop n) :=
 r.sub (by simp [r.1]) fun i v d h1 h2 => ⟨n + i, by simpa using h1, by simpa using h2⟩
theorem Reps.take {xs : List V} {ds : List D} (r : Reps Γ E H xs ds) (n : Nat) : Reps Γ E H (xs.take n) (ds.take n) :=
 r.sub (by simp [r.1]) fun i v d h1 h2 => by
  rw [List.getElem?_take] at h1 h2
  split at h1
  · rename_i hi; rw [if_pos hi] at h2; exact ⟨i, h1, h2⟩
  · cases h1
theorem Reps.set {xs : List V} {ds : List D} (r : Reps Γ E H xs ds) (j : Nat) (h : Rep Γ E H v d) : Reps Γ E H (xs.set j v) (ds.set j d) := by
 refine ⟨by simp [r.1], fun i v' d' h1 h2 => ?_⟩
 rw [bh] at h1 h2
 by_cases e : j = i
 · subst e
   rw [if_pos rfl] at h1 h2
   split at h1
   · split at h2
     · cases h1; cases h2; exact h
     · cases h2
   · cases h1
 · rw [if_neg e] at h1 h2
   exact r.2 i v' d' h1 h2
theorem Reps.eraseIdx {xs : List V} {ds : List D} (r : Reps Γ E H xs ds) (j : Nat) : Reps Γ E H (xs.eraseIdx j) (ds.eraseIdx j) := by
 rw [bn, bn]
 exact (r.take j).append (r.drop (j + 1))
theorem Rep.list (r : Rep Γ E H v (.lst ds)) : ∃ a xs, v = .ref a /\ H a = some (.lst xs) /\ Reps Γ E H xs ds := by
 cases r with
 | lst ne h l r => exact ⟨_, _, rfl, h, l, r⟩
theorem Rep.script {ns : List Int} (r : Rep Γ E H v (.fz ns)) : ∃ a, v = .ref a /\ jQ Γ.K H a (ns.map V.int) := by
 cases r with
 | fz h => exact ⟨_, rfl, h.imp (fun z => z.2) id⟩
theorem Rep.kept {xs : List Str} (r : Rep Γ E H v (.kt xs)) : ∃ a, v = .ref a /\ SqT Γ.K H a (xs.map V.str) := by
 cases r with
 | kt h => exact ⟨_, rfl, .inr h⟩
theorem Rep.tuple (r : Rep Γ E H v (.tup ds)) : ∃ a xs, v = .ref a /\ H a = some (.tup xs) /\ Reps Γ E H xs ds := by
 cases r with
 | tup ne h l r => exact ⟨_, _, rfl, h, l, r⟩
end
def OwnAt (Γ : Cn) (E : Addr -> Prop) (H : Hp) (p : Addr) : D -> Prop
 | .lst ds => ∃ xs, H p = some (.lst xs) /\ Reps Γ E H xs ds
 | .dK ds => ∃ ks, H p = some (.dK ks) /\ ks.map (·.1) = ds.map (·.1) /\ Reps Γ E H (ks.map (·.2)) (ds.map (·.2))
 | .dT ds => ∃ ks, H p = some (.dT ks) /\ ks.map (·.1) = ds.map (·.1) /\ Reps Γ E H (ks.map (·.2)) (ds.map (·.2))
 | .obj c fs => ∃ C dx gs, Γ.cls c = some C /\ H p = some (.ins C dx gs) /\ (gs.map (·.1) = fs.map fun x => yP x.1) /\ Reps Γ E H (gs.map (·.2)) (fs.map (·.2))
 | _ => False
section
variable {Γ : Cn} {E E' : Addr -> Prop} {H H' : Hp} {p : Addr} {o : D}
theorem OwnAt.ne0 (h : OwnAt Γ E H p o) : H p ≠ none := by
 cases o with
 | lst ds => obtain ⟨_, e, _⟩ := h; rw [e]; simp
 | dK ds => obtain ⟨_, e, _⟩ := h; rw [e]; simp
 | dT ds => obtain ⟨_, e, _⟩ := h; rw [e]; simp
 | obj c fs => obtain ⟨_, _, _, _, e, _⟩ := h; rw [e]; simp
 | _ => exact aa h
theorem OwnAt.up (h : OwnAt Γ E H p o) (hp : ∀ u, H p = some u -> H' p = some u) (he : ∀ b, H b ≠ none -> E' b -> E b) (k : ∀ b o, ¬ E b -> H b = some o -> H' b = some o) : OwnAt Γ E' H' p o := by
 cases o with
 | lst ds => obtain ⟨xs, e, r⟩ := h; exact ⟨xs, hp _ e, r.up he k⟩
 | dK ds => obtain ⟨xs, e, l, r⟩ := h; exact ⟨xs, hp _ e, l, r.up he k⟩
 | dT ds => obtain ⟨xs, e, l, r⟩ := h; exact ⟨xs, hp _ e, l, r.up he k⟩
 | obj c fs => obtain ⟨C, dx, gs, hc, e, l, r⟩ := h; exact ⟨C, dx, gs, hc, hp _ e, l, r.up he k⟩
 | _ => exact aa h
theorem OwnAt.rep (h : OwnAt Γ E H p o) (ne : ¬ E p) : Rep Γ E H (.ref p) o := by
 cases o with
 | lst ds => obtain ⟨xs, e, r⟩ := h; exact .lst ne e r.1 r.2
 | dK ds => obtain ⟨xs, e, l, r⟩ := h; exact .dK ne e l r.2
 | dT ds => obtain ⟨xs, e, l, r⟩ := h; exact .dT ne e l r.2
 | obj c fs => obtain ⟨C, dx, gs, hc, e, l, r⟩ := h; exact .obj ne hc e l r.2
 | _ => exact aa h
end
structure Fs where
 C : Addr -> Prop
 H0 : Hp
 pin : Nat -> Option Addr
def Fs.add (S : Fs) (p : Addr) : Fs := { S with C := fun a => S.C a \/ a = p }
def yY (ρ : Env) (i : Nat) : Prop := ∃ o, ρ[i]? = some (.own o)
def zJ (S : Fs) (σ : St) (ρ : Env) (a : Addr) : Prop := S.C a \/ ∃ i, yY ρ i /\ σ[i]? = some (some (.ref a))
structure Rel (Γ : Cn) (S : Fs) (H : Hp) (σ : St) (ρ : Env) (τ : List (V × D)) : Prop where
 len : σ.length = ρ.length
 val : ∀ (i : Nat) d, ρ[i]? = some (.val d) -> ∃ v, σ[i]? = some (some v) /\ Rep Γ (zJ S σ ρ) H v d
 own : ∀ (i : Nat) o, ρ[i]? = some (.own o) -> ∃ p, σ[i]? = some (some (.ref p)) /\ OwnAt Γ (zJ S σ ρ) H p o /\ ¬ S.C p /\ (S.pin i = some p \/ (S.pin i = none /\ S.H0 p = none))
 pin : ∀ i p, S.pin i = some p -> σ[i]? = some (some (.ref p)) /\ yY ρ i
 inj : ∀ i j p, yY ρ i -> yY ρ j -> σ[i]? = some (some (.ref p)) -> σ[j]? = some (some (.ref p)) -> i = j
 dom : ∀ a, S.C a -> H a ≠ none
 fr : ∀ b o, S.H0 b = some o -> (∀ i, S.pin i ≠ some b) -> H b = some o
 tmp : ∀ x ∈ τ, Rep Γ (zJ S σ ρ) H x.1 x.2
section
variable {Γ : Cn} {S : Fs} {H H' : Hp} {σ : St} {ρ : Env} {τ : List (V × D)}
theorem Rel.grow (R : Rel Γ S H σ ρ τ) (g : Same H H') : Rel Γ S H' σ ρ τ where
 len := R.len
 val := fun i d h => let ⟨v, e, r⟩ := R.val i d h; ⟨v, e, r.up (fun _ _ z => z) fun b o _ q => g b o q⟩
 own := fun i o h => let ⟨p, e, r, q⟩ := R.own i o h; ⟨p, e, r.up (fun u => g p u) (fun _ _ z => z) fun b o _ q => g b o q, q⟩
 pin := R.pin
 inj := R.inj
 dom := fun a h z => by
  cases e : H a with
  | none => exact R.dom a h e
  | some o => rw [g a o e] at z; cases z
 fr := fun b o h n => g b o (R.fr b o h n)
 tmp := fun x hx => (R.tmp x hx).up (fun _ _ z => z) fun b o _ q => g b o q
theorem Rel.push (R : Rel Γ S H σ ρ τ) (h : Rep Γ (zJ S σ ρ) H v d) : Rel Γ S H σ ρ ((v, d) :: τ) :=
 { R with tmp := fun x hx => (ar.mp hx).elim (fun e => by subst e; exact h) (R.tmp x) }
theorem Rel.pop (R : Rel Γ S H σ ρ (x :: τ)) : Rel Γ S H σ ρ τ /\ Rep Γ (zJ S σ ρ) H x.1 x.2 :=
 ⟨{ R with tmp := fun y hy => R.tmp y (ah _ hy) }, R.tmp x ai⟩
theorem jd (R : Rel Γ S H σ ρ τ) (h : zJ S σ ρ a) : H a ≠ none := by
 rcases h with h | ⟨i, ⟨o, ho⟩, e⟩
 · exact R.dom a h
 · obtain ⟨p, e', r, _⟩ := R.own i o ho
   rw [e] at e'; cases e'
   exact r.ne0
theorem Rel.add (R : Rel Γ S H σ ρ τ) (hp : H p = none) (h0 : S.H0 p = none) : Rel Γ (S.add p) (ye H p u) σ ρ τ := by
 have g : Same H (ye H p u) := fun b o q => by rw [z7 (yH q hp)]; exact q
 have he : ∀ b, H b ≠ none -> zJ (S.add p) σ ρ b -> zJ S σ ρ b := fun b hb h => by
  rcases h with (h | h) | h
  · exact .inl h
  · subst h; exact absurd hp hb
  · exact .inr h
 exact {
  len := R.len
  val := fun i d h => let ⟨v, e, r⟩ := R.val i d h; ⟨v, e, r.up he fun b o _ q => g b o q⟩
  own := fun i o h => by
   obtain ⟨q, e, r, n, pn⟩ := R.own i o h
   refine ⟨q, e, r.up (fun u => g q u) he fun b o _ q => g b o q, ?_, pn⟩
   rintro (z | z)
   · exact n z
   · subst z; exact r.ne0 hp
  pin := R.pin
  inj := R.inj
  dom := fun a h => by
   rcases h with h | h
   · have := R.dom a h
     have hne : a ≠ p := fun z => by subst z; exact this hp
     rw [z7 hne]; exact this
   · subst h; rw [jC]; simp
  fr := fun b o h n => g b o (R.fr b o h n)
  tmp := fun x hx => (R.tmp x hx).up he fun b o _ q => g b o q }
theorem Rel.unadd (R : Rel Γ (S.add p) H σ ρ τ) : Rel Γ S H σ ρ τ := by
 have he : ∀ b, H b ≠ none -> zJ S σ ρ b -> zJ (S.add p) σ ρ b := fun b _ h => h.elim (fun z => .inl (.inl z)) .inr
 exact {
  len := R.len
  val := fun i d h => let ⟨v, e, r⟩ := R.val i d h; ⟨v, e, r.up he fun _ _ _ q => q⟩
  own := fun i o h => let ⟨q, e, r, n, pn⟩ := R.own i o h; ⟨q, e, r.up (fun _ q => q) he fun _ _ _ q => q, fun z => n (.inl z), pn⟩
  pin := R.pin
  inj := R.inj
  dom := fun a h => R.dom a (.inl h)
  fr := R.fr
  tmp := fun x hx => (R.tmp x hx).up he fun _ _ _ q => q }
theorem Rel.new (R : Rel Γ S H σ ρ τ) (hp : H p = none) : S.H0 p = none := by
 cases e : S.H0 p with
 | none => rfl
 | some o =>
  by_cases h : ∃ i, S.pin i = some p
  · obtain ⟨i, hi⟩ := h
    obtain ⟨e1, o', ho⟩ := R.pin i p hi
    obtain ⟨q, e2, r, _⟩ := R.own i o' ho
    rw [e1] at e2; cases e2
    exact absurd hp r.ne0
  · have := R.fr p o e fun i z => h ⟨i, z⟩
    rw [hp] at this; cases this
theorem getElem?_set_ne {α : Type} {l : List α} {i j : Nat} {x : α} (h : i ≠ j) : (l.set i x)[j]? = l[j]? := by rw [bh, if_neg h]
theorem getElem?_set_here {α : Type} {l : List α} {i : Nat} {x y : α} (h : (l.set i x)[i]? = some y) : y = x := by
 rw [bh, if_pos rfl] at h
 split at h
 · cases h; rfl
 · cases h
theorem Rel.asg (R : Rel Γ S H σ ρ τ) {i : Nat} {v : V} {d : D} (hi : S.pin i = none) (h : Rep Γ (zJ S σ ρ) H v d) : Rel Γ S H (σ.set i (some v)) (ρ.set i (.val d)) τ := by
 have own_ne : ∀ j, yY (ρ.set i (.val d)) j -> j ≠ i /\ yY ρ j := fun j ⟨o, ho⟩ => by
  by_cases e : i = j
  · subst e; cases getElem?_set_here ho
  · rw [getElem?_set_ne e] at ho; exact ⟨bp e, o, ho⟩
 have he : ∀ b, H b ≠ none -> zJ S (σ.set i (some v)) (ρ.set i (.val d)) b -> zJ S σ ρ b := fun b _ h => by
  rcases h with h | ⟨j, hj, e⟩
  · exact .inl h
  · obtain ⟨ne, oj⟩ := own_ne j hj
    rw [getElem?_set_ne (bp ne)] at e
    exact .inr ⟨j, oj, e⟩
 have keep : ∀ b o, ¬ zJ S σ ρ b -> H b = some o -> H b = some o := fun _ _ _ q => q
 exact {
  len := by simp [R.len]
  val := fun j e hj => by
   by_cases eq : i = j
   · subst eq
     have e1 := getElem?_set_here hj
     cases e1
     have hl : i < σ.length := by
      rw [R.len]
      have := (aL.mp hj).1
      simpa using this
     exact ⟨v, by rw [bh, if_pos rfl, if_pos hl], h.up he keep⟩
   · rw [getElem?_set_ne eq] at hj
     obtain ⟨w, e1, r⟩ := R.val j e hj
     exact ⟨w, by rw [getElem?_set_ne eq]; exact e1, r.up he keep⟩
  own := fun j o hj => by
   have ne := (own_ne j ⟨o, hj⟩).1
   rw [getElem?_set_ne (bp ne)] at hj
   obtain ⟨p, e1, r, n, pn⟩ := R.own j o hj
   exact ⟨p, by rw [getElem?_set_ne (bp ne)]; exact e1, r.up (fun _ q => q) he keep, n, pn⟩
  pin := fun j p hj => by
   have ne : i ≠ j := fun z => by subst z; rw [hi] at hj; cases hj
   obtain ⟨a, o, b⟩ := R.pin j p hj
   exact ⟨by rw [getElem?_set_ne ne]; exact a, o, by rw [getElem?_set_ne ne]; exact b⟩
  inj := fun j k p hj hk e1 e2 => by
   obtain ⟨nj, oj⟩ := own_ne j hj
   obtain ⟨nk, ok⟩ := own_ne k hk
   rw [getElem?_set_ne (bp nj)] at e1
   rw [getElem?_set_ne (bp nk)] at e2
   exact R.inj j k p oj ok e1 e2
  dom := R.dom
  fr := R.fr
  tmp := fun x hx => (R.tmp x hx).up he keep }
theorem Rel.asgOwn {p : Addr} (R : Rel Γ (S.add p) H σ ρ τ) {i : Nat} {o : D} (hi : S.pin i = none) (h : OwnAt Γ (zJ (S.add p) σ ρ) H p o) (h0 : S.H0 p = none) (hp : ¬ S.C p) : Rel Γ S H (σ.set i (some (.ref p))) (ρ.set i (.own o)) τ := by
 have own_ne : ∀ j, j ≠ i -> yY (ρ.set i (.own o)) j -> yY ρ j := fun j hj ⟨o', ho⟩ => by
  rw [getElem?_set_ne (bp hj)] at ho; exact ⟨o', ho⟩
 have notp : ∀ j q, yY ρ j -> σ[j]? = some (some (.ref q)) -> q ≠ p := fun j q ⟨o', ho⟩ e z => by
  obtain ⟨q', e1, _, n, _⟩ := R.own j o' ho
  rw [e] at e1; cases e1
  exact n (.inr z)
 have he : ∀ b, H b ≠ none -> zJ S (σ.set i (some (.ref p))) (ρ.set i (.own o)) b -> zJ (S.add p) σ ρ b := fun b _ h => by
  rcases h with h | ⟨j, hj, e⟩
  · exact .inl (.inl h)
  · by_cases ne : j = i
    · subst ne
      rw [bh, if_pos rfl] at e
      split at e
      · cases e; exact .inl (.inr rfl)
      · cases e
    · rw [getElem?_set_ne (bp ne)] at e
      exact .inr ⟨j, own_ne j ne hj, e⟩
 have keep : ∀ b o, ¬ zJ (S.add p) σ ρ b -> H b = some o -> H b = some o := fun _ _ _ q => q
 exact {
  len := by simp [R.len]
  val := fun j e hj => by
   by_cases eq : i = j
   · subst eq; cases getElem?_set_here hj
   · rw [getElem?_set_ne eq] at hj
     obtain ⟨w, e1, r⟩ := R.val j e hj
     exact ⟨w, by rw [getElem?_set_ne eq]; exact e1, r.up he keep⟩
  own := fun j o' hj => by
   by_cases eq : i = j
   · subst eq
     have e1 := getElem?_set_here hj
     cases e1
     have hl : i < σ.length := by
      rw [R.len]
      have := (aL.mp hj).1
      simpa using this
     exact ⟨p, by rw [bh, if_pos rfl, if_pos hl], h.up (fun _ q => q) he keep, hp, .inr ⟨hi, h0⟩⟩
   · rw [getElem?_set_ne eq] at hj
     obtain ⟨q, e1, r, n, pn⟩ := R.own j o' hj
     exact ⟨q, by rw [getElem?_set_ne eq]; exact e1, r.up (fun _ q => q) he keep, fun z => n (.inl z), pn⟩
  pin := fun j q hj => by
   have ne : i ≠ j := fun z => by subst z; rw [hi] at hj; cases hj
   obtain ⟨a, o', b⟩ := R.pin j q hj
   exact ⟨by rw [getElem?_set_ne ne]; exact a, o', by rw [getElem?_set_ne ne]; exact b⟩
  inj := fun j k q hj hk e1 e2 => by
   by_cases ej : j = i
   · by_cases ek : k = i
     · rw [ej, ek]
     · subst ej
       rw [bh, if_pos rfl] at e1
       split at e1
       · cases e1
         rw [getElem?_set_ne (bp ek)] at e2
         exact absurd rfl (notp k _ (own_ne k ek hk) e2)
       · cases e1
   · by_cases ek : k = i
     · subst ek
       rw [bh, if_pos rfl] at e2
       split at e2
       · cases e2
         rw [getElem?_set_ne (bp ej)] at e1
         exact absurd rfl (notp j _ (own_ne j ej hj) e1)
       · cases e2
     · rw [getElem?_set_ne (bp ej)] at e1
       rw [getElem?_set_ne (bp ek)] at e2
       exact R.inj j k q (own_ne j ej hj) (own_ne k ek hk) e1 e2
  dom := fun a h => R.dom a (.inl h)
  fr := R.fr
  tmp := fun x hx => (R.tmp x hx).up he keep }
theorem Rel.freeze (R : Rel Γ S H σ ρ τ) {i : Nat} {o : D} (hi : S.pin i = none) (h : ρ[i]? = some (.own o)) : ∃ v, σ[i]? = some (some v) /\ Rep Γ (zJ S σ (ρ.set i (.val o))) H v o /\ Rel Γ S H σ (ρ.set i (.val o)) τ := by
 obtain ⟨p, e, r, n, _⟩ := R.own i o h
 have own_ne : ∀ j, yY (ρ.set i (.val o)) j -> j ≠ i /\ yY ρ j := fun j ⟨o, ho⟩ => by
  by_cases e : i = j
  · subst e; cases getElem?_set_here ho
  · rw [getElem?_set_ne e] at ho; exact ⟨bp e, o, ho⟩
 have he : ∀ b, H b ≠ none -> zJ S σ (ρ.set i (.val o)) b -> zJ S σ ρ b := fun b _ h => by
  rcases h with h | ⟨j, hj, e⟩
  · exact .inl h
  · exact .inr ⟨j, (own_ne j hj).2, e⟩
 have keep : ∀ b o, ¬ zJ S σ ρ b -> H b = some o -> H b = some o := fun _ _ _ q => q
 have hp : ¬ zJ S σ (ρ.set i (.val o)) p := by
  rintro (z | ⟨j, hj, ej⟩)
  · exact n z
  · obtain ⟨ne, oj⟩ := own_ne j hj
    exact ne (R.inj j i p oj ⟨o, h⟩ ej e)
 have rep := (r.up (fun _ q => q) he keep).rep hp
 refine ⟨_, e, rep, ?_⟩
 exact {
  len := by simp [R.len]
  val := fun j d hj => by
   by_cases eq : i = j
   · subst eq
     have e1 := getElem?_set_here hj
     cases e1
     exact ⟨_, e, rep⟩
   · rw [getElem?_set_ne eq] at hj
     obtain ⟨w, e1, r⟩ := R.val j d hj
     exact ⟨w, e1, r.up he keep⟩
  own := fun j o' hj => by
   have ne := (own_ne j ⟨o', hj⟩).1
   rw [getElem?_set_ne (bp ne)] at hj
   obtain ⟨q, e1, r, n, pn⟩ := R.own j o' hj
   exact ⟨q, e1, r.up (fun _ q => q) he keep, n, pn⟩
  pin := fun j p hj => by
   have ne : i ≠ j := fun z => by subst z; rw [hi] at hj; cases hj
   obtain ⟨a, o', b⟩ := R.pin j p hj
   exact ⟨a, o', by rw [getElem?_set_ne ne]; exact b⟩
  inj := fun j k p hj hk e1 e2 => R.inj j k p (own_ne j hj).2 (own_ne k hk).2 e1 e2
  dom := R.dom
  fr := R.fr
  tmp := fun x hx => (R.tmp x hx).up he keep }
theorem Rel.write (R : Rel Γ S H σ ρ τ) {i : Nat} {p : Addr} {o o' : D} (h : ρ[i]? = some (.own o)) (e : σ[i]? = some (some (.ref p))) (hk : ∀ b u, b ≠ p -> H b = some u -> H' b = some u)
 (hn : OwnAt Γ (zJ S σ ρ) H' p o') : Rel Γ S H' σ (ρ.set i (.own o')) τ := by
 have iff : ∀ j, yY (ρ.set i (.own o')) j -> yY ρ j := fun j ⟨q, hq⟩ => by
  by_cases z : i = j
  · subst z; exact ⟨o, h⟩
  · rw [getElem?_set_ne z] at hq; exact ⟨q, hq⟩
 have he : ∀ b, H b ≠ none -> zJ S σ (ρ.set i (.own o')) b -> zJ S σ ρ b := fun b _ h => by
  rcases h with h | ⟨j, hj, e⟩
  · exact .inl h
  · exact .inr ⟨j, iff j hj, e⟩
 have pex : zJ S σ ρ p := .inr ⟨i, ⟨o, h⟩, e⟩
 have keep : ∀ b u, ¬ zJ S σ ρ b -> H b = some u -> H' b = some u := fun b u n q => hk b u (fun z => n (by rw [z]; exact pex)) q
 obtain ⟨p', e', _, n0, pn0⟩ := R.own i o h
 rw [e] at e'; cases e'
 exact {
  len := by simp [R.len]
  val := fun j d hj => by
   by_cases eq : i = j
   · subst eq; cases getElem?_set_here hj
   · rw [getElem?_set_ne eq] at hj
     obtain ⟨w, e1, r⟩ := R.val j d hj
     exact ⟨w, e1, r.up he keep⟩
  own := fun j q hj => by
   by_cases eq : i = j
   · subst eq
     have e1 := getElem?_set_here hj
     cases e1
     refine ⟨p, e, hn.up (fun _ q => q) (fun b _ z => ?_) (fun _ _ _ q => q), n0, pn0⟩
     rcases z with z | ⟨k, hk, ek⟩
     · exact .inl z
     · exact .inr ⟨k, iff k hk, ek⟩
   · rw [getElem?_set_ne eq] at hj
     obtain ⟨q', e1, r, n, pn⟩ := R.own j q hj
     refine ⟨q', e1, r.up (fun u hu => hk _ u (fun z => ?_) hu) he keep, n, pn⟩
     subst z
     exact eq (R.inj i j _ ⟨o, h⟩ ⟨q, hj⟩ e e1)
  pin := fun j q hj => by
   obtain ⟨a, o', b⟩ := R.pin j q hj
   refine ⟨a, ?_⟩
   by_cases eq : i = j
   · subst eq
     have hl : i < ρ.length := (aL.mp h).1
     exact ⟨_, by rw [bh, if_pos rfl, if_pos hl]⟩
   · exact ⟨o', by rw [getElem?_set_ne eq]; exact b⟩
  inj := fun j k p hj hk e1 e2 => R.inj j k p (iff j hj) (iff k hk) e1 e2
  dom := fun a ha => by
   have := R.dom a ha
   by_cases z : a = p
   · subst z; exact absurd ha n0
   · cases q : H a with
     | none => exact absurd q this
     | some u => rw [hk a u z q]; simp
  fr := fun b u h0 n => by
   refine hk b u (fun z => ?_) (R.fr b u h0 n)
   subst z
   rcases pn0 with q | ⟨_, q⟩
   · exact n i q
   · rw [q] at h0; cases h0
  tmp := fun x hx => (R.tmp x hx).up he keep }
end
abbrev EK := D -> Env -> Prop
abbrev ME := Env -> EK -> Prop
abbrev MT := Env -> (Bool -> Env -> Prop) -> Prop
abbrev MA := Env -> (List D -> Env -> Prop) -> Prop
structure Uc where
 nx : Env -> Prop
 rt : EK
 bk : Env -> Prop
 ct : Env -> Prop
abbrev MS := Uc -> Env -> Prop
def Jx (pn : List Nat) (S : Fs) : Prop := ∀ i, i ∉ pn -> S.pin i = none
def JE (Γ : Cn) (pn : List Nat) (t : TE) (m : ME) : Prop :=
 ∀ (S : Fs) (σ : St) (ρ : Env) (H : Hp) (τ : List (V × D)) (Q : VK) (q : EK), Jx pn S -> Rel Γ S H σ ρ τ -> m ρ q -> (∀ v d H' ρ', Rel Γ S H' σ ρ' τ -> Rep Γ (zJ S σ ρ') H' v d -> q d ρ' -> Q v H') -> t σ H Q
def JT (Γ : Cn) (pn : List Nat) (t : TT) (m : MT) : Prop :=
 ∀ (S : Fs) (σ : St) (ρ : Env) (H : Hp) (τ : List (V × D)) (Q : Bool -> Hp -> Prop) (q : Bool -> Env -> Prop), Jx pn S -> Rel Γ S H σ ρ τ -> m ρ q -> (∀ b H' ρ', Rel Γ S H' σ ρ' τ -> q b ρ' -> Q b H') -> t σ H Q
def JA (Γ : Cn) (pn : List Nat) (t : TA) (m : MA) : Prop :=
 ∀ (S : Fs) (σ : St) (ρ : Env) (H : Hp) (τ : List (V × D)) (Q : List V -> Hp -> Prop) (q : List D -> Env -> Prop), Jx pn S -> Rel Γ S H σ ρ τ -> m ρ q -> (∀ vs ds H' ρ', Rel Γ S H' σ ρ' τ -> Reps Γ (zJ S σ ρ') H' vs ds -> q ds ρ' -> Q vs H') -> t σ H Q
def JF (Γ : Cn) (pn : List Nat) (t : TE) (m : ME) : Prop :=
 ∀ (S : Fs) (σ : St) (ρ : Env) (H : Hp) (τ : List (V × D)) (Q : VK) (q : EK), Jx pn S -> Rel Γ S H σ ρ τ -> m ρ q ->
  (∀ p o H' ρ', Rel Γ (S.add p) H' σ ρ' τ -> OwnAt Γ (zJ (S.add p) σ ρ') H' p o -> S.H0 p = none -> ¬ zJ S σ ρ' p -> q o ρ' -> Q (.ref p) H') -> t σ H Q
def RR (Γ : Cn) (fr : Bool) (S : Fs) (σ : St) (ρ : Env) (H : Hp) (τ : List (V × D)) (v : V) (d : D) : Prop := match fr with
 | false => Rel Γ S H σ ρ τ /\ Rep Γ (zJ S σ ρ) H v d
 | true => ∃ p, v = .ref p /\ Rel Γ (S.add p) H σ ρ τ /\ OwnAt Γ (zJ (S.add p) σ ρ) H p d /\ S.H0 p = none /\ ¬ zJ S σ ρ p
def JS (Γ : Cn) (pn : List Nat) (fr : Bool) (t : TS) (m : MS) : Prop :=
 ∀ (S : Fs) (σ : St) (ρ : Env) (H : Hp) (τ : List (V × D)) (D : zc4) (N : Uc), Jx pn S -> Rel Γ S H σ ρ τ -> m N ρ -> (∀ σ' H' ρ', Rel Γ S H' σ' ρ' τ -> N.nx ρ' -> D.nx σ' H') ->
  (∀ v d σ' H' ρ', RR Γ fr S σ' ρ' H' τ v d -> N.rt d ρ' -> D.rt v H') -> (∀ σ' H' ρ', Rel Γ S H' σ' ρ' τ -> N.bk ρ' -> D.bk σ' H') -> (∀ σ' H' ρ', Rel Γ S H' σ' ρ' τ -> N.ct ρ' -> D.ct σ' H') -> t D σ H
inductive Opd where
 | d (x : D) | v (i : Nat)
def V9 : Option Slot -> (D -> Prop) -> Prop
 | some (.val d), k => k d
 | some (.own d), k => k d
 | _, _ => False
def Opd.on (r : Opd) (ρ : Env) (k : D -> Prop) : Prop := match r with
 | .d x => k x
 | .v i => V9 ρ[i]? k
abbrev MO := Env -> (Opd -> Env -> Prop) -> Prop
def OpIn (σ : St) (τ : List (V × D)) (v : V) (r : Opd) : Prop := match r with
 | .d x => (v, x) ∈ τ
 | .v i => σ[i]? = some (some v)
def JO (Γ : Cn) (pn : List Nat) (t : TE) (m : MO) : Prop :=
 ∀ (S : Fs) (σ : St) (ρ : Env) (H : Hp) (τ : List (V × D)) (Q : VK) (q : Opd -> Env -> Prop), Jx pn S -> Rel Γ S H σ ρ τ -> m ρ q -> (∀ v r H' ρ' τ', Rel Γ S H' σ ρ' (τ' ++ τ) -> OpIn σ (τ' ++ τ) v r -> q r ρ' -> Q v H') -> t σ H Q
def Jy (Γ : Cn) (E : Addr -> Prop) (H : Hp) (v : V) : D -> Prop
 | .lst ds => ∃ a xs, v = .ref a /\ H a = some (.lst xs) /\ Reps Γ E H xs ds
 | .dK ds => ∃ a ks, v = .ref a /\ H a = some (.dK ks) /\ ks.map (·.1) = ds.map (·.1) /\ Reps Γ E H (ks.map (·.2)) (ds.map (·.2))
 | .dT ds => ∃ a ks, v = .ref a /\ H a = some (.dT ks) /\ ks.map (·.1) = ds.map (·.1) /\ Reps Γ E H (ks.map (·.2)) (ds.map (·.2))
 | .obj c fs => ∃ a C dx gs, v = .ref a /\ Γ.cls c = some C /\ H a = some (.ins C dx gs) /\ (gs.map (·.1) = fs.map fun x => yP x.1) /\ Reps Γ E H (gs.map (·.2)) (fs.map (·.2))
 | d => Rep Γ E H v d
section
variable {Γ : Cn} {E E' : Addr -> Prop} {H H' : Hp} {v : V} {d : D}
theorem Rep.b (r : Rep Γ E H v d) : Jy Γ E H v d := by
 cases r with
 | non => exact .non
 | bl b => exact .bl b
 | int i => exact .int i
 | str x => exact .str x
 | ty n => exact .ty n
 | lst ne h l r => exact ⟨_, _, rfl, h, l, r⟩
 | fz h => exact .fz h
 | tup ne h l r => exact .tup ne h l r
 | dK ne h l r => exact ⟨_, _, rfl, h, l, by have := congrArg ci l; simpa using this, r⟩
 | dT ne h l r => exact ⟨_, _, rfl, h, l, by have := congrArg ci l; simpa using this, r⟩
 | obj ne hc h l r => exact ⟨_, _, _, _, rfl, hc, h, l, by have := congrArg ci l; simpa using this, r⟩
 | exc ne hc h => exact .exc ne hc h
 | kt h => exact .kt h
 | kd h => exact .kd h
theorem OwnAt.b (h : OwnAt Γ E H p d) : Jy Γ E H (.ref p) d := by
 cases d with
 | lst ds => obtain ⟨xs, e, r⟩ := h; exact ⟨p, xs, rfl, e, r⟩
 | dK ds => obtain ⟨xs, e, l, r⟩ := h; exact ⟨p, xs, rfl, e, l, r⟩
 | dT ds => obtain ⟨xs, e, l, r⟩ := h; exact ⟨p, xs, rfl, e, l, r⟩
 | obj c fs => obtain ⟨C, dx, gs, hc, e, l, r⟩ := h; exact ⟨p, C, dx, gs, rfl, hc, e, l, r⟩
 | _ => exact aa h
theorem Rel.read {r : Opd} {k : D -> Prop} (R : Rel Γ S H σ ρ τ) (h : OpIn σ τ v r) (hk : r.on ρ k) : ∃ d, Jy Γ (zJ S σ ρ) H v d /\ k d := by
 cases r with
 | d x => exact ⟨x, (R.tmp _ h).b, hk⟩
 | v i =>
  have e : σ[i]? = some (some v) := h
  have hk : V9 ρ[i]? k := hk
  cases q : ρ[i]? with
  | none => rw [q] at hk; exact aa hk
  | some s =>
   rw [q] at hk
   cases s with
   | no => exact aa hk
   | val d =>
    obtain ⟨w, e', r⟩ := R.val i d q
    rw [e] at e'; cases e'
    exact ⟨d, r.b, hk⟩
   | own o =>
    obtain ⟨p, e', r, _⟩ := R.own i o q
    rw [e] at e'; cases e'
    exact ⟨o, r.b, hk⟩
end
section
variable {Γ : Cn} {pn : List Nat} {fr : Bool}
def mC (d : D) : ME := fun ρ q => q d ρ
def Qk : D -> Bool
 | .non => true | .bl _ => true | .int _ => true | .str _ => true | .ty _ => true | _ => false
def vD : D -> V
 | .non => .non | .bl b => .bl b | .int i => .int i | .str x => .str x | .ty n => .ty n | _ => .non
theorem Z8 {E : Addr -> Prop} (h : Qk d = true) : Rep Γ E H (vD d) d := by
 cases d with
 | non => exact .non
 | bl b => exact .bl b
 | int i => exact .int i
 | str x => exact .str x
 | ty n => exact .ty n
 | _ => cases h
theorem Rep.flat {E : Addr -> Prop} (r : Rep Γ E H v d) (h : Qk d = true) : v = vD d := by
 cases r <;> first | rfl | cases h
theorem zdc (h : Qk d = true) (e : v = vD d) : JE Γ pn (tC v) (mC d) := fun S σ ρ H τ Q q _ R hm hq => by
 subst e; exact hq _ _ _ _ R (Z8 h) hm
def zdd (i : Nat) : ME := fun ρ q => match ρ[i]? with
 | some (.val d) => q d ρ
 | some (.own o) => q o (ρ.set i (.val o))
 | _ => False
theorem zmO (hi : i ∉ pn) : JE Γ pn (QB i) (zdd i) := fun S σ ρ H τ Q q hp R hm hq => by
 unfold zdd at hm
 cases e : ρ[i]? with
 | none => rw [e] at hm; exact aa hm
 | some s =>
  rw [e] at hm
  cases s with
  | no => exact aa hm
  | val d =>
   obtain ⟨v, e1, r⟩ := R.val i d e
   exact ⟨v, e1, hq v d H ρ R r hm⟩
  | own o =>
   obtain ⟨v, e1, r, R'⟩ := R.freeze (hp i hi) e
   exact ⟨v, e1, hq v o H _ R' r hm⟩
def RY (i : Nat) : ME := fun ρ q => match ρ[i]? with
 | some (.val d) => q d ρ
 | _ => False
theorem zlj : JE Γ pn (QB i) (RY i) := fun S σ ρ H τ Q q hp R hm hq => by
 unfold RY at hm
 cases e : ρ[i]? with
 | none => rw [e] at hm; exact aa hm
 | some s =>
  rw [e] at hm
  cases s with
  | no => exact aa hm
  | val d =>
   obtain ⟨v, e1, r⟩ := R.val i d e
   exact ⟨v, e1, hq v d H ρ R r hm⟩
  | own o => exact aa hm
def mOv (i : Nat) : MO := fun ρ q => match ρ[i]? with
 | some (.val _) => q (.v i) ρ
 | some (.own _) => q (.v i) ρ
 | _ => False
theorem zmP : JO Γ pn (QB i) (mOv i) := fun S σ ρ H τ Q q hp R hm hq => by
 unfold mOv at hm
 cases e : ρ[i]? with
 | none => rw [e] at hm; exact aa hm
 | some s =>
  rw [e] at hm
  cases s with
  | no => exact aa hm
  | val d =>
   obtain ⟨v, e1, r⟩ := R.val i d e
   exact ⟨v, e1, hq v (.v i) H ρ [] R e1 hm⟩
  | own o =>
   obtain ⟨p, e1, r⟩ := R.own i o e
   exact ⟨_, e1, hq _ (.v i) H ρ [] R e1 hm⟩
def mO (m : ME) : MO := fun ρ q => m ρ fun d ρ' => q (.d d) ρ'
theorem zf1 (h : JE Γ pn t m) : JO Γ pn t (mO m) := fun S σ ρ H τ Q q hp R hm hq =>
 h S σ ρ H τ Q _ hp R hm fun v d H' ρ' R' r q' => hq v (.d d) H' ρ' [(v, d)] (R'.push r) (by show (v, d) ∈ _; simp) q'
theorem WF (h : JF Γ pn t m) : JE Γ pn t m := fun S σ ρ H τ Q q hp R hm hq =>
 h S σ ρ H τ Q q hp R hm fun p o H' ρ' R' ow _ ne q' => by
  have ow' : OwnAt Γ (zJ S σ ρ') H' p o := ow.up (fun _ z => z) (fun b _ z => z.elim (fun z => .inl (.inl z)) .inr) fun _ _ _ z => z
  exact hq _ o H' ρ' R'.unadd (ow'.rep ne) q'
def zf2 : MA := fun ρ q => q [] ρ
def zcI (a : ME) (r : MA) : MA := fun ρ q => a ρ fun d ρ1 => r ρ1 fun ds ρ2 => q (d :: ds) ρ2
theorem zhv : JA Γ pn Zy zf2 := fun S σ ρ H τ Q q _ R hm hq => hq [] [] H ρ R .nil hm
theorem zlk (h1 : JE Γ pn t m) (h2 : JA Γ pn u n) : JA Γ pn (J4 t u) (zcI m n) := fun S σ ρ H τ Q q hp R hm hq =>
 h1 S σ ρ H τ _ _ hp R hm fun v d H1 ρ1 R1 r1 q1 => h2 S σ ρ1 H1 ((v, d) :: τ) _ _ hp (R1.push r1) q1 fun vs ds H2 ρ2 R2 r2 q2 =>
  hq _ _ H2 ρ2 R2.pop.1 (.cons R2.pop.2 r2) q2
def zf3 (ss : List Str) : MA := fun ρ q => q (ss.map D.str) ρ
theorem zll : JA Γ pn (zkD ss) (zf3 ss) := fun S σ ρ H τ Q q hp R hm hq =>
 hq _ _ H ρ R ⟨by simp, fun i v d h1 h2 => by
  rw [au] at h1 h2
  cases e : ss[i]? with
  | none => rw [e] at h1; cases h1
  | some x => rw [e] at h1 h2; cases h1; cases h2; exact .str x⟩ hm
theorem JU {S : Fs} (R : Rel Γ S H σ ρ τ) (r : Reps Γ (zJ S σ ρ) H xs ds) (hp : H p = none) :
 Rel Γ (S.add p) (ye H p (.lst xs)) σ ρ τ /\ OwnAt Γ (zJ (S.add p) σ ρ) (ye H p (.lst xs)) p (.lst ds) /\ S.H0 p = none /\ ¬ zJ S σ ρ p := by
 have h0 := R.new hp
 refine ⟨R.add hp h0, ⟨xs, jC, r.up (fun b hb z => ?_) fun b o _ q => by rw [z7 (yH q hp)]; exact q⟩, h0, fun z => jd R z hp⟩
 rcases z with (z | z) | z
 · exact .inl z
 · subst z; exact absurd hp hb
 · exact .inr z
def zf4 (m : MA) : ME := fun ρ q => m ρ fun ds ρ' => ds.length <= 1000 /\ q (.lst ds) ρ'
theorem zeZ (h : n <= 1000) : n <= aG := aM h (by decide)
theorem zmQ (h : JA Γ pn t m) : JF Γ pn (zmA t) (zf4 m) := fun S σ ρ H τ Q q hp R hm hq =>
 h S σ ρ H τ _ _ hp R hm fun vs ds H1 ρ1 R1 r1 ⟨l1, q1⟩ => ⟨by rw [r1.1]; exact zeZ l1, fun p hn => by
  obtain ⟨a, b, c, d⟩ := JU R1 r1 hn
  exact hq p _ _ ρ1 a b c d q1⟩
def zf5 (m : MA) : ME := fun ρ q => m ρ fun ds ρ' => ds.length <= 1000 /\ q (.tup ds) ρ'
theorem Ud (h : H p = none) (o : HO) : Same H (ye H p o) := fun b u q => by rw [z7 (yH q h)]; exact q
theorem zlm (R : Rel Γ S H σ ρ τ) (r : Reps Γ (zJ S σ ρ) H xs ds) (hp : H p = none) :
 Rel Γ S (ye H p (.tup xs)) σ ρ τ /\ Rep Γ (zJ S σ ρ) (ye H p (.tup xs)) (.ref p) (.tup ds) := by
 have g := Ud hp (.tup xs)
 have r' := r.up (E' := zJ S σ ρ) (H' := ye H p (.tup xs)) (fun _ _ z => z) fun b o _ q => g b o q
 exact ⟨R.grow g, .tup (fun z => jd R z hp) jC r'.1 r'.2⟩
theorem zmR (h : JA Γ pn t m) : JE Γ pn (zmz t) (zf5 m) := fun S σ ρ H τ Q q hp R hm hq =>
 h S σ ρ H τ _ _ hp R hm fun vs ds H1 ρ1 R1 r1 ⟨l1, q1⟩ => ⟨by rw [r1.1]; exact zeZ l1, fun p hn => by
  obtain ⟨a, b⟩ := zlm R1 r1 hn
  exact hq _ _ _ ρ1 a b q1⟩
abbrev F2 := D -> D -> (D -> Prop) -> Prop
def jr (Γ : Cn) (r : R2) (f : F2) : Prop :=
 ∀ (E : Addr -> Prop) (H : Hp) (x y : V) (dx dy : D) (Q : VK) (q : D -> Prop), (∀ a, E a -> H a ≠ none) -> Jy Γ E H x dx -> Jy Γ E H y dy -> f dx dy q -> (∀ v d H', Same H H' -> Rep Γ E H' v d -> q d -> Q v H') -> r x y H Q
def Qa (f : F2) (a b : MO) : ME := fun ρ q => a ρ fun r ρ1 => b ρ1 fun s ρ2 => r.on ρ2 fun x => s.on ρ2 fun y => f x y fun d => q d ρ2
theorem OpIn.more (h : OpIn σ τ v r) : OpIn σ (τ' ++ τ) v r := by
 cases r with
 | d x => exact aC _ h
 | v i => exact h
theorem Rel.cut (R : Rel Γ S H σ ρ (τ' ++ τ)) : Rel Γ S H σ ρ τ := { R with tmp := fun x hx => R.tmp x (aC _ hx) }
theorem Yq (ho : jr Γ r f) (ha : JO Γ pn ta a) (hb : JO Γ pn tb b) : JE Γ pn (tOp r ta tb) (Qa f a b) := fun S σ ρ H τ Q q hp R hm hq =>
 ha S σ ρ H τ _ _ hp R hm fun v r1 H1 ρ1 τ1 R1 o1 q1 => hb S σ ρ1 H1 (τ1 ++ τ) _ _ hp R1 q1 fun w r2 H2 ρ2 τ2 R2 o2 q2 => by
  obtain ⟨dx, rx, q2⟩ := R2.read o1.more q2
  obtain ⟨dy, ry, q2⟩ := R2.read o2 q2
  exact ho _ H2 v w dx dy Q _ (fun a z => jd R2 z) rx ry q2 fun u d H3 g r3 q3 => hq u d H3 ρ2 ((R2.grow g).cut.cut) r3 q3
abbrev F1 := D -> (D -> Prop) -> Prop
def QE (Γ : Cn) (r : V -> Hp -> VK -> Prop) (f : F1) : Prop :=
 ∀ (E : Addr -> Prop) (H : Hp) (x : V) (dx : D) (Q : VK) (q : D -> Prop), (∀ a, E a -> H a ≠ none) -> Jy Γ E H x dx -> f dx q -> (∀ v d H', Same H H' -> Rep Γ E H' v d -> q d -> Q v H') -> r x H Q
def Jz (f : F1) (a : MO) : ME := fun ρ q => a ρ fun r ρ1 => r.on ρ1 fun x => f x fun d => q d ρ1
theorem zkE {r : V -> Hp -> VK -> Prop} (ho : QE Γ r f) (ha : JO Γ pn ta a) : JE Γ pn (tUn r ta) (Jz f a) := fun S σ ρ H τ Q q hp R hm hq =>
 ha S σ ρ H τ _ _ hp R hm fun v r1 H1 ρ1 τ1 R1 o1 q1 => by
  obtain ⟨dx, rx, q1⟩ := R1.read o1 q1
  exact ho _ H1 v dx Q _ (fun a z => jd R1 z) rx q1 fun u d H3 g r3 q3 => hq u d H3 ρ1 ((R1.grow g).cut) r3 q3
theorem zde {r : List V -> Hp -> VK -> Prop} (ho : QE Γ (fun x => r [x]) f) (ha : JO Γ pn ta a) : JE Γ pn (tCB r (J4 ta Zy)) (Jz f a) := fun S σ ρ H τ Q q hp R hm hq =>
 ha S σ ρ H τ _ _ hp R hm fun v r1 H1 ρ1 τ1 R1 o1 q1 => by
  obtain ⟨dx, rx, q1⟩ := R1.read o1 q1
  exact ho _ H1 v dx Q _ (fun a z => jd R1 z) rx q1 fun u d H3 g r3 q3 => hq u d H3 ρ1 ((R1.grow g).cut) r3 q3
theorem zji {r : List V -> Hp -> VK -> Prop} (ho : jr Γ (fun x y => r [x, y]) f) (ha : JO Γ pn ta a) (hb : JO Γ pn tb b) : JE Γ pn (tCB r (J4 ta (J4 tb Zy))) (Qa f a b) := fun S σ ρ H τ Q q hp R hm hq =>
 Yq (r := fun x y => r [x, y]) ho ha hb S σ ρ H τ Q q hp R hm hq
abbrev FL2 := D -> D -> (List D -> Prop) -> Prop
def zf6 (Γ : Cn) (r : R2) (f : FL2) : Prop :=
 ∀ (E : Addr -> Prop) (H : Hp) (x y : V) (dx dy : D) (Q : VK) (q : List D -> Prop), Jy Γ E H x dx -> Jy Γ E H y dy -> f dx dy q -> (∀ p xs ds H1, Same H H1 -> H1 p = none -> Reps Γ E H1 xs ds -> q ds -> Q (.ref p) (ye H1 p (.lst xs))) -> r x y H Q
def zdf (f : FL2) (a b : MO) : ME := fun ρ q => a ρ fun r ρ1 => b ρ1 fun s ρ2 => r.on ρ2 fun x => s.on ρ2 fun y => f x y fun ds => q (.lst ds) ρ2
theorem znX (ho : zf6 Γ r f) (ha : JO Γ pn ta a) (hb : JO Γ pn tb b) : JF Γ pn (tOp r ta tb) (zdf f a b) := fun S σ ρ H τ Q q hp R hm hq =>
 ha S σ ρ H τ _ _ hp R hm fun v r1 H1 ρ1 τ1 R1 o1 q1 => hb S σ ρ1 H1 (τ1 ++ τ) _ _ hp R1 q1 fun w r2 H2 ρ2 τ2 R2 o2 q2 => by
  obtain ⟨dx, rx, q2⟩ := R2.read o1.more q2
  obtain ⟨dy, ry, q2⟩ := R2.read o2 q2
  exact ho _ H2 v w dx dy Q _ rx ry q2 fun p xs ds H3 g hn r3 q3 => by
   obtain ⟨a, b, c, d⟩ := JU (R2.grow g) r3 hn
   exact hq p _ _ ρ2 a.cut.cut b c d q3
abbrev FL1 := D -> (List D -> Prop) -> Prop
def zdh (Γ : Cn) (r : V -> Hp -> VK -> Prop) (f : FL1) : Prop :=
 ∀ (E : Addr -> Prop) (H : Hp) (x : V) (dx : D) (Q : VK) (q : List D -> Prop), Jy Γ E H x dx -> f dx q -> (∀ p xs ds H1, Same H H1 -> H1 p = none -> Reps Γ E H1 xs ds -> q ds -> Q (.ref p) (ye H1 p (.lst xs))) -> r x H Q
def Wa (f : FL1) (a : MO) : ME := fun ρ q => a ρ fun r ρ1 => r.on ρ1 fun x => f x fun ds => q (.lst ds) ρ1
theorem zjj {r : List V -> Hp -> VK -> Prop} (ho : zdh Γ (fun x => r [x]) f) (ha : JO Γ pn ta a) : JF Γ pn (tCB r (J4 ta Zy)) (Wa f a) := fun S σ ρ H τ Q q hp R hm hq =>
 ha S σ ρ H τ _ _ hp R hm fun v r1 H1 ρ1 τ1 R1 o1 q1 => by
  obtain ⟨dx, rx, q1⟩ := R1.read o1 q1
  exact ho _ H1 v dx Q _ rx q1 fun p xs ds H3 g hn r3 q3 => by
   obtain ⟨a, b, c, d⟩ := JU (R1.grow g) r3 hn
   exact hq p _ _ ρ1 a.cut b c d q3
def mB (m : ME) : MT := fun ρ q => m ρ fun d ρ' => match d with | .bl b => q b ρ' | _ => False
theorem Z9 {E : Addr -> Prop} (r : Rep Γ E H v (.bl b)) : v = .bl b := by cases r; rfl
theorem Wb {E : Addr -> Prop} (r : Rep Γ E H v (.int b)) : v = .int b := by cases r; rfl
theorem ze0 {E : Addr -> Prop} (r : Rep Γ E H v (.str b)) : v = .str b := by cases r; rfl
theorem zoL (h : JE Γ pn t m) : JT Γ pn (tB t) (mB m) := fun S σ ρ H τ Q q hp R hm hq =>
 h S σ ρ H τ _ _ hp R hm fun v d H1 ρ1 R1 r1 q1 => by
  cases d with
  | bl b => exact ⟨b, Z9 r1, hq b H1 ρ1 R1 q1⟩
  | _ => exact aa q1
theorem ze1 (h : JE Γ pn t m) : JT Γ pn (zfP t) (mB m) := fun S σ ρ H τ Q q hp R hm hq =>
 h S σ ρ H τ _ _ hp R hm fun v d H1 ρ1 R1 r1 q1 => by
  cases d with
  | bl b => exact ⟨b, Z9 r1, hq b H1 ρ1 R1 q1⟩
  | _ => exact aa q1
def mOr (a b : MT) : MT := fun ρ q => a ρ fun c ρ1 => if c = true then q true ρ1 else b ρ1 q
def zf7 (a : MT) : MT := fun ρ q => a ρ fun c ρ1 => q (!c) ρ1
theorem znY (h1 : JT Γ pn t a) (h2 : JT Γ pn u b) : JT Γ pn (tOr t u) (mOr a b) := fun S σ ρ H τ Q q hp R hm hq =>
 h1 S σ ρ H τ _ _ hp R hm fun c H1 ρ1 R1 q1 => by
  cases c with
  | true => rw [if_pos rfl] at q1 ⊢; exact hq true H1 ρ1 R1 q1
  | false => rw [if_neg aw] at q1 ⊢; exact h2 S σ ρ1 H1 τ Q q hp R1 q1 hq
theorem zmS (h1 : JT Γ pn t a) : JT Γ pn (zl6 t) (zf7 a) := fun S σ ρ H τ Q q hp R hm hq =>
 h1 S σ ρ H τ _ _ hp R hm fun c H1 ρ1 R1 q1 => hq (!c) H1 ρ1 R1 q1
def zcJ (a b : ME) : ME := fun ρ q => a ρ fun d ρ1 => match d with | .bl c => if c = true then b ρ1 q else q (.bl false) ρ1 | _ => False
def zcK (a : ME) : ME := fun ρ q => a ρ fun d ρ1 => match d with | .bl c => q (.bl (!c)) ρ1 | _ => False
theorem zmT (h1 : JE Γ pn t a) (h2 : JE Γ pn u b) : JE Γ pn (zko t u) (zcJ a b) := fun S σ ρ H τ Q q hp R hm hq =>
 h1 S σ ρ H τ _ _ hp R hm fun v d H1 ρ1 R1 r1 q1 => by
  cases d with
  | bl c =>
   refine ⟨c, Z9 r1, ?_⟩
   dsimp only at q1
   cases c with
   | true => rw [if_pos rfl] at q1 ⊢; exact h2 S σ ρ1 H1 τ Q q hp R1 q1 hq
   | false => rw [if_neg aw] at q1 ⊢; exact hq _ _ H1 ρ1 R1 (.bl false) q1
  | _ => exact aa q1
theorem zmU (h1 : JE Γ pn t a) : JE Γ pn (zkp t) (zcK a) := fun S σ ρ H τ Q q hp R hm hq =>
 h1 S σ ρ H τ _ _ hp R hm fun v d H1 ρ1 R1 r1 q1 => by
  cases d with
  | bl c => exact ⟨c, Z9 r1, hq _ _ H1 ρ1 R1 (.bl _) q1⟩
  | _ => exact aa q1
def zf8 : MS := fun N ρ => N.nx ρ
def zjk (a b : MS) : MS := fun N ρ => a { N with nx := fun ρ' => b N ρ' } ρ
def zcL (m : ME) : MS := fun N ρ => m ρ fun _ ρ' => N.nx ρ'
def zbh (m : ME) : MS := fun N ρ => m ρ N.rt
def zf9 (c : MT) (a b : MS) : MS := fun N ρ => c ρ fun k ρ1 => if k = true then a N ρ1 else b N ρ1
def zdi : MS := fun _ _ => False
theorem zln : JS Γ pn fr zkq zf8 := fun S σ ρ H τ D N hp R hm hn hr hb hc => hn _ _ _ R hm
theorem zjl : JS Γ pn fr t zdi := fun S σ ρ H τ D N hp R hm => aa hm
theorem zmV (h1 : JS Γ pn fr t a) (h2 : JS Γ pn fr u b) : JS Γ pn fr (zmb t u) (zjk a b) := fun S σ ρ H τ D N hp R hm hn hr hb hc =>
 h1 S σ ρ H τ _ _ hp R hm (fun σ' H' ρ' R' m' => h2 S σ' ρ' H' τ D N hp R' m' hn hr hb hc) hr hb hc
theorem zlo (h : JE Γ pn t m) : JS Γ pn fr (zkr t) (zcL m) := fun S σ ρ H τ D N hp R hm hn hr hb hc =>
 h S σ ρ H τ _ _ hp R hm fun v d H' ρ' R' r q => hn σ H' ρ' R' q
theorem zmW (h : JE Γ pn t m) : JS Γ pn false (ziS t) (zbh m) := fun S σ ρ H τ D N hp R hm hn hr hb hc =>
 h S σ ρ H τ _ _ hp R hm fun v d H' ρ' R' r q => hr v d σ H' ρ' ⟨R', r⟩ q
theorem zlp (h : JF Γ pn t m) : JS Γ pn true (ziS t) (zbh m) := fun S σ ρ H τ D N hp R hm hn hr hb hc =>
 h S σ ρ H τ _ _ hp R hm fun p o H' ρ' R' ow h0 ne q => hr _ o σ H' ρ' ⟨p, rfl, R', ow, h0, ne⟩ q
theorem znZ (h0 : JT Γ pn t c) (h1 : JS Γ pn fr ta a) (h2 : JS Γ pn fr tb b) : JS Γ pn fr (zmc t ta tb) (zf9 c a b) := fun S σ ρ H τ D N hp R hm hn hr hb hc =>
 h0 S σ ρ H τ _ _ hp R hm fun k H1 ρ1 R1 q1 => by
  cases k with
  | true => rw [if_pos rfl] at q1 ⊢; exact h1 S σ ρ1 H1 τ D N hp R1 q1 hn hr hb hc
  | false => rw [if_neg aw] at q1 ⊢; exact h2 S σ ρ1 H1 τ D N hp R1 q1 hn hr hb hc
def zdj (i : Nat) (m : ME) : MS := fun N ρ => m ρ fun d ρ' => N.nx (ρ'.set i (.val d))
def Wc (i : Nat) (m : ME) : MS := fun N ρ => m ρ fun d ρ' => N.nx (ρ'.set i (.own d))
theorem zhx (hi : i ∉ pn) (h : JE Γ pn t m) : JS Γ pn fr (zbe t (V5 i)) (zdj i m) := fun S σ ρ H τ D N hp R hm hn hr hb hc =>
 h S σ ρ H τ _ _ hp R hm fun v d H' ρ' R' r q => hn _ H' _ (R'.asg (hp i hi) r) q
theorem zhy (hi : i ∉ pn) (h : JF Γ pn t m) : JS Γ pn fr (zbe t (V5 i)) (Wc i m) := fun S σ ρ H τ D N hp R hm hn hr hb hc =>
 h S σ ρ H τ _ _ hp R hm fun p o H' ρ' R' ow h0 ne q => hn _ H' _ (R'.asgOwn (hp i hi) ow h0 (fun z => ne (.inl z))) q
abbrev MG := D -> Env -> (Env -> Prop) -> Prop
abbrev RZ := List D -> Env -> (Env -> Prop) -> Prop
def JG (Γ : Cn) (pn : List Nat) (g : TG) (m : MG) : Prop :=
 ∀ (S : Fs) (σ : St) (ρ : Env) (H : Hp) (τ : List (V × D)) (v : V) (d : D) (Q : St -> Hp -> Prop) (q : Env -> Prop), Jx pn S -> Rel Γ S H σ ρ τ -> Rep Γ (zJ S σ ρ) H v d -> m d ρ q -> (∀ σ' H' ρ', Rel Γ S H' σ' ρ' τ -> q ρ' -> Q σ' H') -> g v σ H Q
def JGs (Γ : Cn) (pn : List Nat) (g : TGs) (m : RZ) : Prop :=
 ∀ (S : Fs) (σ : St) (ρ : Env) (H : Hp) (τ : List (V × D)) (vs : List V) (ds : List D) (Q : St -> Hp -> Prop) (q : Env -> Prop), Jx pn S -> Rel Γ S H σ ρ τ -> Reps Γ (zJ S σ ρ) H vs ds -> m ds ρ q -> (∀ σ' H' ρ', Rel Γ S H' σ' ρ' τ -> q ρ' -> Q σ' H') -> g vs σ H Q
def zdk (i : Nat) : MG := fun d ρ q => q (ρ.set i (.val d))
theorem zlq (hi : i ∉ pn) : JG Γ pn (V5 i) (zdk i) := fun S σ ρ H τ v d Q q hp R r hm hq => hq _ _ _ (R.asg (hp i hi) r) hm
def zf_ : RZ := fun ds ρ q => match ds with | [] => q ρ | _ => False
def zdl (g : MG) (r : RZ) : RZ := fun ds ρ q => match ds with | d :: ds => g d ρ fun ρ1 => r ds ρ1 q | _ => False
theorem Rel.pushs : ∀ {vs : List V} {ds : List D}, Rel Γ S H σ ρ τ -> Reps Γ (zJ S σ ρ) H vs ds -> Rel Γ S H σ ρ (vs.zip ds ++ τ)
 | [], _, R, _ => R
 | _ :: _, [], R, _ => R
 | v :: vs, d :: ds, R, r => (Rel.pushs R r.tail).push r.head
theorem Rel.pops {vs : List V} {ds : List D} (R : Rel Γ S H σ ρ (vs.zip ds ++ τ)) (hl : vs.length = ds.length) : Rel Γ S H σ ρ τ /\ Reps Γ (zJ S σ ρ) H vs ds := by
 refine ⟨R.cut, hl, fun i v d h1 h2 => R.tmp (v, d) (aS _ (fu.mpr ⟨i, ?_⟩))⟩
 rw [eG]
 exact ⟨h1, h2⟩
theorem zlr : JGs Γ pn gNil zf_ := fun S σ ρ H τ vs ds Q q hp R r hm hq => by
 cases ds with
 | nil => have h := r.1; cases vs with | nil => exact ⟨rfl, hq _ _ _ R hm⟩ | cons _ _ => simp at h
 | cons _ _ => exact aa hm
theorem zjm (h1 : JG Γ pn g m) (h2 : JGs Γ pn u n) : JGs Γ pn (gCons g u) (zdl m n) := fun S σ ρ H τ vs ds Q q hp R r hm hq => by
 cases ds with
 | nil => exact aa hm
 | cons d ds =>
  cases vs with
  | nil => have h := r.1; simp at h
  | cons v vs =>
   refine ⟨v, vs, rfl, h1 S σ ρ H (vs.zip ds ++ τ) v d _ _ hp (R.pushs r.tail) r.head hm fun σ' H' ρ' R' q' => ?_⟩
   obtain ⟨R2, r2⟩ := R'.pops r.tail.1
   exact h2 S σ' ρ' H' τ vs ds Q q hp R2 r2 q' hq
def zga (m : RZ) (n : Nat) : MG := fun d ρ q => match d with | .tup ds => ds.length = n /\ m ds ρ q | _ => False
theorem zmX (h : JGs Γ pn g m) : JG Γ pn (gTup Γ.K n g) (zga m n) := fun S σ ρ H τ v d Q q hp R r hm hq => by
 cases d with
 | tup ds =>
  obtain ⟨a, xs, rfl, hs, rs⟩ := r.tuple
  exact ⟨a, xs, rfl, SqT.of hs, rs.1.trans hm.1, h S σ ρ H τ xs ds Q q hp R rs hm.2 hq⟩
 | _ => exact aa hm
abbrev MI := Env -> (List D -> Env -> Prop) -> Prop
def zmY (Γ : Cn) (J : It) (τ' : List (V × D)) (ds : List D) : Prop :=
 ∀ (E : Addr -> Prop) (H : Hp) (i : Nat), (∀ a, E a -> H a ≠ none) -> (∀ x ∈ τ', Rep Γ E H x.1 x.2) ->
  (i < ds.length -> J.go i H /\ ∀ x H', J.yld i H x H' -> Same H H' /\ ∃ d, ds[i]? = some d /\ Rep Γ E H' x d) /\ (i = ds.length -> J.stop i H)
def JI (Γ : Cn) (pn : List Nat) (wi : TI) (m : MI) : Prop :=
 ∀ (S : Fs) (σ : St) (ρ : Env) (H : Hp) (τ : List (V × D)) (Z : It -> Hp -> Prop) (q : List D -> Env -> Prop), Jx pn S -> Rel Γ S H σ ρ τ -> m ρ q ->
  (∀ J ds H' ρ' τ', Rel Γ S H' σ ρ' (τ' ++ τ) -> zmY Γ J τ' ds -> q ds ρ' -> Z J H') -> wi σ H Z
def R6 (m : ME) : MI := fun ρ q => m ρ fun d ρ' => match d with | .lst ds => q ds ρ' | .fz ns => q (ns.map D.int) ρ' | _ => False
theorem zls (h : JE Γ pn t m) : JI Γ pn (zkt Γ.K t) (R6 m) := fun S σ ρ H τ Z q hp R hm hz =>
 h S σ ρ H τ _ _ hp R hm fun v d H1 ρ1 R1 r1 q1 => by
  cases d with
  | lst ds =>
   obtain ⟨a, xs, rfl, hs, rs⟩ := r1.list
   refine ⟨a, rfl, ⟨xs, .inl (.inl hs)⟩, hz _ ds H1 ρ1 [(.ref a, .lst ds)] (R1.push r1) ?_ q1⟩
   intro E H i hE hx
   have r := hx (.ref a, .lst ds) (by simp)
   have r' : Rep Γ E H (.ref a) (.lst ds) := r
   obtain ⟨a', xs', e, hs', rs'⟩ := r'.list
   cases e
   refine ⟨fun hi => ?_, fun hi => ⟨xs', .inl (.inl hs'), by rw [rs'.1]; omega⟩⟩
   have hi' : i < xs'.length := by rw [rs'.1]; exact hi
   refine ⟨⟨xs', xs'[i], .inl (.inl hs'), af hi'⟩, fun x H' y => ?_⟩
   obtain ⟨e, y⟩ := y
   subst e
   exact ⟨Same.refl _, ds[i], af hi, rs'.2 i x _ (y xs' (.inl (.inl hs'))) (af hi)⟩
  | fz ns =>
   obtain ⟨a, rfl, hs⟩ := r1.script
   refine ⟨a, rfl, ⟨_, hs⟩, hz _ (ns.map D.int) H1 ρ1 [(.ref a, .fz ns)] (R1.push r1) ?_ q1⟩
   intro E H i hE hx
   have r : Rep Γ E H (.ref a) (.fz ns) := hx (.ref a, .fz ns) (by simp)
   obtain ⟨a', e, hs'⟩ := r.script
   cases e
   refine ⟨fun hi => ?_, fun hi => ⟨_, hs', by simpa using fb hi.symm⟩⟩
   have hi' : i < ns.length := by simpa using hi
   refine ⟨⟨_, .int ns[i], hs', by rw [au, af hi']; rfl⟩, fun x H' y => ?_⟩
   obtain ⟨e, y⟩ := y
   subst e
   have y' := y _ hs'
   rw [au, af hi'] at y'
   cases y'
   exact ⟨Same.refl _, .int ns[i], by rw [au, af hi']; rfl, .int _⟩
  | _ => exact aa q1
def zcM (m : ME) : MI := fun ρ q => m ρ fun d ρ' => match d with | .str x => q (x.cps.toList.map fun c => D.str ⟨#[c]⟩) ρ' | _ => False
theorem zmZ (h : JE Γ pn t m) : JI Γ pn (zmL t) (zcM m) := fun S σ ρ H τ Z q hp R hm hz =>
 h S σ ρ H τ _ _ hp R hm fun v d H1 ρ1 R1 r1 q1 => by
  cases d with
  | str x =>
   cases ze0 r1
   refine ⟨x, rfl, hz _ _ H1 ρ1 [] R1 ?_ q1⟩
   intro E H i hE hx
   refine ⟨fun hi => ?_, fun hi => by show i = x.cps.size; simpa using hi⟩
   have hi' : i < x.cps.size := by simpa using hi
   refine ⟨hi', fun v H' y => ?_⟩
   obtain ⟨e, c, hc, e2⟩ := y
   subst e e2
   refine ⟨Same.refl _, .str ⟨#[c]⟩, ?_, .str _⟩
   have hc' : x.cps.toList[i]? = some c := by simpa using hc
   rw [au, hc']; rfl
  | _ => exact aa q1
def y9 (lo : Int) (n : Nat) : List D := (cT n).map fun (i : Nat) => D.int (lo + (i : Int))
def Ue (m : MA) : MI := fun ρ q => m ρ fun ds ρ' => match ds with
 | [.int j] => (-1000000 <= j /\ j <= 1000000) /\ q (y9 0 j.toNat) ρ'
 | _ => False
theorem zjn : zmY Γ (Itr lo n) [] (y9 lo n) := fun E H i hE hx => by
 unfold y9
 refine ⟨fun hi => ?_, fun hi => by show n <= i; simp at hi; omega⟩
 have hi' : i < n := by simpa using hi
 refine ⟨hi', fun x H' y => ?_⟩
 obtain ⟨e, y⟩ := y
 subst e y
 refine ⟨Same.refl _, .int (lo + i), ?_, .int _⟩
 rw [au, d4 hi']; rfl
theorem zjo {E : Addr -> Prop} (r : Reps Γ E H vs [.int i]) : vs = [.int i] := by
 match vs, r with
 | [], r => have h := r.1; simp at h
 | [v], r => rw [Wb r.head]
 | _ :: _ :: _, r => have h := r.1; simp at h
theorem zhA (h : JA Γ pn t m) : JI Γ pn (zku t) (Ue m) := fun S σ ρ H τ Z q hp R hm hz =>
 h S σ ρ H τ _ _ hp R hm fun vs ds H1 ρ1 R1 r1 q1 => by
  split at q1
  · exact ⟨_, zjo r1, by have := q1.1; omega, by have := q1.1; omega, hz _ _ H1 ρ1 [] R1 zjn q1.2⟩
  · exact aa q1
theorem RR.cut (h : RR Γ fr S σ ρ H (τ' ++ τ) v d) : RR Γ fr S σ ρ H τ v d := by
 cases fr with
 | false => exact ⟨h.1.cut, h.2⟩
 | true => obtain ⟨p, e, R, r⟩ := h; exact ⟨p, e, R.cut, r⟩
def zbi (g : MG) (b : MS) : List D -> Uc -> Env -> Prop
 | [], N, ρ => N.nx ρ
 | d :: ds, N, ρ => g d ρ fun ρ1 => b { nx := fun ρ2 => zbi g b ds N ρ2, rt := N.rt, bk := N.nx, ct := fun ρ2 => zbi g b ds N ρ2 } ρ1
def zgb (mi : MI) (g : MG) (b : MS) : MS := fun N ρ => mi ρ fun ds ρ1 => zbi g b ds N ρ1
theorem zm0 (hi : JI Γ pn wi mi) (hg : JG Γ pn g mg) (hbd : JS Γ pn fr tb mb) : JS Γ pn fr (zmk wi g tb) (zgb mi mg mb) := fun S σ ρ H τ D N hp R hm hn hr hb hc =>
 hi S σ ρ H τ _ _ hp R hm fun J ds H1 ρ1 τ' R1 ok q1 => by
  refine ⟨fun i m σ H => m = ds.length - i /\ i <= ds.length /\ ∃ ρ, Rel Γ S H σ ρ (τ' ++ τ) /\ zbi mg mb (ds.drop i) N ρ, ⟨ds.length, by simp, bJ _, ρ1, R1, by simpa using q1⟩, ?_⟩
  rintro i m σ2 H2 ⟨rfl, hle, ρ2, R2, q2⟩
  obtain ⟨go, stop⟩ := ok (zJ S σ2 ρ2) H2 i (fun a z => jd R2 z) fun x hx => R2.tmp x (aS _ hx)
  by_cases hlt : i < ds.length
  · obtain ⟨g1, g2⟩ := go hlt
    have ed : ds.drop i = ds[i] :: ds.drop (i + 1) := cY hlt
    rw [ed] at q2
    refine .inr ⟨g1, fun σ' H' => ∃ ρ', Rel Γ S H' σ' ρ' (τ' ++ τ) /\ zbi mg mb (ds.drop (i + 1)) N ρ', fun σ' H' h => ⟨ds.length - (i + 1), by omega, rfl, hlt, h⟩, fun x H' y => ?_⟩
    obtain ⟨same, d, hd, rx⟩ := g2 x H' y
    rw [af hlt] at hd
    cases hd
    refine hg S σ2 ρ2 H' (τ' ++ τ) x _ _ _ hp (R2.grow same) rx q2 fun σ3 H3 ρ3 R3 q3 => ?_
    exact hbd S σ3 ρ3 H3 (τ' ++ τ) _ _ hp R3 q3 (fun σ' H' ρ' R' q' => ⟨ρ', R', q'⟩) (fun v d σ' H' ρ' r' q' => hr v d σ' H' ρ' r'.cut q') (fun σ' H' ρ' R' q' => hn σ' H' ρ' R'.cut q') (fun σ' H' ρ' R' q' => ⟨ρ', R', q'⟩)
  · have e : i = ds.length := by omega
    subst e
    rw [gM] at q2
    exact .inl ⟨stop rfl, hn _ _ _ R2.cut q2⟩
def QF (js : List (Option Nat)) (ρ : Env) : Env := js.map fun j => match j with | some j => (ρ[j]?).getD .no | none => .no
def JV (ρ : Env) (j : Nat) (o : D) : Env := match ρ[j]? with | some (.own _) => ρ.set j (.own o) | _ => ρ
def Jd (ρ : Env) (x : Option Nat) (s : Slot) : Env := match x, s with
 | some j, .own o => JV ρ j o
 | _, _ => ρ
def yc : List (Option Nat) -> Env -> Env -> Env
 | x :: js, s :: ρb, ρ => yc js ρb (Jd ρ x s)
 | _, _, ρ => ρ
def Wd (g : MG) (c : MT) (e : ME) : List D -> List D -> Env -> (List D -> Env -> Prop) -> Prop
 | [], acc, ρ, q => q acc ρ
 | d :: ds, acc, ρ, q => g d ρ fun ρ1 => c ρ1 fun b ρ2 => if b = true then e ρ2 fun y ρ3 => Wd g c e ds (acc ++ [y]) ρ3 q else Wd g c e ds acc ρ2 q
def R7 (mi : MI) (js : List (Option Nat)) (g : MG) (c : MT) (e : ME) : ME := fun ρ q => mi ρ fun ds ρ1 => ds.length <= 100000 /\ Wd g c e ds [] (QF js ρ1) fun ys ρb => q (.lst ys) (yc js ρb ρ1)
def WG (js : List (Option Nat)) : List Nat := (cT js.length).filter fun k => ((js[k]?).join).isSome
def mTT : MT := fun ρ q => q true ρ
theorem zn0 : JT Γ pn tTT mTT := fun S σ ρ H τ Q q hp R hm hq => hq true H ρ R hm
def Zz (js : List (Option Nat)) (σ : St) (ρ : Env) (k : Nat) : Option Addr := match (js[k]?).join with
 | some j => match ρ[j]?, σ[j]? with
  | some (.own _), some (some (.ref p)) => some p
  | _, _ => none
 | none => none
theorem Zq (h : Zz js σ ρ k = some p) : ∃ j o, js[k]? = some (some j) /\ ρ[j]? = some (.own o) /\ σ[j]? = some (some (.ref p)) := by
 unfold Zz at h
 cases e : js[k]? with
 | none => rw [e] at h; cases h
 | some x =>
  rw [e] at h
  cases x with
  | none => cases h
  | some j =>
   dsimp only [Option.join] at h
   refine ⟨j, ?_⟩
   have h : (match ρ[j]?, σ[j]? with
    | some (.own _), some (some (.ref p)) => some p
    | _, _ => none) = some p := h
   split at h
   · rename_i o q e1 e2
     cases h
     exact ⟨o, rfl, e1, e2⟩
   · cases h
theorem zbj (h1 : js[k]? = some (some j)) (h2 : ρ[j]? = some (.own o)) (h3 : σ[j]? = some (some (.ref p))) : Zz js σ ρ k = some p := by
  unfold Zz
  rw [h1]
  show (match ρ[j]?, σ[j]? with
        | some (.own _), some (some (.ref p)) => some p
        | _, _ => none) = some p
  rw [h2, h3]
def Fs.blk (S : Fs) (js : List (Option Nat)) (σ : St) (ρ : Env) (H : Hp) : Fs where
 C := fun a => zJ S σ ρ a /\ ∀ k, Zz js σ ρ k ≠ some a
 H0 := H
 pin := Zz js σ ρ
theorem ZV {js : List (Option Nat)} {σ : St} {k j : Nat} (h : js[k]? = some (some j)) : (blk js σ)[k]? = some ((σ[j]?).join) := by
 unfold blk; rw [au, h]; rfl
theorem zjp {js : List (Option Nat)} {ρ : Env} {k j : Nat} (h : js[k]? = some (some j)) : (QF js ρ)[k]? = some ((ρ[j]?).getD .no) := by
 unfold QF; rw [au, h]; rfl
theorem Y2 {js : List (Option Nat)} {ρ : Env} {k : Nat} {s : Slot} (h : (QF js ρ)[k]? = some s) (hs : s ≠ .no) : ∃ j, js[k]? = some (some j) /\ ρ[j]? = some s := by
 unfold QF at h
 rw [au] at h
 cases e : js[k]? with
 | none => rw [e] at h; cases h
 | some x =>
  rw [e] at h
  cases x with
  | none => cases h; exact absurd rfl hs
  | some j =>
   refine ⟨j, rfl, ?_⟩
   simp only [cf, Option.some.injEq] at h
   cases q : ρ[j]? with
   | none => rw [q] at h; exact absurd h.symm hs
   | some u => rw [q] at h; cases h; rfl
def Once (js : List (Option Nat)) : Prop := ∀ (k k' j : Nat), js[k]? = some (some j) -> js[k']? = some (some j) -> k = k'
section
variable {S : Fs} {H : Hp} {σ : St} {ρ : Env} {τ : List (V × D)} {js : List (Option Nat)}
theorem Rel.blkEx (R : Rel Γ S H σ ρ τ) : ∀ a, zJ (S.blk js σ ρ H) (blk js σ) (QF js ρ) a -> zJ S σ ρ a := fun a h => by
 rcases h with h | ⟨k, ⟨o, ho⟩, e⟩
 · exact h.1
 · obtain ⟨j, hj, hr⟩ := Y2 ho (by simp)
   obtain ⟨p, e1, _⟩ := R.own j o hr
   rw [ZV hj, e1] at e
   cases e
   exact .inr ⟨j, ⟨o, hr⟩, e1⟩
theorem Rel.toBlk (R : Rel Γ S H σ ρ τ) (h1 : Once js) : Rel Γ (S.blk js σ ρ H) H (blk js σ) (QF js ρ) τ where
 len := by simp [blk, QF]
 val := fun k d h => by
  obtain ⟨j, hj, hr⟩ := Y2 h (by simp)
  obtain ⟨v, e, r⟩ := R.val j d hr
  exact ⟨v, by rw [ZV hj, e]; rfl, r.up (fun b _ => R.blkEx b) fun _ _ _ q => q⟩
 own := fun k o h => by
  obtain ⟨j, hj, hr⟩ := Y2 h (by simp)
  obtain ⟨p, e, r, n, pn⟩ := R.own j o hr
  have hc := zbj hj hr e
  exact ⟨p, by rw [ZV hj, e]; rfl, r.up (fun _ q => q) (fun b _ => R.blkEx b) fun _ _ _ q => q, fun z => z.2 k hc, .inl hc⟩
 pin := fun k p h => by
  obtain ⟨j, o, hj, hr, e⟩ := Zq h
  exact ⟨by rw [ZV hj, e]; rfl, o, by rw [zjp hj, hr]; rfl⟩
 inj := fun k k' p hk hk' e1 e2 => by
  obtain ⟨o, ho⟩ := hk
  obtain ⟨o', ho'⟩ := hk'
  obtain ⟨j, hj, hr⟩ := Y2 ho (by simp)
  obtain ⟨j', hj', hr'⟩ := Y2 ho' (by simp)
  obtain ⟨p1, q1, _⟩ := R.own j o hr
  obtain ⟨p2, q2, _⟩ := R.own j' o' hr'
  rw [ZV hj, q1] at e1
  rw [ZV hj', q2] at e2
  cases e1; cases e2
  have := R.inj j j' _ ⟨o, hr⟩ ⟨o', hr'⟩ q1 q2
  subst this
  exact h1 k k' j hj hj'
 dom := fun a h => jd R h.1
 fr := fun b o h _ => h
 tmp := fun x hx => (R.tmp x hx).up (fun b _ => R.blkEx b) fun _ _ _ q => q
theorem zgc {ρ : Env} : (JV ρ j o).length = ρ.length := by
 unfold JV; split <;> simp
theorem zbY (h : i ≠ j) : (JV ρ i o)[j]? = ρ[j]? := by
 unfold JV; split
 · exact getElem?_set_ne h
 · rfl
theorem zbZ (h : yY ρ j) : (JV ρ j o)[j]? = some (.own o) := by
 obtain ⟨u, hu⟩ := h
 unfold JV
 rw [hu]
 dsimp only
 rw [bh, if_pos rfl, if_pos (aL.mp hu).1]
theorem zgd {ρ : Env} : (Jd ρ x s).length = ρ.length := by
 unfold Jd; split
 · exact zgc
 · rfl
theorem zhB (h : x = some j -> ∀ o, s ≠ .own o) : (Jd ρ x s)[j]? = ρ[j]? := by
 unfold Jd; split
 · rename_i i o
   exact zbY fun z => h (by rw [z]) o rfl
 · rfl
theorem Vm : (Jd ρ x s)[j]? = ρ[j]? \/ (yY ρ j /\ yY (Jd ρ x s) j) := by
 unfold Jd; split
 · rename_i i o
   by_cases e : i = j
   · subst e
     by_cases h : yY ρ i
     · exact .inr ⟨h, o, zbZ h⟩
     · refine .inl ?_
       unfold JV
       split
       · rename_i u hu; exact absurd ⟨u, hu⟩ h
       · rfl
   · exact .inl (zbY e)
 · exact .inl rfl
theorem R8 : ∀ {js : List (Option Nat)} {ρb ρ : Env}, (yc js ρb ρ).length = ρ.length
 | [], _, _ => by simp [yc]
 | x :: js, [], _ => by simp [yc]
 | x :: js, s :: ρb, ρ => by rw [yc, R8, zgd]
theorem Vn : ∀ {js : List (Option Nat)} {ρb ρ : Env} {j : Nat}, (yc js ρb ρ)[j]? = ρ[j]? \/ (yY ρ j /\ yY (yc js ρb ρ) j)
 | [], _, _, _ => .inl (by simp [yc])
 | x :: js, [], _, _ => .inl (by simp [yc])
 | x :: js, s :: ρb, ρ, j => by
  rw [yc]
  rcases Vn (js := js) (ρb := ρb) (ρ := Jd ρ x s) (j := j) with h | ⟨h1, h2⟩
  · rcases Vm (ρ := ρ) (x := x) (s := s) (j := j) with g | ⟨g1, g2⟩
    · exact .inl (h.trans g)
    · obtain ⟨o, ho⟩ := g2
      exact .inr ⟨g1, o, h.trans ho⟩
  · refine .inr ⟨?_, h2⟩
    rcases Vm (ρ := ρ) (x := x) (s := s) (j := j) with g | ⟨g1, g2⟩
    · obtain ⟨o, ho⟩ := h1
      exact ⟨o, g.symm.trans ho⟩
    · exact g1
theorem Ya : ∀ {js : List (Option Nat)} {ρb ρ : Env} {j : Nat}, (∀ (k : Nat), js[k]? = some (some j) -> ∀ o, ρb[k]? ≠ some (Slot.own o)) -> (yc js ρb ρ)[j]? = ρ[j]?
 | [], _, _, _, _ => by simp [yc]
 | x :: js, [], ρ, j, _ => by simp [yc]
 | x :: js, s :: ρb, ρ, j, h => by
  have h' : ∀ (k : Nat), js[k]? = some (some j) -> ∀ o, ρb[k]? ≠ some (Slot.own o) := fun k hk o => by
   have := h (k + 1) (by simpa using hk) o
   simpa using this
  rw [yc, Ya h']
  exact zhB fun e o z => h 0 (by simp [e]) o (by simp [z])
theorem zb0 : ∀ {js : List (Option Nat)} {ρb ρ : Env} {j k : Nat} {o : D}, Once js -> js[k]? = some (some j) -> ρb[k]? = some (Slot.own o) -> yY ρ j -> (yc js ρb ρ)[j]? = some (Slot.own o)
 | [], _, _, _, _, _, _, h, _, _ => by simp at h
 | x :: js, [], _, _, _, _, _, _, h, _ => by simp at h
 | x :: js, s :: ρb, ρ, j, k, o, on, h1, h2, hl => by
  have on' : Once js := fun a b i ha hb => by
   have := on (a + 1) (b + 1) i (by simpa using ha) (by simpa using hb)
   omega
  rw [yc]
  cases k with
  | zero =>
   simp at h1 h2
   subst h1 h2
   rw [Ya (fun k hk => ?_)]
   · exact zbZ hl
   · have := on 0 (k + 1) j rfl (by simpa using hk)
     omega
  | succ k =>
   have h1' : js[k]? = some (some j) := by simpa using h1
   have h2' : ρb[k]? = some (Slot.own o) := by simpa using h2
   refine zb0 on' h1' h2' ?_
   rcases Vm (ρ := ρ) (x := x) (s := s) (j := j) with g | ⟨_, g2⟩
   · obtain ⟨u, hu⟩ := hl
     exact ⟨u, g.trans hu⟩
   · exact g2
theorem Rel.ofBlk (R : Rel Γ S H σ ρ τ) (h1 : Once js) (B : Rel Γ (S.blk js σ ρ H) H2 σb ρb τb) :
 Rel Γ S H2 σ (yc js ρb ρ) τ /\ ∀ a, zJ S σ (yc js ρb ρ) a -> zJ (S.blk js σ ρ H) σb ρb a := by
 have at_ : ∀ (j : Nat) (o : D), ρ[j]? = some (Slot.own o) -> (∃ (k : Nat) (o' : D), js[k]? = some (some j) /\ ρb[k]? = some (Slot.own o') /\ (yc js ρb ρ)[j]? = some (Slot.own o')) \/ ((∀ (k : Nat), js[k]? ≠ some (some j)) /\ (yc js ρb ρ)[j]? = some (Slot.own o)) := fun j o ho => by
  by_cases h : ∃ (k : Nat), js[k]? = some (some j)
  · obtain ⟨k, hk⟩ := h
    obtain ⟨p, e, _⟩ := R.own j o ho
    obtain ⟨_, o', ho'⟩ := B.pin k p (zbj hk ho e)
    exact .inl ⟨k, o', hk, ho', zb0 h1 hk ho' ⟨o, ho⟩⟩
  · have h' : ∀ (k : Nat), js[k]? ≠ some (some j) := fun k hk => h ⟨k, hk⟩
    exact .inr ⟨h', by rw [Ya fun k hk => absurd hk (h' k)]; exact ho⟩
 have own_iff : ∀ j, yY (yc js ρb ρ) j -> yY ρ j := fun j ⟨o, ho⟩ => by
  rcases Vn (js := js) (ρb := ρb) (ρ := ρ) (j := j) with g | ⟨g, _⟩
  · exact ⟨o, g.symm.trans ho⟩
  · exact g
 have exE : ∀ a, zJ S σ (yc js ρb ρ) a -> zJ S σ ρ a := fun a h => by
  rcases h with h | ⟨j, hj, e⟩
  · exact .inl h
  · exact .inr ⟨j, own_iff j hj, e⟩
 have exB : ∀ a, zJ S σ ρ a -> zJ (S.blk js σ ρ H) σb ρb a := fun a h => by
  by_cases hc : ∃ k, Zz js σ ρ k = some a
  · obtain ⟨k, hk⟩ := hc
    obtain ⟨e, ow⟩ := B.pin k a hk
    exact .inr ⟨k, ow, e⟩
  · exact .inl ⟨h, fun k z => hc ⟨k, z⟩⟩
 have keepc : ∀ b u, (∀ k, Zz js σ ρ k ≠ some b) -> H b = some u -> H2 b = some u := fun b u n q => B.fr b u q n
 have captEx : ∀ k b, Zz js σ ρ k = some b -> zJ S σ ρ b := fun k b h => by
  obtain ⟨j, o, _, hr, e⟩ := Zq h
  exact .inr ⟨j, ⟨o, hr⟩, e⟩
 have keep : ∀ b u, ¬ zJ S σ ρ b -> H b = some u -> H2 b = some u := fun b u n q => keepc b u (fun k z => n (captEx k b z)) q
 refine ⟨?_, fun a h => exB a (exE a h)⟩
 exact {
  len := by rw [R8]; exact R.len
  val := fun j d hj => by
   have hr : ρ[j]? = some (.val d) := by
    rcases Vn (js := js) (ρb := ρb) (ρ := ρ) (j := j) with g | ⟨_, o, g⟩
    · exact g.symm.trans hj
    · rw [hj] at g; cases g
   obtain ⟨v, e, r⟩ := R.val j d hr
   exact ⟨v, e, r.up (fun b _ => exE b) keep⟩
  own := fun j o hj => by
   obtain ⟨o0, ho⟩ := own_iff j ⟨o, hj⟩
   obtain ⟨p, e, r, n, pn⟩ := R.own j o0 ho
   refine ⟨p, e, ?_, n, pn⟩
   rcases at_ j o0 ho with ⟨k, o', hk, ho', hm⟩ | ⟨hk, hm⟩
   · rw [hm] at hj; cases hj
     have hc := zbj hk ho e
     obtain ⟨e2, _⟩ := B.pin k p hc
     obtain ⟨p', e3, r', _⟩ := B.own k o ho'
     rw [e2] at e3; cases e3
     exact r'.up (fun _ q => q) (fun b _ z => exB b (exE b z)) fun _ _ _ q => q
   · rw [hm] at hj; cases hj
     refine r.up (fun u q => keepc p u (fun k z => ?_) q) (fun b _ => exE b) keep
     obtain ⟨j', o', hk', hr', e'⟩ := Zq z
     have := R.inj j j' p ⟨o, ho⟩ ⟨o', hr'⟩ e e'
     subst this
     exact hk k hk'
  pin := fun j p hj => by
   obtain ⟨e, o, ho⟩ := R.pin j p hj
   refine ⟨e, ?_⟩
   rcases at_ j o ho with ⟨k, o', _, _, hm⟩ | ⟨_, hm⟩
   · exact ⟨o', hm⟩
   · exact ⟨o, hm⟩
  inj := fun i j p hi hj e1 e2 => R.inj i j p (own_iff i hi) (own_iff j hj) e1 e2
  dom := fun a ha => by
   by_cases hc : ∃ k, Zz js σ ρ k = some a
   · obtain ⟨k, hk⟩ := hc
     obtain ⟨e, o, ho⟩ := B.pin k a hk
     obtain ⟨p, e', r, _⟩ := B.own k o ho
     rw [e] at e'; cases e'
     exact r.ne0
   · cases q : H a with
     | none => exact absurd q (R.dom a ha)
     | some u => rw [keepc a u (fun k z => hc ⟨k, z⟩) q]; simp
  fr := fun b u h0 n => by
   refine keepc b u (fun k z => ?_) (R.fr b u h0 n)
   obtain ⟨j, o, _, hr, e⟩ := Zq z
   obtain ⟨p, e', _, _, pn⟩ := R.own j o hr
   rw [e] at e'; cases e'
   rcases pn with q | ⟨_, q⟩
   · exact n j q
   · rw [q] at h0; cases h0
  tmp := fun x hx => (R.tmp x hx).up (fun b _ => exE b) keep }
end
end
section
variable {Γ : Cn} {pn : List Nat} {fr : Bool}
theorem zjq {S : Fs} : Jx (WG js) (S.blk js σ ρ H) := fun k hk => by
 show Zz js σ ρ k = none
 cases e : Zz js σ ρ k with
 | none => rfl
 | some p =>
  obtain ⟨j, o, hj, _⟩ := Zq e
  refine absurd (gX.mpr ⟨dE.mpr (aL.mp hj).1, ?_⟩) hk
  rw [hj]; rfl
theorem zjr {α β : Type} {xs : List α} {ys : List β} {x : α} {y : β} (h : ys.length = xs.length) : (xs ++ [x]).zip (ys ++ [y]) = xs.zip ys ++ [(x, y)] := by
 rw [List.zip_append h.symm]; rfl
theorem ze2 (h1 : Once js) (hi : JI Γ pn wi mi) (hg : JG Γ (WG js) g mg) (hc : JT Γ (WG js) tc mc) (he : JE Γ (WG js) te me) :
 JF Γ pn (zfZ wi js g tc te) (R7 mi js mg mc me) := fun S σ ρ H τ Q q hp R hm hq =>
 hi S σ ρ H τ _ _ hp R hm fun J ds H1 ρ1 τ' R1 ok ⟨hlen, q1⟩ => by
  have line : (100000 : Nat) < aG := by decide
  refine ⟨fun i m ys σ' H' => m = ds.length - i /\ i <= ds.length /\ ys.length <= i /\ ∃ ρb acc, acc.length = ys.length /\ Rel Γ (S.blk js σ ρ1 H1) H' σ' ρb (ys.zip acc ++ (τ' ++ τ)) /\ Wd mg mc me (ds.drop i) acc ρb fun ys ρb => q (.lst ys) (yc js ρb ρ1),
   ⟨ds.length, by simp, bJ _, az _, QF js ρ1, [], rfl, R1.toBlk h1, by simpa using q1⟩, ?_⟩
  rintro i m ys σ2 H2 ⟨rfl, hle, hyl, ρ2, acc, hacc, R2, q2⟩
  obtain ⟨go, stop⟩ := ok (zJ (S.blk js σ ρ1 H1) σ2 ρ2) H2 i (fun a z => jd R2 z) fun x hx => R2.tmp x (aC _ (aS _ hx))
  by_cases hlt : i < ds.length
  · obtain ⟨g1, g2⟩ := go hlt
    have ed : ds.drop i = ds[i] :: ds.drop (i + 1) := cY hlt
    rw [ed] at q2
    refine .inr ⟨g1, by omega, fun ys' σ' H' => ys'.length <= i + 1 /\ ∃ ρb acc, acc.length = ys'.length /\ Rel Γ (S.blk js σ ρ1 H1) H' σ' ρb (ys'.zip acc ++ (τ' ++ τ)) /\ Wd mg mc me (ds.drop (i + 1)) acc ρb fun ys ρb => q (.lst ys) (yc js ρb ρ1),
     fun ys' σ' H' h => ⟨ds.length - (i + 1), by omega, rfl, hlt, h.1, h.2⟩, fun x H' y => ?_⟩
    obtain ⟨same, d, hd, rx⟩ := g2 x H' y
    rw [af hlt] at hd
    cases hd
    refine hg _ σ2 ρ2 H' _ x _ _ _ zjq (R2.grow same) rx q2 fun σ3 H3 ρ3 R3 q3 => ?_
    refine hc _ σ3 ρ3 H3 _ _ _ zjq R3 q3 fun b H4 ρ4 R4 q4 => ?_
    cases b with
    | false =>
     rw [if_neg aw] at q4 ⊢
     exact ⟨by omega, ρ4, acc, hacc, R4, q4⟩
    | true =>
     rw [if_pos rfl] at q4 ⊢
     refine he _ σ3 ρ4 H4 _ _ _ zjq R4 q4 fun y d H5 ρ5 R5 r5 q5 => ?_
     refine ⟨by simp; omega, ρ5, acc ++ [d], by simp [hacc], { R5 with tmp := fun z hz => ?_ }, q5⟩
     rw [zjr hacc] at hz
     rcases aN.mp hz with hz | hz
     · rcases aN.mp hz with hz | hz
       · exact R5.tmp z (aS _ hz)
       · have e : z = (y, d) := by simpa using hz
         subst e; exact r5
     · exact R5.tmp z (aC _ hz)
  · have e : i = ds.length := by omega
    subst e
    rw [gM] at q2
    refine .inl ⟨stop rfl, by omega, fun p hn => ?_⟩
    obtain ⟨R3, sub⟩ := R1.ofBlk h1 R2
    have rs := (R2.pops hacc.symm).2
    have rs' : Reps Γ (zJ S σ (yc js ρ2 ρ1)) H2 ys acc := rs.up (fun b _ => sub b) fun _ _ _ z => z
    obtain ⟨a, b, c, d⟩ := JU R3 rs' hn
    exact hq p _ _ _ a.cut b c d q2
theorem Uf {S : Fs} {H : Hp} {σ : St} {ρ : Env} {τ : List (V × D)} {i : Nat} {ds : List D} (R : Rel Γ S H σ ρ τ) (h : ρ[i]? = some (.own (.lst ds))) : ∃ p xs, σ[i]? = some (some (.ref p)) /\ H p = some (.lst xs) /\ Reps Γ (zJ S σ ρ) H xs ds := by
 obtain ⟨p, e, ⟨xs, hx, r⟩, _⟩ := R.own i _ h
 exact ⟨p, xs, e, hx, r⟩
theorem Rel.lset {ρ : Env} (R : Rel Γ S H σ ρ τ) (h : ρ[i]? = some (.own (.lst ds))) (e : σ[i]? = some (some (.ref p))) (r : Reps Γ (zJ S σ ρ) H ys es) :
 Rel Γ S (ye H p (.lst ys)) σ (ρ.set i (.own (.lst es))) τ := by
 have hk : ∀ b u, b ≠ p -> H b = some u -> ye H p (.lst ys) b = some u := fun b u n q => by rw [z7 n]; exact q
 refine R.write h e hk ⟨ys, jC, r.up (fun _ _ z => z) fun b o n q => hk b o (fun z => n ?_) q⟩
 rw [z]; exact .inr ⟨i, ⟨_, h⟩, e⟩
def Rn (s : Option Slot) (k : List D -> Prop) : Prop := match s with | some (.own (.lst ds)) => k ds | _ => False
theorem We {k : List D -> Prop} (h : Rn s k) : ∃ ds, s = some (.own (.lst ds)) /\ k ds := by
 unfold Rn at h
 split at h
 · exact ⟨_, rfl, h⟩
 · exact aa h
def Yr (f : List D -> D -> (D -> List D -> Prop) -> Prop) (i : Nat) (a : ME) : ME := fun ρ q => Rn ρ[i]? fun _ => a ρ fun d ρ1 => Rn ρ1[i]? fun ds => f ds d fun r es => q r (ρ1.set i (.own (.lst es)))
theorem zbk {r : V -> List V -> Hp -> VK -> Prop} {f : List D -> D -> (D -> List D -> Prop) -> Prop} {i : Nat} {ta : TE} {a : ME} (ha : JE Γ pn ta a)
 (hr : ∀ (E : Addr -> Prop) (H : Hp) (p : Addr) (xs : List V) (ds : List D) (y : V) (d : D) (Q : VK) (q : D -> List D -> Prop), H p = some (.lst xs) -> Reps Γ E H xs ds -> Rep Γ E H y d -> f ds d q -> (∀ v ys r es, Rep Γ E H v r -> Reps Γ E H ys es -> q r es -> Q v (ye H p (.lst ys))) -> r (.ref p) [y] H Q) :
 JE Γ pn (tBM Γ.K "list" r (QB i) (J4 ta Zy)) (Yr f i a) := fun S σ ρ H τ Q q hp R hm hq => by
 obtain ⟨_, h0, hm⟩ := We hm
 obtain ⟨p, xs, e, hx, rs⟩ := Uf R h0
 refine ⟨_, e, .inl ⟨rfl, xs, .inl (.inl hx)⟩, ?_⟩
 refine ha S σ ρ H τ _ _ hp R hm fun y d H1 ρ1 R1 r1 q1 => ?_
 obtain ⟨ds, h1, q1⟩ := We q1
 obtain ⟨p', xs', e', hx', rs'⟩ := Uf R1 h1
 rw [e] at e'; cases e'
 refine hr (zJ S σ ρ1) H1 p xs' ds y d Q _ hx' rs' r1 q1 fun v ys r es rv re q' => ?_
 have hk : ∀ b u, ¬ zJ S σ ρ1 b -> H1 b = some u -> ye H1 p (.lst ys) b = some u := fun b u n z => by rw [z7 (fun w => n (by rw [w]; exact .inr ⟨i, ⟨_, h1⟩, e⟩))]; exact z
 refine hq v r _ _ (R1.lset h1 e re) (rv.up (fun b _ z => ?_) hk) q'
 rcases z with z | ⟨j, ⟨o, ho⟩, ej⟩
 · exact .inl z
 · by_cases ij : i = j
   · subst ij; exact .inr ⟨i, ⟨_, h1⟩, ej⟩
   · rw [getElem?_set_ne ij] at ho; exact .inr ⟨j, ⟨o, ho⟩, ej⟩
def zbl : List D -> D -> (D -> List D -> Prop) -> Prop := fun ds d q => ds.length < 100000 /\ q .non (ds ++ [d])
theorem zhC (ha : JE Γ pn ta a) : JE Γ pn (tBM Γ.K "list" zeT (QB i) (J4 ta Zy)) (Yr zbl i a) :=
 zbk ha fun E H p xs ds y d Q q hx rs ry ⟨hl, hq⟩ k => ⟨p, xs, y, rfl, rfl, hx, by rw [rs.1]; exact gq hl (by decide), k _ _ _ _ .non (rs.append (.cons ry .nil)) hq⟩
def zbm : List D -> D -> (D -> List D -> Prop) -> Prop := fun ds d q => match d with | .lst es => ds.length + es.length <= 100000 /\ q .non (ds ++ es) | _ => False
theorem zhD (ha : JE Γ pn ta a) : JE Γ pn (tBM Γ.K "list" zeU (QB i) (J4 ta Zy)) (Yr zbm i a) :=
 zbk ha fun E H p xs ds y d Q q hx rs ry hm k => by
  cases d with
  | lst es =>
   obtain ⟨b, zs, rfl, hb, rz⟩ := ry.list
   exact ⟨p, b, xs, zs, rfl, rfl, hx, hb, by rw [rs.1, rz.1]; exact aM hm.1 (by decide), k _ _ _ _ .non (rs.append rz) hm.2⟩
  | _ => exact aa hm
def zjs : List D -> D -> (D -> List D -> Prop) -> Prop := fun ds d q => match d with
 | .int j => (0 <= j /\ j.toNat < ds.length /\ ds.length < 100000) /\ q (ds.getD j.toNat .non) (ds.eraseIdx j.toNat)
 | _ => False
theorem zdm {j : Int} (h0 : 0 <= j) (h1 : j.toNat < n) : fJ j n = some j.toNat := by
 unfold fJ
 first
  | (simp; omega)
  | (split <;> first | rfl | omega | (simp; omega))
theorem zm2 (ha : JE Γ pn ta a) : JE Γ pn (tBM Γ.K "list" zhn (QB i) (J4 ta Zy)) (Yr zjs i a) :=
 zbk ha fun E H p xs ds y d Q q hx rs ry hm k => by
  cases d with
  | int j =>
   obtain ⟨⟨h0, h1, h2⟩, hq⟩ := hm
   cases Wb ry
   have hl : j.toNat < xs.length := by rw [rs.1]; exact h1
   refine ⟨p, xs, j, j.toNat, xs[j.toNat], rfl, rfl, hx, by omega, by omega, zdm h0 hl, af hl, k _ _ _ _ (rs.2 j.toNat _ _ (af hl) ?_) (rs.eraseIdx _) hq⟩
   rw [aA, af h1]; rfl
  | _ => exact aa hm
def R9 (i : Nat) (a v : ME) : MS := fun N ρ => v ρ fun d ρ0 => Rn ρ0[i]? fun _ => a ρ0 fun x ρ1 => Rn ρ1[i]? fun ds => match x with
 | .int j => (0 <= j /\ j.toNat < ds.length) /\ N.nx (ρ1.set i (.own (.lst (ds.set j.toNat d))))
 | _ => False
theorem zjt {i : Nat} {tv ta : TE} {v a : ME} (hv : JE Γ pn tv v) (ha : JE Γ pn ta a) : JS Γ pn fr (zbe tv (zmg (QB i) ta zkA)) (R9 i a v) := fun S σ ρ H τ D N hp R hm hn hr hb hc =>
 hv S σ ρ H τ _ _ hp R hm fun w d H0 ρ0 R0 r0 q0 => by
  obtain ⟨_, h0, q0⟩ := We q0
  obtain ⟨p, xs, e, hx, rs⟩ := Uf R0 h0
  refine ⟨_, e, ?_⟩
  refine ha S σ ρ0 H0 ((w, d) :: τ) _ _ hp (R0.push r0) q0 fun y x H1 ρ1 R1 r1 q1 => ?_
  obtain ⟨ds, h1, q1⟩ := We q1
  cases x with
  | int j =>
   obtain ⟨⟨j0, j1⟩, q1⟩ := q1
   cases Wb r1
   obtain ⟨p', xs', e', hx', rs'⟩ := Uf R1 h1
   rw [e] at e'; cases e'
   have hl : j.toNat < xs'.length := by rw [rs'.1]; exact j1
   refine ⟨p, xs', j, j.toNat, rfl, rfl, hx', ?_, hn _ _ _ (R1.pop.1.lset h1 e (rs'.set _ R1.pop.2)) q1⟩
   unfold J9
   rw [if_pos j0, if_pos (by omega)]
  | _ => exact aa q1
def Wf : List (Nat × D) -> Nat -> (D -> Prop) -> Prop
 | [], _, _ => False
 | (g, d) :: r, f, k => if g = f then k d else Wf r f k
def zju (f : Nat) : F1 := fun d q => match d with | .obj c fs => 11 <= c /\ Wf fs f q | _ => False
theorem WH {E : Addr -> Prop} {k : D -> Prop} (hf : f < fNames.length) : ∀ {gs : List (Str × V)} {fs : List (Nat × D)}, (gs.map (·.1) = fs.map fun x => yP x.1) -> Reps Γ E H (gs.map (·.2)) (fs.map (·.2)) -> Wf fs f k -> ∃ v d, gs.lookup (yP f) = some v /\ Rep Γ E H v d /\ k d
 | [], [], _, _, h => aa h
 | [], _ :: _, h, _, _ => by cases h
 | _ :: _, [], h, _, _ => by cases h
 | (a, v) :: gs, (b, e) :: fs, h, r, hl => by
  simp only [al, dX] at h
  obtain ⟨rfl, h⟩ := h
  have r' : Reps Γ E H (v :: gs.map (·.2)) (e :: fs.map (·.2)) := r
  have hl : (if b = f then k e else Wf fs f k) := hl
  by_cases q : b = f
  · subst q
    rw [if_pos rfl] at hl
    exact ⟨v, e, by simp, r'.head, hl⟩
  · rw [if_neg q] at hl
    have hne : (yP f == yP b) = false := beq_eq_false_iff_ne.mpr fun z => q (zeY b f hf z.symm)
    obtain ⟨w, d, h1, h2⟩ := WH hf h r'.tail hl
    exact ⟨w, d, by rw [bD, hne]; exact h1, h2⟩
def QY (Γ : Cn) (f : Str) : Prop := ∀ c C, 11 <= c -> Γ.cls c = some C -> Cls Γ.K C /\ NoAttr Γ.K C f
theorem zm3 (hf : f < fNames.length) (hn : QY Γ (yP f)) (ha : JO Γ pn ta a) : JE Γ pn (zmv Γ.K ta (yP f)) (Jz (zju f) a) := fun S σ ρ H τ Q q hp R hm hq =>
 ha S σ ρ H τ _ _ hp R hm fun v r1 H1 ρ1 τ1 R1 o1 q1 => by
  obtain ⟨dx, rx, q1⟩ := R1.read o1 q1
  cases dx with
  | obj c fs =>
   obtain ⟨x, C, dx, gs, rfl, hc, hx, hl, rs⟩ := rx
   obtain ⟨h11, q1⟩ := q1
   obtain ⟨w, d, hw, rw', q1⟩ := WH hf hl rs q1
   exact ⟨x, C, dx, gs, w, rfl, hx, (hn c C h11 hc).1, (hn c C h11 hc).2, hw, hq w d H1 ρ1 R1.cut rw' q1⟩
  | _ => exact aa q1
def Yb (f : Nat) (d : D) : List (Nat × D) -> List (Nat × D)
 | [] => [(f, d)]
 | (g, e) :: r => if g = f then (g, d) :: r else (g, e) :: Yb f d r
theorem zdn {E : Addr -> Prop} (hf : f < fNames.length) (rv : Rep Γ E H v d) : ∀ {gs : List (Str × V)} {fs : List (Nat × D)}, (gs.map (·.1) = fs.map fun x => yP x.1) -> Reps Γ E H (gs.map (·.2)) (fs.map (·.2)) ->
 ((j9 (yP f) v gs).map (·.1) = (Yb f d fs).map fun x => yP x.1) /\ Reps Γ E H ((j9 (yP f) v gs).map (·.2)) ((Yb f d fs).map (·.2))
 | [], [], _, _ => ⟨rfl, .cons rv .nil⟩
 | [], _ :: _, h, _ => by cases h
 | _ :: _, [], h, _ => by cases h
 | (a, w) :: gs, (b, e) :: fs, h, r => by
  simp only [al, dX] at h
  obtain ⟨rfl, h⟩ := h
  have r' : Reps Γ E H (w :: gs.map (·.2)) (e :: fs.map (·.2)) := r
  by_cases q : b = f
  · subst q
    rw [show j9 (yP b) v ((yP b, w) :: gs) = (yP b, v) :: gs from if_pos rfl, show Yb b d ((b, e) :: fs) = (b, d) :: fs from if_pos rfl]
    exact ⟨by simp [h], .cons rv r'.tail⟩
  · have hne : ¬ yP b = yP f := fun z => q (zeY b f hf z)
    rw [show j9 (yP f) v ((yP b, w) :: gs) = (yP b, w) :: j9 (yP f) v gs from if_neg hne, show Yb f d ((b, e) :: fs) = (b, e) :: Yb f d fs from if_neg q]
    obtain ⟨i1, i2⟩ := zdn hf rv h r'.tail
    exact ⟨by rw [al, al, i1], .cons r'.head i2⟩
def zge (s : Option Slot) (k : Nat -> List (Nat × D) -> Prop) : Prop := match s with | some (.own (.obj c fs)) => k c fs | _ => False
theorem zlt {k : Nat -> List (Nat × D) -> Prop} (h : zge s k) : ∃ c fs, s = some (.own (.obj c fs)) /\ k c fs := by
 unfold zge at h
 split at h
 · exact ⟨_, _, rfl, h⟩
 · exact aa h
def zcN (i : Nat) (f : Nat) (m : ME) : MS := fun N ρ => m ρ fun d ρ1 => zge ρ1[i]? fun c fs => 11 <= c /\ fs.length < 100 /\ N.nx (ρ1.set i (.own (.obj c (Yb f d fs))))
theorem zlu (hf : f < fNames.length) (hn : QY Γ (yP f)) (hv : JE Γ pn tv m) : JS Γ pn fr (zmw Γ.K (QB i) tv (yP f)) (zcN i f m) := fun S σ ρ H τ D N hp R hm hnx hr hb hc =>
 hv S σ ρ H τ _ _ hp R hm fun w d H1 ρ1 R1 r1 q1 => by
  obtain ⟨c, fs, h1, h11, hl, q1⟩ := zlt q1
  obtain ⟨p, e, ⟨C, dx, gs, hc', hx, hk, rs⟩, _⟩ := R1.own i _ h1
  have hlen : gs.length = fs.length := by have := congrArg ci hk; simpa using this
  have keep : ∀ b u, b ≠ p -> H1 b = some u -> ye H1 p (.ins C dx (j9 (yP f) w gs)) b = some u := fun b u n q => by rw [z7 n]; exact q
  obtain ⟨k1, k2⟩ := zdn hf r1 hk rs
  refine ⟨_, e, p, C, dx, gs, rfl, hx, (hn c C h11 hc').1, (hn c C h11 hc').2, by omega, hnx _ _ _ (R1.write (o' := .obj c (Yb f d fs)) h1 e keep ⟨C, dx, _, hc', jC, k1, k2.up (fun _ _ z => z) fun b o n q => keep b o (fun z => n ?_) q⟩) q1⟩
  rw [z]; exact .inr ⟨i, ⟨_, h1⟩, e⟩
end
abbrev Y3 := List Slot -> (D -> List D -> Prop) -> (D -> List D -> Prop) -> Prop
def Ug : List Nat -> Env -> (List D -> Prop) -> Prop
 | [], _, k => k []
 | i :: r, ρ, k => match ρ[i]? with | some (.own o) => Ug r ρ fun os => k (o :: os) | _ => False
def zjv (pn : List Nat) (ρ : Env) (os : List D) : Prop := os.length = pn.length /\ ∀ (k i : Nat) o, pn[k]? = some i -> os[k]? = some o -> ρ[i]? = some (.own o)
theorem ze3 : ∀ {pn : List Nat} {ρ : Env} {k : List D -> Prop}, Ug pn ρ k -> ∃ os, zjv pn ρ os /\ k os
 | [], ρ, k, h => ⟨[], ⟨rfl, fun k i o h => by simp at h⟩, h⟩
 | i :: r, ρ, k, h => by
  unfold Ug at h
  split at h
  · rename_i o ho
    obtain ⟨os, ⟨hl, hp⟩, hk⟩ := ze3 h
    refine ⟨o :: os, ⟨by simp [hl], fun j x u h1 h2 => ?_⟩, hk⟩
    cases j with
    | zero => simp at h1 h2; subst h1 h2; exact ho
    | succ j => simp at h1 h2; exact hp j x u h1 h2
  · exact aa h
def Z0 : D -> List D -> Prop := fun _ _ => False
def yr (Γ : Cn) (pn : List Nat) (fr : Bool) (n : Nat) (p : Y3) : Sp := fun vs H Q _ => vs.length = n /\ ∃ (S : Fs) (ss : List Slot) (q : D -> List D -> Prop), Jx pn S /\ S.H0 = H /\ Rel Γ S H (vs.map some) ss [] /\ p ss q Z0 /\
 ∀ v d H' σ' ρ' os, RR Γ fr S σ' ρ' H' [] v d -> zjv pn ρ' os -> q d os -> Q v H'
section
variable {Γ : Cn} {pn : List Nat} {fr : Bool}
theorem QZ {α : Type} {l : List α} {n i : Nat} {x y : α} (h : (l ++ aX n x)[i]? = some y) (hy : y ≠ x) : l[i]? = some y := by
 by_cases hi : i < l.length
 · rwa [cX hi] at h
 · rw [ez (by omega), eV] at h
   split at h
   · cases h; exact absurd rfl hy
   · cases h
theorem Uh {α : Type} {l m : List α} {i : Nat} {y : α} (h : l[i]? = some y) : (l ++ m)[i]? = some y := by
 rw [cX (aL.mp h).1]; exact h
theorem Rel.ext (R : Rel Γ S H σ ρ τ) (n : Nat) : Rel Γ S H (σ ++ aX n none) (ρ ++ aX n .no) τ := by
 have ow : ∀ i, yY (ρ ++ aX n .no) i -> yY ρ i := fun i ⟨o, h⟩ => ⟨o, QZ h (by simp)⟩
 have he : ∀ b, zJ S (σ ++ aX n none) (ρ ++ aX n .no) b -> zJ S σ ρ b := fun b h => by
  rcases h with h | ⟨i, hi, e⟩
  · exact .inl h
  · exact .inr ⟨i, ow i hi, QZ e (by simp)⟩
 exact {
  len := by simp [R.len]
  val := fun i d h => let ⟨v, e, r⟩ := R.val i d (QZ h (by simp)); ⟨v, Uh e, r.up (fun b _ => he b) fun _ _ _ z => z⟩
  own := fun i o h => let ⟨p, e, r, q⟩ := R.own i o (QZ h (by simp)); ⟨p, Uh e, r.up (fun _ z => z) (fun b _ => he b) fun _ _ _ z => z, q⟩
  pin := fun i p h => let ⟨e, o, q⟩ := R.pin i p h; ⟨Uh e, o, Uh q⟩
  inj := fun i j p hi hj e1 e2 => R.inj i j p (ow i hi) (ow j hj) (QZ e1 (by simp)) (QZ e2 (by simp))
  dom := R.dom
  fr := R.fr
  tmp := fun x hx => (R.tmp x hx).up (fun b _ => he b) fun _ _ _ z => z }
theorem Ui {vs : List V} {ds : List D} (R : Rel Γ S H σ ρ τ) (r : Reps Γ (zJ S σ ρ) H vs ds) :
 Rel Γ ⟨zJ S σ ρ, H, fun _ => none⟩ H (vs.map some) (ds.map .val) [] := by
 have no : ∀ i, ¬ yY (ds.map Slot.val) i := fun i ⟨o, h⟩ => by
  rw [au] at h
  cases e : ds[i]? with
  | none => rw [e] at h; cases h
  | some d => rw [e] at h; cases h
 have he : ∀ b, zJ ⟨zJ S σ ρ, H, fun _ => none⟩ (vs.map some) (ds.map .val) b -> zJ S σ ρ b := fun b h => h.elim id fun ⟨i, hi, _⟩ => absurd hi (no i)
 exact {
  len := by simp [r.1]
  val := fun i d h => by
   rw [au] at h
   cases e : ds[i]? with
   | none => rw [e] at h; cases h
   | some d' =>
    rw [e] at h; cases h
    obtain ⟨v, h1, h2⟩ := r.get e
    exact ⟨v, by rw [au, h1]; rfl, h2.up (fun b _ => he b) fun _ _ _ z => z⟩
  own := fun i o h => absurd ⟨o, h⟩ (no i)
  pin := fun i p h => by cases h
  inj := fun i j p hi => absurd hi (no i)
  dom := fun a h => jd R h
  fr := fun b o h _ => h
  tmp := fun x h => nomatch h }
def Wg (p : Y3) (a : MA) : ME := fun ρ q => a ρ fun ds ρ1 => p (ds.map .val) (fun d _ => q d ρ1) Z0
theorem Uj (R : Rel Γ S H σ ρ τ) (R' : Rel Γ ⟨zJ S σ ρ, H, fun _ => none⟩ H' σ' ρ' []) (r : Rep Γ (zJ ⟨zJ S σ ρ, H, fun _ => none⟩ σ' ρ') H' v d) :
 Rel Γ S H' σ ρ τ /\ Rep Γ (zJ S σ ρ) H' v d :=
 ⟨R.grow fun b o h => R'.fr b o h fun i => by simp, r.up (fun b _ z => .inl z) fun _ _ _ z => z⟩
theorem je_call (ha : JA Γ pn ta a) (hn : ∀ ss q, p ss q Z0 -> ss.length = n) : JE Γ pn (V8 (yr Γ [] false n p) [] E0 ta) (Wg p a) := fun S σ ρ H τ Q q hp R hm hq =>
 ha S σ ρ H τ _ _ hp R hm fun vs ds H1 ρ1 R1 r1 q1 => by
  rw [aJ]
  have hl := hn _ _ q1
  refine ⟨by rw [r1.1]; simpa using hl, ⟨zJ S σ ρ1, H1, fun _ => none⟩, ds.map .val, _, fun _ _ => rfl, rfl, Ui R1 r1, q1, fun v d H' σ' ρ' os ⟨R', r'⟩ _ q' => ?_⟩
  obtain ⟨a, b⟩ := Uj R1 R' r'
  exact hq v d H' ρ1 a b q'
def Vo (j : Nat) (p : Y3) (a : MA) : ME := fun ρ q => match ρ[j]? with
 | some (.own _) => a ρ fun ds ρ1 => match ρ1[j]? with
  | some (.own o) => p (.own o :: ds.map .val) (fun d os => match os with | [o'] => q d (ρ1.set j (.own o')) | _ => False) Z0
  | _ => False
 | _ => False
def Vp (x : Addr) : Nat -> Option Addr := fun i => if i = 0 then some x else none
theorem zb1 {S : Fs} {σ : St} {ρ : Env} {τ : List (V × D)} {vs : List V} {ds : List D} {E : Addr -> Prop} (hd : ∀ a, E a -> H a ≠ none) (r : Reps Γ (fun a => E a \/ a = x) H vs ds) (ow : OwnAt Γ (fun a => E a \/ a = x) H x o) (nx : ¬ E x) :
 Rel Γ ⟨E, H, Vp x⟩ H (some (.ref x) :: vs.map some) (.own o :: ds.map .val) [] := by
 have no : ∀ i, yY (.own o :: ds.map Slot.val) i -> i = 0 := fun i ⟨u, h⟩ => by
  cases i with
  | zero => rfl
  | succ i =>
   rw [bE, au] at h
   cases e : ds[i]? with
   | none => rw [e] at h; cases h
   | some d => rw [e] at h; cases h
 have he : ∀ b, zJ ⟨E, H, Vp x⟩ (some (.ref x) :: vs.map some) (.own o :: ds.map .val) b -> E b \/ b = x := fun b h => h.elim .inl fun ⟨i, hi, e⟩ => by
  have := no i hi
  subst this
  simp at e
  exact .inr e.symm
 exact {
  len := by simp [r.1]
  val := fun i d h => by
   cases i with
   | zero => simp at h
   | succ i =>
    rw [bE, au] at h
    cases e : ds[i]? with
    | none => rw [e] at h; cases h
    | some d' =>
     rw [e] at h; cases h
     obtain ⟨v, h1, h2⟩ := r.get e
     exact ⟨v, by rw [bE, au, h1]; rfl, h2.up (fun b _ => he b) fun _ _ _ z => z⟩
  own := fun i u h => by
   have := no i ⟨u, h⟩
   subst this
   simp at h
   subst h
   exact ⟨x, rfl, ow.up (fun _ z => z) (fun b _ => he b) fun _ _ _ z => z, nx, .inl rfl⟩
  pin := fun i p h => by
   unfold Vp at h
   dsimp only at h
   split at h
   · cases h; rename_i hi; subst hi; exact ⟨rfl, o, rfl⟩
   · cases h
  inj := fun i j p hi hj _ _ => by rw [no i hi, no j hj]
  dom := hd
  fr := fun b u h _ => h
  tmp := fun y h => nomatch h }
theorem zkG {ρ' : Env} {os : List D} (h : zjv [0] ρ' os) : ∃ o, os = [o] /\ ρ'[0]? = some (.own o) := by
 obtain ⟨hl, hp⟩ := h
 match os, hl with
 | [o], _ => exact ⟨o, rfl, hp 0 0 o rfl rfl⟩
theorem zb2 {E : Addr -> Prop} (R' : Rel Γ ⟨E, H, Vp x⟩ H' σ' ρ' []) (ho : ρ'[0]? = some (.own o)) :
 (∀ b u, b ≠ x -> H b = some u -> H' b = some u) /\ OwnAt Γ (zJ ⟨E, H, Vp x⟩ σ' ρ') H' x o /\ ∀ b, (E b \/ b = x) -> zJ ⟨E, H, Vp x⟩ σ' ρ' b := by
 obtain ⟨e0, w0⟩ := R'.pin 0 x (by show (if (0 : Nat) = 0 then some x else none) = _; rfl)
 obtain ⟨p, e1, ow, _⟩ := R'.own 0 o ho
 rw [e0] at e1; cases e1
 refine ⟨fun b u hb h => R'.fr b u h fun i => ?_, ow, fun b hb => ?_⟩
 · show (if i = 0 then some x else none) ≠ some b
   split
   · intro z; cases z; exact hb rfl
   · intro z; cases z
 · rcases hb with hb | hb
   · exact .inl hb
   · subst hb; exact .inr ⟨0, w0, e0⟩
theorem zjw (ha : JA Γ pn ta a) (hn : ∀ ss q, p ss q Z0 -> ss.length = n) : JE Γ pn (V8 (yr Γ [0] false n p) [] E0 (J4 (QB j) ta)) (Vo j p a) := fun S σ ρ H τ Q q hp R hm hq => by
 unfold Vo at hm
 split at hm
 · rename_i o0 h0
   obtain ⟨x, e, _⟩ := R.own j o0 h0
   refine ⟨_, e, ?_⟩
   refine ha S σ ρ H τ _ _ hp R hm fun vs ds H1 ρ1 R1 r1 q1 => ?_
   show yr Γ [0] false n p ((V.ref x :: vs) ++ []) H1 Q E0
   rw [aJ]
   split at q1
   · rename_i o h1
     obtain ⟨x', e', ow, nC, _⟩ := R1.own j o h1
     rw [e] at e'; cases e'
     have ex1 : ∀ b, (zJ S σ ρ1 b /\ b ≠ x) \/ b = x -> zJ S σ ρ1 b := fun b h => h.elim And.left fun z => by rw [z]; exact .inr ⟨j, ⟨o, h1⟩, e⟩
     have ex2 : ∀ b, zJ S σ ρ1 b -> (zJ S σ ρ1 b /\ b ≠ x) \/ b = x := fun b h => by
      by_cases z : b = x
      · exact .inr z
      · exact .inl ⟨h, z⟩
     have hl := hn _ _ q1
     refine ⟨by have := r1.1; simp at hl; simp; omega, ⟨fun a => zJ S σ ρ1 a /\ a ≠ x, H1, Vp x⟩, _, _, fun i hi => ?_, rfl,
      zb1 (S := S) (σ := σ) (ρ := ρ1) (τ := τ) (fun a h => jd R1 h.1) (r1.up (fun b _ => ex1 b) fun _ _ _ z => z) (ow.up (fun _ z => z) (fun b _ => ex1 b) fun _ _ _ z => z) (fun z => z.2 rfl), q1, fun v d H' σ' ρ' os ⟨R', r'⟩ ps q' => ?_⟩
     · show (if i = 0 then some x else none) = none
       rw [if_neg (by simpa using hi)]
     · obtain ⟨o', rfl, ho'⟩ := zkG ps
       obtain ⟨k1, k2, k3⟩ := zb2 R' ho'
       have k2' : OwnAt Γ (zJ S σ ρ1) H' x o' := k2.up (fun _ z => z) (fun b _ z => k3 b (ex2 b z)) fun _ _ _ z => z
       refine hq v d H' _ (R1.write h1 e k1 k2') (r'.up (fun b _ z => k3 b (ex2 b ?_)) fun _ _ _ z => z) q'
       rcases z with z | ⟨i, ⟨u, hu⟩, ei⟩
       · exact .inl z
       · by_cases ij : j = i
         · subst ij; exact .inr ⟨j, ⟨o, h1⟩, ei⟩
         · rw [getElem?_set_ne ij] at hu; exact .inr ⟨i, ⟨u, hu⟩, ei⟩
   · exact aa q1
 · exact aa hm
def zcO (c : Nat) (p : Y3) (a : MA) : ME := fun ρ q => a ρ fun ds ρ1 => p (.own (.obj c []) :: ds.map .val) (fun d os => match d, os with | .non, [o] => q o ρ1 | _, _ => False) Z0
theorem Rel.addS {S : Fs} (R : Rel Γ S H σ ρ τ) (hp : H p = none) (g : Same H H') (hn : H' p ≠ none) : Rel Γ (S.add p) H' σ ρ τ := by
 have he : ∀ b, H b ≠ none -> zJ (S.add p) σ ρ b -> zJ S σ ρ b := fun b hb h => by
  rcases h with (h | h) | h
  · exact .inl h
  · subst h; exact absurd hp hb
  · exact .inr h
 exact {
  len := R.len
  val := fun i d h => let ⟨v, e, r⟩ := R.val i d h; ⟨v, e, r.up he fun b o _ q => g b o q⟩
  own := fun i o h => by
   obtain ⟨q, e, r, n, pn⟩ := R.own i o h
   refine ⟨q, e, r.up (fun u => g q u) he fun b o _ q => g b o q, ?_, pn⟩
   rintro (z | z)
   · exact n z
   · subst z; exact r.ne0 hp
  pin := R.pin
  inj := R.inj
  dom := fun a h => by
   rcases h with h | h
   · cases e : H a with
     | none => exact absurd e (R.dom a h)
     | some u => rw [g a u e]; simp
   · subst h; exact hn
  fr := fun b o h n => g b o (R.fr b o h n)
  tmp := fun x hx => (R.tmp x hx).up he fun b o _ q => g b o q }
theorem zlv (ha : JA Γ pn ta a) (hn : ∀ ss q, p ss q Z0 -> ss.length = n) : JF Γ pn (V8 (yr Γ [] true n p) [] E0 ta) (Wg p a) := fun S σ ρ H τ Q q hp R hm hq =>
 ha S σ ρ H τ _ _ hp R hm fun vs ds H1 ρ1 R1 r1 q1 => by
  rw [aJ]
  have hl := hn _ _ q1
  refine ⟨by rw [r1.1]; simpa using hl, ⟨zJ S σ ρ1, H1, fun _ => none⟩, ds.map .val, _, fun _ _ => rfl, rfl, Ui R1 r1, q1, fun v d H' σ' ρ' os ⟨p, e, R', ow, h0, ne⟩ _ q' => ?_⟩
  subst e
  have h0 : H1 p = none := h0
  have same : Same H1 H' := fun b o h => R'.fr b o h fun i => by show (none : Option Addr) ≠ some b; simp
  refine hq p d H' ρ1 (R1.addS h0 same ow.ne0) (ow.up (fun _ z => z) (fun b _ z => ?_) fun _ _ _ z => z) (R1.new h0) (fun z => jd R1 z h0) q'
  rcases z with (z | z) | z
  · exact .inl (.inl (.inl z))
  · exact .inl (.inr z)
  · exact .inl (.inl (.inr z))
theorem zlw (hC : Γ.cls c = some C) (ha : JA Γ pn ta a) (hn : ∀ ss q, p ss q Z0 -> ss.length = n) : JF Γ pn (zky C (yr Γ [0] false n p) [] E0 ta) (zcO c p a) := fun S σ ρ H τ Q q hp R hm hq =>
 ha S σ ρ H τ _ _ hp R hm fun vs ds H1 ρ1 R1 r1 q1 => by
  intro x dx hx hdx hne
  rw [aJ]
  have hl := hn _ _ q1
  have g1 : Same H1 (ye (ye H1 dx (.own x)) x (.ins C dx [])) := fun b o h => by rw [z7 (yH h hx), z7 (yH h hdx)]; exact h
  have hxE : ¬ zJ S σ ρ1 x := fun z => jd R1 z hx
  refine ⟨by have := r1.1; simp at hl; simp; omega, ⟨zJ S σ ρ1, _, Vp x⟩, _, _, fun i hi => ?_, rfl,
   zb1 (S := S) (σ := σ) (ρ := ρ1) (τ := τ) (o := .obj c []) (fun a h => ?_) (r1.up (fun b hb z => z.elim id fun w => by subst w; exact absurd hx hb) fun b o _ z => g1 b o z) ⟨C, dx, [], hC, jC, rfl, .nil⟩ hxE, q1, fun v d H' σ' ρ' os ⟨R', r'⟩ ps q' => ?_⟩
  · show (if i = 0 then some x else none) = none
    rw [if_neg (by simpa using hi)]
  · cases e : H1 a with
    | none => exact absurd e (jd R1 h)
    | some u => exact fun z => absurd ((g1 a u e).symm.trans z) (by simp)
  · obtain ⟨o', rfl, ho'⟩ := zkG ps
    obtain ⟨k1, k2, k3⟩ := zb2 R' ho'
    cases d with
    | non =>
     cases r'
     have same : Same H1 H' := fun b u h => k1 b u (yH h hx) (g1 b u h)
     refine ⟨rfl, hq x o' H' ρ1 (R1.addS hx same k2.ne0) (k2.up (fun _ z => z) (fun b _ z => k3 b ?_) fun _ _ _ z => z) (R1.new hx) hxE q'⟩
     rcases z with (z | z) | z
     · exact .inl (.inl z)
     · exact .inr z
     · exact .inl (.inr z)
    | _ => exact aa q'
def zhE (m : Str) (disp : Addr -> Sp -> Prop) (ta : TE) (t : TA) : TE := fun σ H Q => ta σ H fun x H1 => ∃ a C dx fs sp, x = .ref a /\ H1 a = some (.ins C dx fs) /\ fs.lookup m = none /\ disp C sp /\ t σ H1 fun vs H2 => sp (x :: vs) H2 Q E0
def zcP (tbl : Nat -> Option Y3) (a : ME) (r : MA) : ME := fun ρ q => a ρ fun x ρ1 => match x with
 | .obj c fs => match tbl c with
  | some p => r ρ1 fun ds ρ2 => p (.val (.obj c fs) :: ds.map .val) (fun d _ => q d ρ2) Z0
  | none => False
 | _ => False
def zhF (Γ : Cn) (tbl : Nat -> Option Y3) (n : Nat) : Addr -> Sp -> Prop := fun C sp => ∃ c p, Γ.cls c = some C /\ tbl c = some p /\ sp = yr Γ [] false n p
theorem zb3 (hm : ∀ n, yP n ≠ m) : ∀ {gs : List (Str × V)} {fs : List (Nat × D)}, (gs.map (·.1) = fs.map fun x => yP x.1) -> gs.lookup m = none
 | [], _, _ => rfl
 | _ :: _, [], h => by cases h
 | (a, v) :: gs, (b, e) :: fs, h => by
  simp only [al, dX] at h
  obtain ⟨rfl, h⟩ := h
  rw [bD, beq_eq_false_iff_ne.mpr fun z => hm b z.symm]
  exact zb3 hm h
theorem zlx {tbl : Nat -> Option Y3} (hm : ∀ n, yP n ≠ m) (ha : JE Γ pn ta a) (hr : JA Γ pn tr r) (hn : ∀ c p ss q, tbl c = some p -> p ss q Z0 -> ss.length = n) :
 JE Γ pn (zhE m (zhF Γ tbl n) ta tr) (zcP tbl a r) := fun S σ ρ H τ Q q hp R hmm hq =>
 ha S σ ρ H τ _ _ hp R hmm fun v x H1 ρ1 R1 r1 q1 => by
  cases x with
  | obj c fs =>
   dsimp only at q1
   split at q1
   · rename_i p hp'
     cases id r1 with
     | obj ne hc h l rs =>
      refine ⟨_, _, _, _, _, rfl, h, zb3 hm l, ⟨c, p, hc, hp', rfl⟩, ?_⟩
      refine hr S σ ρ1 H1 (_ :: τ) _ _ hp (R1.push r1) q1 fun vs ds H2 ρ2 R2 r2 q2 => ?_
      have hl := hn _ _ _ _ hp' q2
      have rr : Reps Γ (zJ S σ ρ2) H2 (_ :: vs) (.obj c fs :: ds) := .cons R2.pop.2 r2
      refine ⟨by rw [rr.1]; simpa using hl, ⟨zJ S σ ρ2, H2, fun _ => none⟩, _, _, fun _ _ => rfl, rfl, Ui R2.pop.1 rr, q2, fun v d H' σ' ρ' os ⟨R', r'⟩ _ q' => ?_⟩
      obtain ⟨a, b⟩ := Uj R2.pop.1 R' r'
      exact hq v d H' ρ2 a b q'
   · exact aa q1
  | _ => exact aa q1
end
section
variable {X : Cx} {m : Str} {disp : Addr -> Sp -> Prop} {pos apos : Pos} {e o : Expr} {es : List Expr} {ta : TE} {t : TA}
def zhG (X : Cx) (m : Str) (disp : Addr -> Sp -> Prop) : Prop := ∀ C sp, disp C sp -> Cls X.K C /\ ∃ k f fd ps, zi6 X.K C m f /\ FnOk X.prog X.w X.K X.mg X.base yD k f fd ps sp /\ Room k X.A /\ Binds X.K fd ps []
theorem zhH (he : PE X o ta) (hD : zhG X m disp)
 (ht : eval (.Call (.Attribute o m apos) [] [] pos) X.env = (do
  let ov ← eval o X.env
  fg apos.atName
  let (f, first) ← cW [ov] (gR ov m pl)
  callWith pos f first (backTo pos (ap [] X.env)) (eE pos (cU [] X.env))) := by rfl) :
 PE X (.Call (.Attribute o m apos) [] [] pos) (zhE m disp ta Zy) := by
 intro pins s σ H Q I h
 refine PySem.W.methodCall_KW (pl := pl) (zZ (he pins s σ H _ I h) fun u s1 ⟨x, H1, I1, rx, a, C, dx, fs, sp, ex, ea, l, hd, q⟩ => ?_) ht
 subst ex
 obtain rfl : u = Value.ref a := rx
 obtain ⟨c, k, f, fd, ps, hm, F, hr, hb⟩ := hD C sp hd
 refine zfT I1 ea c hm l ?_
 exact PySem.W.callWith_K0 (first := [.ref a]) I1.kIn hm.kp (zhi (us := [.ref a]) (vs := [.ref a]) (dvs := []) (ds := []) F hr hb .nil zfY I1 (.cons rfl .nil) q)
end
section
variable {Γ : Cn} {pn : List Nat}
theorem yL {E : Addr -> Prop} (r : Jy Γ E H v d) (h : Qk d = true) : v = vD d := by
 cases d with
 | non => exact Rep.flat (show Rep Γ E H v .non from r) rfl
 | bl b => exact Rep.flat (show Rep Γ E H v (.bl b) from r) rfl
 | int b => exact Rep.flat (show Rep Γ E H v (.int b) from r) rfl
 | str b => exact Rep.flat (show Rep Γ E H v (.str b) from r) rfl
 | ty b => exact Rep.flat (show Rep Γ E H v (.ty b) from r) rfl
 | _ => cases h
theorem ju {E : Addr -> Prop} (r : Jy Γ E H v (.int i)) : v = .int i := yL r rfl
theorem JW {E : Addr -> Prop} (r : Jy Γ E H v (.str i)) : v = .str i := yL r rfl
theorem zly {E : Addr -> Prop} (r : Jy Γ E H v (.bl i)) : v = .bl i := yL r rfl
def Qe (g : Int -> Int -> D) : F2 := fun x y q => match x, y with | .int i, .int j => q (g i j) | _, _ => False
def fI (C : Int -> Int -> Prop) (g : Int -> Int -> D) : F2 := fun x y q => match x, y with | .int i, .int j => C i j /\ q (g i j) | _, _ => False
theorem Wh {gv : Int -> Int -> V} {g : Int -> Int -> D} (hf : ∀ i j, Qk (g i j) = true) (hv : ∀ i j, gv i j = vD (g i j)) : jr Γ (YY gv) (Qe g) := fun E H x y dx dy Q q _ rx ry h k => by
 unfold Qe at h
 split at h
 · rename_i i j
   refine ⟨i, j, ju rx, ju ry, k _ _ H (Same.refl H) ?_ h⟩
   rw [hv]; exact Z8 (hf i j)
 · exact aa h
theorem zgf {C : Int -> Int -> Prop} {gv : Int -> Int -> V} {g : Int -> Int -> D} (hf : ∀ i j, Qk (g i j) = true) (hv : ∀ i j, gv i j = vD (g i j)) : jr Γ (rI C gv) (fI C g) := fun E H x y dx dy Q q _ rx ry h k => by
 unfold fI at h
 split at h
 · rename_i i j
   refine ⟨i, j, ju rx, ju ry, h.1, k _ _ H (Same.refl H) ?_ h.2⟩
   rw [hv]; exact Z8 (hf i j)
 · exact aa h
def Vq : D -> D -> Option Bool
 | .non, .non => some true
 | .non, .int _ => some false | .int _, .non => some false | .non, .bl _ => some false | .bl _, .non => some false | .non, .str _ => some false | .str _, .non => some false
 | .int i, .int j => some (decide (i = j))
 | .bl a, .bl b => some (decide (a = b))
 | .str a, .str b => some (decide (a = b))
 | .int _, .str _ => some false | .str _, .int _ => some false | .bl _, .str _ => some false | .str _, .bl _ => some false
 | _, _ => none
theorem zm4 {α β : Type} [DecidableEq α] [DecidableEq β] {f : α -> β} (hf : ∀ a b, f a = f b -> a = b) (a b : α) : decide (f a = f b) = decide (a = b) := by
 by_cases h : a = b
 · subst h; simp
 · rw [decide_eq_false h, decide_eq_false fun z => h (hf a b z)]
theorem zhI (h : Vq x y = some b) : Qk x = true /\ Qk y = true /\ ziY (vD x) (vD y) = true /\ decide (vD x = vD y) = b := by
 unfold Vq at h
 split at h <;> first
  | (cases h; refine ⟨rfl, rfl, rfl, ?_⟩; first | rfl | (simp [vD]) | exact zm4 (fun _ _ z => by injection z) _ _)
  | cases h
def fEq : F2 := fun x y q => match Vq x y with | some b => q (.bl b) | none => False
def fNe : F2 := fun x y q => match Vq x y with | some b => q (.bl (!b)) | none => False
theorem jY : jr Γ rEq fEq := fun E H x y dx dy Q q _ rx ry h k => by
 unfold fEq at h
 split at h
 · rename_i b hb
   obtain ⟨f1, f2, s, e⟩ := zhI hb
   rw [yL rx f1, yL ry f2]
   exact ⟨s, by rw [e]; exact k _ _ H (Same.refl H) (.bl _) h⟩
 · exact aa h
theorem Wi : jr Γ rNe fNe := fun E H x y dx dy Q q _ rx ry h k => by
 unfold fNe at h
 split at h
 · rename_i b hb
   obtain ⟨f1, f2, s, e⟩ := zhI hb
   rw [yL rx f1, yL ry f2]
   exact ⟨s, by rw [e]; exact k _ _ H (Same.refl H) (.bl _) h⟩
 · exact aa h
def Wj : F2 := fun x y q => match x, y with | .str a, .str b => a.length + b.length <= 100000 /\ q (.str (a ++ b)) | _, _ => False
theorem zbn : jr Γ (fun x y H Q => ∃ i j, x = .str i /\ y = .str j /\ i.length + j.length <= aG /\ Q (.str (i ++ j)) H) Wj := fun E H x y dx dy Q q _ rx ry h k => by
 unfold Wj at h
 split at h
 · exact ⟨_, _, JW rx, JW ry, aM h.1 (by decide), k _ _ H (Same.refl H) (.str _) h.2⟩
 · exact aa h
def zjx : F2 := fun x y q => match x, y with | .str a, .str b => q (.bl (!decide (b.cps.toList < a.cps.toList))) | _, _ => False
theorem zhJ : jr Γ (fun x y H Q => ∃ i j, x = .str i /\ y = .str j /\ Q (.bl (!(decide (j.cps.toList < i.cps.toList)))) H) zjx := fun E H x y dx dy Q q _ rx ry h k => by
 unfold zjx at h
 split at h
 · exact ⟨_, _, JW rx, JW ry, k _ _ H (Same.refl H) (.bl _) h⟩
 · exact aa h
def Ro : F2 := fun x y q => match x, y with
 | .lst ds, .int i => match J9 ds.length i with | some j => q (ds.getD j .non) | none => False
 | .fz ns, .int i => match J9 ns.length i with | some j => q (.int (ns.getD j 0)) | none => False
 | _, _ => False
theorem zaa (h : J9 n i = some j) : j < n := by
 unfold J9 at h
 split at h
 · split at h
   · cases h; omega
   · cases h
 · split at h
   · cases h; omega
   · cases h
theorem zm5 : jr Γ (zi9 Γ.K) Ro := fun E H x y dx dy Q q _ rx ry h k => by
 unfold Ro at h
 split at h
 · rename_i ds i
   split at h
   · rename_i j hj
     obtain ⟨a, xs, rfl, ha, rs⟩ := rx
     have hl := zaa hj
     have hl' : j < xs.length := by rw [rs.1]; exact hl
     refine ⟨a, xs, i, xs[j], rfl, ju ry, .inl (.inl ha), ?_, k _ _ H (Same.refl H) (rs.2 j _ _ (af hl') ?_) h⟩
     · unfold RW; rw [rs.1, hj]; exact af hl'
     · rw [aA, af hl]; rfl
   · exact aa h
 · rename_i ns i
   split at h
   · rename_i j hj
     obtain ⟨a, rfl, ha⟩ := Rep.script rx
     have hl := zaa hj
     refine ⟨a, _, i, .int (ns.getD j 0), rfl, ju ry, ha, ?_, k _ _ H (Same.refl H) (.int _) h⟩
     unfold RW
     rw [am, hj]
     show (ns.map V.int)[j]? = _
     rw [au, aA, af hl]; rfl
   · exact aa h
 · exact aa h
def zdo : F2 := fun x y q => match x, y with
 | .tup ds, .int i => match J9 ds.length i with | some j => q (ds.getD j .non) | none => False
 | _, _ => False
theorem zm6 : jr Γ (zi_ Γ.K) zdo := fun E H x y dx dy Q q _ rx ry h k => by
 unfold zdo at h
 split at h
 · rename_i ds i
   split at h
   · rename_i j hj
     obtain ⟨a, xs, rfl, ha, rs⟩ := Rep.tuple rx
     have hl := zaa hj
     have hl' : j < xs.length := by rw [rs.1]; exact hl
     refine ⟨a, xs, i, xs[j], rfl, ju ry, SqT.of ha, ?_, k _ _ H (Same.refl H) (rs.2 j _ _ (af hl') ?_) h⟩
     · unfold RW; rw [rs.1, hj]; exact af hl'
     · rw [aA, af hl]; rfl
   · exact aa h
 · exact aa h
def zdp : F2 := fun x y q => match x, y with
 | .str z, .int i => z.length <= 100000 /\ match J9 z.cps.toList.length i with | some j => q (.str ⟨#[z.cps.toList.getD j 0]⟩) | none => False
 | _, _ => False
theorem zm7 : jr Γ zja zdp := fun E H x y dx dy Q q _ rx ry h k => by
 unfold zdp at h
 split at h
 · rename_i z i
   obtain ⟨hz, h⟩ := h
   split at h
   · rename_i j hj
     refine ⟨z, i, z.cps.toList.getD j 0, JW rx, ju ry, aM hz (by decide), ?_, k _ _ H (Same.refl H) (.str _) h⟩
     unfold RW
     rw [hj]
     show z.cps.toList[j]? = _
     rw [aA, af (zaa hj)]; rfl
   · exact aa h
 · exact aa h
def zjy : F1 := fun x q => match x with
 | .lst ds => q (.int ds.length)
 | .tup ds => q (.int ds.length)
 | .fz ns => q (.int ns.length)
 | .kt xs => q (.int xs.length)
 | .str z => z.length <= 100000 /\ q (.int z.length)
 | _ => False
theorem zm8 : QE Γ (fun x H Q => ∃ y n, [x] = [y] /\ zmu Γ.K y H n /\ Q (.int n) H) zjy := fun E H x dx Q q _ rx h k => by
 cases dx with
 | lst ds =>
  obtain ⟨a, xs, rfl, ha, rs⟩ := rx
  refine ⟨_, xs.length, rfl, .inl ⟨xs, .inl (.inl ha), rfl⟩, ?_⟩
  rw [rs.1]; exact k _ _ H (Same.refl H) (.int _) h
 | tup ds =>
  obtain ⟨a, xs, rfl, ha, rs⟩ := Rep.tuple rx
  refine ⟨_, xs.length, rfl, .inr ⟨xs, SqT.of ha, rfl⟩, ?_⟩
  rw [rs.1]; exact k _ _ H (Same.refl H) (.int _) h
 | fz ns =>
  obtain ⟨a, rfl, ha⟩ := Rep.script rx
  refine ⟨_, _, rfl, .inl ⟨_, ha, rfl⟩, ?_⟩
  rw [am]; exact k _ _ H (Same.refl H) (.int _) h
 | kt xs =>
  obtain ⟨a, rfl, ha⟩ := Rep.kept rx
  refine ⟨_, _, rfl, .inr ⟨_, ha, rfl⟩, ?_⟩
  rw [am]; exact k _ _ H (Same.refl H) (.int _) h
 | str z =>
  rw [JW rx]
  exact ⟨_, z.length, rfl, ⟨aM h.1 (by decide), rfl⟩, k _ _ H (Same.refl H) (.int _) h.2⟩
 | _ => exact aa h
def Q0 {α : Type} (xs : List α) (lo hi : Option Int) : List α := (xs.drop (HT.sIx xs.length 0 lo)).take (HT.sIx xs.length xs.length hi - HT.sIx xs.length 0 lo)
theorem zdq {E : Addr -> Prop} (r : Reps Γ E H xs ds) : Reps Γ E H (zbf xs lo hi) (Q0 ds lo hi) := by
 unfold zbf Q0
 rw [r.1]
 exact (r.drop _).take _
abbrev MOI := Env -> (Option Int -> Env -> Prop) -> Prop
def JOI (Γ : Cn) (pn : List Nat) (t : TO) (m : MOI) : Prop :=
 ∀ (S : Fs) (σ : St) (ρ : Env) (H : Hp) (τ : List (V × D)) (Q : Option Int -> Hp -> Prop) (q : Option Int -> Env -> Prop), Jx pn S -> Rel Γ S H σ ρ τ -> m ρ q -> (∀ i H' ρ', Rel Γ S H' σ ρ' τ -> q i ρ' -> Q i H') -> t σ H Q
def zbo : MOI := fun ρ q => q none ρ
def zcQ (m : ME) : MOI := fun ρ q => m ρ fun d ρ' => match d with | .int i => q (some i) ρ' | _ => False
theorem zlz : JOI Γ pn zeP zbo := fun S σ ρ H τ Q q hp R hm hq => hq none H ρ R hm
theorem zlA (h : JE Γ pn t m) : JOI Γ pn (zkz t) (zcQ m) := fun S σ ρ H τ Q q hp R hm hq =>
 h S σ ρ H τ _ _ hp R hm fun v d H1 ρ1 R1 r1 q1 => by
  cases d with
  | int i => exact ⟨i, Wb r1, hq _ H1 ρ1 R1 q1⟩
  | _ => exact aa q1
def zgg (a : MO) (l u : MOI) : ME := fun ρ q => a ρ fun r ρ1 => l ρ1 fun lo ρ2 => u ρ2 fun hi ρ3 => r.on ρ3 fun x => match x with
 | .lst ds => q (.lst (Q0 ds lo hi)) ρ3
 | .fz ns => q (.lst ((Q0 ns lo hi).map D.int)) ρ3
 | _ => False
theorem zlB {α β : Type} (f : α -> β) (xs : List α) (lo hi : Option Int) : Q0 (xs.map f) lo hi = (Q0 xs lo hi).map f := by
 unfold Q0; rw [am, ik, List.map_drop]
theorem zhL {E : Addr -> Prop} (ns : List Int) : Reps Γ E H (ns.map V.int) (ns.map D.int) := ⟨by simp, fun i v d h1 h2 => by
 rw [au] at h1 h2
 cases e : ns[i]? with
 | none => rw [e] at h1; cases h1
 | some n => rw [e] at h1 h2; cases h1; cases h2; exact .int n⟩
theorem zm9 (ha : JO Γ pn ta a) (hl : JOI Γ pn tl l) (hu : JOI Γ pn tu u) : JF Γ pn (tSl (zmF Γ.K) ta tl tu) (zgg a l u) := fun S σ ρ H τ Q q hp R hm hq =>
 ha S σ ρ H τ _ _ hp R hm fun v r1 H1 ρ1 τ1 R1 o1 q1 => hl S σ ρ1 H1 (τ1 ++ τ) _ _ hp R1 q1 fun lo H2 ρ2 R2 q2 => hu S σ ρ2 H2 (τ1 ++ τ) _ _ hp R2 q2 fun hi H3 ρ3 R3 q3 => by
  obtain ⟨dx, rx, q3⟩ := R3.read o1 q3
  cases dx with
  | lst ds =>
   obtain ⟨b, xs, rfl, hb, rs⟩ := rx
   refine ⟨b, xs, rfl, .inl (.inl hb), fun p hn => ?_⟩
   obtain ⟨k1, k2, k3, k4⟩ := JU R3 (zdq (lo := lo) (hi := hi) rs) hn
   exact hq p _ _ ρ3 k1.cut k2 k3 k4 q3
  | fz ns =>
   obtain ⟨b, rfl, hb⟩ := Rep.script rx
   refine ⟨b, _, rfl, hb, fun p hn => ?_⟩
   have r := zdq (lo := lo) (hi := hi) (zhL (Γ := Γ) (E := zJ S σ ρ3) (H := H3) ns)
   rw [zlB] at r
   obtain ⟨k1, k2, k3, k4⟩ := JU R3 r hn
   exact hq p _ _ ρ3 k1.cut k2 k3 k4 q3
  | _ => exact aa q3
def zgh : FL2 := fun x y q => match x, y with | .lst a, .lst b => a.length + b.length <= 100000 /\ q (a ++ b) | _, _ => False
theorem zm_ : zf6 Γ zmI zgh := fun E H x y dx dy Q q rx ry h k => by
 unfold zgh at h
 split at h
 · obtain ⟨a, xs, rfl, ha, ra⟩ := rx
   obtain ⟨b, ys, rfl, hb, rb⟩ := ry
   exact ⟨a, b, xs, ys, rfl, rfl, ha, hb, by rw [ra.1, rb.1]; exact aM h.1 (by decide), fun p hp => k p _ _ H (Same.refl H) hp (ra.append rb) h.2⟩
 · exact aa h
def zcR : FL1 := fun x q => match x with | .lst a => q a | .tup a => q a | _ => False
theorem zlC : zdh Γ (fun x H Q => ∃ p ys, [x] = [.ref p] /\ (jQ Γ.K H p ys \/ SqT Γ.K H p ys) /\ ∀ l, H l = none -> Q (.ref l) (ye H l (.lst ys))) zcR := fun E H x dx Q q rx h k => by
 unfold zcR at h
 split at h
 · obtain ⟨a, xs, rfl, ha, ra⟩ := rx
   exact ⟨a, xs, rfl, .inl (.inl (.inl ha)), fun p hp => k p _ _ H (Same.refl H) hp ra h⟩
 · obtain ⟨a, xs, rfl, ha, ra⟩ := Rep.tuple rx
   exact ⟨a, xs, rfl, .inr (SqT.of ha), fun p hp => k p _ _ H (Same.refl H) hp ra h⟩
 · exact aa h
def zcS : F2 := Qe fun i j => .int (if j > i then j else i)
def zcT : F2 := Qe fun i j => .int (if j < i then j else i)
theorem zlD : jr Γ (fun x y H Q => ∃ i j, [x, y] = [.int i, .int j] /\ Q (.int (if j > i then j else i)) H) zcS := fun E H x y dx dy Q q _ rx ry h k => by
 unfold zcS Qe at h
 split at h
 · exact ⟨_, _, by rw [ju rx, ju ry], k _ _ H (Same.refl H) (.int _) h⟩
 · exact aa h
theorem zlE : jr Γ (fun x y H Q => ∃ i j, [x, y] = [.int i, .int j] /\ Q (.int (if j < i then j else i)) H) zcT := fun E H x y dx dy Q q _ rx ry h k => by
 unfold zcT Qe at h
 split at h
 · exact ⟨_, _, by rw [ju rx, ju ry], k _ _ H (Same.refl H) (.int _) h⟩
 · exact aa h
def zjz : F1 := fun x q => match x with | .int i => q (.int i) | .bl b => q (.int (if b then 1 else 0)) | _ => False
theorem zna : QE Γ (fun x H Q => (∃ i, [x] = [.int i] /\ Q (.int i) H) \/ ∃ k, [x] = [.bl k] /\ Q (.int (if k then 1 else 0)) H) zjz := fun E H x dx Q q _ rx h k => by
 cases dx with
 | int i => exact .inl ⟨i, by rw [ju rx], k _ _ H (Same.refl H) (.int _) h⟩
 | bl i => exact .inr ⟨i, by rw [zly rx], k _ _ H (Same.refl H) (.int _) h⟩
 | _ => exact aa h
def ZA : List D -> Option (List Bool)
 | [] => some []
 | .bl b :: r => (ZA r).map (b :: ·)
 | _ => none
theorem ze5 {E : Addr -> Prop} : ∀ {xs : List V} {ds : List D} {bs : List Bool}, Reps Γ E H xs ds -> ZA ds = some bs -> xs = bs.map V.bl
 | [], [], bs, _, h => by cases h; rfl
 | [], _ :: _, _, r, _ => by have h := r.1; simp at h
 | _ :: _, [], _, r, _ => by have h := r.1; simp at h
 | v :: xs, d :: ds, bs, r, h => by
  cases d with
  | bl b =>
   have h : (ZA ds).map (b :: ·) = some bs := h
   cases e : ZA ds with
   | none => rw [e] at h; cases h
   | some r' =>
    rw [e] at h; cases h
    rw [al, ← ze5 r.tail e, ← Z9 r.head]
  | _ => cases h
def zgi : F1 := fun x q => match x with | .lst ds => (match ZA ds with | some bs => q (.bl (bs.all id)) | none => False) | _ => False
theorem znb : QE Γ (fun x H Q => ∃ (a : Addr) (bs : List Bool), [x] = [.ref a] /\ jQ Γ.K H a (bs.map V.bl) /\ Q (.bl (bs.all id)) H) zgi := fun E H x dx Q q _ rx h k => by
 cases dx with
 | lst ds =>
  obtain ⟨a, xs, rfl, ha, rs⟩ := rx
  dsimp only [zgi] at h
  split at h
  · rename_i bs hb
    have e := ze5 rs hb
    subst e
    exact ⟨a, bs, rfl, .inl (.inl ha), k _ _ H (Same.refl H) (.bl _) h⟩
  · exact aa h
 | _ => exact aa h
def Ql : D -> Option String
 | .non => some "NoneType" | .bl _ => some "bool" | .int _ => some "int" | .str _ => some "str" | .lst _ => some "list" | .tup _ => some "tuple" | .dK _ => some "dict" | .dT _ => some "dict" | _ => none
def Yc (a b : String) : Option Bool := if ["NoneType", "bool", "int", "str", "list", "tuple", "dict"].contains a && ["bool", "int", "str", "list", "tuple", "dict"].contains b then some (a == b || (a == "bool" && b == "int")) else none
theorem zhM (h : Yc a b = some r) : ae K (.type a) (.type b) = some r := by
 unfold Yc at h
 split at h
 · rename_i hc
   simp only [bu, List.contains_iff_mem, ar, aO, or_false] at hc
   cases h
   obtain ⟨h1, h2⟩ := hc
   rcases h1 with rfl | rfl | rfl | rfl | rfl | rfl | rfl <;> rcases h2 with rfl | rfl | rfl | rfl | rfl | rfl <;> kernel_rfl
 · cases h
def zab : F2 := fun x y q => match Ql x, y with
 | some a, .ty b => (match Yc a b with | some r => q (.bl r) | none => False)
 | _, _ => False
theorem ze6 {E : Addr -> Prop} (r : Jy Γ E H v d) (h : Ql d = some a) : Zi Γ.K H v (.type a) := by
 cases d with
 | non => cases h; rw [yL r rfl]; exact .of .non
 | bl b => cases h; rw [yL r rfl]; exact .of (.bl b)
 | int b => cases h; rw [yL r rfl]; exact .of (.int b)
 | str b => cases h; rw [yL r rfl]; exact .of (.str b)
 | lst ds => cases h; obtain ⟨a, xs, rfl, ha, _⟩ := r; exact .of (.lst ha)
 | tup ds => cases h; obtain ⟨a, xs, rfl, ha, _⟩ := Rep.tuple r; exact .of (.tup ha)
 | dK ds => cases h; obtain ⟨a, xs, rfl, ha, _⟩ := r; exact .of (.dK ha)
 | dT ds => cases h; obtain ⟨a, xs, rfl, ha, _⟩ := r; exact .of (.dT ha)
 | _ => cases h
theorem zlF : jr Γ (fun x y H Q => ∃ z t c b, [x, y] = [z, .ty c] /\ Zi Γ.K H z t /\ ae Γ.K t (.type c) = some b /\ Q (.bl b) H) zab := fun E H x y dx dy Q q _ rx ry h k => by
 unfold zab at h
 split at h
 · rename_i a b ha
   split at h
   · rename_i r hr
     exact ⟨x, _, b, r, by rw [yL ry rfl]; rfl, ze6 rx ha, zhM hr, k _ _ H (Same.refl H) (.bl _) h⟩
   · exact aa h
 · exact aa h
def Vr (f f' : F2) (a b c : ME) : ME := fun ρ q => a ρ fun x ρ1 => b ρ1 fun y ρ2 => f x y fun d => match d with
 | .bl k => if k = true then c ρ2 fun z ρ3 => f' y z fun e => q e ρ3 else q (.bl false) ρ2
 | _ => False
theorem zdr (h1 : jr Γ r f) (h2 : jr Γ r' f') (ha : JE Γ pn ta a) (hb : JE Γ pn tb b) (hc : JE Γ pn tc c) : JE Γ pn (zc7 r r' ta tb tc) (Vr f f' a b c) := fun S σ ρ H τ Q q hp R hm hq =>
 ha S σ ρ H τ _ _ hp R hm fun v x H1 ρ1 R1 r1 q1 => hb S σ ρ1 H1 ((v, x) :: τ) _ _ hp (R1.push r1) q1 fun w y H2 ρ2 R2 r2 q2 =>
  h1 _ H2 v w x y _ _ (fun a z => jd R2 z) R2.pop.2.b r2.b q2 fun u d H3 g r3 q3 => by
   cases d with
   | bl k =>
    refine ⟨k, Z9 r3, ?_⟩
    have R3 := (R2.pop.1.push r2).grow g
    dsimp only at q3
    cases k with
    | false => rw [if_neg aw] at q3 ⊢; exact hq _ _ H3 ρ2 R3.pop.1 (.bl false) q3
    | true =>
     rw [if_pos rfl] at q3 ⊢
     refine hc S σ ρ2 H3 _ _ _ hp R3 q3 fun w' z H4 ρ4 R4 r4 q4 => ?_
     exact h2 _ H4 w w' y z Q _ (fun a z => jd R4 z) R4.pop.2.b r4.b q4 fun u' e H5 g' r5 q5 => hq u' e H5 ρ4 (R4.pop.1.grow g') r5 q5
   | _ => exact aa q3
def zgj : D -> Option Bool
 | .non => some false | .bl b => some b | .int i => some (i != 0) | .lst ds => some (!ds.isEmpty) | .tup ds => some (!ds.isEmpty) | .dK ds => some (!ds.isEmpty)
 | .str y => some ((y.length : Int) != 0)
 | _ => none
def zgk (a : MO) : MT := fun ρ q => a ρ fun r ρ1 => r.on ρ1 fun x => (match x with | .str y => y.length <= 100000 | _ => True) /\ match zgj x with | some b => q b ρ1 | none => False
theorem YM {α β : Type} {xs : List α} {ys : List β} (h : xs.length = ys.length) : xs.isEmpty = ys.isEmpty := by
 cases xs <;> cases ys <;> first | rfl | simp at h
theorem znc (ha : JO Γ pn ta a) : JT Γ pn (fun σ H Q => ta σ H fun x H' => ∃ k, zi1 Γ.K x H' k /\ Q k H') (zgk a) := fun S σ ρ H τ Q q hp R hm hq =>
 ha S σ ρ H τ _ _ hp R hm fun v r1 H1 ρ1 τ1 R1 o1 q1 => by
  obtain ⟨dx, rx, hs, q1⟩ := R1.read o1 q1
  cases dx with
  | non => rw [yL rx rfl]; exact ⟨false, rfl, hq _ H1 ρ1 R1.cut q1⟩
  | bl b => rw [yL rx rfl]; exact ⟨b, rfl, hq _ H1 ρ1 R1.cut q1⟩
  | int i => rw [yL rx rfl]; exact ⟨_, rfl, hq _ H1 ρ1 R1.cut q1⟩
  | str y => rw [yL rx rfl]; exact ⟨_, ⟨aM hs (by decide), rfl⟩, hq _ H1 ρ1 R1.cut q1⟩
  | lst ds => obtain ⟨a, xs, rfl, h, rs⟩ := rx; exact ⟨_, .inl ⟨xs, .inl (.inl h), by rw [YM rs.1]⟩, hq _ H1 ρ1 R1.cut q1⟩
  | tup ds => obtain ⟨a, xs, rfl, h, rs⟩ := Rep.tuple rx; exact ⟨_, .inr (.inl ⟨xs, SqT.of h, by rw [YM rs.1]⟩), hq _ H1 ρ1 R1.cut q1⟩
  | dK ds => obtain ⟨a, xs, rfl, h, hk, rs⟩ := rx; exact ⟨_, .inr (.inr ⟨xs, h, by rw [YM (show xs.length = ds.length by have := congrArg ci hk; simpa using this)]⟩), hq _ H1 ρ1 R1.cut q1⟩
  | _ => exact aa q1
end
structure DE (X : Cx) (cls : Nat -> Option Addr) (pn : List Nat) (e : Expr) (m : ME) : Prop where
 h : ∃ t, PE X e t /\ JE ⟨X.K, cls⟩ pn t m
structure DF (X : Cx) (cls : Nat -> Option Addr) (pn : List Nat) (e : Expr) (m : ME) : Prop where
 h : ∃ t, PE X e t /\ JF ⟨X.K, cls⟩ pn t m
structure DO (X : Cx) (cls : Nat -> Option Addr) (pn : List Nat) (e : Expr) (m : MO) : Prop where
 h : ∃ t, PE X e t /\ JO ⟨X.K, cls⟩ pn t m
structure DT (X : Cx) (cls : Nat -> Option Addr) (pn : List Nat) (e : Expr) (m : MT) : Prop where
 h : ∃ t, PT X e t /\ JT ⟨X.K, cls⟩ pn t m
structure DW (X : Cx) (cls : Nat -> Option Addr) (pn : List Nat) (e : Expr) (m : MT) : Prop where
 h : ∃ t, PW X e t /\ JT ⟨X.K, cls⟩ pn t m
structure DTs (X : Cx) (cls : Nat -> Option Addr) (pn : List Nat) (e : List Expr) (m : MT) : Prop where
 h : ∃ t, PTs X e t /\ JT ⟨X.K, cls⟩ pn t m
structure DA (X : Cx) (cls : Nat -> Option Addr) (pn : List Nat) (e : List Expr) (m : MA) : Prop where
 h : ∃ t, PA X e t /\ JA ⟨X.K, cls⟩ pn t m
structure DS (X : Cx) (cls : Nat -> Option Addr) (pn : List Nat) (fr : Bool) (e : Stmt) (m : MS) : Prop where
 h : ∃ t, PS X e t /\ JS ⟨X.K, cls⟩ pn fr t m
structure DSs (X : Cx) (cls : Nat -> Option Addr) (pn : List Nat) (fr : Bool) (e : List Stmt) (m : MS) : Prop where
 h : ∃ t, PSs X e t /\ JS ⟨X.K, cls⟩ pn fr t m
structure DG (X : Cx) (cls : Nat -> Option Addr) (pn : List Nat) (e : Expr) (m : MG) : Prop where
 h : ∃ t, PG X e t /\ JG ⟨X.K, cls⟩ pn t m
structure DGs (X : Cx) (cls : Nat -> Option Addr) (pn : List Nat) (e : List Expr) (m : RZ) : Prop where
 h : ∃ t, PGs X e t /\ JGs ⟨X.K, cls⟩ pn t m
structure DI (X : Cx) (cls : Nat -> Option Addr) (pn : List Nat) (tg e : Expr) (m : MI) : Prop where
 h : ∃ t, PI X tg e t /\ JI ⟨X.K, cls⟩ pn t m
structure DP (X : Cx) (cls : Nat -> Option Addr) (pn : List Nat) (e : Option Expr) (m : MOI) : Prop where
 h : ∃ t, PO X e t /\ JOI ⟨X.K, cls⟩ pn t m
section
variable {X : Cx} {cls : Nat -> Option Addr} {pn : List Nat} {a b c e : Expr} {es : List Expr} {pos p : Pos} {x : Str}
theorem zi : DE X cls pn (.Constant (.int i) j pos) (mC (.int i)) := ⟨_, zl4, zdc rfl rfl⟩
theorem Uk : DE X cls pn (.Constant (.bool i) j pos) (mC (.bl i)) := ⟨_, znN, zdc rfl rfl⟩
theorem zy : DE X cls pn (.Constant (.str i) j pos) (mC (.str i)) := ⟨_, zg4, zdc rfl rfl⟩
theorem ZW (hg : Gl X x) (hm : ∃ t, X.mg x = some (.int i t)) (hd : (x == ("__debug__" : Str)) = false := by decide) : DE X cls pn (.Name x pos) (mC (.int i)) := by
 obtain ⟨t, hm⟩ := hm
 exact ⟨_, zbd hg hm (v := .int i) ⟨t, rfl⟩ hd, zdc rfl rfl⟩
theorem Wk (hg : Gl X x) (hm : X.mg x = none) (hv : bN x = some (.type n)) (hn : x ≠ "__name__" := by decide) (hd : (x == ("__debug__" : Str)) = false := by decide) : DE X cls pn (.Name x pos) (mC (.ty n)) :=
 ⟨_, zkY (v := .ty n) hg hm hv rfl hn hd, zdc rfl rfl⟩
theorem dv (i : Nat) (hi : i ∉ pn) (hN : X.N[i]? = some x := by kernel_rfl) (hv : Z5 X.env.scope x := by first | exact Or.inl rfl | exact Or.inr (Or.inl rfl) | exact Or.inr (Or.inr rfl)) (hd : (x == ("__debug__" : Str)) = false := by decide)
 (hcd : (x == ("__classdict__" : Str)) = false := by decide) : DE X cls pn (.Name x pos) (zdd i) := ⟨_, QC hN hv hd hcd, zmO hi⟩
theorem zG (i : Nat) (hN : X.N[i]? = some x := by kernel_rfl) (hv : Z5 X.env.scope x := by first | exact Or.inl rfl | exact Or.inr (Or.inl rfl) | exact Or.inr (Or.inr rfl)) (hd : (x == ("__debug__" : Str)) = false := by decide)
 (hcd : (x == ("__classdict__" : Str)) = false := by decide) : DE X cls pn (.Name x pos) (RY i) := ⟨_, QC hN hv hd hcd, zlj⟩
theorem zj (i : Nat) (hN : X.N[i]? = some x := by kernel_rfl) (hv : Z5 X.env.scope x := by first | exact Or.inl rfl | exact Or.inr (Or.inl rfl) | exact Or.inr (Or.inr rfl)) (hd : (x == ("__debug__" : Str)) = false := by decide)
 (hcd : (x == ("__classdict__" : Str)) = false := by decide) : DO X cls pn (.Name x pos) (mOv i) := ⟨_, QC hN hv hd hcd, zmP⟩
theorem zc (h : DE X cls pn e m) : DO X cls pn e (mO m) := let ⟨t, a, b⟩ := h.h; ⟨t, a, zf1 b⟩
theorem zD (h : DF X cls pn e m) : DE X cls pn e m := let ⟨t, a, b⟩ := h.h; ⟨t, a, WF b⟩
theorem zd : DA X cls pn [] zf2 := ⟨_, jJ, zhv⟩
theorem za (h : DE X cls pn e m) (r : DA X cls pn es n) (hs : ap (e :: es) X.env = (false, eval e X.env) :: ap es X.env := by kernel_rfl) : DA X cls pn (e :: es) (zcI m n) :=
 let ⟨_, a, b⟩ := h.h; let ⟨_, c, d⟩ := r.h; ⟨_, yQ a c hs, zlk b d⟩
theorem zlG (h : Zp es = some ss) : DA X cls pn es (zf3 ss) := ⟨_, zeX h, zll⟩
theorem z6 (h : DA X cls pn es m) : DF X cls pn (.List es pos) (zf4 m) := let ⟨_, a, b⟩ := h.h; ⟨_, zmB a, zmQ b⟩
theorem JX (h : DA X cls pn es m) : DE X cls pn (.Tuple es x1 pos) (zf5 m) := let ⟨_, a, b⟩ := h.h; ⟨_, zhh a, zmR b⟩
theorem Ul (ho : jV X (dh op) r) (hk : jr ⟨X.K, cls⟩ r f) (ha : DO X cls pn a ma) (hb : DO X cls pn b mb) : DE X cls pn (.BinOp a op b pos) (Qa f ma mb) :=
 let ⟨_, pa, ja⟩ := ha.h; let ⟨_, pb, jb⟩ := hb.h; ⟨_, zkv ho pa pb, Yq hk ja jb⟩
theorem zn1 (ho : jV X (dh op) r) (hk : zf6 ⟨X.K, cls⟩ r f) (ha : DO X cls pn a ma) (hb : DO X cls pn b mb) : DF X cls pn (.BinOp a op b pos) (zdf f ma mb) :=
 let ⟨_, pa, ja⟩ := ha.h; let ⟨_, pb, jb⟩ := hb.h; ⟨_, zkv ho pa pb, znX hk ja jb⟩
def znd : F2 := Qe fun i j => .int (i + j)
def zne : F2 := Qe fun i j => .int (i - j)
def znf : F2 := fI CMul fun i j => .int (i * j)
def zng : F2 := fI (fun _ j => 0 < j) fun i j => .int (i % j)
def znh : F2 := fI Rk fun i j => .int (i ^ j.toNat)
variable {ma mb : MO}
theorem jz (ha : DO X cls pn a ma) (hb : DO X cls pn b mb) : DE X cls pn (.BinOp a .Add b pos) (Qa znd ma mb) := Ul zmo (Wh (fun _ _ => rfl) fun _ _ => rfl) ha hb
theorem Yd (ha : DO X cls pn a ma) (hb : DO X cls pn b mb) : DE X cls pn (.BinOp a .Sub b pos) (Qa zne ma mb) := Ul zmp (Wh (fun _ _ => rfl) fun _ _ => rfl) ha hb
theorem zac (ha : DO X cls pn a ma) (hb : DO X cls pn b mb) : DE X cls pn (.BinOp a .Mult b pos) (Qa znf ma mb) := Ul zmq (zgf (fun _ _ => rfl) fun _ _ => rfl) ha hb
theorem Ye (ha : DO X cls pn a ma) (hb : DO X cls pn b mb) : DE X cls pn (.BinOp a .Mod b pos) (Qa zng ma mb) := Ul zmr (zgf (fun _ _ => rfl) fun _ _ => rfl) ha hb
theorem zds (ha : DO X cls pn a ma) (hb : DO X cls pn b mb) : DE X cls pn (.BinOp a .Pow b pos) (Qa znh ma mb) := Ul zms (zgf (fun _ _ => rfl) fun _ _ => rfl) ha hb
theorem Ja (ha : DO X cls pn a ma) (hb : DO X cls pn b mb) : DE X cls pn (.BinOp a .Add b pos) (Qa Wj ma mb) := Ul zfR zbn ha hb
theorem Js (ha : DO X cls pn a ma) (hb : DO X cls pn b mb) : DF X cls pn (.BinOp a .Add b pos) (zdf zgh ma mb) := zn1 zmJ zm_ ha hb
theorem Vs (ho : jV X (bA op) r) (hk : jr ⟨X.K, cls⟩ r f) (ha : DO X cls pn a ma) (hb : DO X cls pn b mb) (hm : di op b = false) : DE X cls pn (.Compare a [op] [b] pos) (Qa f ma mb) :=
 let ⟨_, pa, ja⟩ := ha.h; let ⟨_, pb, jb⟩ := hb.h; ⟨_, zk5 ho pa pb hm, Yq hk ja jb⟩
theorem yE (ho : jV X (bA op) r) (hk : jr ⟨X.K, cls⟩ r f) (ha : DO X cls pn a ma) (hb : DO X cls pn b mb) (hm : di op b = false) : DT X cls pn (.Compare a [op] [b] pos) (mB (Qa f ma mb)) :=
 let ⟨_, pa, ja⟩ := ha.h; let ⟨_, pb, jb⟩ := hb.h; ⟨_, zk6 ho pa pb hm, ze1 (Yq hk ja jb)⟩
def fLt : F2 := Qe fun i j => .bl (decide (i < j))
def fLe : F2 := Qe fun i j => .bl (decide (i <= j))
def fGt : F2 := Qe fun i j => .bl (decide (j < i))
def fGe : F2 := Qe fun i j => .bl (decide (j <= i))
theorem zgl : jr ⟨X.K, cls⟩ (YY fun i j => .bl (decide (i < j))) fLt := Wh (fun _ _ => rfl) fun _ _ => rfl
theorem ZN : jr ⟨X.K, cls⟩ (YY fun i j => .bl (decide (i <= j))) fLe := Wh (fun _ _ => rfl) fun _ _ => rfl
theorem zn2 : jr ⟨X.K, cls⟩ (YY fun i j => .bl (decide (j < i))) fGt := Wh (fun _ _ => rfl) fun _ _ => rfl
theorem zn3 : jr ⟨X.K, cls⟩ (YY fun i j => .bl (decide (j <= i))) fGe := Wh (fun _ _ => rfl) fun _ _ => rfl
theorem Rp (ho : jV X (bA op) r) (hk : jr ⟨X.K, cls⟩ r f) (ho' : jV X (bA op') r') (hk' : jr ⟨X.K, cls⟩ r' f') (ha : DE X cls pn a m1) (hb : DE X cls pn b m2) (hc : DE X cls pn c m3)
 (hm : gQ [op, op'] [b, c] = false := by with_unfolding_all rfl) : DE X cls pn (.Compare a [op, op'] [b, c] pos) (Vr f f' m1 m2 m3) :=
 let ⟨_, pa, ja⟩ := ha.h; let ⟨_, pb, jb⟩ := hb.h; let ⟨_, pc, jc⟩ := hc.h; ⟨_, ziZ ho ho' pa pb pc hm, zdr hk hk' ja jb jc⟩
theorem zjA (ho : jV X (bA op) r) (hk : jr ⟨X.K, cls⟩ r f) (ho' : jV X (bA op') r') (hk' : jr ⟨X.K, cls⟩ r' f') (ha : DE X cls pn a m1) (hb : DE X cls pn b m2) (hc : DE X cls pn c m3)
 (hm : gQ [op, op'] [b, c] = false := by with_unfolding_all rfl) : DT X cls pn (.Compare a [op, op'] [b, c] pos) (mB (Vr f f' m1 m2 m3)) :=
 let ⟨_, pa, ja⟩ := ha.h; let ⟨_, pb, jb⟩ := hb.h; let ⟨_, pc, jc⟩ := hc.h; ⟨_, zi0 ho ho' pa pb pc hm, ze1 (zdr hk hk' ja jb jc)⟩
theorem Zr (h : DE X cls pn e m) (he : ∀ whole, isTrue e X.env whole = (do let v ← whole; fg e.pos; cW [v] (truthy v)) := by intro _; kernel_rfl) : DT X cls pn e (mB m) := let ⟨_, a, b⟩ := h.h; ⟨_, zl5 a he, zoL b⟩
theorem zni (h : DO X cls pn e m) (he : ∀ whole, isTrue e X.env whole = (do let v ← whole; fg e.pos; cW [v] (truthy v)) := by intro _; kernel_rfl) : DT X cls pn e (zgk m) := let ⟨_, a, b⟩ := h.h; ⟨_, zi2 a he, znc b⟩
theorem Vt (h : DT X cls pn a m) : DT X cls pn (.UnaryOp .Not a pos) (zf7 m) := let ⟨_, a, b⟩ := h.h; ⟨_, zl8 a, zmS b⟩
theorem zgm (h : DW X cls pn e m) : DT X cls pn e m := let ⟨_, a, b⟩ := h.h; ⟨_, a.pt, b⟩
theorem zad (h : DT X cls pn a m) : DW X cls pn (.BoolOp .Or [a] pos) m := let ⟨_, a, b⟩ := h.h; ⟨_, zl7 a, b⟩
theorem Wl (h : DT X cls pn a m) (r : DW X cls pn (.BoolOp .Or (b :: es) pos) n) : DW X cls pn (.BoolOp .Or (a :: b :: es) pos) (mOr m n) := let ⟨_, a, b⟩ := h.h; let ⟨_, c, d⟩ := r.h; ⟨_, znO a c, znY b d⟩
theorem Yf (h : DE X cls pn a m) : DE X cls pn (.BoolOp op [a] pos) m := let ⟨_, a, b⟩ := h.h; ⟨_, zl9 a, b⟩
theorem Yg (h : DE X cls pn a m) (r : DE X cls pn (.BoolOp .And (b :: es) pos) n) : DE X cls pn (.BoolOp .And (a :: b :: es) pos) (zcJ m n) := let ⟨_, a, b⟩ := h.h; let ⟨_, c, d⟩ := r.h; ⟨_, zl_ a c, zmT b d⟩
theorem znj (h : DE X cls pn a m) : DE X cls pn (.UnaryOp .Not a pos) (zcK m) := let ⟨_, a, b⟩ := h.h; ⟨_, zma a, zmU b⟩
def fIx : F2 := fun x y q => match x with | .tup _ => zdo x y q | .str _ => zdp x y q | _ => Ro x y q
theorem zn4 : jr ⟨X.K, cls⟩ (rIx X.K) fIx := fun E H x y dx dy Q q hE rx ry h k => by
 unfold fIx at h
 split at h
 · exact .inr (.inl (zm6 E H x y _ dy Q q hE rx ry h k))
 · exact .inr (.inr (zm7 E H x y _ dy Q q hE rx ry h k))
 · exact .inl (zm5 E H x y _ dy Q q hE rx ry h k)
theorem zH (ha : DO X cls pn a ma) (hb : DO X cls pn b mb) (hs : zeR b) : DE X cls pn (.Subscript a b pos) (Qa fIx ma mb) :=
 let ⟨_, pa, ja⟩ := ha.h; let ⟨_, pb, jb⟩ := hb.h; ⟨_, znT zmE pa pb hs, Yq zn4 ja jb⟩
theorem ze7 : DP X cls pn none zbo := ⟨_, zlb, zlz⟩
theorem ze8 (h : DE X cls pn e m) : DP X cls pn (some e) (zcQ m) := let ⟨_, a, b⟩ := h.h; ⟨_, zlc a, zlA b⟩
theorem zhN (ha : DO X cls pn a ma) (hl : DP X cls pn lo l) (hu : DP X cls pn hi u) : DF X cls pn (.Subscript a (.Slice lo hi none p2) pos) (zgg ma l u) :=
 let ⟨_, a, b⟩ := ha.h; let ⟨_, c, d⟩ := hl.h; let ⟨_, e, f⟩ := hu.h; ⟨_, zi8 zld a c e, zm9 b d f⟩
theorem zcU {id : String} {r : List V -> Hp -> VK -> Prop} {f : F1} (hc : jt X (.builtin id) r) (hk : QE ⟨X.K, cls⟩ (fun y => r [y]) f) (hg : Gl X x) (hm : X.mg x = none) (hv : bN x = some (.builtin id)) (ha : DO X cls pn a ma)
 (hs : ap [a] X.env = [(false, eval a X.env)] := by kernel_rfl) (hn : x ≠ "__name__" := by decide) (hd : (x == ("__debug__" : Str)) = false := by decide) : DE X cls pn (.Call (.Name x p) [a] [] pos) (Jz f ma) :=
 let ⟨_, pa, ja⟩ := ha.h; ⟨_, QW hc hg hm hv (yQ pa jJ hs) hn hd hs rfl, zde hk ja⟩
theorem zkL {id : String} {r : List V -> Hp -> VK -> Prop} {f : F1} (hc : jt X (.type id) r) (hk : QE ⟨X.K, cls⟩ (fun y => r [y]) f) (hg : Gl X x) (hm : X.mg x = none) (hv : bN x = some (.type id)) (ha : DO X cls pn a ma)
 (hs : ap [a] X.env = [(false, eval a X.env)] := by kernel_rfl) (hn : x ≠ "__name__" := by decide) (hd : (x == ("__debug__" : Str)) = false := by decide) : DE X cls pn (.Call (.Name x p) [a] [] pos) (Jz f ma) :=
 let ⟨_, pa, ja⟩ := ha.h; ⟨_, Yp hc hg hm hv (yQ pa jJ hs) hn hd hs rfl, zde hk ja⟩
theorem zn5 {id : String} {r : List V -> Hp -> VK -> Prop} {f : FL1} (hc : jt X (.type id) r) (hk : zdh ⟨X.K, cls⟩ (fun y => r [y]) f) (hg : Gl X x) (hm : X.mg x = none) (hv : bN x = some (.type id)) (ha : DO X cls pn a ma)
 (hs : ap [a] X.env = [(false, eval a X.env)] := by kernel_rfl) (hn : x ≠ "__name__" := by decide) (hd : (x == ("__debug__" : Str)) = false := by decide) : DF X cls pn (.Call (.Name x p) [a] [] pos) (Wa f ma) :=
 let ⟨_, pa, ja⟩ := ha.h; ⟨_, Yp hc hg hm hv (yQ pa jJ hs) hn hd hs rfl, zjj hk ja⟩
theorem zgn {id : String} {r : List V -> Hp -> VK -> Prop} {f : F2} (hc : jt X (.builtin id) r) (hk : jr ⟨X.K, cls⟩ (fun y z => r [y, z]) f) (hg : Gl X x) (hm : X.mg x = none) (hv : bN x = some (.builtin id)) (ha : DO X cls pn a ma) (hb : DO X cls pn b mb)
 (hs : ap [a, b] X.env = (false, eval a X.env) :: ap [b] X.env := by kernel_rfl) (hs2 : ap [b] X.env = [(false, eval b X.env)] := by kernel_rfl) (hp : (backTo pos (ap [b] X.env)).any (·.1) = false := by kernel_rfl)
 (hn : x ≠ "__name__" := by decide) (hd : (x == ("__debug__" : Str)) = false := by decide) : DE X cls pn (.Call (.Name x p) [a, b] [] pos) (Qa f ma mb) :=
 let ⟨_, pa, ja⟩ := ha.h; let ⟨_, pb, jb⟩ := hb.h; ⟨_, QW hc hg hm hv (yQ pa (yQ pb jJ hs2) hs) hn hd hs hp, zji hk ja jb⟩
theorem jL (hg : Gl X "len") (hm : X.mg "len" = none) (ha : DO X cls pn a ma) (hs : ap [a] X.env = [(false, eval a X.env)] := by kernel_rfl) : DE X cls pn (.Call (.Name "len" p) [a] [] pos) (Jz zjy ma) :=
 zcU zi3 zm8 hg hm (by kernel_rfl) ha hs
theorem Vu (hc : X.calm = true) (hg : Gl X "all") (hm : X.mg "all" = none) (ha : DO X cls pn a ma) (hs : ap [a] X.env = [(false, eval a X.env)] := by kernel_rfl) : DE X cls pn (.Call (.Name "all" p) [a] [] pos) (Jz zgi ma) :=
 zcU (zjh hc) znb hg hm (by kernel_rfl) ha hs
theorem zlH (hg : Gl X "int") (hm : X.mg "int" = none) (ha : DO X cls pn a ma) (hs : ap [a] X.env = [(false, eval a X.env)] := by kernel_rfl) : DE X cls pn (.Call (.Name "int" p) [a] [] pos) (Jz zjz ma) :=
 zkL zhd zna hg hm (by kernel_rfl) ha hs
theorem j6 (hg : Gl X "list") (hm : X.mg "list" = none) (ha : DO X cls pn a ma) (hs : ap [a] X.env = [(false, eval a X.env)] := by kernel_rfl) : DF X cls pn (.Call (.Name "list" p) [a] [] pos) (Wa zcR ma) :=
 zn5 zda zlC hg hm (by kernel_rfl) ha hs
theorem zlI (hc : X.calm = true) (hg : Gl X "max") (hm : X.mg "max" = none) (ha : DO X cls pn a ma) (hb : DO X cls pn b mb) (hs : ap [a, b] X.env = (false, eval a X.env) :: ap [b] X.env := by kernel_rfl) (hs2 : ap [b] X.env = [(false, eval b X.env)] := by kernel_rfl)
 (hp : (backTo pos (ap [b] X.env)).any (·.1) = false := by kernel_rfl) : DE X cls pn (.Call (.Name "max" p) [a, b] [] pos) (Qa zcS ma mb) := zgn (zhb hc) zlD hg hm (by kernel_rfl) ha hb hs hs2 hp
theorem ze9 (hc : X.calm = true) (hg : Gl X "min") (hm : X.mg "min" = none) (ha : DO X cls pn a ma) (hb : DO X cls pn b mb) (hs : ap [a, b] X.env = (false, eval a X.env) :: ap [b] X.env := by kernel_rfl) (hs2 : ap [b] X.env = [(false, eval b X.env)] := by kernel_rfl)
 (hp : (backTo pos (ap [b] X.env)).any (·.1) = false := by kernel_rfl) : DE X cls pn (.Call (.Name "min" p) [a, b] [] pos) (Qa zcT ma mb) := zgn (zhc hc) zlE hg hm (by kernel_rfl) ha hb hs hs2 hp
theorem ZX (hg : Gl X "isinstance") (hm : X.mg "isinstance" = none) (ha : DO X cls pn a ma) (hb : DO X cls pn b mb) (hs : ap [a, b] X.env = (false, eval a X.env) :: ap [b] X.env := by kernel_rfl) (hs2 : ap [b] X.env = [(false, eval b X.env)] := by kernel_rfl)
 (hp : (backTo pos (ap [b] X.env)).any (·.1) = false := by kernel_rfl) : DE X cls pn (.Call (.Name "isinstance" p) [a, b] [] pos) (Qa zab ma mb) := zgn zdb zlF hg hm (by kernel_rfl) ha hb hs hs2 hp
end
structure HM (P : Program) (w : World) (K : aj) (mg : Str -> Option Value) (base : Heap) (cls : Nat -> Option Addr) (x : Str) (k : Nat) (ps : List Str) (pn : List Nat) (fr : Bool) (p : Y3) : Prop where
 has : Has P w K mg base x k ps (yr ⟨K, cls⟩ pn fr ps.length p)
 len : ∀ ss q, p ss q Z0 -> ss.length = ps.length
section
variable {X : Cx} {cls : Nat -> Option Addr} {pn : List Nat} {a b c e o tg iter : Expr} {es : List Expr} {pos p pos' apos cpos : Pos} {x : Str} {ma mb : MO} {st : Stmt} {sts : List Stmt} {fr : Bool}
theorem z3 : DSs X cls pn fr [] zf8 := ⟨_, zkZ, zln⟩
theorem zg (h : DS X cls pn fr st m) (r : DSs X cls pn fr sts n) : DSs X cls pn fr (st :: sts) (zjk m n) := let ⟨_, a, b⟩ := h.h; let ⟨_, c, d⟩ := r.h; ⟨_, ziR a c, zmV b d⟩
theorem zk (h : DS X cls pn fr st m) : DSs X cls pn fr [st] m := let ⟨_, a, b⟩ := h.h; ⟨_, zk0 a, b⟩
theorem zjB : DS X cls pn fr st zdi := ⟨_, ziT, zjl⟩
theorem yu (h : DE X cls pn e m) (hs : du e none pos.line X.env = pure false := by kernel_rfl) : DS X cls pn fr (.Expr e pos) (zcL m) := let ⟨_, a, b⟩ := h.h; ⟨_, zk1 a hs, zlo b⟩
theorem zC (h : DE X cls pn e m) : DS X cls pn false (.Return (some e) pos) (zbh m) := let ⟨_, a, b⟩ := h.h; ⟨_, zg5 a, zmW b⟩
theorem zlJ (h : DF X cls pn e m) : DS X cls pn true (.Return (some e) pos) (zbh m) := let ⟨_, a, b⟩ := h.h; ⟨_, zg5 a, zlp b⟩
theorem yI (h : DT X cls pn c t) (h1 : DSs X cls pn fr s1 m) (h2 : DSs X cls pn fr s2 n) : DS X cls pn fr (.If c s1 s2 pos) (zf9 t m n) :=
 let ⟨_, a, b⟩ := h.h; let ⟨_, c, d⟩ := h1.h; let ⟨_, e, f⟩ := h2.h; ⟨_, znP a c e, znZ b d f⟩
theorem zV (hi' : i ∉ pn) (hN : X.N.Nodup) (hi : X.N[i]? = some x) (hx : Loc X.env.scope x) (he : DE X cls pn e m) (hs : du e (some (.Name x pos')) pos.line X.env = pure false := by kernel_rfl)
 (hf : X.fn x = true \/ X.env.scope.names.lookup x = some .local := by first | exact .inl rfl | exact .inr rfl | assumption) : DS X cls pn fr (.Assign [.Name x pos'] e pos) (zdj i m) :=
 let ⟨_, a, b⟩ := he.h; ⟨_, zg7 hN hi hx a hs hf, zhx hi' b⟩
theorem Zs (hi' : i ∉ pn) (hN : X.N.Nodup) (hi : X.N[i]? = some x) (hx : Loc X.env.scope x) (he : DF X cls pn e m) (hs : du e (some (.Name x pos')) pos.line X.env = pure false := by kernel_rfl)
 (hf : X.fn x = true \/ X.env.scope.names.lookup x = some .local := by first | exact .inl rfl | exact .inr rfl | assumption) : DS X cls pn fr (.Assign [.Name x pos'] e pos) (Wc i m) :=
 let ⟨_, a, b⟩ := he.h; ⟨_, zg7 hN hi hx a hs hf, zhy hi' b⟩
theorem zR (hi' : i ∉ pn) (hN : X.N.Nodup) (hi : X.N[i]? = some x) (hx : Loc X.env.scope x) (hf : X.fn x = true \/ X.env.scope.names.lookup x = some .local := by first | exact .inl rfl | exact .inr rfl | assumption) : DG X cls pn (.Name x pos) (zdk i) :=
 ⟨_, zk2 hN hi hx hf, zlq hi'⟩
theorem ze_ : DGs X cls pn [] zf_ := ⟨_, zk3, zlr⟩
theorem Um (h : DG X cls pn e m) (r : DGs X cls pn es n) (hs : (cv (e :: es) X.env).map (·.2) = assign e X.env :: (cv es X.env).map (·.2) := by kernel_rfl) : DGs X cls pn (e :: es) (zdl m n) :=
 let ⟨_, a, b⟩ := h.h; let ⟨_, c, d⟩ := r.h; ⟨_, ziV a c hs, zjm b d⟩
theorem zhO (hc : X.calm = true) (h : DGs X cls pn es m) (hn : (cv es X.env).length = n := by kernel_rfl) (hst : (cv es X.env).findIdx? (·.1) = none := by kernel_rfl) : DG X cls pn (.Tuple es k pos) (zga m n) :=
 let ⟨_, a, b⟩ := h.h; ⟨_, zmf hc a hn hst, zmX b⟩
theorem yB (h : DE X cls pn iter m) : DI X cls pn tg iter (R6 m) := let ⟨_, a, b⟩ := h.h; ⟨_, zk4 a, zls b⟩
theorem znk (h : DE X cls pn iter m) : DI X cls pn tg iter (zcM m) := let ⟨_, a, b⟩ := h.h; ⟨_, zmM a, zmZ b⟩
theorem Je (hg : Gl X "range") (hm : X.mg "range" = none) (h : DA X cls pn [a] m) (hs : ap [a] X.env = [(false, eval a X.env)] := by kernel_rfl) : DI X cls pn tg (.Call (.Name "range" p) [a] [] pos) (Ue m) :=
 let ⟨_, a, b⟩ := h.h; ⟨_, zg9 hg hm a hs, zhA b⟩
theorem QG (hp : PassesOwn (model X.prog X.w) X.A X.env X.xe) (hc : X.calm = true) (hi : DI X cls pn tg iter mi) (hg : DG X cls pn tg mg) (hb : DSs X cls pn fr sts m) (hs : ∀ x, cp iter X.env x = pure x := by intro _; kernel_rfl) :
 DS X cls pn fr (.For tg iter sts [] pos) (zgb mi mg m) := let ⟨_, a, b⟩ := hi.h; let ⟨_, c, d⟩ := hg.h; let ⟨_, e, f⟩ := hb.h; ⟨_, zml hp hc a c e hs, zm0 b d f⟩
theorem yv : DTs X cls pn [] mTT := ⟨_, zle, zn0⟩
def Wm (js : List (Option Nat)) : Bool := decide ((js.filterMap id).Nodup)
theorem Once.of_b : ∀ {js : List (Option Nat)}, Wm js = true -> Once js
 | [], _ => fun k k' j h => by simp at h
 | none :: js, h => fun k k' j h1 h2 => by
  have ih := Once.of_b (js := js) (by simpa [Wm] using h)
  cases k with
  | zero => simp at h1
  | succ k => cases k' with
   | zero => simp at h2
   | succ k' => rw [ih k k' j (by simpa using h1) (by simpa using h2)]
 | some i :: js, h => fun k k' j h1 h2 => by
  have h' : ¬ i ∈ js.filterMap id /\ (js.filterMap id).Nodup := by simpa [Wm] using h
  have ih := Once.of_b (js := js) (by simpa [Wm] using h'.2)
  have no : ∀ k, js[k]? = some (some i) -> False := fun k hk => h'.1 (fT.mpr ⟨some i, dS hk, rfl⟩)
  cases k with
  | zero =>
   simp at h1; subst h1
   cases k' with
   | zero => rfl
   | succ k' => exact (no k' (by simpa using h2)).elim
  | succ k => cases k' with
   | zero => simp at h2; subst h2; exact (no k (by simpa using h1)).elim
   | succ k' => rw [ih k k' j (by simpa using h1) (by simpa using h2)]
variable {N' : List Str} {js : List (Option Nat)} {scope : Scope} {elt : Expr} {ifs : List Expr}
def znl (Γ : Cn) (pn : List Nat) (m : ME) : TE := fun σ H Q => ∃ (S : Fs) (ρ : Env) (τ : List (V × D)) (q : EK), Jx pn S /\ Rel Γ S H σ ρ τ /\ m ρ q /\ ∀ v d H' ρ', Rel Γ S H' σ ρ' τ -> Rep Γ (zJ S σ ρ') H' v d -> q d ρ' -> Q v H'
def znm (Γ : Cn) (pn : List Nat) (m : MT) : TT := fun σ H Q => ∃ (S : Fs) (ρ : Env) (τ : List (V × D)) (q : Bool -> Env -> Prop), Jx pn S /\ Rel Γ S H σ ρ τ /\ m ρ q /\ ∀ b H' ρ', Rel Γ S H' σ ρ' τ -> q b ρ' -> Q b H'
def znn (Γ : Cn) (pn : List Nat) (m : MG) : TG := fun v σ H Q => ∃ (S : Fs) (ρ : Env) (τ : List (V × D)) (d : D) (q : Env -> Prop), Jx pn S /\ Rel Γ S H σ ρ τ /\ Rep Γ (zJ S σ ρ) H v d /\ m d ρ q /\ ∀ σ' H' ρ', Rel Γ S H' σ' ρ' τ -> q ρ' -> Q σ' H'
theorem zhP : JE Γ pn (znl Γ pn m) m := fun S σ ρ H τ Q q hp R hm hq => ⟨S, ρ, τ, q, hp, R, hm, hq⟩
theorem zhQ : JT Γ pn (znm Γ pn m) m := fun S σ ρ H τ Q q hp R hm hq => ⟨S, ρ, τ, q, hp, R, hm, hq⟩
theorem zhR : JG Γ pn (znn Γ pn m) m := fun S σ ρ H τ v d Q q hp R r hm hq => ⟨S, ρ, τ, d, q, hp, R, r, hm, hq⟩
theorem DE.pe (h : DE X cls pn e m) : PE X e (znl ⟨X.K, cls⟩ pn m) := fun pins s σ H Q I ⟨S, ρ, τ, q, hp, R, hm, hq⟩ => let ⟨t, a, b⟩ := h.h; a pins s σ H Q I (b S σ ρ H τ Q q hp R hm hq)
theorem DTs.pt (h : DTs X cls pn es m) : PTs X es (znm ⟨X.K, cls⟩ pn m) := fun pins s σ H Q I ⟨S, ρ, τ, q, hp, R, hm, hq⟩ => let ⟨t, a, b⟩ := h.h; a pins s σ H Q I (b S σ ρ H τ Q q hp R hm hq)
theorem DG.pg (h : DG X cls pn e m) : PG X e (znn ⟨X.K, cls⟩ pn m) := fun pins s σ H v u Q I r ⟨S, ρ, τ, d, q, hp, R, rd, hm, hq⟩ => let ⟨t, a, b⟩ := h.h; a pins s σ H v u Q I r (b S σ ρ H τ v d Q q hp R rd hm hq)
theorem yR (hc : X.calm = true) (K : CompOk X N' js scope) (h1 : Wm js = true) (hi : DI X cls pn tg iter mi) (hg : ∀ s2 H2 fp C cl, DG (yV X N' scope cl C s2 H2 fp) cls (WG js) tg g)
 (ht : ∀ s2 H2 fp C cl, DTs (yV X N' scope cl C s2 H2 fp) cls (WG js) ifs t) (he : ∀ s2 H2 fp C cl, DE (yV X N' scope cl C s2 H2 fp) cls (WG js) elt m)
 (hs : ∀ x, cp iter X.env x = pure x := by intro _; kernel_rfl) : DF X cls pn (.ListComp elt [⟨tg, iter, ifs, 0⟩] scope pos) (R7 mi js g t m) :=
 let ⟨_, a, b⟩ := hi.h
 ⟨_, zlf hc K a (fun s2 H2 fp C cl => ⟨(hg s2 H2 fp C cl).pg, (ht s2 H2 fp C cl).pt, (he s2 H2 fp C cl).pe⟩) hs, ze2 (Once.of_b h1) b zhR zhQ zhP⟩
theorem Wn {py spos : Pos} (hi' : i ∉ pn) (hc : X.calm = true) (hN : X.N.Nodup) (hi0 : X.N[i]? = some y) (hy : X.env.scope.names.lookup y = some .local) (K : CompOk X N' js scope) (h1 : Wm js = true) (hi : DI X cls pn tg iter mi)
 (hg : ∀ s2 H2 fp C cl, DG (yV X N' scope cl C s2 H2 fp) cls (WG js) tg g) (ht : ∀ s2 H2 fp C cl, DTs (yV X N' scope cl C s2 H2 fp) cls (WG js) ifs t) (he : ∀ s2 H2 fp C cl, DE (yV X N' scope cl C s2 H2 fp) cls (WG js) elt m)
 (hsw : du (.ListComp elt [⟨tg, iter, ifs, 0⟩] scope pos) (some (.Name y py)) spos.line X.env = pure true := by kernel_rfl) (hs : ∀ x, cp iter X.env x = pure x := by intro _; kernel_rfl) :
 DS X cls pn fr (.Assign [.Name y py] (.ListComp elt [⟨tg, iter, ifs, 0⟩] scope pos) spos) (zdj i (R7 mi js g t m)) :=
 let ⟨_, a, b⟩ := hi.h
 ⟨_, zlg hc hN hi0 hy K a (fun s2 H2 fp C cl => ⟨(hg s2 H2 fp C cl).pg, (ht s2 H2 fp C cl).pt, (he s2 H2 fp C cl).pe⟩) hsw hs, zhx hi' (WF (ze2 (Once.of_b h1) b zhR zhQ zhP))⟩
theorem zbp {id : String} {r : V -> List V -> Hp -> VK -> Prop} {m : ME} {i : Nat} {name : Str} {mm : ME} (slot : PySem.Slot "list" name id) (hty : typeOf (.builtin id) = pure (.type "method_descriptor")) (hm : MtR X id r) (i' : X.N[i]? = some x) (hj : ∀ ta, JE ⟨X.K, cls⟩ pn ta m -> JE ⟨X.K, cls⟩ pn (tBM X.K "list" r (QB i) (J4 ta Zy)) mm) (ha : DE X cls pn e m)
 (hv : Z5 X.env.scope x) (hd : (x == ("__debug__" : Str)) = false) (hcd : (x == ("__classdict__" : Str)) = false)
 (hbase : bW (.Name x p) name X.env (eval (.Name x p) X.env) = eval (.Name x p) X.env) (hfew : ((backTo cpos (ap [e] X.env)).all (fun x => !x.1) && (eE cpos (cU [] X.env)).all (fun x => x.1.isSome)
  && decide (([e] : List Expr).length + ([] : List Keyword).length + (if ([] : List Keyword).isEmpty then 0 else 1) < 30)) = true) (hline : (apos.endLine == cpos.line) = true) (hs : ap [e] X.env = [(false, eval e X.env)]) :
 DE X cls pn (.Call (.Attribute (.Name x p) name apos) [e] [] cpos) mm :=
 let ⟨_, a, b⟩ := ha.h; ⟨_, zkB PySem.F.plainAttrs_list slot hty hm (QC i' hv hd hcd) (yQ a jJ hs) hbase hfew hline hs rfl, hj _ b⟩
theorem zb5 (i : Nat) (ha : DE X cls pn e m) (i' : X.N[i]? = some x := by kernel_rfl) (hv : Z5 X.env.scope x := by first | exact Or.inl rfl | exact Or.inr (Or.inl rfl) | exact Or.inr (Or.inr rfl)) (hd : (x == ("__debug__" : Str)) = false := by decide) (hcd : (x == ("__classdict__" : Str)) = false := by decide)
 (hbase : bW (.Name x p) "append" X.env (eval (.Name x p) X.env) = eval (.Name x p) X.env := by kernel_rfl) (hfew : ((backTo cpos (ap [e] X.env)).all (fun x => !x.1) && (eE cpos (cU [] X.env)).all (fun x => x.1.isSome)
  && decide (([e] : List Expr).length + ([] : List Keyword).length + (if ([] : List Keyword).isEmpty then 0 else 1) < 30)) = true := by kernel_rfl) (hline : (apos.endLine == cpos.line) = true := by kernel_rfl) (hs : ap [e] X.env = [(false, eval e X.env)] := by kernel_rfl) :
 DE X cls pn (.Call (.Attribute (.Name x p) "append" apos) [e] [] cpos) (Yr zbl i m) := zbp PySem.F.slot_list_append PySem.F.type_list_append zhl i' (fun _ => zhC) ha hv hd hcd hbase hfew hline hs
theorem zhS (i : Nat) (ha : DE X cls pn e m) (i' : X.N[i]? = some x := by kernel_rfl) (hv : Z5 X.env.scope x := by first | exact Or.inl rfl | exact Or.inr (Or.inl rfl) | exact Or.inr (Or.inr rfl)) (hd : (x == ("__debug__" : Str)) = false := by decide) (hcd : (x == ("__classdict__" : Str)) = false := by decide)
 (hbase : bW (.Name x p) "extend" X.env (eval (.Name x p) X.env) = eval (.Name x p) X.env := by kernel_rfl) (hfew : ((backTo cpos (ap [e] X.env)).all (fun x => !x.1) && (eE cpos (cU [] X.env)).all (fun x => x.1.isSome)
  && decide (([e] : List Expr).length + ([] : List Keyword).length + (if ([] : List Keyword).isEmpty then 0 else 1) < 30)) = true := by kernel_rfl) (hline : (apos.endLine == cpos.line) = true := by kernel_rfl) (hs : ap [e] X.env = [(false, eval e X.env)] := by kernel_rfl) :
 DE X cls pn (.Call (.Attribute (.Name x p) "extend" apos) [e] [] cpos) (Yr zbm i m) := zbp PySem.F.slot_list_extend PySem.F.type_list_extend zhm i' (fun _ => zhD) ha hv hd hcd hbase hfew hline hs
theorem zno (i : Nat) (ha : DE X cls pn e m) (i' : X.N[i]? = some x := by kernel_rfl) (hv : Z5 X.env.scope x := by first | exact Or.inl rfl | exact Or.inr (Or.inl rfl) | exact Or.inr (Or.inr rfl)) (hd : (x == ("__debug__" : Str)) = false := by decide) (hcd : (x == ("__classdict__" : Str)) = false := by decide)
 (hbase : bW (.Name x p) "pop" X.env (eval (.Name x p) X.env) = eval (.Name x p) X.env := by kernel_rfl) (hfew : ((backTo cpos (ap [e] X.env)).all (fun x => !x.1) && (eE cpos (cU [] X.env)).all (fun x => x.1.isSome)
  && decide (([e] : List Expr).length + ([] : List Keyword).length + (if ([] : List Keyword).isEmpty then 0 else 1) < 30)) = true := by kernel_rfl) (hline : (apos.endLine == cpos.line) = true := by kernel_rfl) (hs : ap [e] X.env = [(false, eval e X.env)] := by kernel_rfl) :
 DE X cls pn (.Call (.Attribute (.Name x p) "pop" apos) [e] [] cpos) (Yr zjs i m) := zbp PySem.F.slot_list_pop PySem.F.type_list_pop zjd i' (fun _ => zm2) ha hv hd hcd hbase hfew hline hs
theorem zdt (i : Nat) {pn' : Pos} (hv : DE X cls pn value v) (hi : DE X cls pn a m) (i' : X.N[i]? = some x := by kernel_rfl) (hvis : Z5 X.env.scope x := by first | exact Or.inl rfl | exact Or.inr (Or.inl rfl) | exact Or.inr (Or.inr rfl))
 (hd : (x == ("__debug__" : Str)) = false := by decide) (hcd : (x == ("__classdict__" : Str)) = false := by decide)
 (ha : ∀ v, assign (.Subscript (.Name x p) a pos) X.env v = (do
  let ov ← cW [v] (eval (.Name x p) X.env)
  let iv ← cW [v, ov] (eval a X.env)
  fg pos
  cW [v, ov, iv] (setItem ov iv v)
  release [v, ov, iv] []) := by intro _; kernel_rfl) (hs : swapsWithSole [.Subscript (.Name x p) a pos] value pn'.line X.env = pure false := by kernel_rfl) (hw : swappedStores [.Subscript (.Name x p) a pos] value X.env = pure none := by kernel_rfl)
 (h1 : (cv [.Subscript (.Name x p) a pos] X.env).map (·.2) = [assign (.Subscript (.Name x p) a pos) X.env] := by kernel_rfl) : DS X cls pn fr (.Assign [.Subscript (.Name x p) a pos] value pn') (R9 i m v) :=
 let ⟨_, pa, ja⟩ := hv.h; let ⟨_, pb, jb⟩ := hi.h; ⟨_, zmi pa (zmh (QC i' hvis hd hcd) pb zjb ha) hs hw h1, zjt ja jb⟩
theorem jA (ef : fx = yP f) (hf : f < fNames.length) (hn : QY ⟨X.K, cls⟩ (yP f)) (ha : DO X cls pn a ma) (hb : bW a fx X.env (eval a X.env) = eval a X.env := by kernel_rfl) : DE X cls pn (.Attribute a fx pos) (Jz (zju f) ma) := by
 subst ef
 exact let ⟨_, pa, ja⟩ := ha.h; ⟨_, zmx pa hb, zm3 hf hn ja⟩
theorem Jt (ef : fx = yP f) (hf : f < fNames.length) (hn : QY ⟨X.K, cls⟩ (yP f)) (hv : DE X cls pn value m) (i' : X.N[i]? = some x := by kernel_rfl)
 (hvis : Z5 X.env.scope x := by first | exact Or.inl rfl | exact Or.inr (Or.inl rfl) | exact Or.inr (Or.inr rfl)) (hd : (x == ("__debug__" : Str)) = false := by decide) (hcd : (x == ("__classdict__" : Str)) = false := by decide)
 (hs : du value (some (.Attribute (.Name x p) fx pos')) pos.line X.env = pure false := by kernel_rfl) : DS X cls pn fr (.Assign [.Attribute (.Name x p) fx pos'] value pos) (zcN i f m) := by
 subst ef
 exact let ⟨_, pa, ja⟩ := hv.h; ⟨_, zmy (QC i' hvis hd hcd) pa hs, zlu hf hn ja⟩
theorem zA (h : HM X.prog X.w X.K X.mg X.base cls x k ps [] false sp) (hr : Room k X.A) (hg : Gl X x) (ha : DA X cls pn (e :: es) m) (hd : (x == ("__debug__" : Str)) = false := by decide)
 (hs : ap (e :: es) X.env = (false, eval e X.env) :: ap es X.env := by kernel_rfl) (hp : (backTo pos (ap es X.env)).any (·.1) = false := by kernel_rfl) : DE X cls pn (.Call (.Name x p) (e :: es) [] pos) (Wg sp m) :=
 let ⟨_, pa, ja⟩ := ha.h; ⟨_, Ub h.has hr hg pa hd hs hp, M.je_call ja h.len⟩
theorem zlK (h : HM X.prog X.w X.K X.mg X.base cls x k ps [] true sp) (hr : Room k X.A) (hg : Gl X x) (ha : DA X cls pn (e :: es) m) (hd : (x == ("__debug__" : Str)) = false := by decide)
 (hs : ap (e :: es) X.env = (false, eval e X.env) :: ap es X.env := by kernel_rfl) (hp : (backTo pos (ap es X.env)).any (·.1) = false := by kernel_rfl) : DF X cls pn (.Call (.Name x p) (e :: es) [] pos) (Wg sp m) :=
 let ⟨_, pa, ja⟩ := ha.h; ⟨_, Ub h.has hr hg pa hd hs hp, zlv ja h.len⟩
theorem zF (h : HM X.prog X.w X.K X.mg X.base cls x k ps [0] false sp) (hr : Room k X.A) (hg : Gl X x) (ha : DA X cls pn es m) (j' : X.N[j]? = some y := by kernel_rfl)
 (hvis : Z5 X.env.scope y := by first | exact Or.inl rfl | exact Or.inr (Or.inl rfl) | exact Or.inr (Or.inr rfl)) (hyd : (y == ("__debug__" : Str)) = false := by decide) (hcd : (y == ("__classdict__" : Str)) = false := by decide) (hd : (x == ("__debug__" : Str)) = false := by decide)
 (hs : ap (.Name y py :: es) X.env = (false, eval (.Name y py) X.env) :: ap es X.env := by kernel_rfl) (hp : (backTo pos (ap es X.env)).any (·.1) = false := by kernel_rfl) : DE X cls pn (.Call (.Name x p) (.Name y py :: es) [] pos) (Vo j sp m) :=
 let ⟨_, pa, ja⟩ := ha.h; ⟨_, Ub h.has hr hg (yQ (QC j' hvis hyd hcd) pa hs) hd hs hp, zjw ja h.len⟩
structure HK (P : Program) (w : World) (K : aj) (mg : Str -> Option Value) (base : Heap) (cls : Nat -> Option Addr) (x : Str) (c k : Nat) (ps : List Str) (p : Y3) : Prop where
 has : ∃ C f fd, cls c = some C /\ Mk K C f /\ FnOk P w K mg base yD k f fd ps (yr ⟨K, cls⟩ [0] false ps.length p) /\ Binds K fd ps [] /\ mg x = some (.ref C)
 len : ∀ ss q, p ss q Z0 -> ss.length = ps.length
theorem J5 {c k : Nat} {ps : List Str} {sp : Y3} {m : MA} (h : HK X.prog X.w X.K X.mg X.base cls x c k ps sp) (hr : Room (k + 1) X.A) (hg : Gl X x) (ha : DA X cls pn (e :: es) m) (hd : (x == ("__debug__" : Str)) = false := by decide)
 (hs : ap (e :: es) X.env = (false, eval e X.env) :: ap es X.env := by kernel_rfl) (hp : (backTo pos (ap es X.env)).any (·.1) = false := by kernel_rfl) : DF X cls pn (.Call (.Name x p) (e :: es) [] pos) (zcO c sp m) := by
 obtain ⟨C, f, fd, hC, M, F, B, hm⟩ := h.has
 exact let ⟨_, pa, ja⟩ := ha.h; ⟨_, zla M F hr hg hm B .nil zfY pa hd hs hp, zlw hC ja h.len⟩
end
section
variable {Γ : Cn} {pn : List Nat} {fr : Bool} {E : St -> XK} {z : Nat -> Env -> Prop}
end
section
variable {X : Cx} {cls : Nat -> Option Addr} {pn : List Nat} {a b c e o tg iter : Expr} {es : List Expr} {pos p pos' apos cpos : Pos} {x : Str} {ma mb : MO} {st : Stmt} {sts : List Stmt} {fr : Bool} {E : St -> XK} {z : Nat -> Env -> Prop}
end
section
variable {X : Cx} {cls : Nat -> Option Addr} {pn : List Nat} {pos p np pc tp : Pos} {x n : Str}
def zcV (ds : List Addr) : TA := fun _ H Q => Q (ds.map V.ref) H
theorem zjC : PA X [] (zcV []) := jJ
theorem ZY (hg : Gl X x) (hm : X.mg x = some (.ref d)) (h : PA X es (zcV ds)) (hd : (x == ("__debug__" : Str)) = false := by decide) (hs : ap (.Name x pc :: es) X.env = (false, eval (.Name x pc) X.env) :: ap es X.env := by kernel_rfl) :
 PA X (.Name x pc :: es) (zcV (d :: ds)) := fun pos pins s σ H Q I q => yQ (zbd (v := .ref d) hg hm rfl hd) h hs pos pins s σ H Q I q
end
section
variable {Γ : Cn} {E : Addr -> Prop} {H : Hp}
end
end M
namespace L2
open PySem PySem.Spec PyProof.Rows
section
variable {prog : Program} {w : World} {A : Around} {E : Value -> Shared -> Prop} {s : Shared}
end
section
variable {X : Cx} {pos : Pos}
end
end L2
namespace M
open PySem L2
section
variable {Γ : Cn} {pn : List Nat} {X : Cx} {cls : Nat -> Option Addr} {es : List Expr} {pos : Pos}
end
def zlL : Y3 := fun ss q _ => ∃ ns : List Int, ss = [.val (.fz ns)] /\ ns.length <= 63 /\ q (.bl true) []
def zae (K : aj) : Sp := fun vs H Q _ => ∃ (a : Addr) (ns : List Int), vs = [.ref a] /\ jQ K H a (ns.map V.int) /\ ns.length <= 63 /\ ∀ H', Q (.bl true) H'
theorem zhT {cls : Nat -> Option Addr} (h : zae K vs H Q E) : yr ⟨K, cls⟩ [] false 1 zlL vs H Q E := by
 obtain ⟨a, ns, rfl, hS, hl, hQ⟩ := h
 have rep : Rep ⟨K, cls⟩ (fun _ => False) H (.ref a) (.fz ns) := .fz (hS.imp (fun z => ⟨id, z⟩) id)
 have no : ∀ i, ¬ yY [Slot.val (D.fz ns)] i := fun i ⟨o, h⟩ => by
  cases i with
  | zero => simp at h
  | succ i => simp at h
 have he : ∀ b, zJ ⟨fun _ => False, H, fun _ => none⟩ [some (.ref a)] [Slot.val (D.fz ns)] b -> False := fun b h => h.elim id fun ⟨i, hi, _⟩ => no i hi
 refine ⟨rfl, ⟨fun _ => False, H, fun _ => none⟩, [.val (.fz ns)], fun d _ => d = .bl true, fun _ _ => rfl, rfl, ?_, ⟨ns, rfl, hl, rfl⟩, fun v d H' σ' ρ' os ⟨R', r'⟩ _ q' => ?_⟩
 · exact {
    len := rfl
    val := fun i d h => by
     cases i with
     | zero => simp at h; subst h; exact ⟨_, rfl, rep.up (fun b _ z => he b z) fun _ _ _ z => z⟩
     | succ i => simp at h
    own := fun i o h => absurd ⟨o, h⟩ (no i)
    pin := fun i p h => by cases h
    inj := fun i j p hi => absurd hi (no i)
    dom := fun a h => aa h
    fr := fun b o h _ => h
    tmp := fun x h => nomatch h }
 · subst q'
   rw [Z9 r']
   exact hQ H'
inductive O (α : Type) where
 | no | ex (k : Nat) (ρ : Env) | ok (a : α) (ρ : Env)
section
variable {α β : Type}
def O.bind : O α -> (α -> Env -> O β) -> O β
 | .no, _ => .no
 | .ex k ρ, _ => .ex k ρ
 | .ok a ρ, f => f a ρ
def O.on (z : Nat -> Env -> Prop) (q : α -> Env -> Prop) : O α -> Prop
 | .no => False
 | .ex k ρ => z k ρ
 | .ok a ρ => q a ρ
def jG (q : α -> Prop) : Option α -> Prop
 | none => False
 | some a => q a
def jp (r : Option α) (ρ : Env) : O α := match r with | none => .no | some a => .ok a ρ
def gd (c : Prop) [Decidable c] (r : O α) : O α := if c then r else .no
theorem Jf {z : Nat -> Env -> Prop} {q : α -> Env -> Prop} : (jp r ρ).on z q -> jG (fun a => q a ρ) r := by
 cases r <;> exact id
theorem zgo {z : Nat -> Env -> Prop} {q : α -> Env -> Prop} {c : Prop} [Decidable c] {r : O α} (h : (gd c r).on z q) : c /\ r.on z q := by
 unfold gd at h
 split at h
 · exact ⟨‹_›, h⟩
 · exact aa h
abbrev G (α : Type) := Env -> O α
abbrev Mi (α : Type) := Env -> (α -> Env -> Prop) -> Prop
class Ag (z : Nat -> Env -> Prop) (m : Mi α) (g : G α) : Prop where
 h : ∀ ρ q, (g ρ).on z q -> m ρ q
theorem Ag.step {z : Nat -> Env -> Prop} [i : Ag z m g] {f : α -> Env -> O β} {q : β -> Env -> Prop} {k : α -> Env -> Prop} (h : ((g ρ).bind f).on z q) (hk : ∀ a ρ', (f a ρ').on z q -> k a ρ') : m ρ k := by
 refine i.h ρ k ?_
 cases e : g ρ with
 | no => rw [e] at h; exact h
 | ex j ρ' => rw [e] at h; exact h
 | ok a ρ' => rw [e] at h; exact hk a ρ' h
end
def Zf : Nat -> Env -> Prop := fun _ _ => False
variable {z : Nat -> Env -> Prop}
class ZB (f : F1) (h : D -> Option D) : Prop where
 h : ∀ x q, jG q (h x) -> f x q
class yX (f : F2) (h : D -> D -> Option D) : Prop where
 h : ∀ x y q, jG q (h x y) -> f x y q
class zjD (f : FL1) (h : D -> Option (List D)) : Prop where
 h : ∀ x q, jG q (h x) -> f x q
class znp (f : FL2) (h : D -> D -> Option (List D)) : Prop where
 h : ∀ x y q, jG q (h x y) -> f x y q
def Qx (g : Int -> Int -> D) : D -> D -> Option D
 | .int i, .int j => some (g i j)
 | _, _ => none
instance {g : Int -> Int -> D} : yX (Qe g) (Qx g) := ⟨fun x y q h => by
 unfold Qx at h
 split at h
 · exact h
 · exact aa h⟩
def hI (C : Int -> Int -> Prop) [∀ i j, Decidable (C i j)] (g : Int -> Int -> D) : D -> D -> Option D
 | .int i, .int j => if C i j then some (g i j) else none
 | _, _ => none
instance {C : Int -> Int -> Prop} [∀ i j, Decidable (C i j)] {g : Int -> Int -> D} : yX (fI C g) (hI C g) := ⟨fun x y q h => by
 unfold hI at h
 split at h
 · split at h
   · exact ⟨‹_›, h⟩
   · exact aa h
 · exact aa h⟩
instance {i j : Int} : Decidable (CMul i j) := inferInstanceAs (Decidable (_ \/ _))
instance {i j : Int} : Decidable (Rk i j) := inferInstanceAs (Decidable (_ /\ _))
def jj := Qx fun i j => .int (i + j)
def Ju := Qx fun i j => .int (i - j)
def Rq := hI CMul fun i j => .int (i * j)
def YN := hI (fun _ j => 0 < j) fun i j => .int (i % j)
def ZC := hI Rk fun i j => .int (i ^ j.toNat)
def WI := Qx fun i j => .bl (decide (i < j))
def U5 := Qx fun i j => .bl (decide (i <= j))
def hGt := Qx fun i j => .bl (decide (j < i))
def hGe := Qx fun i j => .bl (decide (j <= i))
def zaf := Qx fun i j => .int (if j > i then j else i)
def Ys := Qx fun i j => .int (if j < i then j else i)
instance : yX znd jj := inferInstanceAs (yX (Qe _) (Qx _))
instance : yX zne Ju := inferInstanceAs (yX (Qe _) (Qx _))
instance : yX znf Rq := inferInstanceAs (yX (fI _ _) (hI _ _))
instance : yX zng YN := inferInstanceAs (yX (fI _ _) (hI _ _))
instance : yX znh ZC := inferInstanceAs (yX (fI _ _) (hI _ _))
instance : yX fLt WI := inferInstanceAs (yX (Qe _) (Qx _))
instance : yX fLe U5 := inferInstanceAs (yX (Qe _) (Qx _))
instance : yX fGt hGt := inferInstanceAs (yX (Qe _) (Qx _))
instance : yX fGe hGe := inferInstanceAs (yX (Qe _) (Qx _))
instance : yX zcS zaf := inferInstanceAs (yX (Qe _) (Qx _))
instance : yX zcT Ys := inferInstanceAs (yX (Qe _) (Qx _))
def jg (x y : D) : Option D := (Vq x y).map D.bl
def ZF (x y : D) : Option D := (Vq x y).map fun b => D.bl (!b)
instance : yX fEq jg := ⟨fun x y q h => by
 unfold jg at h; unfold fEq
 cases e : Vq x y with
 | none => rw [e] at h; exact h
 | some b => rw [e] at h; exact h⟩
instance : yX fNe ZF := ⟨fun x y q h => by
 unfold ZF at h; unfold fNe
 cases e : Vq x y with
 | none => rw [e] at h; exact h
 | some b => rw [e] at h; exact h⟩
def yC (x y : D) : Option D := match x, y with | .str a, .str b => if a.length + b.length <= 100000 then some (.str (a ++ b)) else none | _, _ => none
instance : yX Wj yC := ⟨fun x y q h => by
 unfold yC at h
 split at h
 · split at h
   · exact ⟨‹_›, h⟩
   · exact aa h
 · exact aa h⟩
def ZD (x y : D) : Option D := match x, y with | .str a, .str b => some (.bl (!decide (b.cps.toList < a.cps.toList))) | _, _ => none
instance : yX zjx ZD := ⟨fun x y q h => by
 unfold ZD at h
 split at h
 · exact h
 · exact aa h⟩
def zz (x y : D) : Option D := match x, y with
 | .lst ds, .int i => (J9 ds.length i).map fun j => ds.getD j .non
 | .tup ds, .int i => (J9 ds.length i).map fun j => ds.getD j .non
 | .fz ns, .int i => (J9 ns.length i).map fun j => .int (ns.getD j 0)
 | .str w, .int i => if w.length <= 100000 then (J9 w.cps.toList.length i).map fun j => .str ⟨#[w.cps.toList.getD j 0]⟩ else none
 | _, _ => none
instance : yX fIx zz := ⟨fun x y q h => by
 unfold zz at h
 split at h
 · rename_i ds i
   show Ro (.lst ds) (.int i) q
   unfold Ro
   dsimp only
   cases e : J9 ds.length i with
   | none => rw [e] at h; exact h
   | some j => rw [e] at h; exact h
 · rename_i ds i
   show zdo (.tup ds) (.int i) q
   unfold zdo
   dsimp only
   cases e : J9 ds.length i with
   | none => rw [e] at h; exact h
   | some j => rw [e] at h; exact h
 · rename_i ds i
   show Ro (.fz ds) (.int i) q
   unfold Ro
   dsimp only
   cases e : J9 ds.length i with
   | none => rw [e] at h; exact h
   | some j => rw [e] at h; exact h
 · rename_i w i
   show zdp (.str w) (.int i) q
   unfold zdp
   dsimp only
   split at h
   · refine ⟨‹_›, ?_⟩
     cases e : J9 w.cps.toList.length i with
     | none => rw [e] at h; exact h
     | some j => rw [e] at h; exact h
   · exact aa h
 · exact aa h⟩
def y6 : D -> Option D
 | .lst ds => some (.int ds.length)
 | .tup ds => some (.int ds.length)
 | .fz ns => some (.int ns.length)
 | .kt xs => some (.int xs.length)
 | .str w => if w.length <= 100000 then some (.int w.length) else none
 | _ => none
instance : ZB zjy y6 := ⟨fun x q h => by
 cases x with
 | str w =>
  unfold y6 at h
  dsimp only at h
  split at h
  · exact ⟨‹_›, h⟩
  · exact aa h
 | _ => first | exact h | exact aa h⟩
def y7 (x y : D) : Option (List D) := match x, y with | .lst a, .lst b => if a.length + b.length <= 100000 then some (a ++ b) else none | _, _ => none
instance : znp zgh y7 := ⟨fun x y q h => by
 unfold y7 at h
 split at h
 · split at h
   · exact ⟨‹_›, h⟩
   · exact aa h
 · exact aa h⟩
def jZ : D -> Option (List D) | .lst a => some a | .tup a => some a | _ => none
instance : zjD zcR jZ := ⟨fun x q h => by cases x <;> first | exact h | exact aa h⟩
def zgp : D -> Option D | .int i => some (.int i) | .bl b => some (.int (if b then 1 else 0)) | _ => none
instance : ZB zjz zgp := ⟨fun x q h => by cases x <;> first | exact h | exact aa h⟩
def Yh : D -> Option D | .lst ds => (ZA ds).map fun bs => .bl (bs.all id) | _ => none
instance : ZB zgi Yh := ⟨fun x q h => by
 cases x with
 | lst ds =>
  unfold Yh at h
  show match ZA ds with | some bs => q (.bl (bs.all id)) | none => False
  dsimp only at h
  cases e : ZA ds with
  | none => rw [e] at h; exact h
  | some bs => rw [e] at h; exact h
 | _ => exact aa h⟩
def Zj (x y : D) : Option D := match Ql x, y with
 | some a, .ty b => (Yc a b).map D.bl
 | _, _ => none
instance : yX zab Zj := ⟨fun x y q h => by
 unfold Zj at h
 unfold zab
 split at h
 · rename_i a b e
   try rw [e]
   try dsimp only
   cases e2 : Yc a b with
   | none => rw [e2] at h; exact h
   | some r => rw [e2] at h; exact h
 · exact aa h⟩
def Yt : List (Nat × D) -> Nat -> Option D
 | [], _ => none
 | (g, d) :: r, f => if g = f then some d else Yt r f
theorem zdu {q : D -> Prop} : ∀ {fs : List (Nat × D)} {f : Nat}, jG q (Yt fs f) -> Wf fs f q
 | [], _, h => h
 | (g, d) :: r, f, h => by
  unfold Yt at h; unfold Wf
  split
  · rename_i e; rw [if_pos e] at h; exact h
  · rename_i e; rw [if_neg e] at h; exact zdu h
def jx (f : Nat) : D -> Option D | .obj c fs => if 11 <= c then Yt fs f else none | _ => none
instance {f : Nat} : ZB (zju f) (jx f) := ⟨fun x q h => by
 cases x with
 | obj c fs =>
  unfold jx at h
  dsimp only at h
  split at h
  · exact ⟨‹_›, zdu h⟩
  · exact aa h
 | _ => exact aa h⟩
def gC (d : D) : G D := fun ρ => .ok d ρ
instance {d : D} : Ag z (mC d) (gC d) := ⟨fun ρ q h => h⟩
def Uo (i : Nat) : G D := fun ρ => match ρ[i]? with
 | some (.val d) => .ok d ρ
 | some (.own o) => .ok o (ρ.set i (.val o))
 | _ => .no
instance {i : Nat} : Ag z (zdd i) (Uo i) := ⟨fun ρ q h => by
 unfold Uo at h; unfold zdd
 split at h
 · rename_i e; (try rw [e]); exact h
 · rename_i e; (try rw [e]); exact h
 · exact aa h⟩
def zb (i : Nat) : G D := fun ρ => match ρ[i]? with
 | some (.val d) => .ok d ρ
 | _ => .no
instance {i : Nat} : Ag z (RY i) (zb i) := ⟨fun ρ q h => by
 unfold zb at h; unfold RY
 split at h
 · rename_i e; (try rw [e]); exact h
 · exact aa h⟩
def zh (i : Nat) : G Opd := fun ρ => match ρ[i]? with
 | some (.val _) => .ok (.v i) ρ
 | some (.own _) => .ok (.v i) ρ
 | _ => .no
instance {i : Nat} : Ag z (mOv i) (zh i) := ⟨fun ρ q h => by
 unfold zh at h; unfold mOv
 split at h
 · rename_i e; (try rw [e]); exact h
 · rename_i e; (try rw [e]); exact h
 · exact aa h⟩
def gO (g : G D) : G Opd := fun ρ => (g ρ).bind fun d ρ' => .ok (.d d) ρ'
instance {m : ME} {g : G D} [Ag z m g] : Ag z (mO m) (gO g) := ⟨fun ρ q h => by
 unfold gO at h
 unfold mO
 exact Ag.step h fun _ _ h => h⟩
def Zk : Option Slot -> Option D
 | some (.val d) => some d
 | some (.own d) => some d
 | _ => none
def Opd.get (r : Opd) (ρ : Env) : Option D := match r with
 | .d x => some x
 | .v i => Zk ρ[i]?
theorem QH {r : Opd} {k : D -> Prop} (h : jG k (r.get ρ)) : r.on ρ k := by
 cases r with
 | d x => exact h
 | v i =>
  show V9 ρ[i]? k
  have h : jG k (Zk ρ[i]?) := h
  unfold Zk at h
  split at h
  · rename_i e; (try rw [e]); exact h
  · rename_i e; (try rw [e]); exact h
  · exact aa h
theorem Jl {α β : Type} {r : Option α} {f : α -> Option β} {q : β -> Prop} (h : jG q (r.bind f)) : jG (fun a => jG q (f a)) r := by
 cases r <;> exact h
theorem yN {α : Type} {r : Option α} {p q : α -> Prop} (h : jG p r) (k : ∀ a, p a -> q a) : jG q r := by
 cases r with
 | none => exact h
 | some a => exact k a h
def gNil : G (List D) := fun ρ => .ok [] ρ
def gCons (a : G D) (r : G (List D)) : G (List D) := fun ρ => (a ρ).bind fun d ρ1 => (r ρ1).bind fun ds ρ2 => .ok (d :: ds) ρ2
def zcW (ss : List Str) : G (List D) := fun ρ => .ok (ss.map D.str) ρ
instance : Ag z zf2 gNil := ⟨fun ρ q h => h⟩
instance {m : ME} {n : MA} {g : G D} {k : G (List D)} [Ag z m g] [Ag z n k] : Ag z (zcI m n) (gCons g k) := ⟨fun ρ q h => by
 unfold gCons at h
 unfold zcI
 exact Ag.step h fun _ _ h => Ag.step h fun _ _ h => h⟩
instance {ss : List Str} : Ag z (zf3 ss) (zcW ss) := ⟨fun ρ q h => h⟩
def zT (g : G (List D)) : G D := fun ρ => (g ρ).bind fun ds ρ' => gd (ds.length <= 1000) (.ok (.lst ds) ρ')
def gTup (g : G (List D)) : G D := fun ρ => (g ρ).bind fun ds ρ' => gd (ds.length <= 1000) (.ok (.tup ds) ρ')
instance {m : MA} {g : G (List D)} [Ag z m g] : Ag z (zf4 m) (zT g) := ⟨fun ρ q h => by
 unfold zT at h
 unfold zf4
 exact Ag.step h fun _ _ h => zgo h⟩
instance {m : MA} {g : G (List D)} [Ag z m g] : Ag z (zf5 m) (gTup g) := ⟨fun ρ q h => by
 unfold gTup at h
 unfold zf5
 exact Ag.step h fun _ _ h => zgo h⟩
def zf (f : D -> D -> Option D) (a b : G Opd) : G D := fun ρ => (a ρ).bind fun r ρ1 => (b ρ1).bind fun s ρ2 => jp ((r.get ρ2).bind fun x => (s.get ρ2).bind fun y => f x y) ρ2
instance {f : F2} {k : D -> D -> Option D} {a b : MO} {ga gb : G Opd} [i : yX f k] [Ag z a ga] [Ag z b gb] : Ag z (Qa f a b) (zf k ga gb) :=
 ⟨fun ρ q h => by
 unfold zf at h
 unfold Qa
 exact Ag.step h fun _ _ h => Ag.step h fun _ _ h => QH (yN (Jl (Jf h)) fun _ h => QH (yN (Jl h) fun _ h => i.h _ _ _ h))⟩
def zw (f : D -> Option D) (a : G Opd) : G D := fun ρ => (a ρ).bind fun r ρ1 => jp ((r.get ρ1).bind fun x => f x) ρ1
instance {f : F1} {k : D -> Option D} {a : MO} {ga : G Opd} [i : ZB f k] [Ag z a ga] : Ag z (Jz f a) (zw k ga) :=
 ⟨fun ρ q h => by
 unfold zw at h
 unfold Jz
 exact Ag.step h fun _ _ h => QH (yN (Jl (Jf h)) fun _ h => i.h _ _ h)⟩
def jD (f : D -> D -> Option (List D)) (a b : G Opd) : G D := fun ρ => (a ρ).bind fun r ρ1 => (b ρ1).bind fun s ρ2 => jp ((r.get ρ2).bind fun x => (s.get ρ2).bind fun y => (f x y).map D.lst) ρ2
theorem zbq {α β : Type} {r : Option α} {f : α -> β} {q : β -> Prop} (h : jG q (r.map f)) : jG (fun a => q (f a)) r := by
 cases r <;> exact h
instance {f : FL2} {k : D -> D -> Option (List D)} {a b : MO} {ga gb : G Opd} [i : znp f k] [Ag z a ga] [Ag z b gb] : Ag z (zdf f a b) (jD k ga gb) :=
 ⟨fun ρ q h => by
 unfold jD at h
 unfold zdf
 exact Ag.step h fun _ _ h => Ag.step h fun _ _ h => QH (yN (Jl (Jf h)) fun _ h => QH (yN (Jl h) fun _ h => i.h _ _ _ (zbq h)))⟩
def jH (f : D -> Option (List D)) (a : G Opd) : G D := fun ρ => (a ρ).bind fun r ρ1 => jp ((r.get ρ1).bind fun x => (f x).map D.lst) ρ1
instance {f : FL1} {k : D -> Option (List D)} {a : MO} {ga : G Opd} [i : zjD f k] [Ag z a ga] : Ag z (Wa f a) (jH k ga) :=
 ⟨fun ρ q h => by
 unfold jH at h
 unfold Wa
 exact Ag.step h fun _ _ h => QH (yN (Jl (Jf h)) fun _ h => i.h _ _ (zbq h))⟩
def asB (d : D) (ρ : Env) : O Bool := match d with | .bl b => .ok b ρ | _ => .no
def gB (g : G D) : G Bool := fun ρ => (g ρ).bind asB
instance {m : ME} {g : G D} [Ag z m g] : Ag z (mB m) (gB g) := ⟨fun ρ q h => by
 unfold gB at h
 unfold mB
 exact Ag.step h fun d _ h => by cases d <;> first | exact h | exact aa h⟩
def Yi (a b : G Bool) : G Bool := fun ρ => (a ρ).bind fun c ρ1 => if c = true then .ok true ρ1 else b ρ1
def Up (a : G Bool) : G Bool := fun ρ => (a ρ).bind fun c ρ1 => .ok (!c) ρ1
instance {a b : MT} {ga gb : G Bool} [Ag z a ga] [i : Ag z b gb] : Ag z (mOr a b) (Yi ga gb) := ⟨fun ρ q h => by
 unfold Yi at h
 unfold mOr
 exact Ag.step h fun c _ h => by
  cases c with
  | true => exact h
  | false => exact i.h _ _ h⟩
instance {a : MT} {ga : G Bool} [Ag z a ga] : Ag z (zf7 a) (Up ga) := ⟨fun ρ q h => by
 unfold Up at h
 unfold zf7
 exact Ag.step h fun c _ h => h⟩
def J6 (a b : G D) : G D := fun ρ => (a ρ).bind fun d ρ1 => (asB d ρ1).bind fun c ρ1 => if c = true then b ρ1 else .ok (.bl false) ρ1
def zag (a : G D) : G D := fun ρ => (a ρ).bind fun d ρ1 => (asB d ρ1).bind fun c ρ1 => .ok (.bl (!c)) ρ1
instance {a b : ME} {ga gb : G D} [Ag z a ga] [i : Ag z b gb] : Ag z (zcJ a b) (J6 ga gb) := ⟨fun ρ q h => by
 unfold J6 at h
 unfold zcJ
 exact Ag.step h fun d _ h => by
  cases d with
  | bl c =>
   cases c with
   | true => exact i.h _ _ h
   | false => exact h
  | _ => exact aa h⟩
instance {a : ME} {ga : G D} [Ag z a ga] : Ag z (zcK a) (zag ga) := ⟨fun ρ q h => by
 unfold zag at h
 unfold zcK
 exact Ag.step h fun d _ h => by
  cases d <;> first | exact h | exact aa h⟩
def Qf (f f' : D -> D -> Option D) (a b c : G D) : G D := fun ρ => (a ρ).bind fun x ρ1 => (b ρ1).bind fun y ρ2 => (jp (f x y) ρ2).bind fun d ρ2 => (asB d ρ2).bind fun k ρ2 => if k = true then (c ρ2).bind fun z ρ3 => jp (f' y z) ρ3 else .ok (.bl false) ρ2
theorem O.on_bind {α β : Type} {r : O α} {f : α -> Env -> O β} {q : β -> Env -> Prop} (h : (r.bind f).on z q) : r.on z fun a ρ => (f a ρ).on z q := by cases r <;> exact h
instance {f f' : F2} {k k' : D -> D -> Option D} {a b c : ME} {ga gb gc : G D} [i : yX f k] [j : yX f' k'] [Ag z a ga] [Ag z b gb] [Ag z c gc] : Ag z (Vr f f' a b c) (Qf k k' ga gb gc) :=
 ⟨fun ρ q h => by
 unfold Qf at h
 unfold Vr
 exact Ag.step h fun x _ h => Ag.step h fun y ρ2 h => by
    refine i.h _ _ _ (yN (Jf (O.on_bind h)) fun d h => ?_)
    cases d with
    | bl b =>
     cases b with
     | true =>
      show c ρ2 fun z ρ3 => f' y z fun e => q e ρ3
      have h : ((gc ρ2).bind fun z ρ3 => jp (k' y z) ρ3).on z q := h
      exact Ag.step h fun w ρ3 h => j.h _ _ _ (Jf h)
     | false => exact h
    | _ => exact aa h⟩
def zgq (x : D) : Option Bool := match x with | .str y => if y.length <= 100000 then some ((y.length : Int) != 0) else none | x => zgj x
def zdv (a : G Opd) : G Bool := fun ρ => (a ρ).bind fun r ρ1 => jp ((r.get ρ1).bind zgq) ρ1
instance {a : MO} {ga : G Opd} [Ag z a ga] : Ag z (zgk a) (zdv ga) := ⟨fun ρ q h => by
 unfold zdv at h
 unfold zgk
 exact Ag.step h fun r ρ1 h => QH (yN (Jl (Jf h)) fun x h => by
  cases x with
  | str y =>
   unfold zgq at h
   dsimp only at h
   split at h
   · exact ⟨‹_›, h⟩
   · exact aa h
  | _ => first | exact ⟨trivial, h⟩ | exact aa h)⟩
def ZZ : G (Option Int) := fun ρ => .ok none ρ
def asI (d : D) (ρ : Env) : O (Option Int) := match d with | .int i => .ok (some i) ρ | _ => .no
def Uq (g : G D) : G (Option Int) := fun ρ => (g ρ).bind asI
instance : Ag z zbo ZZ := ⟨fun ρ q h => h⟩
instance {m : ME} {g : G D} [Ag z m g] : Ag z (zcQ m) (Uq g) := ⟨fun ρ q h => by
 unfold Uq at h
 unfold zcQ
 exact Ag.step h fun d _ h => by cases d <;> first | exact h | exact aa h⟩
def zjE (x : D) (lo hi : Option Int) : Option D := match x with | .lst ds => some (.lst (Q0 ds lo hi)) | .fz ns => some (.lst ((Q0 ns lo hi).map D.int)) | _ => none
def Rr (a : G Opd) (l u : G (Option Int)) : G D := fun ρ => (a ρ).bind fun r ρ1 => (l ρ1).bind fun lo ρ2 => (u ρ2).bind fun hi ρ3 => jp ((r.get ρ3).bind fun x => zjE x lo hi) ρ3
instance {a : MO} {l u : MOI} {ga : G Opd} {gl gu : G (Option Int)} [Ag z a ga] [Ag z l gl] [Ag z u gu] : Ag z (zgg a l u) (Rr ga gl gu) :=
 ⟨fun ρ q h => by
 unfold Rr at h
 unfold zgg
 exact Ag.step h fun _ _ h => Ag.step h fun _ _ h => Ag.step h fun _ _ h => QH (yN (Jl (Jf h)) fun x h => by cases x <;> first | exact h | exact aa h)⟩
class AgG (m : MG) (g : D -> Env -> Option Env) : Prop where
 h : ∀ d ρ q, jG q (g d ρ) -> m d ρ q
class zgr (m : RZ) (g : List D -> Env -> Option Env) : Prop where
 h : ∀ d ρ q, jG q (g d ρ) -> m d ρ q
def zr (i : Nat) : D -> Env -> Option Env := fun d ρ => some (ρ.set i (.val d))
instance {i : Nat} : AgG (zdk i) (zr i) := ⟨fun d ρ q h => h⟩
def Ur : List D -> Env -> Option Env := fun ds ρ => match ds with | [] => some ρ | _ => none
def JY (g : D -> Env -> Option Env) (r : List D -> Env -> Option Env) : List D -> Env -> Option Env := fun ds ρ => match ds with | d :: ds => (g d ρ).bind fun ρ1 => r ds ρ1 | [] => none
instance : zgr zf_ Ur := ⟨fun d ρ q h => by cases d <;> exact h⟩
instance {g : MG} {r : RZ} {k : D -> Env -> Option Env} {l : List D -> Env -> Option Env} [i : AgG g k] [j : zgr r l] : zgr (zdl g r) (JY k l) := ⟨fun d ρ q h => by
 cases d with
 | nil => exact h
 | cons d ds => exact i.h _ _ _ (yN (Jl h) fun ρ1 h => j.h _ _ _ h)⟩
def Yu (g : List D -> Env -> Option Env) (n : Nat) : D -> Env -> Option Env := fun d ρ => match d with | .tup ds => if ds.length = n then g ds ρ else none | _ => none
instance {m : RZ} {n : Nat} {g : List D -> Env -> Option Env} [i : zgr m g] : AgG (zga m n) (Yu g n) := ⟨fun d ρ q h => by
 cases d with
 | tup ds =>
  unfold Yu at h
  dsimp only at h
  split at h
  · exact ⟨‹_›, i.h _ _ _ h⟩
  · exact aa h
 | _ => exact aa h⟩
def itL : D -> Option (List D) | .lst ds => some ds | .fz ns => some (ns.map D.int) | _ => none
def zW (g : G D) : G (List D) := fun ρ => (g ρ).bind fun d ρ' => jp (itL d) ρ'
instance {m : ME} {g : G D} [Ag z m g] : Ag z (R6 m) (zW g) := ⟨fun ρ q h => by
 unfold zW at h
 unfold R6
 exact Ag.step h fun d _ h => by cases d <;> first | exact h | exact aa h⟩
def itS : D -> Option (List D) | .str x => some (x.cps.toList.map fun c => D.str ⟨#[c]⟩) | _ => none
def Wo (g : G D) : G (List D) := fun ρ => (g ρ).bind fun d ρ' => jp (itS d) ρ'
instance {m : ME} {g : G D} [Ag z m g] : Ag z (zcM m) (Wo g) := ⟨fun ρ q h => by
 unfold Wo at h
 unfold zcM
 exact Ag.step h fun d _ h => by cases d <;> first | exact h | exact aa h⟩
def zbr : List D -> Option (List D) | [.int j] => if -1000000 <= j /\ j <= 1000000 then some (y9 0 j.toNat) else none | _ => none
def yU (g : G (List D)) : G (List D) := fun ρ => (g ρ).bind fun ds ρ' => jp (zbr ds) ρ'
instance {m : MA} {g : G (List D)} [Ag z m g] : Ag z (Ue m) (yU g) := ⟨fun ρ q h => by
 unfold yU at h
 unfold Ue
 exact Ag.step h fun ds _ h => by
  unfold zbr at h
  split at h
  · try dsimp only
    split at h
    · exact ⟨‹_›, h⟩
    · exact aa h
  · exact aa h⟩
def yO (g : D -> Env -> Option Env) (c : G Bool) (e : G D) : List D -> Env -> O (List D)
 | [], ρ => .ok [] ρ
 | d :: ds, ρ => (jp (g d ρ) ρ).bind fun ρ1 _ => (c ρ1).bind fun b ρ2 => if b = true then (e ρ2).bind fun y ρ3 => (yO g c e ds ρ3).bind fun ys ρ4 => .ok (y :: ys) ρ4 else yO g c e ds ρ2
theorem Rs {g : MG} {c : MT} {e : ME} {k : D -> Env -> Option Env} {gc : G Bool} {ge : G D} [i : AgG g k] [Ag z c gc] [Ag z e ge] : ∀ (ds acc : List D) (ρ : Env) (q : List D -> Env -> Prop), (yO k gc ge ds ρ).on z (fun ys ρ' => q (acc ++ ys) ρ') -> Wd g c e ds acc ρ q
 | [], acc, ρ, q, h => by
  have h : q (acc ++ []) ρ := h
  rw [aJ] at h
  exact h
 | d :: ds, acc, ρ, q, h => by
  have h := Jf (O.on_bind h)
  refine i.h _ _ _ (yN h fun ρ1 h => Ag.step h fun b ρ2 h => ?_)
  cases b with
  | true =>
   rw [if_pos rfl] at h ⊢
   refine Ag.step (g := ge) h fun y ρ3 h => ?_
   refine Rs (k := k) (gc := gc) (ge := ge) ds (acc ++ [y]) ρ3 q ?_
   have h := O.on_bind h
   have e : ∀ ys, acc ++ [y] ++ ys = acc ++ y :: ys := fun ys => by simp
   simp only [e]
   exact h
  | false =>
   rw [if_neg aw] at h ⊢
   exact Rs (k := k) (gc := gc) (ge := ge) ds acc ρ2 q h
def yF : G Bool := fun ρ => .ok true ρ
instance : Ag z mTT yF := ⟨fun ρ q h => h⟩
def znr (js : List (Option Nat)) (ρ1 : Env) : O (List D) -> O D
 | .ok ys ρb => .ok (.lst ys) (yc js ρb ρ1)
 | _ => .no
def yg (gi : G (List D)) (js : List (Option Nat)) (g : D -> Env -> Option Env) (c : G Bool) (e : G D) : G D := fun ρ => (gi ρ).bind fun ds ρ1 => gd (ds.length <= 100000) (znr js ρ1 (yO g c e ds (QF js ρ1)))
instance {mi : MI} {js : List (Option Nat)} {g : MG} {c : MT} {e : ME} {gi : G (List D)} {k : D -> Env -> Option Env} {gc : G Bool} {ge : G D} [Ag z mi gi] [AgG g k] [Ag Zf c gc] [Ag Zf e ge] : Ag z (R7 mi js g c e) (yg gi js k gc ge) :=
 ⟨fun ρ q h => by
 unfold yg at h
 unfold R7
 exact Ag.step h fun ds ρ1 h => by
    obtain ⟨a, h⟩ := zgo h
    refine ⟨a, Rs (z := Zf) (k := k) (gc := gc) (ge := ge) ds [] _ _ ?_⟩
    cases hc : yO k gc ge ds (QF js ρ1) with
    | no => rw [hc] at h; exact aa h
    | ex j ρ' => rw [hc] at h; exact aa h
    | ok ys ρb => rw [hc] at h; exact h⟩
inductive RF where
 | no | ex (k : Nat) | ok (d : D) (os : List D)
abbrev Fn := List Slot -> RF
def zo (F : Fn) : Y3 := fun ss q z => match F ss with
 | .no => False
 | .ex k => z (.exc k) []
 | .ok d os => q d os
def zcX (r : RF) (ρ : Env) : O D := match r with | .ok d _ => .ok d ρ | _ => .no
def zB (F : Fn) (a : G (List D)) : G D := fun ρ => (a ρ).bind fun ds ρ1 => zcX (F (ds.map .val)) ρ1
instance {F : Fn} {a : MA} {ga : G (List D)} [Ag z a ga] : Ag z (Wg (zo F) a) (zB F ga) := ⟨fun ρ q h => by
 unfold zB at h
 unfold Wg
 exact Ag.step h fun ds ρ1 h => by
  unfold zo
  cases e : F (ds.map .val) with
  | no => rw [e] at h; exact h
  | ex k => rw [e] at h; exact aa h
  | ok d os => rw [e] at h; exact h⟩
def YO : Option Slot -> Option D | some (.own o) => some o | _ => none
def zah (j : Nat) (r : RF) (ρ : Env) : O D := match r with | .ok d [o] => .ok d (ρ.set j (.own o)) | _ => .no
def zm (j : Nat) (F : Fn) (a : G (List D)) : G D := fun ρ => (jp (YO ρ[j]?) ρ).bind fun _ ρ => (a ρ).bind fun ds ρ1 => (jp (YO ρ1[j]?) ρ1).bind fun o ρ1 => zah j (F (.own o :: ds.map .val)) ρ1
theorem Vv (h : YO s = some o) : s = some (.own o) := by
 unfold YO at h
 split at h
 · cases h; rfl
 · cases h
instance {j : Nat} {F : Fn} {a : MA} {ga : G (List D)} [Ag z a ga] : Ag z (Vo j (zo F) a) (zm j F ga) := ⟨fun ρ q h => by
 unfold zm at h; unfold Vo
 cases e : YO ρ[j]? with
 | none => rw [e] at h; exact aa h
 | some o =>
  rw [Vv e]
  rw [e] at h
  have h : ((ga ρ).bind fun ds ρ1 => (jp (YO ρ1[j]?) ρ1).bind fun o ρ1 => zah j (F (.own o :: ds.map .val)) ρ1).on z q := h
  refine Ag.step h fun ds ρ1 h => ?_
  cases e1 : YO ρ1[j]? with
  | none => rw [e1] at h; exact aa h
  | some o1 =>
   rw [Vv e1]
   rw [e1] at h
   have h : (zah j (F (.own o1 :: ds.map .val)) ρ1).on z q := h
   show zo F (.own o1 :: ds.map .val) _ Z0
   unfold zo
   cases e2 : F (.own o1 :: ds.map .val) with
   | no => rw [e2] at h; exact h
   | ex k => rw [e2] at h; exact aa h
   | ok d os =>
    rw [e2] at h
    match os, h with
    | [], h => exact aa h
    | [o'], h => exact h
    | _ :: _ :: _, h => exact aa h⟩
def Us (r : RF) (ρ : Env) : O D := match r with | .ok .non [o] => .ok o ρ | _ => .no
def j2 (c : Nat) (F : Fn) (a : G (List D)) : G D := fun ρ => (a ρ).bind fun ds ρ1 => Us (F (.own (.obj c []) :: ds.map .val)) ρ1
instance {c : Nat} {F : Fn} {a : MA} {ga : G (List D)} [Ag z a ga] : Ag z (zcO c (zo F) a) (j2 c F ga) := ⟨fun ρ q h => by
 unfold j2 at h
 unfold zcO
 exact Ag.step h fun ds ρ1 h => by
  unfold zo
  unfold Us at h
  split at h
  · rename_i e; (try rw [e]); exact h
  · exact aa h⟩
def jk (tbl : Nat -> Option Fn) (a : G D) (r : G (List D)) : G D := fun ρ => (a ρ).bind fun x ρ1 => match x with
 | .obj c fs => (match tbl c with
  | some F => (r ρ1).bind fun ds ρ2 => zcX (F (.val (.obj c fs) :: ds.map .val)) ρ2
  | none => .no)
 | _ => .no
instance {tbl : Nat -> Option Fn} {a : ME} {r : MA} {ga : G D} {gr : G (List D)} [Ag z a ga] [Ag z r gr] : Ag z (zcP (fun c => (tbl c).map zo) a r) (jk tbl ga gr) := ⟨fun ρ q h => by
 unfold jk at h
 unfold zcP
 exact Ag.step h fun x ρ1 h => by
  cases x with
  | obj c fs =>
   dsimp only at h ⊢
   cases e : tbl c with
   | none => rw [e] at h; exact aa h
   | some F =>
    rw [e] at h
    dsimp only [Option.map] at h ⊢
    refine Ag.step h fun ds ρ2 h => ?_
    unfold zo
    cases e : F (.val (.obj c fs) :: ds.map .val) with
    | no => rw [e] at h; exact h
    | ex k => rw [e] at h; exact aa h
    | ok d os => rw [e] at h; exact h
  | _ => exact aa h⟩
class AgM (f : List D -> D -> (D -> List D -> Prop) -> Prop) (h : List D -> D -> Option (D × List D)) : Prop where
 h : ∀ ds d q, jG (fun r => q r.1 r.2) (h ds d) -> f ds d q
def Jb (ds : List D) (d : D) : Option (D × List D) := if ds.length < 100000 then some (.non, ds ++ [d]) else none
instance : AgM zbl Jb := ⟨fun ds d q h => by
 unfold Jb at h
 split at h
 · exact ⟨‹_›, h⟩
 · exact aa h⟩
def Q2 (ds : List D) (d : D) : Option (D × List D) := match d with | .lst es => if ds.length + es.length <= 100000 then some (.non, ds ++ es) else none | _ => none
instance : AgM zbm Q2 := ⟨fun ds d q h => by
 cases d with
 | lst es =>
  unfold Q2 at h
  dsimp only at h
  split at h
  · exact ⟨‹_›, h⟩
  · exact aa h
 | _ => exact aa h⟩
def Vw (ds : List D) (d : D) : Option (D × List D) := match d with | .int j => if 0 <= j /\ j.toNat < ds.length /\ ds.length < 100000 then some (ds.getD j.toNat .non, ds.eraseIdx j.toNat) else none | _ => none
instance : AgM zjs Vw := ⟨fun ds d q h => by
 cases d with
 | int j =>
  unfold Vw at h
  dsimp only at h
  split at h
  · exact ⟨‹_›, h⟩
  · exact aa h
 | _ => exact aa h⟩
def Ut : Option Slot -> Option (List D) | some (.own (.lst ds)) => some ds | _ => none
theorem Uu {k : List D -> Prop} (h : jG k (Ut s)) : Rn s k := by
 unfold Ut at h
 split at h
 · exact h
 · exact aa h
def Jg (f : List D -> D -> Option (D × List D)) (i : Nat) (a : G D) : G D := fun ρ => (jp (Ut ρ[i]?) ρ).bind fun _ ρ => (a ρ).bind fun d ρ1 => (jp (Ut ρ1[i]?) ρ1).bind fun ds ρ1 => (jp (f ds d) ρ1).bind fun r ρ1 => .ok r.1 (ρ1.set i (.own (.lst r.2)))
instance {f : List D -> D -> (D -> List D -> Prop) -> Prop} {k : List D -> D -> Option (D × List D)} {i : Nat} {a : ME} {ga : G D} [j : AgM f k] [Ag z a ga] : Ag z (Yr f i a) (Jg k i ga) := ⟨fun ρ q h =>
 Uu (yN (Jf (O.on_bind h)) fun _ h => Ag.step h fun d ρ1 h => Uu (yN (Jf (O.on_bind h)) fun ds h => j.h _ _ _ (Jf (O.on_bind h))))⟩
inductive zq where
 | nx | rt (d : D) | bk | ct
def WJ (z : Nat -> Env -> Prop) (N : Uc) : O zq -> Prop
 | .no => False
 | .ex k ρ => z k ρ
 | .ok .nx ρ => N.nx ρ
 | .ok (.rt d) ρ => N.rt d ρ
 | .ok .bk ρ => N.bk ρ
 | .ok .ct ρ => N.ct ρ
class Qg (z : Nat -> Env -> Prop) (m : MS) (g : G zq) : Prop where
 h : ∀ N ρ, WJ z N (g ρ) -> m N ρ
theorem Ag.stepS {α : Type} {m : Mi α} {g : G α} [i : Ag z m g] {ρ : Env} {f : α -> Env -> O zq} {N : Uc} {k : α -> Env -> Prop} (h : WJ z N ((g ρ).bind f)) (hk : ∀ a ρ', WJ z N (f a ρ') -> k a ρ') : m ρ k := by
 refine i.h ρ k ?_
 cases e : g ρ with
 | no => rw [e] at h; exact h
 | ex j ρ' => rw [e] at h; exact h
 | ok a ρ' => rw [e] at h; exact hk a ρ' h
theorem Wp {α : Type} {N : Uc} {r : Option α} {ρ : Env} {f : α -> Env -> O zq} (h : WJ z N ((jp r ρ).bind f)) : jG (fun a => WJ z N (f a ρ)) r := by
 cases r <;> exact h
theorem zhV {c : Prop} [Decidable c] (h : WJ z N (gd c r)) : c /\ WJ z N r := by
 unfold gd at h
 split at h
 · exact ⟨‹_›, h⟩
 · exact aa h
def yx : G zq := fun ρ => .ok .nx ρ
def zhW : G zq := fun _ => .no
instance : Qg z zf8 yx := ⟨fun N ρ h => h⟩
instance : Qg z zdi zhW := ⟨fun N ρ h => h⟩
def zbs (r : O zq) (b : G zq) : O zq := match r with | .ok .nx ρ => b ρ | r => r
def zx (a b : G zq) : G zq := fun ρ => zbs (a ρ) b
instance {a b : MS} {ga gb : G zq} [i : Qg z a ga] [j : Qg z b gb] : Qg z (zjk a b) (zx ga gb) := ⟨fun N ρ h => by
 refine i.h _ _ ?_
 unfold zx at h
 cases e : ga ρ with
 | no => rw [e] at h; exact h
 | ex k ρ' => rw [e] at h; exact h
 | ok n ρ' =>
  rw [e] at h
  cases n with
  | nx => exact j.h _ _ h
  | rt d => exact h
  | bk => exact h
  | ct => exact h⟩
def yk (g : G D) : G zq := fun ρ => (g ρ).bind fun _ ρ' => .ok .nx ρ'
def zN (g : G D) : G zq := fun ρ => (g ρ).bind fun d ρ' => .ok (.rt d) ρ'
instance {m : ME} {g : G D} [Ag z m g] : Qg z (zcL m) (yk g) := ⟨fun N ρ h => by
 unfold yk at h
 unfold zcL
 exact Ag.stepS h fun _ _ h => h⟩
instance {m : ME} {g : G D} [Ag z m g] : Qg z (zbh m) (zN g) := ⟨fun N ρ h => by
 unfold zN at h
 unfold zbh
 exact Ag.stepS h fun _ _ h => h⟩
def yK (c : G Bool) (a b : G zq) : G zq := fun ρ => (c ρ).bind fun k ρ1 => if k = true then a ρ1 else b ρ1
instance {c : MT} {a b : MS} {gc : G Bool} {ga gb : G zq} [Ag z c gc] [i : Qg z a ga] [j : Qg z b gb] : Qg z (zf9 c a b) (yK gc ga gb) := ⟨fun N ρ h => by
 unfold yK at h
 unfold zf9
 exact Ag.stepS h fun k _ h => by
  cases k with
  | true => exact i.h _ _ h
  | false => exact j.h _ _ h⟩
def zX (i : Nat) (g : G D) : G zq := fun ρ => (g ρ).bind fun d ρ' => .ok .nx (ρ'.set i (.val d))
def j7 (i : Nat) (g : G D) : G zq := fun ρ => (g ρ).bind fun d ρ' => .ok .nx (ρ'.set i (.own d))
instance {i : Nat} {m : ME} {g : G D} [Ag z m g] : Qg z (zdj i m) (zX i g) := ⟨fun N ρ h => by
 unfold zX at h
 unfold zdj
 exact Ag.stepS h fun _ _ h => h⟩
instance {i : Nat} {m : ME} {g : G D} [Ag z m g] : Qg z (Wc i m) (j7 i g) := ⟨fun N ρ h => by
 unfold j7 at h
 unfold Wc
 exact Ag.stepS h fun _ _ h => h⟩
def Y4 (i : Nat) (a v : G D) : G zq := fun ρ => (v ρ).bind fun d ρ0 => (jp (Ut ρ0[i]?) ρ0).bind fun _ ρ0 => (a ρ0).bind fun x ρ1 => (jp (Ut ρ1[i]?) ρ1).bind fun ds ρ1 => match x with
 | .int j => gd (0 <= j /\ j.toNat < ds.length) (.ok .nx (ρ1.set i (.own (.lst (ds.set j.toNat d)))))
 | _ => .no
instance {i : Nat} {a v : ME} {ga gv : G D} [Ag z a ga] [Ag z v gv] : Qg z (R9 i a v) (Y4 i ga gv) := ⟨fun N ρ h => by
 unfold Y4 at h
 unfold R9
 exact Ag.stepS h fun d ρ0 h =>
  Uu (yN (Wp h) fun _ h => Ag.stepS h fun x ρ1 h => Uu (yN (Wp h) fun ds h => by
   cases x with
   | int j => exact zhV h
   | _ => exact aa h))⟩
def zcY : Option Slot -> Option (Nat × List (Nat × D)) | some (.own (.obj c fs)) => some (c, fs) | _ => none
theorem zjF {k : Nat -> List (Nat × D) -> Prop} (h : jG (fun r => k r.1 r.2) (zcY s)) : zge s k := by
 unfold zcY at h
 split at h
 · exact h
 · exact aa h
def JB (i f : Nat) (g : G D) : G zq := fun ρ => (g ρ).bind fun d ρ1 => (jp (zcY ρ1[i]?) ρ1).bind fun r ρ1 => gd (11 <= r.1 /\ r.2.length < 100) (.ok .nx (ρ1.set i (.own (.obj r.1 (Yb f d r.2)))))
instance {i f : Nat} {m : ME} {g : G D} [Ag z m g] : Qg z (zcN i f m) (JB i f g) := ⟨fun N ρ h => by
 unfold JB at h
 unfold zcN
 exact Ag.stepS h fun d ρ1 h => zjF (yN (Wp h) fun r h => let ⟨a, b⟩ := zhV h; ⟨a.1, a.2, b⟩)⟩
def Uv (r : O zq) (k : G zq) : O zq := match r with
 | .ok .nx ρ => k ρ
 | .ok .ct ρ => k ρ
 | .ok .bk ρ => .ok .nx ρ
 | r => r
theorem zjG {N : Uc} [i : Qg z b gb] {p : Env -> Prop} (h : WJ z N (Uv (gb ρ) k)) (hk : ∀ ρ', WJ z N (k ρ') -> p ρ') : b { nx := p, rt := N.rt, bk := N.nx, ct := p } ρ := by
 refine i.h _ _ ?_
 cases e : gb ρ with
 | no => rw [e] at h; exact h
 | ex k ρ' => rw [e] at h; exact h
 | ok n ρ' =>
  rw [e] at h
  cases n with
  | nx => exact hk _ h
  | rt d => exact h
  | bk => exact h
  | ct => exact hk _ h
def jT (g : D -> Env -> Option Env) (b : G zq) : List D -> G zq
 | [], ρ => .ok .nx ρ
 | d :: ds, ρ => (jp (g d ρ) ρ).bind fun ρ1 _ => Uv (b ρ1) (jT g b ds)
theorem zfa {k : D -> Env -> Option Env} [i : AgG g k] [Qg z b gb] : ∀ (ds : List D) (ρ : Env), WJ z N (jT k gb ds ρ) -> zbi g b ds N ρ
 | [], ρ, h => h
 | d :: ds, ρ, h => i.h _ _ _ (yN (Wp h) fun ρ1 h => zjG h fun ρ' h => zfa ds ρ' h)
def Qq (gi : G (List D)) (g : D -> Env -> Option Env) (b : G zq) : G zq := fun ρ => (gi ρ).bind fun ds ρ1 => jT g b ds ρ1
instance {mi : MI} {g : MG} {b : MS} {gi : G (List D)} {k : D -> Env -> Option Env} {gb : G zq} [Ag z mi gi] [AgG g k] [Qg z b gb] : Qg z (zgb mi g b) (Qq gi k gb) := ⟨fun N ρ h => by
 unfold Qq at h
 unfold zgb
 exact Ag.stepS h fun ds ρ1 h => zfa ds ρ1 h⟩
def zdx : List Nat -> Env -> Option (List D)
 | [], _ => some []
 | i :: r, ρ => (YO ρ[i]?).bind fun o => (zdx r ρ).map (o :: ·)
theorem zfb : ∀ {pn : List Nat} {ρ : Env} {k : List D -> Prop}, jG k (zdx pn ρ) -> Ug pn ρ k
 | [], ρ, k, h => h
 | i :: r, ρ, k, h => by
  unfold zdx at h
  unfold Ug
  cases e : YO ρ[i]? with
  | none => rw [e] at h; exact aa h
  | some o =>
   rw [e] at h
   rw [Vv e]
   exact zfb (zbq h)
def Vx (pn : List Nat) (d : D) (ρ : Env) : RF := match zdx pn ρ with | some os => .ok d os | none => .no
def zgs (pn : List Nat) (fr : Bool) : O zq -> RF
 | .ok .nx ρ => if fr = true then .no else Vx pn .non ρ
 | .ok (.rt d) ρ => Vx pn d ρ
 | .ex k _ => .ex k
 | _ => .no
def zQ (pn : List Nat) (n nl : Nat) (fr : Bool) (g : G zq) : Fn := fun ss => if ss.length = n then zgs pn fr (g (ss ++ aX nl .no)) else .no
theorem zI {ss : List Slot} {q : D -> List D -> Prop} {z : D -> List D -> Prop} (h : zo (zQ pn n nl fr g) ss q z) : ss.length = n := by
 unfold zo zQ at h
 by_cases e : ss.length = n
 · exact e
 · rw [if_neg e] at h; exact aa h
theorem zfc {q : D -> List D -> Prop} {z : D -> List D -> Prop} (h : match Vx pn d ρ with | .no => False | .ex k => z (.exc k) [] | .ok d os => q d os) : Ug pn ρ (q d) := by
 refine zfb ?_
 unfold Vx at h
 cases e : zdx pn ρ with
 | none => rw [e] at h; exact h
 | some os => rw [e] at h; exact h
theorem zgt {q z : D -> List D -> Prop} [i : Qg (fun k _ => z (.exc k) []) b g] (h : zo (zQ pn n nl fr g) ss q z) :
 b { nx := fun ρ => fr = false /\ Ug pn ρ (q .non), rt := fun d ρ => Ug pn ρ (q d), bk := fun _ => False, ct := fun _ => False } (ss ++ aX nl .no) := by
 have hl := zI h
 unfold zo zQ at h
 rw [if_pos hl] at h
 refine i.h _ _ ?_
 cases e : g (ss ++ aX nl .no) with
 | no => rw [e] at h; exact h
 | ex k ρ => rw [e] at h; exact h
 | ok n ρ =>
  rw [e] at h
  cases n with
  | nx =>
   cases fr with
   | true => exact aa h
   | false => exact ⟨rfl, zfc h⟩
  | rt d => exact zfc h
  | bk => exact h
  | ct => exact h
theorem yy {mg : Str -> Option Value} {cls : Nat -> Option Addr} {N ps : List Str} (F : Fun K x qual st f fd) (S : zE N ps (zv st)) (hn : ps.length = n)
 (hb : ∀ (cdv : Value) (A : Around) (outer : List PySem.Env) (s : Shared) (H : Hp) (E : XK), Room k (A.deeper (PyProof.Rows.envOfC qual (zv st) s.heap.objs.size f cdv)) ->
  ∃ b, DSs (Rl yD P w K mg base N qual (zv st) f cdv A outer s H E).nox cls pn fr (Qw st) b /\ Qg Zf b g) : FnOk P w K mg base yD (k + 1) f fd ps (yr ⟨K, cls⟩ pn fr n (zo (zQ pn n (N.length - n) fr g))) := by
 subst hn
 refine F.ok S (fun vs H Q E h => h.1) fun cdv A outer s H vs Q E hr h => ?_
 obtain ⟨b, hd, ag⟩ := hb cdv A outer s H E hr
 obtain ⟨t, a, c⟩ := hd.h
 refine ⟨t, a, ?_⟩
 obtain ⟨hl, S, ss, q, hpin, h0, R, hq, hQ⟩ := h
 have hsl : ss.length = ps.length := by have := R.len; simp at this; omega
 have hm := zgt (i := (ag : Qg (fun k _ => Z0 (.exc k) []) b g)) hq
 unfold L2.start
 rw [hl]
 have rt : ∀ v d σ' H' ρ', RR ⟨K, cls⟩ fr S σ' ρ' H' [] v d -> Ug pn ρ' (q d) -> Q v H' := fun v d σ' H' ρ' r' q' => by
  obtain ⟨os, a, b⟩ := ze3 q'
  exact hQ _ _ _ _ _ os r' a b
 refine c S _ _ H [] _ _ hpin (R.ext _) hm (fun σ' H' ρ' R' q' => ?_) rt (fun _ _ _ _ z => aa z) fun _ _ _ _ z => aa z
 obtain ⟨e, q'⟩ := q'
 subst e
 exact rt _ _ _ _ _ ⟨R', .non⟩ q'
end M
namespace M
open PySem L2
theorem zhX : ∀ {l : List (Nat × Addr)}, l.lookup n = some C -> (n, C) ∈ l
 | [], h => by cases h
 | (m, B) :: r, h => by
  rw [bD] at h
  split at h
  · rename_i e
    cases h
    have : n = m := by simpa using e
    subst this
    exact ai
  · exact ah _ (zhX h)
theorem zS (h : o = some b) (e : o = some c) : b = c := ba (h.symm.trans e)
theorem zgu (hF : ∀ ns : List Int, ns.length <= 63 -> F [.val (.fz ns)] = .ok (.bl true) []) {cls : Nat -> Option Addr} (h : zae K vs H Q E) : yr ⟨K, cls⟩ [] false 1 (zo F) vs H Q E := by
 obtain ⟨hl, S, ss, q, a, b, c, ⟨ns, e, hn, hq⟩, d⟩ := zhT (cls := cls) h
 refine ⟨hl, S, ss, q, a, b, c, ?_, d⟩
 subst e
 unfold zo
 rw [hF ns hn]
 exact hq
section
variable {α β : Type}
theorem zL {f : α -> Env -> O β} : (O.ok a ρ).bind f = f a ρ := rfl
theorem zfd {f : α -> Env -> O β} : (O.no : O α).bind f = .no := rfl
theorem zfe {f : α -> Env -> O β} : (O.ex k ρ : O α).bind f = .ex k ρ := rfl
theorem je : jp (some a) ρ = .ok a ρ := rfl
theorem zdy : jp (none : Option α) ρ = .no := rfl
theorem zff : gd True r = r := rfl
theorem Vy {c : Prop} [Decidable c] (h : c) : gd c r = r := if_pos h
theorem zfg : zbs (.ok .nx ρ) b = b ρ := rfl
theorem zfh : zbs (.ok (.rt d) ρ) b = .ok (.rt d) ρ := rfl
theorem zfi : zbs (.ok .bk ρ) b = .ok .bk ρ := rfl
theorem zfj : zbs (.ok .ct ρ) b = .ok .ct ρ := rfl
theorem zfk : zbs (.ex k ρ) b = .ex k ρ := rfl
theorem zdz : Uv (.ok .nx ρ) b = b ρ := rfl
theorem zdA : Uv (.ok (.rt d) ρ) b = .ok (.rt d) ρ := rfl
theorem zdB : Uv (.ok .bk ρ) b = .ok .nx ρ := rfl
theorem zdC : Uv (.ok .ct ρ) b = b ρ := rfl
theorem zcZ : (Opd.d x).get ρ = some x := rfl
theorem Uw : (Opd.v i).get ρ = Zk ρ[i]? := rfl
theorem JZ : Zk (some (.val d)) = some d := rfl
theorem zb6 : Zk (some (.own d)) = some d := rfl
theorem Ux : YO (some (.own d)) = some d := rfl
theorem Vz : Ut (some (.own (.lst ds))) = some ds := rfl
theorem zb7 : zcY (some (.own (.obj c fs))) = some (c, fs) := rfl
theorem zdD : asB (.bl b) ρ = .ok b ρ := rfl
theorem zfl : asI (.int b) ρ = .ok (some b) ρ := rfl
theorem zdE {d : D} {os : List D} {ρ : Env} : zcX (.ok d os) ρ = .ok d ρ := rfl
theorem Yv {ρ : Env} : zah j (.ok d [o]) ρ = .ok d (ρ.set j (.own o)) := rfl
theorem zdF : Us (.ok .non [o]) ρ = .ok o ρ := rfl
theorem zfm : zgs pn false (.ok .nx ρ) = Vx pn .non ρ := rfl
theorem zbt : zgs pn fr (.ok (.rt d) ρ) = Vx pn d ρ := rfl
theorem zfn : zgs pn fr (.ex k ρ) = .ex k := rfl
theorem Rt : Vx [] d ρ = .ok d [] := rfl
theorem zhY : Vx [0] d (.own o :: ρ) = .ok d [o] := rfl
theorem zai {n : Nat} {r : Int} (h0 : 0 <= r) (h1 : r < n) : J9 n r = some r.toNat := by
 unfold J9
 rw [if_pos h0, if_pos h1]
theorem Yw {ds : List D} {r : Int} (h0 : 0 <= r) (h1 : r < ds.length) : zz (.lst ds) (.int r) = some (ds.getD r.toNat .non) := by
 unfold zz; dsimp only; rw [zai h0 h1]; rfl
theorem Yx {ds : List D} {r : Int} (h0 : 0 <= r) (h1 : r < ds.length) : zz (.tup ds) (.int r) = some (ds.getD r.toNat .non) := by
 unfold zz; dsimp only; rw [zai h0 h1]; rfl
theorem zn6 {ns : List Int} {r : Int} (h0 : 0 <= r) (h1 : r < ns.length) : zz (.fz ns) (.int r) = some (.int (ns.getD r.toNat 0)) := by
 unfold zz; dsimp only; rw [zai h0 h1]; rfl
theorem zn7 {w : Str} {r : Int} (hl : w.length <= 100000) (h0 : 0 <= r) (h1 : r < w.cps.toList.length) : zz (.str w) (.int r) = some (.str ⟨#[w.cps.toList.getD r.toNat 0]⟩) := by
 unfold zz; dsimp only; rw [if_pos hl, zai h0 h1]; rfl
section
variable {a b c d e f g h : D} {ds : List D}
theorem ix0 : zz (.lst (a :: ds)) (.int 0) = some a := Yw (by omega) (by simp only [ac]; omega)
theorem ix1 : zz (.lst (a :: b :: ds)) (.int 1) = some b := Yw (by omega) (by simp only [ac]; omega)
theorem ix2 : zz (.lst (a :: b :: c :: ds)) (.int 2) = some c := Yw (by omega) (by simp only [ac]; omega)
theorem ix3 : zz (.lst (a :: b :: c :: d :: ds)) (.int 3) = some d := Yw (by omega) (by simp only [ac]; omega)
theorem ix4 : zz (.lst (a :: b :: c :: d :: e :: ds)) (.int 4) = some e := Yw (by omega) (by simp only [ac]; omega)
theorem ix5 : zz (.lst (a :: b :: c :: d :: e :: f :: ds)) (.int 5) = some f := Yw (by omega) (by simp only [ac]; omega)
theorem ix6 : zz (.lst (a :: b :: c :: d :: e :: f :: g :: ds)) (.int 6) = some g := Yw (by omega) (by simp only [ac]; omega)
theorem ix7 : zz (.lst (a :: b :: c :: d :: e :: f :: g :: h :: ds)) (.int 7) = some h := Yw (by omega) (by simp only [ac]; omega)
theorem it0 : zz (.tup (a :: ds)) (.int 0) = some a := Yx (by omega) (by simp only [ac]; omega)
theorem it1 : zz (.tup (a :: b :: ds)) (.int 1) = some b := Yx (by omega) (by simp only [ac]; omega)
theorem it2 : zz (.tup (a :: b :: c :: ds)) (.int 2) = some c := Yx (by omega) (by simp only [ac]; omega)
theorem it3 : zz (.tup (a :: b :: c :: d :: ds)) (.int 3) = some d := Yx (by omega) (by simp only [ac]; omega)
theorem it4 : zz (.tup (a :: b :: c :: d :: e :: ds)) (.int 4) = some e := Yx (by omega) (by simp only [ac]; omega)
theorem it5 : zz (.tup (a :: b :: c :: d :: e :: f :: ds)) (.int 5) = some f := Yx (by omega) (by simp only [ac]; omega)
theorem it6 : zz (.tup (a :: b :: c :: d :: e :: f :: g :: ds)) (.int 6) = some g := Yx (by omega) (by simp only [ac]; omega)
theorem it7 : zz (.tup (a :: b :: c :: d :: e :: f :: g :: h :: ds)) (.int 7) = some h := Yx (by omega) (by simp only [ac]; omega)
end
theorem zhZ : yc [none] ρb ρ = ρ := by
 match ρb with
 | [] => rfl
 | [_] => rfl
 | _ :: _ :: _ => rfl
theorem U6 : ∀ {a b : List Char}, a.map fR = b.map fR -> a = b
 | [], [], _ => rfl
 | [], _ :: _, h => by simp at h
 | _ :: _, [], h => by simp at h
 | x :: a, y :: b, h => by
  simp only [al, dX] at h
  rw [U6 h.2, Char.toNat_inj.mp h.1]
theorem VA : (aI a = aI b) = (a = b) := by
 apply propext
 constructor
 · intro h
   rw [ff, ff] at h
   have h : (a.toList.map fR) = (b.toList.map fR) := by
    have := congrArg (fun s => s.cps.toList) h
    simpa using this
   exact String.toList_inj.mp (U6 h)
 · intro h; rw [h]
end
end M
namespace L2
open PySem PySem.Spec PyProof.Rows
theorem zaj (t : SetTable) (n : Nat) : (t.orStandIn n).led = t.led /\ (t.plain = false -> (t.orStandIn n).plain = false) := by
 unfold SetTable.orStandIn
 split
 · exact ⟨rfl, id⟩
 · exact ⟨rfl, fun _ => rfl⟩
theorem zdG (t : SetTable) (es : Array (Int × Value)) (h : Int) (x : Value) : (layNew t es h x).2.1.led = t.led /\ (t.plain = false -> (layNew t es h x).2.1.plain = false) := by
 unfold layNew
 split
 · exact zaj _ _
 · exact ⟨rfl, fun _ => rfl⟩
theorem zdH {t u : SetTable} (h : t.relaid hs n = some (u, ord)) : u.led = t.led /\ u.plain = t.plain := by
 unfold SetTable.relaid SetTable.laid at h
 cases e : SetTable.layClean (SetTable.sizeAbove n - 1) hs with
 | none => rw [e] at h; cases h
 | some ow => rw [e] at h; cases h; exact ⟨rfl, rfl⟩
theorem zbu (t : SetTable) (es : Array (Int × Value)) (n : Nat) : (eX t es n).2.1.led = t.led /\ (t.plain = false -> (eX t es n).2.1.plain = false) := by
 unfold eX
 split
 · rename_i u ord e
   have m := zdH e
   dsimp only
   split
   · exact ⟨m.1, fun z => m.2.trans z⟩
   · exact ⟨rfl, fun _ => rfl⟩
 · exact ⟨rfl, fun _ => rfl⟩
def TxSet (P : Program) (w : World) (h : Heap) (a : Addr) (S : y4 -> Bool) (n : Nat) (led : Bool) : Prop :=
 ∃ ob es ep t, h.get? a = some ob /\ ob.ExactSet /\ ob.data = .set es ep t /\ ElemsOf (yt P w) es.toList /\ (∀ k, S k = true ↔ ∃ e ∈ es.toList, (yt P w).is k e.2 = true) /\ es.size < cP /\ t.fits es.size = true /\ es.size = n /\ t.led = led /\ (1 <= n -> t.plain = false)
theorem TxSet.set {h : Heap} {S : y4 -> Bool} (x : TxSet P w h a S n led) : h.SetOf (yt P w) a S n :=
 let ⟨ob, es, ep, t, h1, h2, h3, h4, h5, h6, h7, h8, _⟩ := x; ⟨ob, es, ep, t, h1, h2, h3, h4, h5, h6, h7, h8⟩
theorem TxSet.at {h h' : Heap} {S : y4 -> Bool} (x : TxSet P w h a S n led) (k : ∀ o, h.get? a = some o -> h'.get? a = some o) : TxSet P w h' a S n led :=
 let ⟨ob, es, ep, t, h1, r⟩ := x; ⟨ob, es, ep, t, k _ h1, r⟩
theorem TxSet.eq {S S' : y4 -> Bool} (x : TxSet P w h a S n led) (e : ∀ k, S k = S' k) (en : n = n') : TxSet P w h a S' n' led := by
 cases (funext e : S = S'); cases en; exact x
section
variable {prog : Program} {w : World} {A : Around} {E : Value -> Shared -> Prop} {s : Shared}
theorem zak {h : Heap} {ob : Obj} (ho : h.get? a = some ob) (hx : ob.ExactSet) (hd : ob.data = .set es ep t) {fs : Array (Int × Value)} {u : SetTable} {S : y4 -> Bool}
 (h1 : ElemsOf (yt prog w) fs.toList) (h2 : ∀ k, S k = true ↔ ∃ e ∈ fs.toList, (yt prog w).is k e.2 = true) (h3 : fs.size < cP) (h4 : u.fits fs.size = true) (h5 : u.led = led) (h6 : u.plain = false) :
 (h.update a (g7 fs u)).get? a = some { ob with data := .set fs (ep + 1) u } /\ TxSet prog w (h.update a (g7 fs u)) a S fs.size led := by
 have g := (SetOf_store (knd := yt prog w) ho hx hd h1 h2 h3 h4).1
 exact ⟨g, _, fs, ep + 1, u, g, hx, rfl, h1, h2, h3, h4, rfl, h5, fun _ => h6⟩
theorem zfo {gw : Bool -> Sem Unit} (hg : ∀ (b : Bool) (s1 : Shared) (Q1 : Unit -> Shared -> Prop), Q1 () s1 -> wpAny (model prog w) A (gw b) Q1 E s1) {ob : Obj} {es fs : Array (Int × Value)} {t u : SetTable} {S : y4 -> Bool} 
 (ho : s.heap.get? a = some ob) (hx : ob.ExactSet) (hd : ob.data = .set es ep t) (h1 : ElemsOf (yt prog w) fs.toList) (h2 : ∀ k, S k = true ↔ ∃ e ∈ fs.toList, (yt prog w).is k e.2 = true) (h3 : fs.size < cP) (h4 : u.fits fs.size = true)
 (h5 : u.led = led) (h6 : u.plain = false) {R : Option Bool -> Shared -> Prop} (hR : ∀ h', cI a s.heap h' -> TxSet prog w h' a S fs.size led -> R (some true) { s with heap := h' }) :
 wpAny (model prog w) A (do
  storeSet a fs u
  if (!dm && u.tooFull) = true then do
   gw (eX u fs (cy fs.size)).2.2
   storeSet a (eX u fs (cy fs.size)).1 (eX u fs (cy fs.size)).2.1
   pure (some true)
  else pure (some true)) R E s := by
 obtain ⟨g1, T1⟩ := zak (w := w) (prog := prog) ho hx hd h1 h2 h3 h4 h5 h6
 have same := fL s.heap a (g7 fs u)
 refine ab (wpAny_storeSet_of ho hd ?_ (dI h3))
 split
 · have perm := relayAll_perm u fs (cy fs.size)
   have fits := relayAll_fits u fs (cy fs.size)
   have mark := zbu u fs (cy fs.size)
   revert perm fits mark
   generalize eX u fs (cy fs.size) = r
   obtain ⟨gs, v, gave⟩ := r
   intro perm fits mark
   dsimp only at perm fits mark ⊢
   have k1 : ElemsOf (yt prog w) gs.toList := h1.perm perm
   have k2 : ∀ k, S k = true ↔ ∃ e ∈ gs.toList, (yt prog w).is k e.2 = true := fun k => by
    rw [h2 k]
    exact ⟨fun ⟨e, m, q⟩ => ⟨e, perm.mem_iff.mpr m, q⟩, fun ⟨e, m, q⟩ => ⟨e, perm.mem_iff.mp m, q⟩⟩
   have k3 : gs.size = fs.size := by have := perm.length_eq; simpa using this
   refine ab (hg _ _ _ (ab (wpAny_storeSet_of g1 rfl ?_ (dI (by rw [k3]; exact h3)))))
   obtain ⟨_, T2⟩ := zak (w := w) (prog := prog) g1 hx rfl k1 k2 (by rw [k3]; exact h3) fits (mark.1.trans h5) (mark.2 h6)
   rw [k3] at T2
   exact ao (hR _ (same.trans (fL _ a _)) T2)
 · exact ao (hR _ same T1)
theorem zjH {S : y4 -> Bool} {Q : Bool -> Shared -> Prop} (hS : TxSet prog w s.heap a S n led) (hr : n + 1 < cP)
 (hQ : ∀ h', cI a s.heap h' -> TxSet prog w h' a (fun k => S k || decide (k = .inr x)) (if S (.inr x) then n else n + 1) led -> Q (!S (.inr x)) { s with heap := h' }) :
 wpAny (model prog w) A (setAddHashed a (.str x tk) ((yt prog w).hash (.inr x))) Q E s := by
 obtain ⟨ob, es, ep, t, ho, hx, hd, hel, hmem, hb, hf, hn, hled, hpl⟩ := id hS
 have hk : (yt prog w).is (.inr x) (.str x tk) = true := zbM x tk
 have hsc : (Value.str x tk).scannable = true := rfl
 unfold setAddHashed setAddHashedIn
 refine bO (ab (bQ ho hd hf ?_))
 dsimp only
 rw [byScan_of hsc hb hel, if_pos rfl]
 unfold setAddByScan
 refine ab (ab (gj (ab (wpAny_setScan_of hk ho hd hf hel ?_))))
 cases q : List.findIdx? (fun e => (yt prog w).is (.inr x) e.2) es.toList with
 | some j =>
  obtain ⟨hj, pj, _⟩ := List.findIdx?_eq_some_iff_getElem.mp q
  have there : S (.inr x) = true := (hmem _).mpr ⟨_, eR hj, pj⟩
  have z := hQ s.heap (cI.refl a s.heap) (hS.eq (fun k => by
   by_cases e : k = .inr x
   · rw [e, there]; rfl
   · rw [decide_eq_false e, dQ]) (by rw [there]; rfl))
  rw [there] at z
  exact ao (ao z)
 | none =>
  have away : S (.inr x) = false := by
   cases e : S (.inr x) with
   | false => rfl
   | true =>
    obtain ⟨y, hy, py⟩ := (hmem _).mp e
    have := List.findIdx?_eq_none_iff.mp q y hy
    rw [py] at this; cases this
  have perm := layNew_perm t es ((yt prog w).hash (.inr x)) (.str x tk)
  have fits := layNew_fits t es ((yt prog w).hash (.inr x)) (.str x tk)
  have mark := zdG t es ((yt prog w).hash (.inr x)) (.str x tk)
  dsimp only
  revert perm fits mark
  generalize layNew t es ((yt prog w).hash (.inr x)) (.str x tk) = r
  obtain ⟨fs, u, dm, gave⟩ := r
  intro perm fits mark
  dsimp only at perm fits mark ⊢
  rw [gA] at perm
  have len : fs.size = n + 1 := by have := perm.length_eq; simp at this; omega
  have k1 : ElemsOf (yt prog w) fs.toList := (hel.push hk hsc).perm perm
  have k2 := mem_push_iff hk hmem perm
  have gwh : ∀ (b : Bool) (s1 : Shared) (Q1 : Unit -> Shared -> Prop), Q1 () s1 -> wpAny (model prog w) A (match b with | true => rule "set.scan.the-table-gave-way" | false => pure ()) Q1 E s1 := fun b s1 Q1 z => by
   cases b
   · exact ao z
   · exact gj z
  refine ab (gwh _ _ _ ?_)
  have last : ∀ h', cI a s.heap h' -> TxSet prog w h' a (fun k => S k || decide (k = .inr x)) fs.size led -> Q true { s with heap := h' } := fun h' z1 z2 => by
   have := hQ h' z1
   rw [away] at this
   rw [len] at z2
   exact this z2
  split
  · refine ab ?_
    rw [hashByValue_scannable 8 hsc]
    refine ao ?_
    refine zfo gwh ho hx hd k1 k2 (by omega) (u := { u with plain := false }) (SetTable.fits_plain_off fits) (mark.1.trans hled) rfl fun h' z1 z2 => ao (last h' z1 z2)
  · rename_i np
    refine ab (ao ?_)
    rw [if_pos rfl]
    exact zfo gwh ho hx hd k1 k2 (by omega) fits (mark.1.trans hled) (by simpa using np) fun h' z1 z2 => ao (last h' z1 z2)
end
inductive Txs : List Str -> List Value -> Prop where
 | nil : Txs [] []
 | cons (x : Str) (t : Tok) {xs vs} (r : Txs xs vs) : Txs (x :: xs) (.str x t :: vs)
theorem zh0 : ∀ {xs : List Str} {us : List Value}, Vals (xs.map V.str) us -> Txs xs us
 | [], _, r => by cases r; exact .nil
 | x :: xs, _, r => by
  cases r with
  | cons r1 r2 => obtain ⟨t, rfl⟩ := r1; exact .cons x t (zh0 r2)
abbrev kx (xs : List Str) : List y4 := xs.map Sum.inr
section
variable {prog : Program} {w : World} {A : Around} {R : Result -> Shared -> Prop}
theorem zh1 {its : List Value} (hh : A.handled = none) (hne : l ≠ I) (hSI : S ≠ I) (hSl : S ≠ l) (hb : its.length + 1 < cP) :
 ∀ (rs : List Value) (rk pre : List Str) (us : List Value) (s : Shared) (n : Nat), its = us ++ rs -> pre.length = us.length -> Txs rk rs -> n <= us.length ->
  s.heap.IsListIter I l us.length -> s.heap.IsList l its.toArray -> TxSet prog w s.heap S (QD (kx pre)) n led ->
  (∀ h' tk, (∀ b o, b ∉ [S, I] -> s.heap.get? b = some o -> h'.get? b = some o) -> TxSet prog w h' S (QD (kx (pre ++ rk))) (n + jK (kx pre) (kx rk)) led -> R (.ok (.ret .none)) { s with heap := h', toks := tk }) ->
  cS (model prog w) A (.builtin "set.update.loop" ⟨[.ref S, .ref I], []⟩) R s := by
 intro rs
 have W := eZ (prog := prog) (w := w) (A := A.in1) (by simpa using hh) I l hne its.toArray
 induction rs with
 | nil =>
  intro rk pre us s n e hl hp hn hit hls hS hR
  cases hp
  have eu : us.length = its.toArray.size := by rw [e]; simp
  refine bC cZ ?_
  rw [be bU _]
  show wpAny _ A.in1 (pyNext (.ref I) >>= _) _ _ s
  refine ab (W.done s _ _ ⟨by rw [← eu]; exact hit, hls⟩ fun h' tk kk => ?_)
  refine ao ?_
  exact hR h' tk (fun b o hb ho => kk b o (fun z => hb (ah _ z)) ho) (by
   simp only [aJ, kx, bB, jK, Nat.add_zero]
   exact hS.at fun o ho => kk S o (by simpa using hSI) ho)
 | cons v rs ih =>
  intro rk pre us s n e hl hp hn hit hls hS hR
  cases hp with
  | @cons x tx rk _ hp =>
  have hi : us.length < its.toArray.size := by rw [e]; simp
  refine bC cZ ?_
  rw [be bU _]
  show wpAny _ A.in1 (pyNext (.ref I) >>= _) _ _ s
  refine ab (W.item us.length s _ _ hi ⟨hit, hls⟩ fun v' h' tk hv' st' kk => ?_)
  have ev : v' = .str x tx := by
   have z : its[us.length]? = some (.str x tx) := by rw [e]; simp
   have z' : its[us.length]? = some v' := by simpa using hv'
   rw [z] at z'; cases z'; rfl
  subst ev
  have hS1 := hS.at (h' := h') fun o ho => kk S o (by simpa using hSI) ho
  show wpAny _ A.in1 (cW [.str x tx] (setAdd S (.str x tx)) >>= _) _ _ _
  refine ab (bO ?_)
  unfold setAdd
  refine bO ?_
  refine ab ((yt prog w).pyHash (k := .inr x) (zbM x tx) ?_)
  have hlt : us.length < its.length := by simpa using hi
  refine zjH hS1 (by omega) fun h2 hsb hS2 => ?_
  have keep2 : ∀ b o, b ∉ [S, I] -> s.heap.get? b = some o -> h2.get? b = some o := fun b o hb ho =>
   (hsb.2 b (fun z => hb (by simp [z]))).trans (kk b o (fun z => hb (ah _ z)) ho)
  refine ao ⟨bX bU _, ih rk (pre ++ [x]) (us ++ [.str x tx]) _ (if QD (kx pre) (.inr x) then n else n + 1) (by rw [e]; simp) (by simp [hl]) hp ?_ ?_ ?_ ?_ ?_⟩
  · rw [ax, cQ]; split <;> omega
  · rw [ax, cQ]
    exact st'.1.at fun o ho => (hsb.2 I (bp hSI)).trans ho
  · exact st'.2.at fun o ho => (hsb.2 l (bp hSl)).trans ho
  · refine hS2.eq (fun k' => ?_) rfl
    rw [cN, gY, isIn_iff, isIn_iff, decide_eq_true_eq]
    unfold kx
    rw [dY, aN, al, bB, dl]
  · intro h3 tk3 k3 hS3
    refine hR h3 tk3 (fun b o hb ho => k3 b o hb (keep2 b o hb ho)) (hS3.eq (fun k' => by rw [bI]; rfl) ?_)
    simp only [kx, al, dY, bB, jK]
    split <;> omega
end
section
variable {prog : Program} {w : World} {A : Around} {E : Value -> Shared -> Prop} {s : Shared}
abbrev JC (w : World) : Bool := w.params.followText "set-order"
theorem zlM (v : Value) {Q1 : Value -> Shared -> Prop} (h : Q1 (.ref s.heap.objs.size) { s with heap := s.heap.push (JK (!JC w)) }) :
 cS (model prog w) A (.call (.builtin "set.__new__") ⟨[.type "set", v], []⟩) (wants Q1 E) s := by
 refine codeAny_of_tree ?_
 show wpAny _ A.in1 (checkBuiltinCall "set.__new__" ⟨[.type "set", v], []⟩ >>= fun _ => again (.builtin "set.__new__" ⟨[.type "set", v], []⟩)) _ _ s
 refine ab (gW (PySem.F.newCall_set_1 v) (ao ⟨bX fv _, bC PySem.F.entry_set_new ?_⟩))
 rw [be fv _]
 unfold Builtin.«set.__new__» Builtin.Frozenset.newClass
 have sub1 := sub_set_self
 obtain ⟨hp, g, d, tk, os⟩ := s
 dsimp only
 wp_walk
 refine eY (ao ?_)
 dsimp only
 simp only [newObj]
 exact ab (wpAny_alloc (ao (ao h)))
theorem zdI {its : List Value} {Q : Value -> Shared -> Prop} (hh : A.handled = none) (hl : s.heap.IsList l its.toArray) (hp : Txs xs its) (hb : its.length + 1 < cP)
 (h : ∀ (h' : Heap) (tk : Nat), TxSet prog w h' s.heap.objs.size (QD (kx xs)) (jK [] (kx xs)) (!JC w) -> (∀ b o, b < s.heap.objs.size -> s.heap.get? b = some o -> h'.get? b = some o) -> Q (.ref s.heap.objs.size) { s with heap := h', toks := tk }) :
 wpAny (model prog w) A (call (.type "set") [.ref l]) Q E s := by
 obtain ⟨c, tl, hmro⟩ := PySem.F.called_set.mro
 have hmade := PySem.F.called_set.made
 have hsub := PySem.F.called_set.sub
 refine gh (codeAny_of_tree ?_)
 show wpAny _ _ (callAny (.type "set") _) _ _ _
 refine ao ⟨Code.quiet_builtin _ (by decide +kernel), bC PySem.F.entry_type_call ?_⟩
 rw [Around.under_plain (weight_type_call_type "set" [.ref l] []) rfl]
 have h1 := PySem.F.called_set.notType
 have h2 := PySem.F.called_set.canCreate
 have hct := PySem.F.typeCall_set_1 (.ref l)
 repeat (any_goals (first | assumption | wp_step))
 refine dG (zlM (.ref l) (E := E) (Q1 := fun obj s₁ => obj = .ref s.heap.objs.size /\ s₁ = { s with heap := s.heap.push (JK (!JC w)) }) ⟨rfl, rfl⟩) fun r s₁ hr => ?_
 match r, hr with
 | .error e, hr => exact hr
 | .ok (.ret obj), hr =>
  obtain ⟨rfl, rfl⟩ := hr
  generalize hled : (!JC w) = led at h ⊢
  have hS : (s.heap.push (JK led)).get? s.heap.objs.size = some (JK led) := aE _ rfl
  have hT : fO { s with heap := s.heap.push (JK led) } (.ref s.heap.objs.size) "set" := ⟨_, hS, rfl⟩
  have hli := PySem.F.called_set.init.lookup
  have hbi := PySem.F.called_set.init.bind (.ref s.heap.objs.size)
  repeat (any_goals (first | assumption | wp_step))
  refine dG (codeAny_call_builtin (R := wants (fun r s₂ => r = .none /\ ∃ h' tk, s₂ = { s with heap := h', toks := tk } /\ TxSet prog w h' s.heap.objs.size (QD (kx xs)) (jK [] (kx xs)) led /\
   (∀ b o, b < s.heap.objs.size -> s.heap.get? b = some o -> h'.get? b = some o)) E) PySem.F.called_set.init.plain PySem.F.entry_set_init (check_set_init_1 hT ?_)) fun r₂ s₂ hr₂ => ?_
  · obtain ⟨ol, hol, hcl, nl, hdl⟩ := id hl
    obtain ⟨ocls, odict, odata, oslots⟩ := ol
    simp only at hcl hdl
    subst hcl; subst hdl
    have hol' : (s.heap.push (JK led)).get? l = some { cls := .type "list", dict := odict, data := .seq its.toArray nl, slots := oslots } := ak _ hol
    have hsls := PySem.F.sub_list_set
    have hslf := PySem.F.sub_list_frozenset
    have hne : (Value.type "list" == Value.type "dict") = false := by decide
    have hl1 : (s.heap.push (JK led)).IsList l its.toArray := ⟨_, hol', rfl, nl, rfl⟩
    unfold Builtin.«set.__init__» noKeywords Builtin.Frozenset.updateFrom
    generalize hPI : pyIter = PI
    wp_walk
    subst hPI
    refine cn hl1 (ab (wpAny_runValue ?_))
    have hlS : l < s.heap.objs.size := ay hol
    have sz : (s.heap.push (JK led)).objs.size = s.heap.objs.size + 1 := bF ..
    refine zh1 (its := its) (led := led) (by simp [hh]) (by rw [sz]; exact aB (bx hlS)) (by rw [sz]; exact aB (bY _)) (e9 hlS) hb its xs [] [] _ 0 rfl rfl hp (az _)
     ⟨_, aE _ rfl, rfl, rfl⟩ (hl1.push _) ?_ ?_
    · refine ⟨JK led, #[], 0, _, ak _ hS, ⟨rfl, rfl, rfl⟩, rfl, fun e he => by simp at he, fun k => by simp [QD], by decide, by rfl, rfl, rfl, fun z => absurd z (by decide)⟩
    · intro h' tk' kk hS'
      refine ao ?_
      show wpAny _ _ (ret Value.none) _ _ _
      refine ao ⟨rfl, h', tk', rfl, hS'.eq (fun _ => rfl) (by simp), fun b o hb e => ?_⟩
      refine kk b o (fun z => ?_) (ak _ (ak _ e))
      rcases ar.mp z with z | z
      · exact absurd z (aB hb)
      · have z' : b = (s.heap.push (JK led)).objs.size := by simpa using z
        rw [sz] at z'
        exact absurd z' (aB (bx hb))
  · match r₂, hr₂ with
    | .error e, hr₂ => exact hr₂
    | .ok (.ret r), hr₂ =>
     obtain ⟨rfl, h', tk, rfl, hS', hk'⟩ := hr₂
     repeat (any_goals (first | assumption | wp_step))
     exact h _ _ hS' hk'
    | .ok .next, hr₂ => exact hr₂.elim
    | .ok .brk, hr₂ => exact hr₂.elim
    | .ok .cont, hr₂ => exact hr₂.elim
 | .ok .next, hr => exact hr.elim
 | .ok .brk, hr => exact hr.elim
 | .ok .cont, hr => exact hr.elim
end
theorem sit_next : Slot "set_iterator" "__next__" "set_iterator.__next__" := .of (owner := "set_iterator") (n := "__next__") (by rw [fo, dL]; kernel_rfl) (by decide +kernel) (by decide +kernel) (by decide +kernel) (by first | exact .inl (by decide +kernel) | exact .inr (by decide +kernel)) (by rw [fE]; kernel_rfl)
theorem zdJ : Slot "set_iterator" "__iter__" "set_iterator.__iter__" := .of (owner := "set_iterator") (n := "__iter__") (by rw [fo, dL]; kernel_rfl) (by decide +kernel) (by decide +kernel) (by decide +kernel) (by first | exact .inl (by decide +kernel) | exact .inr (by decide +kernel)) (by rw [fE]; kernel_rfl)
theorem Ru : hV table "set_iterator.__next__" = some Builtin.«set_iterator.__next__» := entryFor_of_tree (by kernel_rfl)
theorem zjI : hV table "set_iterator.__iter__" = some Builtin.«dict_keyiterator.__iter__» := entryFor_alias (id' := "dict_keyiterator.__iter__") (by kernel_rfl) rfl (by decide +kernel) (by kernel_rfl)
theorem zjJ : hV table "set.__iter__" = some Builtin.«frozenset.__iter__» := entryFor_alias (id' := "frozenset.__iter__") (by kernel_rfl) rfl (by decide +kernel) (by kernel_rfl)
theorem VB (a : Value) : argsOk "set_iterator.__next__" ⟨[a], []⟩ := by
 unfold argsOk; kernel_rfl
theorem zh2 (a : Value) : argsOk "set_iterator.__iter__" ⟨[a], []⟩ := by
 unfold argsOk; kernel_rfl
theorem zh3 (a : Value) : argsOk "set.__iter__" ⟨[a], []⟩ := by
 unfold argsOk; kernel_rfl
section
variable {prog : Program} {w : World} {A : Around} {E : Value -> Shared -> Prop} {s : Shared}
theorem zgv {Q : Nat -> Shared -> Prop} (h0 : 0 < n) (h : ∀ i dr, i < n -> Q i { s with drawn := dr }) : wpAny (model prog w) A (choose .order n) Q E s := fun Γ p hΓ => by
 unfold choose
 rw [Sem.wp_choose]
 refine ⟨e9 h0, ?_⟩
 exact h _ _ (Nat.mod_lt _ h0)
theorem Uy {α : Type} : ∀ {l : List α} {i : Nat} (h : i < l.length), (l[i] :: l.eraseIdx i).Perm l
 | x :: l, 0, _ => bG _
 | x :: l, i + 1, h => by
  have := Uy (l := l) (i := i) (by simpa using h)
  show ((l[i]'(by simpa using h)) :: x :: l.eraseIdx i).Perm _
  exact (List.Perm.swap _ _ _).trans (this.cons x)
theorem zb_ {α : Type} : ∀ (n : Nat) (xs : List α) (s : Shared) (Q : List α -> Shared -> Prop), n = xs.length -> (∀ ys dr, ys.Perm xs -> Q ys { s with drawn := dr }) -> wpAny (model prog w) A (iq n xs) Q E s
 | 0, [], s, Q, _, h => by
  unfold iq
  exact ao (h [] s.drawn (bG _))
 | 0, _ :: _, _, _, e, _ => by simp at e
 | n + 1, [], _, _, e, _ => by simp at e
 | n + 1, x :: xs, s, Q, e, h => by
  unfold iq
  refine ab (zgv (by simp) fun i dr hi => ?_)
  have hg : (x :: xs)[i]? = some (x :: xs)[i] := af hi
  rw [hg]
  refine ab (zb_ n _ _ _ (by rw [fB, if_pos hi]; simp at e ⊢; exact e) fun ys dr' hp => ao ?_)
  refine h _ dr' ?_
  exact (hp.cons _).trans (Uy hi)
def SIter (h : Heap) (I : Addr) (first : Value) (i : Nat) (a : Addr) (n ep : Nat) : Prop := h.get? I = some { cls := .type "set_iterator", dict := none, data := .fields #[first, .int i 0, .ref a, .int n 0, .int ep 0], slots := #[] }
theorem SIter.ty (x : SIter h I first i a n ep) : ∀ {s : Shared}, s.heap = h -> s.TypeIs (.ref I) "set_iterator" := fun {s} e => ⟨_, by rw [e]; exact x, rfl⟩
theorem zgw {I a T : Addr} {i n ep : Nat} {ob : Obj} {es : Array (Int × Value)} {t : SetTable} {pl : Array Value} {j : Nat} {x : Int × Value} {Q : Option Value -> Shared -> Prop} (hI : SIter s.heap I (.ref T) i a n ep) (ho : s.heap.get? a = some ob) (hd : ob.data = .set es ep t) (hf : t.fits es.size = true) (hn : es.size = n)
 (hT : s.heap.IsTuple T pl) (hp : pl[i]? = some (.int j 0)) (hx : es[j]? = some x) (h : ∀ h', SIter h' I (.ref T) (i + 1) a n ep -> cI I s.heap h' -> Q (some x.2) { s with heap := h' }) : wpAny (model prog w) A (pyNext (.ref I)) Q E s := by
 unfold pyNext
 refine ab (fQ (dz (name := aI "__next__") (hI.ty rfl) sit_next (cF sit_next (hI.ty rfl) Ru ?_ (VB _))))
 unfold Builtin.«set_iterator.__next__» hW; simp only [cC, cu, aQ, ↓reduceIte, bind_assoc, aD, bne_self_eq_false]
 refine ab (ao ?_)
 refine ab (fF hI rfl ?_)
 dsimp only
 refine ab (df ho hd hf ?_)
 rw [hn, if_neg (by simp)]
 obtain ⟨ot, hot, _, nt, hdt⟩ := id hT
 refine ab (cV hot hdt ?_)
 simp only [bP, hp]
 unfold setNextDrawn
 refine ab (ab (bQ ho hd hf ?_))
 simp only [bP, bne_self_eq_false, aQ, if_false, hx]
 refine ao (ab (ca hI (by simp) fun h' hI' hs => ?_))
 exact ao ⟨_, rfl, ao (h h' hI' hs)⟩
theorem zca {hh : A.handled = none} {Q : Option Value -> Shared -> Prop} (h : ∀ h', (∀ b o, s.heap.get? b = some o -> h'.get? b = some o) -> Q none { s with heap := h' }) :
 wpAny (model prog w) A.in1 (newExc (.type "StopIteration") [] >>= fun e => raiseNew (α := Fin) e) (fun fin s' => ∃ v, fin = Fin.done (Flow.ret v) /\ wpAny (model prog w) A (pure (some v)) Q E s')
  (fun e s' => wpAny (model prog w) A (isInstance e (.type "StopIteration") >>= fun b => if b = true then pure none else throw e) Q E s') s := by
 refine ab ?_; simp only [newExc, newTuple]; refine ab (cq ?_ (by size_fits)); refine ab (m := firstArgMember _ _) (gW (a := Value.none) (by first | rfl | (simp only [firstArgMember]; rfl)) ?_); refine cq ?_ (by size_fits)
 simp only [raiseNew]; refine ab (wpAny_handled ?_); rw [show A.in1.handled = none from hh]; refine ab (ao (wpAny_throw ?_)); refine ab (wpAny_isInstance (T := "StopIteration") (b := true) ⟨_, aE _ rfl, rfl⟩ isSubtype_stop ?_)
 exact ao (h _ fun b o e => ak _ (ak _ e))
theorem zh4 {ob : Obj} {es : Array (Int × Value)} {t : SetTable} {Q : Option Value -> Shared -> Prop} (hh : A.handled = none) (hI : SIter s.heap I (.ref T) n a n ep) (ho : s.heap.get? a = some ob) (hd : ob.data = .set es ep t) (hf : t.fits es.size = true) (hn : es.size = n)
 (hT : s.heap.IsTuple T pl) (hp : pl[n]? = none) (h : ∀ h', (∀ b o, b ≠ I -> s.heap.get? b = some o -> h'.get? b = some o) -> Q none { s with heap := h' }) : wpAny (model prog w) A (pyNext (.ref I)) Q E s := by
 unfold pyNext
 refine ab (fQ (dz (name := aI "__next__") (hI.ty rfl) sit_next (cF sit_next (hI.ty rfl) Ru ?_ (VB _))))
 unfold Builtin.«set_iterator.__next__» hW; simp only [cC, cu, aQ, ↓reduceIte, bind_assoc, aD, bne_self_eq_false]
 refine ab (ao ?_)
 refine ab (fF hI rfl ?_)
 dsimp only
 refine ab (df ho hd hf ?_)
 rw [hn, if_neg (by simp)]
 obtain ⟨ot, hot, _, nt, hdt⟩ := id hT
 refine ab (cV hot hdt ?_)
 simp only [bP, hp]
 refine ab (ca hI (by simp) fun h1 hI1 hs1 => ?_)
 refine ab (ca hI1 (by simp) fun h2 hI2 hs2 => ?_)
 refine zca (hh := hh) fun h' hk => h h' fun b o hb e => hk b o ((hs2.2 b hb).trans ((hs1.2 b hb).trans e))
theorem QI {I a : Addr} {sl i n ep : Nat} {ob : Obj} {es : Array (Int × Value)} {t : SetTable} {Q : Option Value -> Shared -> Prop} {r : Option (Value × Nat)} (hh : A.handled = none) (hI : SIter s.heap I (.int sl 0) i a n ep) (ho : s.heap.get? a = some ob) (hd : ob.data = .set es ep t) (hf : t.fits es.size = true) (hn : es.size = n)
 (hr : ∀ (Q' : Option (Value × Nat) -> Shared -> Prop) (E' : Value -> Shared -> Prop), Q' r s -> wpAny (model prog w) A.in1 (g5 a sl i ep) Q' E' s)
 (h1 : ∀ x nx, r = some (x, nx) -> ∀ h', SIter h' I (.int nx 0) (i + 1) a n ep -> cI I s.heap h' -> Q (some x) { s with heap := h' })
 (h2 : r = none -> ∀ h', (∀ b o, b ≠ I -> s.heap.get? b = some o -> h'.get? b = some o) -> Q none { s with heap := h' }) : wpAny (model prog w) A (pyNext (.ref I)) Q E s := by
 unfold pyNext
 refine ab (fQ (dz (name := aI "__next__") (hI.ty rfl) sit_next (cF sit_next (hI.ty rfl) Ru ?_ (VB _))))
 unfold Builtin.«set_iterator.__next__» hW; simp only [cC, cu, aQ, ↓reduceIte, bind_assoc, aD, bne_self_eq_false]
 refine ab (ao ?_)
 refine ab (fF hI rfl ?_)
 dsimp only
 refine ab (df ho hd hf ?_)
 rw [hn, if_neg (by simp)]
 simp only [bP]
 refine ab (hr _ _ ?_)
 cases e : r with
 | none =>
  dsimp only
  refine ab (ca hI (by simp) fun h3 hI3 hs3 => ?_)
  exact zca (hh := hh) fun h' hk => h2 e h' fun b o hb z => hk b o ((hs3.2 b hb).trans z)
 | some y =>
  obtain ⟨x, nx⟩ := y
  dsimp only
  refine ab (ca hI (by simp) fun h3 hI3 hs3 => ?_)
  refine ab (ca hI3 (by simp) fun h4 hI4 hs4 => ?_)
  exact ao ⟨_, rfl, ao (h1 x nx e h4 hI4 (hs3.trans hs4))⟩
end
theorem zfq {α : Type} (f : Nat -> Nat) : ∀ (n k : Nat) (l : List α) (out : Array α), n = l.length -> ∃ ys, ys.Perm l /\ (bZ.go f n k l out).toList = out.toList ++ ys
 | 0, k, [], out, _ => ⟨[], bG _, by simp [bZ.go]⟩
 | 0, _, _ :: _, _, e => by simp at e
 | n + 1, _, [], _, e => by simp at e
 | n + 1, k, x :: l, out, e => by
  have hi : f k % (x :: l).length < (x :: l).length := Nat.mod_lt _ (by simp)
  obtain ⟨ys, p, q⟩ := zfq f n (k + 1) ((x :: l).eraseIdx (f k % (x :: l).length)) (out.push ((x :: l)[f k % (x :: l).length])) (by rw [fB, if_pos hi]; simp at e ⊢; exact e)
  refine ⟨(x :: l)[f k % (x :: l).length] :: ys, (p.cons _).trans (Uy hi), ?_⟩
  rw [bZ.go, af hi]
  dsimp only
  rw [q, gA, bI]
  rfl
theorem Yy {α : Type} (f : Nat -> Nat) (xs : Array α) : (bZ f xs).toList.Perm xs.toList := by
 obtain ⟨ys, p, q⟩ := zfq f xs.size 0 xs.toList #[] (by simp)
 unfold bZ
 rw [q]
 simpa using p
section
variable {prog : Program} {w : World} {A : Around} {E : Value -> Shared -> Prop} {s : Shared}
theorem Yz {Q : Bool -> Shared -> Prop} (h : Q (JC w) s) : wpAny (model prog w) A setsByText Q E s := by
 unfold setsByText
 exact ab (eY (ao h))
structure SetAt (h : Heap) (a : Addr) (ob : Obj) (es : Array (Int × Value)) (ep : Nat) (t : SetTable) : Prop where
 g : h.get? a = some ob
 d : ob.data = .set es ep t
 f : t.fits es.size = true
theorem SetAt.keep {h h' : Heap} (x : SetAt h a ob es ep t) (k : ∀ o, h.get? a = some o -> h'.get? a = some o) : SetAt h' a ob es ep t := ⟨k _ x.g, x.d, x.f⟩
theorem WK (hb : JC w = true) (x : SetAt s.heap a ob es ep t) (Q : Option (Value × Nat) -> Shared -> Prop) (E : Value -> Shared -> Prop) (h : Q (((bZ (w.params.setOrder a ep) es)[i]?).map fun e => (e.2, sl)) s) : wpAny (model prog w) A (g5 a sl i ep) Q E s := by
 unfold g5
 refine ab (bQ x.g x.d x.f (ab (Yz ?_)))
 rw [hb]
 simp only [if_true, bne_self_eq_false, aQ, if_false]
 unfold setWalk
 refine ab (ab (bQ x.g x.d x.f (ab (Yz ?_))))
 rw [hb]
 simp only [if_true]
 refine ab (eY (ao (ao h)))
theorem Rv {es : Array (Int × Value)} {t : SetTable} (hb : JC w = false) (x : SetAt s.heap a ob es ep t) (h1 : es.size <= 1) (hl : t.led = true) (Q : Option (Value × Nat) -> Shared -> Prop) (E : Value -> Shared -> Prop)
 (h : Q (match es[eo t.place sl]?, t.place[eo t.place sl]? with | some (_, x), some j => some (x, j + 1) | _, _ => none) s) : wpAny (model prog w) A (g5 a sl i ep) Q E s := by
 unfold g5
 refine ab (bQ x.g x.d x.f (ab (Yz ?_)))
 rw [hb]
 simp only [aQ, if_false]
 rw [if_neg ?nd]
 case nd =>
  show ¬ (!t.plain && decide (es.size > 1)) = true
  rw [decide_eq_false (by omega), eh]
  exact aw
 refine ab (show wpAny (model prog w) A (if (!t.led && !es.isEmpty) = true then unsupported "set:maker-not-led" else pure ()) _ _ s from ?_)
 rw [hl, cu, dB, if_neg aw]
 exact ao (ao h)
theorem VC : eo #[p] j = if p < j then 1 else 0 := by
 unfold eo
 show dD #[p] j 1 0 1 = _
 unfold dD
 simp only [bV, Nat.zero_lt_one, if_true]
 show (if (#[p] : Array Nat).getD 0 j < j then dD #[p] j 0 1 1 else dD #[p] j 0 0 0) = _
 rfl
theorem YA {Q : Value -> Shared -> Prop} (x : SIter s.heap I first i a n ep) (h : Q (.ref I) s) : wpAny (model prog w) A (pyIter (.ref I)) Q E s := by
 refine wpAny_pyIter_slot (x.ty rfl) zdJ (cF zdJ (x.ty rfl) zjI ?_ (zh2 _))
 show wpAny _ _ (ret (.ref I)) _ _ s
 exact ao ⟨_, rfl, "set_iterator", _, x.ty rfl, sit_next.lookup, h⟩
theorem zez {es : Array (Int × Value)} (hb : JC w = true) (hne : a ≠ I) (hh : A.handled = none) :
 Walks prog w A I [I, a] [I] es.size (fun i v => ((bZ (w.params.setOrder a ep) es).map (·.2))[i]? = some v) (fun i h => SIter h I (.int 0 0) i a es.size ep /\ SetAt h a ob es ep t) where
 sub := fun b hb => by simp at hb; simp [hb]
 frame := fun i h h' st k => ⟨k I (by simp) _ st.1, st.2.keep fun o e => k a (by simp) o e⟩
 item := fun i s Q E hi st hQ => by
  have hsz : (bZ (w.params.setOrder a ep) es).size = es.size := by have := (Yy (w.params.setOrder a ep) es).length_eq; simpa using this
  have hg : (bZ (w.params.setOrder a ep) es)[i]? = some ((bZ (w.params.setOrder a ep) es)[i]'(by omega)) := bL _
  refine QI (sl := 0) hh st.1 st.2.g st.2.d st.2.f rfl (fun Q' E' h => WK hb st.2 Q' E' h) (fun x nx e h' hI hs => ?_) fun e => ?_
  · rw [hg] at e
    cases e
    exact hQ _ h' s.toks (by rw [Array.getElem?_map, hg]; rfl) ⟨hI, st.2.keep fun o e => (hs.2 a hne).trans e⟩ fun b o hb e => (hs.2 b (fun z => hb (by simp [z]))).trans e
  · rw [hg] at e; cases e
 done := fun s Q E st hQ => by
  have hsz : (bZ (w.params.setOrder a ep) es).size = es.size := by have := (Yy (w.params.setOrder a ep) es).length_eq; simpa using this
  have hg : (bZ (w.params.setOrder a ep) es)[es.size]? = none := dF (by omega)
  refine QI (sl := 0) hh st.1 st.2.g st.2.d st.2.f rfl (fun Q' E' h => WK hb st.2 Q' E' h) (fun x nx e => ?_) fun e h' hk => hQ h' s.toks fun b o hb z => hk b o (fun y => hb (by simp [y])) z
  rw [hg] at e; cases e
 self := fun i s Q E st hQ => YA st.1 hQ
theorem zgx {es : Array (Int × Value)} {pl : List Nat} (hne : a ≠ I) (hT : T ≠ I) (hp : pl.Perm (cT es.size)) (hh : A.handled = none) :
 Walks prog w A I [I, a, T] [I] es.size (fun i v => ∃ j, pl[i]? = some j /\ (es[j]?).map (·.2) = some v) (fun i h => SIter h I (.ref T) i a es.size ep /\ SetAt h a ob es ep t /\ h.IsTuple T ((pl.map fun (i : Nat) => Value.int i 0).toArray)) where
 sub := fun b hb => by simp at hb; simp [hb]
 frame := fun i h h' st k => ⟨k I (by simp) _ st.1, st.2.1.keep fun o e => k a (by simp) o e, st.2.2.at fun o e => k T (by simp) o e⟩
 item := fun i s Q E hi st hQ => by
  have hl : pl.length = es.size := by have := hp.length_eq; simpa using this
  have hg : pl[i]? = some (pl[i]'(by omega)) := af _
  have hj : pl[i]'(by omega) < es.size := by have := hp.mem_iff.mp (eR (l := pl) (n := i) (by omega)); simpa using this
  have hx : es[pl[i]'(by omega)]? = some (es[pl[i]'(by omega)]) := bL hj
  refine zgw st.1 st.2.1.g st.2.1.d st.2.1.f rfl st.2.2 (j := pl[i]'(by omega)) (by simp [hg]) hx fun h' hI hs => ?_
  exact hQ _ h' s.toks ⟨_, hg, by rw [hx]; rfl⟩ ⟨hI, st.2.1.keep fun o e => (hs.2 a hne).trans e, st.2.2.at fun o e => (hs.2 T hT).trans e⟩ fun b o hb e => (hs.2 b (fun z => hb (by simp [z]))).trans e
 done := fun s Q E st hQ => by
  have hl : pl.length = es.size := by have := hp.length_eq; simpa using this
  exact zh4 hh st.1 st.2.1.g st.2.1.d st.2.1.f rfl st.2.2 (by simp [hl]) fun h' hk => hQ h' s.toks fun b o hb z => hk b o (fun y => hb (by simp [y])) z
 self := fun i s Q E st hQ => YA st.1 hQ
theorem zh5 {t : SetTable} (hb : JC w = false) (hl : t.led = true) (hh : A.handled = none) :
 Walks prog w A I [I, a] [I] 0 (fun i v => False) (fun i h => SIter h I (.int 0 0) i a 0 ep /\ SetAt h a ob #[] ep t) where
 sub := fun b hb => by simp at hb; simp [hb]
 frame := fun i h h' st k => ⟨k I (by simp) _ st.1, st.2.keep fun o e => k a (by simp) o e⟩
 item := fun i s Q E hi st hQ => absurd hi (Nat.not_lt_zero _)
 done := fun s Q E st hQ => by
  refine QI (sl := 0) hh st.1 st.2.g st.2.d st.2.f rfl (fun Q' E' h => Rv hb st.2 (by simp) hl Q' E' h) (fun x nx e => ?_) fun e h' hk => hQ h' s.toks fun b o hb z => hk b o (fun y => hb (by simp [y])) z
  simp at e
 self := fun i s Q E st hQ => YA st.1 hQ
theorem zjK {t : SetTable} (hb : JC w = false) (hl : t.led = true) (hp : t.place = #[p]) (hne : a ≠ I) (hh : A.handled = none) :
 Walks prog w A I [I, a] [I] 1 (fun i v => v = x.2) (fun i h => SIter h I (.int (if i = 0 then 0 else p + 1 : Nat) 0) i a 1 ep /\ SetAt h a ob #[x] ep t) where
 sub := fun b hb => by simp at hb; simp [hb]
 frame := fun i h h' st k => ⟨k I (by simp) _ st.1, st.2.keep fun o e => k a (by simp) o e⟩
 item := fun i s Q E hi st hQ => by
  have : i = 0 := by omega
  subst this
  refine QI (sl := 0) hh st.1 st.2.g st.2.d st.2.f rfl (fun Q' E' h => Rv hb st.2 (by simp) hl Q' E' h) (fun y nx e h' hI hs => ?_) fun e => ?_
  · rw [hp, VC, if_neg (by omega)] at e
    simp at e
    obtain ⟨e1, e2⟩ := e
    subst e1 e2
    exact hQ _ h' s.toks rfl ⟨hI, st.2.keep fun o e => (hs.2 a hne).trans e⟩ fun b o hb e => (hs.2 b (fun z => hb (by simp [z]))).trans e
  · rw [hp, VC, if_neg (by omega)] at e
    simp at e
 done := fun s Q E st hQ => by
  refine QI (sl := p + 1) hh st.1 st.2.g st.2.d st.2.f rfl (fun Q' E' h => Rv hb st.2 (by simp) hl Q' E' h) (fun x nx e => ?_) fun e h' hk => hQ h' s.toks fun b o hb z => hk b o (fun y => hb (by simp [y])) z
  rw [hp, VC, if_pos (by omega)] at e
  simp at e
 self := fun i s Q E st hQ => YA st.1 hQ
theorem zgy {α β : Type} {es : Array α} {f : α -> β} {pl : List Nat} {acc : Array β} (hp : pl.Perm (cT es.size)) (h : acc.size = es.size) (ha : ∀ (i : Nat) v, acc[i]? = some v -> ∃ j : Nat, pl[i]? = some j /\ (es[j]?).map f = some v) : acc.toList.Perm (es.toList.map f) := by
 have hl : pl.length = es.size := by have := hp.length_eq; simpa using this
 have e : acc.toList.map some = pl.map fun j => (es[j]?).map f := by
  apply eM
  intro i
  rw [au, au]
  by_cases hi : i < es.size
  · have g : acc[i]? = some (acc[i]'(by omega)) := bL _
    obtain ⟨j, p1, p2⟩ := ha i _ g
    rw [p1, ft, g]
    simp only [cf]
    rw [p2]
  · rw [bz (by simp; omega), bz (by omega)]; rfl
 have p1 := hp.map fun j => (es[j]?).map f
 rw [← e] at p1
 have e2 : (cT es.size).map (fun j => (es[j]?).map f) = (es.toList.map f).map some := by
  apply eM
  intro i
  rw [au, au, au]
  by_cases hi : i < es.size
  · rw [d4 hi]
    simp [hi]
  · rw [bz (by simp; omega), bz (by simp; omega)]; rfl
 rw [e2] at p1
 have p2 := p1.filterMap id
 simpa using p2
theorem zjL {ob : Obj} {es : Array (Int × Value)} {t : SetTable} {Q : Value -> Shared -> Prop} (hx : ob.ExactSet) (x : SetAt s.heap a ob es ep t) (hl : t.led = !JC w) (hpl : 1 <= es.size -> t.plain = false) (hb : es.size < cP)
 (hQ : ∀ h' dr I fp P St, (∀ A' : Around, A'.handled = none -> Walks prog w A' I fp [I] es.size P St) -> St 0 h' -> (∀ acc : Array Value, ItemsOf P acc es.size -> acc.toList.Perm (es.toList.map (·.2))) -> (∀ b o, s.heap.get? b = some o -> h'.get? b = some o) -> s.heap.objs.size <= I -> (∀ b ∈ fp, b = a \/ s.heap.objs.size <= b) -> Q (.ref I) { s with heap := h', drawn := dr }) :
 wpAny (model prog w) A (pyIter (.ref a)) Q E s := by
 have hT : s.TypeIs (.ref a) "set" := ⟨ob, x.g, hx.1⟩
 have alt : a < s.heap.objs.size := ay x.g
 refine wpAny_pyIter_slot hT fw (cF fw hT zjJ ?_ (zh3 _))
 unfold Builtin.«frozenset.__iter__» Builtin.Frozenset.slot0 hW; simp only [cC, cu, aQ, ↓reduceIte, bind_assoc, aD, bne_self_eq_false]
 unfold Builtin.Frozenset.addrOf Builtin.Frozenset.sizeOf
 refine ab (ao (ab (ao ?_)))
 refine ab (ab (df x.g x.d x.f (ao ?_)))
 unfold setDrawn
 refine ab (ab (bQ x.g x.d x.f (ab (Yz (ao ?_)))))
 have ends : ∀ (h1 : Heap) (dr : Drawn) (first : Value) (fp : List Addr) (P : Nat -> Value -> Prop) (St : Nat -> Heap -> Prop), SetAt h1 a ob es ep t -> (∀ b o, s.heap.get? b = some o -> h1.get? b = some o) -> s.heap.objs.size <= h1.objs.size ->
  (∀ A' : Around, A'.handled = none -> Walks prog w A' h1.objs.size fp [h1.objs.size] es.size P St) -> (∀ h2, SIter h2 h1.objs.size first 0 a es.size ep -> (∀ b o, h1.get? b = some o -> h2.get? b = some o) -> St 0 h2) -> (∀ acc : Array Value, ItemsOf P acc es.size -> acc.toList.Perm (es.toList.map (·.2))) -> (∀ b ∈ fp, b = a \/ s.heap.objs.size <= b) ->
  wpAny (model prog w) A.in1 (setEpoch a >>= fun e => newFields "set_iterator" [first, rawInt 0, .ref a, rawInt (es.size : Nat), rawInt (e : Nat)] >>= fun v => ret v) (fun fin s' => ∃ v, fin = Fin.done (Flow.ret v) /\ ∃ T' r, s'.TypeIs v T' /\ ia (.type T') (aI "__next__") = pure (some r) /\ Q v s') E { s with heap := h1, drawn := dr } := by
  intro h1 dr first fp P St x1 k1 z1 W hst hacc hfp
  unfold setEpoch
  refine ab (ab (bQ x1.g x1.d x1.f (ao ?_)))
  refine ab (cq ?_)
  have hI : SIter (h1.push { cls := .type "set_iterator", dict := none, data := .fields #[first, .int (0 : Nat) 0, .ref a, .int (es.size : Nat) 0, .int (ep : Nat) 0], slots := #[] }) h1.objs.size first 0 a es.size ep := aE _ rfl
  refine ao ⟨_, rfl, "set_iterator", _, ⟨_, hI, rfl⟩, sit_next.lookup, ?_⟩
  exact hQ _ dr h1.objs.size fp P St W (hst _ hI fun b o e => ak _ e) hacc (fun b o e => ak _ (k1 b o e)) z1 hfp
 have same : s = { s with heap := s.heap, drawn := s.drawn } := rfl
 cases hbt : JC w with
 | true =>
  rw [if_neg (by simp)]
  refine ab (ao ?_)
  rw [same]
  refine ends s.heap s.drawn _ _ _ _ x (fun _ _ e => e) (az _) (fun A' hA => zez (ob := ob) (t := t) (ep := ep) hbt (aB alt) hA) (fun h2 hI k => ⟨hI, x.keep fun o e => k _ o e⟩) (fun acc ha => ?_) (fun b hb => by simp at hb; rcases hb with h | h <;> simp [h])
  have hsz : (bZ (w.params.setOrder a ep) es).size = es.size := by have := (Yy (w.params.setOrder a ep) es).length_eq; simpa using this
  have e : acc = (bZ (w.params.setOrder a ep) es).map (·.2) := by
   apply Array.ext_getElem?
   intro i
   by_cases hi : i < es.size
   · have g : acc[i]? = some (acc[i]'(by have := ha.1; omega)) := bL _
     rw [g]
     exact (ha.2 i _ g).symm
   · rw [dF (by have := ha.1; omega), dF (by simp; omega)]
  rw [e, Array.toList_map]
  exact (Yy _ es).map _
 | false =>
  rw [hbt] at hl
  by_cases h1 : 1 < es.size
  · rw [if_pos ?yes]
    case yes =>
     show (!false && (!t.plain && decide (es.size > 1))) = true
     rw [hpl (by omega), decide_eq_true h1]; rfl
    refine ab (zb_ es.size (cT es.size) _ _ (by simp) fun pl dr hp => ?_)
    have hlen : pl.length = es.size := by have := hp.length_eq; simpa using this
    have fits : (pl.map fun (i : Nat) => rawInt i).length <= aG := by rw [am, hlen]; exact dI hb
    refine ab (wpAny_newTuple ?_ fits)
    have sz : (s.heap.push { cls := .type "tuple", data := .seq (pl.map fun (i : Nat) => rawInt i).toArray }).objs.size = s.heap.objs.size + 1 := bF ..
    refine ends _ dr _ [(s.heap.push { cls := .type "tuple", data := .seq (pl.map fun (i : Nat) => rawInt i).toArray }).objs.size, a, s.heap.objs.size] _ _ (x.keep fun o e => ak _ e) (fun b o e => ak _ e) (by rw [sz]; omega)
     (fun A' hA => zgx (T := s.heap.objs.size) (ob := ob) (t := t) (ep := ep) (pl := pl) (by rw [sz]; exact aB (bx alt)) (by rw [sz]; exact aB (bY _)) hp hA) (fun h2 hI k => ⟨hI, x.keep fun o e => k _ o (ak _ e), ⟨_, k _ _ (aE _ rfl), rfl, _, rfl⟩⟩) (fun acc ha => zgy hp ha.1 ha.2) (fun b hb => by
      simp only [ar, aO, or_false] at hb
      rcases hb with h | h | h
      · rw [h, sz]; exact .inr (by omega)
      · exact .inl h
      · rw [h]; exact .inr (az _))
  · rw [if_neg ?no]
    case no =>
     show ¬ (!false && (!t.plain && decide (es.size > 1))) = true
     rw [decide_eq_false (by omega)]; simp
    refine ab (ao ?_)
    rw [same]
    have led : t.led = true := by rw [hl]; rfl
    by_cases h0 : es.size = 0
    · have e0 : es = #[] := dP h0
      subst e0
      refine ends s.heap s.drawn _ _ _ _ x (fun _ _ e => e) (az _) (fun A' hA => zh5 (ob := ob) (t := t) (ep := ep) hbt led hA) (fun h2 hI k => ⟨hI, x.keep fun o e => k _ o e⟩) (fun acc ha => ?_) (fun b hb => by simp at hb; rcases hb with h | h <;> simp [h])
      have : acc = #[] := dP ha.1
      rw [this]
      exact bG _
    · have e1 : es.size = 1 := by omega
      have ee : es = #[es[0]'(by omega)] := by
       apply io
       · simpa using e1
       · intro i h1 h2
         have : i = 0 := by omega
         subst this
         rfl
      generalize es[0]'(by omega) = y at ee
      subst ee
      have hpz : t.place.size = 1 := by have := x.f; unfold SetTable.fits at this; simp at this; exact this.1
      have ep1 : t.place = #[t.place[0]'(by omega)] := by
       apply io
       · simpa using hpz
       · intro i h1 h2
         have : i = 0 := by omega
         subst this
         rfl
      refine ends s.heap s.drawn _ _ _ _ x (fun _ _ e => e) (az _) (fun A' hA => zjK (ob := ob) (t := t) (ep := ep) hbt led ep1 (aB alt) hA) (fun h2 hI k => ⟨hI, x.keep fun o e => k _ o e⟩) (fun acc ha => ?_) (fun b hb => by simp at hb; rcases hb with h | h <;> simp [h])
      have hs1 : acc.size = 1 := ha.1
      have ga : acc[0]? = some (acc[0]'(by omega)) := bL _
      have v0 := ha.2 0 _ ga
      have : acc = #[y.2] := by
       apply io
       · simpa using hs1
       · intro i h1 h2
         have : i = 0 := by omega
         subst this
         exact v0
      rw [this]
      exact bG _
end
theorem zdK : ia (.type "set") "__len__" = pure (some (.builtin "set.__len__")) := by rw [fo, dL]; kernel_rfl
section
variable {prog : Program} {w : World} {A : Around} {E : Value -> Shared -> Prop} {s : Shared}
theorem zeA {ob : Obj} {es : Array (Int × Value)} {t : SetTable} {Q : List Value -> Shared -> Prop} (hh : A.handled = none) (hx : ob.ExactSet) (x : SetAt s.heap a ob es ep t) (hl : t.led = !JC w) (hpl : 1 <= es.size -> t.plain = false) (hb : es.size < cP)
 (hQ : ∀ s' (acc : Array Value), (∀ b o, s.heap.get? b = some o -> s'.heap.get? b = some o) -> s'.gens = s.gens -> s'.os = s.os -> s.heap.objs.size < s'.heap.objs.size -> acc.toList.Perm (es.toList.map (·.2)) -> Q acc.toList s') : wpAny (model prog w) A (collect (.ref a)) Q E s := by
 have alt : a < s.heap.objs.size := ay x.g
 unfold collect; refine ab (wpAny_runValue (bC PySem.F.entry_proto_collect ?_))
 rw [be PySem.F.plain_proto_collect _]; show wpAny _ A.in1 (newList [] >>= fun l => again (.builtin "list.__iadd__" ⟨[l, .ref a], []⟩)) _ _ s
 refine ab (cq ?_); refine ao ⟨bX eW _, bC PySem.F.entry_list_iadd ?_⟩
 rw [be eW _]; show wpAny _ A.in1 (d6 (.ref s.heap.objs.size) (.ref a) (.ref s.heap.objs.size)) _ _ _
 unfold d6
 generalize hH : s.heap.push { cls := .type "list", data := .seq ([] : List Value).toArray } = H
 have x1 : SetAt H a ob es ep t := x.keep fun o e => hH ▸ ak _ e
 have hT : fO { s with heap := H } (.ref a) "set" := ⟨ob, x1.g, hx.1⟩
 refine ab (wpAny_typeOf (T := "set") hT ?_)
 have h1 : Builtin.List.listSameRef (.ref s.heap.objs.size) (.ref a) = false := by
  show (s.heap.objs.size == a) = false
  exact beq_eq_false_iff_ne.mpr (e9 alt)
 have h2 : (Value.type "set" == Value.type "list") = false /\ (Value.type "set" == Value.type "tuple") = false := ⟨by decide, by decide⟩
 simp only [h1, h2.1, h2.2, dQ, aQ, if_false]
 refine ab (zjL (s := { s with heap := H }) hx x1 hl hpl hb fun h' dr I fp P St W hst hacc hk hI hfp => ?_)
 refine ab (bO ?_)
 unfold Builtin.List.listLengthHint
 have x2 : SetAt h' a ob es ep t := x1.keep fun o e => hk _ o e
 have hT2 : fO { s with heap := h', drawn := dr } (.ref a) "set" := ⟨ob, x2.g, hx.1⟩
 refine ab (wpAny_specialOf (T := "set") hT2 zdK ?_)
 wp_delta
 refine ab (wpAny_isInstance (T := "set") (b := true) hT2 (by rw [fE]; kernel_rfl) ?_)
 show wpAny _ A.in1 (typeOf (.ref a) >>= _) _ _ _
 refine ab (wpAny_typeOf (T := "set") hT2 ?_)
 refine ao ?_
 rw [if_pos (by decide)]
 refine ab (gj ?_)
 unfold Builtin.List.listTouch
 have hS0 : h'.get? s.heap.objs.size = some (seqObj "list" #[] 0) := hk _ _ (hH ▸ aE _ rfl)
 have hHs : H.objs.size = s.heap.objs.size + 1 := by rw [← hH, bF]
 have notS : ∀ b ∈ fp, b ≠ s.heap.objs.size := fun b hm e => by
  rcases hfp b hm with z | z
  · exact absurd (z.symm.trans e) (aB alt)
  · have z : H.objs.size <= b := z
    rw [hHs, e] at z
    exact Nat.not_succ_le_self _ z
 obtain ⟨c1, hS1⟩ : ∃ c1, (h'.update s.heap.objs.size (bR fun x => x.push Value.none)).get? s.heap.objs.size = some (seqObj "list" #[Value.none] c1) := ⟨_, get?_update_seq hS0 _⟩
 obtain ⟨c2, hS2⟩ : ∃ c2, ((h'.update s.heap.objs.size (bR fun x => x.push Value.none)).update s.heap.objs.size (bR fun x => x.pop)).get? s.heap.objs.size = some (seqObj "list" #[] c2) := ⟨_, get?_update_seq hS1 _⟩
 have oth : ∀ b o, b ≠ s.heap.objs.size -> h'.get? b = some o -> ((h'.update s.heap.objs.size (bR fun x => x.push Value.none)).update s.heap.objs.size (bR fun x => x.pop)).get? b = some o := fun b o hb e => by
  rw [aY _ _ (bp hb), aY _ _ (bp hb)]; exact e
 refine ab (ab (listUpdate_at hS0 rfl (listUpdate_at (s := { s with heap := h'.update s.heap.objs.size (bR fun x => x.push Value.none), drawn := dr }) hS1 rfl ?_)))
 generalize (h'.update s.heap.objs.size (bR fun x => x.push Value.none)).update s.heap.objs.size (bR fun x => x.pop) = h2 at hS2 oth
 have hst2 : St 0 h2 := (W A hh).frame 0 h' h2 hst fun b hm o e => oth b o (notS b hm) e
 have hn : es.size <= aG := dI hb
 refine ao ⟨bX PySem.F.plain_extend_loop _, codeAny_extend_loopS (W A.in1 (by simpa using hh)).toS hn _ (fun z => notS _ z rfl) _ es.size 0 { s with heap := h2, drawn := dr } #[] c2 rfl (bJ _) hst2 hS2 (ItemsOf.nil _) fun s' acc c hm hS' ha => ?_⟩
 show wpAny _ A (load s.heap.objs.size >>= _) _ _ s'
 refine ab (wpAny_load hS' (ao (hQ s' acc (fun b o e => ?_) hm.gens hm.os (ay hS') (hacc acc ha))))
 have blt := ay e
 refine hm.heap b o (fun z => ?_) (oth b o (aB blt) (hk b o (hH ▸ ak _ e)))
 rcases ar.mp z with z | z
 · exact absurd z (aB blt)
 · have z : b = I := by simpa using z
   have hI : H.objs.size <= I := hI
   rw [hHs, ← z] at hI
   exact absurd blt (Nat.not_lt.mpr (Nat.le_of_succ_le hI))
end
def QJ (a b : Str) : Bool := !decide (b.cps.toList < a.cps.toList)
theorem leS_iff {a b : Str} : QJ a b = true ↔ a.cps.toList <= b.cps.toList := by
 unfold QJ
 simp [List.not_lt]
theorem zcb (h1 : QJ a b = true) (h2 : QJ b c = true) : QJ a c = true := leS_iff.mpr (List.le_trans (leS_iff.mp h1) (leS_iff.mp h2))
theorem zh6 (a b : Str) : QJ a b = true \/ QJ b a = true := (List.le_total a.cps.toList b.cps.toList).imp leS_iff.mpr leS_iff.mpr
theorem zjM (h1 : QJ a b = true) (h2 : QJ b a = true) : a = b := by
 have := List.le_antisymm (leS_iff.mp h1) (leS_iff.mp h2)
 cases a; cases b
 simp at this
 rw [this]
def Rw (x : Str) : List Str -> List Str
 | [] => [x]
 | y :: r => if QJ x y = true then x :: y :: r else y :: Rw x r
def Qm : List Str -> List Str
 | [] => []
 | x :: r => Rw x (Qm r)
theorem VD (x : Str) : ∀ l : List Str, (Rw x l).Perm (x :: l)
 | [] => bG _
 | y :: r => by
  unfold Rw
  split
  · exact bG _
  · exact ((VD x r).cons y).trans (List.Perm.swap x y r)
theorem QK : ∀ l : List Str, (Qm l).Perm l
 | [] => bG _
 | x :: r => (VD x _).trans ((QK r).cons x)
theorem WM (x : Str) : ∀ {l : List Str}, l.Pairwise (fun a b => QJ a b = true) -> (Rw x l).Pairwise (fun a b => QJ a b = true)
 | [], _ => by simp [Rw]
 | y :: r, h => by
  obtain ⟨h1, h2⟩ := dn.mp h
  unfold Rw
  split
  · rename_i e
    refine dn.mpr ⟨fun z hz => ?_, h⟩
    rcases ar.mp hz with rfl | hz
    · exact e
    · exact zcb e (h1 z hz)
  · rename_i e
    refine dn.mpr ⟨fun z hz => ?_, WM x h2⟩
    rcases ar.mp ((VD x r).mem_iff.mp hz) with rfl | hz
    · exact (zh6 _ _).resolve_left e
    · exact h1 z hz
theorem VE : ∀ l : List Str, (Qm l).Pairwise (fun a b => QJ a b = true)
 | [] => .nil
 | x :: r => WM x (VE r)
theorem zdL {l m : List Str} (hp : m.Perm l) (hs : m.Pairwise (fun a b => QJ a b = true)) : m = Qm l :=
 List.Perm.eq_of_pairwise (le := fun a b => QJ a b = true) (fun a b _ _ => zjM) hs (VE l) (hp.trans (QK l).symm)
def WN : List y4 -> List Str -> List Str
 | _, [] => []
 | pre, x :: r => if QD pre (.inr x) = true then WN (pre ++ [.inr x]) r else x :: WN (pre ++ [.inr x]) r
theorem zfr : ∀ (r : List Str) (pre : List y4), (WN pre r).length = jK pre (kx r)
 | [], _ => rfl
 | x :: r, pre => by
  have ih := zfr r (pre ++ [.inr x])
  unfold WN
  simp only [kx, al, jK]
  split
  · rw [ih]; simp [kx]
  · rw [ac, ih]; simp [kx]; omega
theorem zbv : ∀ (r : List Str) (pre : List y4) (y : Str), y ∈ WN pre r ↔ y ∈ r /\ Sum.inr y ∉ pre
 | [], _, _ => by simp [WN]
 | x :: r, pre, y => by
  have ih := zbv r (pre ++ [.inr x]) y
  unfold WN
  split
  · rename_i e
    rw [ih]
    have hx : Sum.inr x ∈ pre := isIn_iff.mp e
    simp only [aN, ar, aO, or_false, il, not_or]
    constructor
    · rintro ⟨a, b, c⟩; exact ⟨.inr a, b⟩
    · rintro ⟨a, b⟩
      rcases a with rfl | a
      · exact absurd hx b
      · exact ⟨a, b, fun z => b (by rw [z]; exact hx)⟩
  · rename_i e
    have hx : Sum.inr x ∉ pre := fun z => e (isIn_iff.mpr z)
    rw [ar, ih]
    simp only [aN, ar, aO, or_false, il, not_or]
    constructor
    · rintro (rfl | ⟨a, b, c⟩)
      · exact ⟨.inl rfl, hx⟩
      · exact ⟨.inr a, b⟩
    · rintro ⟨a, b⟩
      by_cases z : y = x
      · exact .inl z
      · exact .inr ⟨a.resolve_left z, b, z⟩
theorem VF : ∀ (r : List Str) (pre : List y4), (WN pre r).Nodup
 | [], _ => .nil
 | x :: r, pre => by
  unfold WN
  split
  · exact VF r _
  · refine ce.mpr ⟨fun z => ?_, VF r _⟩
    have := ((zbv r _ x).mp z).2
    simp at this
def dd (xs : List Str) : List Str := WN [] xs
theorem dd_mem : y ∈ dd xs ↔ y ∈ xs := by unfold dd; rw [zbv]; simp
theorem Uz : (dd xs).Nodup := VF _ _
theorem zdM : (dd xs).length = jK [] (kx xs) := zfr _ _
theorem WO : ∀ {l m : List Str}, l.Nodup -> (∀ x ∈ l, x ∈ m) -> m.length = l.length -> m.Perm l
 | [], m, _, _, h => by rw [cH h]
 | x :: l, m, hn, hs, h => by
  have hx := hs x ai
  obtain ⟨n1, n2⟩ := ce.mp hn
  refine (List.perm_cons_erase hx).trans (List.Perm.cons x (WO n2 (fun y hy => ?_) ?_))
  · exact (fC (fun z => n1 (by rw [← z]; exact hy))).mpr (hs y (ah _ hy))
  · rw [eQ hx, h]; rfl
theorem zdN {vs us : List Value} (h : StrsAre vs ss) (p : us.Perm vs) : ∃ tt, StrsAre us tt /\ tt.Perm ss := by
 induction p generalizing ss with
 | nil => cases h; exact ⟨[], .nil, bG _⟩
 | cons x p ih =>
  cases h with
  | cons y t h => obtain ⟨tt, a, b⟩ := ih h; exact ⟨y :: tt, .cons y t a, b.cons y⟩
 | swap x y l =>
  cases h with
  | cons y1 t1 h =>
   cases h with
   | cons y2 t2 h => exact ⟨_, .cons y2 t2 (.cons y1 t1 h), List.Perm.swap _ _ _⟩
 | trans p q ih1 ih2 =>
  obtain ⟨tt, a, b⟩ := ih2 h
  obtain ⟨uu, c, d⟩ := ih1 a
  exact ⟨uu, c, d.trans b⟩
theorem zcc : ∀ (l : List Str) (p : Str), risingS p l = true -> (∀ x ∈ l, QJ p x = true) /\ l.Pairwise (fun a b => QJ a b = true)
 | [], _, _ => ⟨(fun x h => by cases h), .nil⟩
 | x :: r, p, h => by
  have h : (!ltCps x.cps.toList p.cps.toList && risingS x r) = true := h
  rw [bu, ltCps_eq] at h
  obtain ⟨h1, h2⟩ := zcc r x h.2
  refine ⟨fun y hy => ?_, dn.mpr ⟨h1, h2⟩⟩
  rcases ar.mp hy with rfl | hy
  · exact h.1
  · exact zcb h.1 (h1 y hy)
theorem Ve : ∀ (l : List Str), sortedS l = true -> l.Pairwise (fun a b => QJ a b = true)
 | [], _ => .nil
 | x :: r, h => let ⟨a, b⟩ := zcc r x h; dn.mpr ⟨a, b⟩
section
variable {prog : Program} {w : World} {A : Around} {E : Value -> Shared -> Prop} {s : Shared}
theorem zh7 {es : List (Int × Value)} (he : ElemsOf (yt prog w) es) (hm : ∀ k, QD (kx xs) k = true ↔ ∃ e ∈ es, (yt prog w).is k e.2 = true) : ∃ ss, StrsAre (es.map (·.2)) ss /\ (∀ x ∈ xs, x ∈ ss) /\ ss.length = es.length := by
 have all : ∀ e ∈ es, ∃ x t, e.2 = .str x t /\ x ∈ xs := fun e hx => by
  obtain ⟨⟨k, hk, _⟩, _⟩ := he e hx
  have := (hm k).mpr ⟨e, hx, hk⟩
  rw [isIn_iff] at this
  obtain ⟨x, hxs, rfl⟩ := aW.mp this
  have hk : V4 (.inr x) e.2 = true := hk
  rcases ji hk with ⟨i, t, h1, h2⟩ | ⟨y, t, h1, h2⟩
  · cases h1
  · cases h1; exact ⟨x, t, h2, hxs⟩
 have mk : ∀ (l : List (Int × Value)), (∀ e ∈ l, ∃ x t, e.2 = .str x t /\ x ∈ xs) -> ∃ ss, StrsAre (l.map (·.2)) ss /\ ss.length = l.length /\ ∀ x t, (∃ e ∈ l, e.2 = .str x t) -> x ∈ ss := by
  intro l
  induction l with
  | nil => intro _; exact ⟨[], .nil, rfl, fun x t h => by obtain ⟨e, h, _⟩ := h; cases h⟩
  | cons e l ih =>
   intro h
   obtain ⟨x, t, e1, _⟩ := h e ai
   obtain ⟨ss, a, b, c⟩ := ih fun e' h' => h e' (ah _ h')
   refine ⟨x :: ss, ?_, by simp [b], fun y u hy => ?_⟩
   · rw [al, e1]; exact .cons x t a
   · obtain ⟨e', h1, h2⟩ := hy
     rcases ar.mp h1 with rfl | h1
     · rw [e1] at h2; cases h2; exact ai
     · exact ah _ (c y u ⟨e', h1, h2⟩)
 obtain ⟨ss, a, b, c⟩ := mk es all
 refine ⟨ss, a, fun x hx => ?_, b⟩
 obtain ⟨e, h1, h2⟩ := (hm (.inr x)).mp (isIn_iff.mpr (aW.mpr ⟨x, hx, rfl⟩))
 have h2 : V4 (.inr x) e.2 = true := h2
 rcases ji h2 with ⟨i, t, z, _⟩ | ⟨y, t, z, h3⟩
 · cases z
 · cases z; exact c x t ⟨e, h1, h3⟩
theorem zgz {xs : List Str} {Q : Value -> Shared -> Prop} (hh : A.handled = none) (hS : TxSet prog w s.heap a (QD (kx xs)) (jK [] (kx xs)) (!JC w)) (h64 : xs.length < 64)
 (h : ∀ s' L out e, (∀ b o, s.heap.get? b = some o -> s'.heap.get? b = some o) -> s'.gens = s.gens -> s'.os = s.os -> s.heap.objs.size <= L -> s'.heap.get? L = some (seqObj "list" out e) -> StrsAre out.toList (Qm (dd xs)) -> Q (.ref L) s') :
 wpAny (model prog w) A (call (.builtin "sorted") [.ref a]) Q E s := by
 obtain ⟨ob, es, ep, t, ho, hx, hd, hel, hmem, hb, hf, hn, hled, hpl⟩ := hS
 refine Calls.call_function_entry kind_sorted plain_sorted entry_sorted (args_sorted1 _) ?_
 unfold Builtin.«sorted»; refine ab (m := checkCount "sorted" 1 1 _) (ao ?_)
 refine ab (zeA (by simpa using hh) hx ⟨ho, hd, hf⟩ hled (fun z => hpl (hn ▸ z)) hb fun s1 acc k1 g1 o1 sz pa => ?_)
 obtain ⟨ss, sa, sx, sl⟩ := zh7 hel hmem
 obtain ⟨tt, ta, tp⟩ := zdN sa pa
 have hle : jK [] (kx xs) <= xs.length := by have := Vl (kx xs) []; simpa [kx] using this
 have lent : acc.toList.length < 64 := by
  have := pa.length_eq
  simp at this
  simp; omega
 refine ab (wpAny_newList ?_ (by rw [dU]; omega))
 have hoL : (s1.heap.push (seqObj "list" acc.toList.toArray 0)).get? s1.heap.objs.size = some (seqObj "list" acc.toList.toArray 0) := aE _ rfl
 refine ab (bO (cF slot_list_sort ⟨_, hoL, rfl⟩ entry_list_sort (list_sort_treeK (s := { s1 with heap := s1.heap.push (seqObj "list" acc.toList.toArray 0) }) strKind_oneLt hoL ta.keysOf (fun v1 v2 r e => keyKind_strs (by rw [← e]; exact ta)) lent fun st' a1 a2 => ⟨_, rfl, ?_⟩) (args_list_sort _)))
 obtain ⟨uu, u1, u2, u3⟩ := sorted_out_str ta a1 a2
 obtain ⟨e, he⟩ := sortedHeap_at (vs := acc.toList) (out := (arrOf st').map (·.2)) hoL
 have pw : uu.Pairwise (fun a b => QJ a b = true) := by
  refine Ve uu u3
 have pe : uu.Perm (dd xs) := u2.trans (tp.trans (WO Uz (fun x z => sx x (dd_mem.mp z)) (by rw [sl, zdM, ← hn]; simp)))
 rw [zdL pe pw] at u1
 refine ao ⟨_, rfl, h _ s1.heap.objs.size _ e (fun b o z => ?_) g1 o1 (dA sz) he u1⟩
 have z1 := k1 b o z
 have lt := ay z1
 rw [sortedHeap_old (aB lt) (by rw [size_push']; exact bx lt)]
 exact ak _ z1
end
def zbw (P : Program) (w : World) (a : Addr) (xs : List Str) : HO := .ext fun h => TxSet P w h a (QD (kx xs)) (jK [] (kx xs)) (!JC w)
section
variable {X : Cx}
theorem Inv.like {s s' : Shared} (I : Inv X pins σ H s) (h : s'.heap = s.heap) (o : s'.os = s.os) (g : s'.gens = s.gens) : Inv X pins σ H s' := by
 obtain ⟨hp, gn, dr, tk, os⟩ := s
 obtain ⟨hp', gn', dr', tk', os'⟩ := s'
 cases h; cases o; cases g
 exact ⟨I.ok, I.os, I.bare, I.base, I.loc, I.cell, I.free, I.freeC, I.pin, I.hok, I.len⟩
theorem zcd (hc : X.calm = true) : jt X (.type "set") (fun vs H Q => ∃ (a : Addr) (xs : List Str), vs = [.ref a] /\ jQ X.K H a (xs.map V.str) /\ xs.length < 1000 /\ ∀ p, H p = none -> Q (.ref p) (ye H p (zbw X.prog X.w p xs))) := by
 intro pins s σ H vs us Q I rv h
 obtain ⟨a, xs, rfl, hq, hz, q⟩ := h
 obtain ⟨u, rfl, ru⟩ := rv.one
 cases ru
 obtain ⟨its, r, pl, _⟩ := I.list hq
 have hl := r.length
 rw [am] at hl
 refine zdI (I.ok.hd hc) pl.isList (zh0 r) (by unfold cP; omega) fun h' tk hS kk => ?_
 obtain ⟨o, es, ep, t, ho, rest⟩ := id hS
 refine ⟨.ref s.heap.objs.size, ye H s.heap.objs.size (zbw X.prog X.w s.heap.objs.size xs), I.laid (fun b ob e => kk b ob (ay e) e) (az _) ?_, rfl, q _ (I.hok.fresh (az _))⟩
 exact ⟨hS, ⟨o, ho⟩, fun h1 h2 p k => p.at k⟩
theorem zcE : jt X (.builtin "len") (fun vs H Q => ∃ (a : Addr) (xs : List Str), vs = [.ref a] /\ H a = some (zbw X.prog X.w a xs) /\ Q (.int (jK [] (kx xs))) H) := by
 intro pins s σ H vs us Q I rv h
 obtain ⟨a, xs, rfl, hq, q⟩ := h
 obtain ⟨u, rfl, ru⟩ := rv.one
 cases ru
 obtain ⟨hS, _, _⟩ := (show ObjOk X.prog X.w H s.heap a (zbw X.prog X.w a xs) from I.hok a _ hq)
 obtain ⟨o, es, ep, t, ho, hex, hd, hel, hmem, hb, hf, hn⟩ := hS.set
 have hb' : (es.size : Int) < 2 ^ 63 := by unfold cP at hb; omega
 have q' : Q (.int es.size) H := by rw [hn]; exact q
 exact fX ho hex hd hf hb' ⟨.int es.size, H, I.tok _, ⟨_, rfl⟩, q'⟩
theorem vals_strs : ∀ {vs : List Value} {ss : List Str}, StrsAre vs ss -> Vals (ss.map V.str) vs
 | _, _, .nil => .nil
 | _, _, .cons y t r => .cons ⟨t, rfl⟩ (vals_strs r)
theorem zbx (hc : X.calm = true) : jt X (.builtin "sorted") (fun vs H Q => ∃ (a : Addr) (xs : List Str), vs = [.ref a] /\ H a = some (zbw X.prog X.w a xs) /\ xs.length < 64 /\ ∀ l, H l = none -> Q (.ref l) (ye H l (.lst ((Qm (dd xs)).map V.str)))) := by
 intro pins s σ H vs us Q I rv h
 obtain ⟨a, xs, rfl, hq, hz, q⟩ := h
 obtain ⟨u, rfl, ru⟩ := rv.one
 cases ru
 obtain ⟨hS, _, _⟩ := (show ObjOk X.prog X.w H s.heap a (zbw X.prog X.w a xs) from I.hok a _ hq)
 refine zgz (I.ok.hd hc) hS hz fun s' L out e k g o hL hg hs => ?_
 have len : (Qm (dd xs)).length <= xs.length := by rw [(QK _).length_eq, zdM]; have := Vl (kx xs) []; simpa [kx] using this
 have I1 := I.laid (a := L) (o := .lst ((Qm (dd xs)).map V.str)) (t' := s.toks) k hL ⟨by rw [am, dU]; omega, out.toList, e, vals_strs hs, hg⟩
 exact ⟨.ref L, _, I1.like rfl o g, rfl, q L (I.hok.fresh hL)⟩
end
theorem Zt {ns : List Int} {its : List Value} {i : Nat} {v : Value} (r : Vals (ns.map V.int) its) (h : its.toArray[i]? = some v) : ∃ t, v = .int (ns.getD i 0) t := by
 have hv : its[i]? = some v := by simpa using h
 have hi : i < its.length := (aL.mp hv).1
 have hl := r.length
 rw [am] at hl
 obtain ⟨u, hu, ru⟩ := r.get (i := i) (x := .int (ns.getD i 0)) (by
  rw [au, af (by omega), aA, af (by omega)]; rfl)
 rw [hv] at hu; cases hu
 exact ru
theorem WP (ns : List Int) : ∀ n, n <= ns.length -> preSum (fun i => ns.getD i 0) n = (ns.take n).sum
 | 0, _ => by simp [preSum]
 | n + 1, h => by
  rw [preSum, WP ns n (by omega), List.take_succ_eq_append_getElem (by omega), gZ, aA, af (by omega)]
  simp
section
variable {X : Cx}
theorem zjN (hc : X.calm = true) : jt X (.builtin "sum") (fun vs H Q => ∃ (a : Addr) (ns : List Int), vs = [.ref a] /\ jQ X.K H a (ns.map V.int) /\ Q (.int ns.sum) H) := by
 intro pins s σ H vs us Q I rv h
 obtain ⟨a, ns, rfl, hq, q⟩ := h
 obtain ⟨u, rfl, ru⟩ := rv.one
 cases ru
 obtain ⟨its, r, pl, hz⟩ := I.list hq
 have hl := r.length
 rw [am] at hl
 have hlt : a < s.heap.objs.size := by obtain ⟨o, n, e, _⟩ := pl; exact ay e
 refine call_sum_walkAnyS (cn pl.isList ⟨_, _, _, _, _, _, _, fun i => ns.getD i 0, rfl, (eZ (by simpa using I.ok.hd hc) s.heap.objs.size a (aB hlt) its.toArray).toS, ⟨⟨_, aE _ rfl, rfl, rfl⟩, pl.isList.push _⟩, ?_, fun i v hv => Zt r hv, fun s' t' hm => ?_⟩)
 · intro b hb
   have sz : (s.heap.push { cls := .type "list_iterator", data := .fields #[Value.ref a, Value.int 0 0] }).objs.size = s.heap.objs.size + 1 := bF ..
   show b < (s.heap.push _).objs.size
   rw [bF]
   simp at hb
   rcases hb with rfl | rfl
   · exact bY _
   · exact bx hlt
 · have e : preSum (fun i => ns.getD i 0) its.toArray.size = ns.sum := by
    rw [av, ← hl, WP ns _ (az _), eS]
   rw [e]
   have I1 : Inv X pins σ H { s with heap := s'.heap, toks := s'.toks } := I.kept fun b o e => hm.heap b o (by simp only [dl]; exact aB (ay e)) (ak _ e)
   exact ⟨.int ns.sum, H, I1.like rfl hm.os hm.gens, ⟨_, rfl⟩, q⟩
end
section
variable {prog : Program} {w : World} {A : Around} {R : Result -> Shared -> Prop} {I : Addr} {fp wr : List Addr} {G : Array GenState -> Array GenState -> Prop} {n : Nat} {P : Nat -> Value -> Prop} {St : Nat -> Shared -> Prop}
theorem zjO (W : WalksS prog w A.in1 I fp wr G n P St) (bt : Nat -> Nat -> Bool) (cm : CmpOf prog w A.in1 .Gt P bt) (S : Addr) (sf : S ∉ fp) (kw : List (Str × Value)) :
 ∀ (k j : Nat) (s : Shared) (b : Value) (c : Nat), n - (j + 1) = k -> j + 1 <= n -> St (j + 1) s -> P (ck bt j) b -> s.heap.get? S = some { cls := .type "list", dict := none, data := .seq #[b, b] c, slots := #[] } ->
 (∀ v s', P (ck bt (n - 1)) v -> Moved (S :: wr) G s s' -> R (.ok (.ret v)) s') -> cS (model prog w) A (.builtin "max.loop" ⟨[.ref I, .none, .ref S], kw⟩) R s := by
 have sw : S ∉ wr := fun z => sf (W.sub _ z)
 have up : ∀ b ∈ wr, b ∈ S :: wr := fun b hb => ah _ hb
 have nm : (toString "max" ++ toString ".loop" : String) = "max.loop" := by decide
 have ns : ∀ {b : Addr}, b ∉ S :: wr -> S ≠ b := fun hb z => hb (by rw [z]; exact ai)
 intro k
 induction k with
 | zero =>
  intro j s b c hk hj st pb hS hR
  have hn : j + 1 = n := by omega
  refine bC cK ?_; rw [be aZ _]; show wpAny _ A.in1 (gS (.ref S) >>= _) _ _ s
  refine ab (cV hS rfl ?_); show wpAny _ A.in1 (tryCatch (pyNext (.ref I)) _ >>= _) _ _ s
  refine ab (dH (W.done s _ _ (hn ▸ st) fun s1 m1 => ?_))
  have hS1 := m1.heap S _ sw hS
  show wpAny _ A.in1 (updateSeq S (fun _ => #[]) >>= _) _ _ _; refine ab ?_
  refine fq hS1 rfl (ab (fD (ao (hR b _ (by rw [← hn]; exact pb) ((m1.mono up).then_heap (tk := s1.toks) (az _) fun d o hd e => (aY _ _ (ns hd)).trans e)))))
 | succ k ih =>
  intro j s b c hk hj st pb hS hR
  have lt : j + 1 < n := by omega
  refine bC cK ?_; rw [be aZ _]; show wpAny _ A.in1 (gS (.ref S) >>= _) _ _ s
  refine ab (cV hS rfl ?_); show wpAny _ A.in1 (tryCatch (pyNext (.ref I)) _ >>= _) _ _ s
  refine ab (dH (W.item (j + 1) s _ _ lt st fun v s1 pv st1 m1 => ?_))
  have hS1 := m1.heap S _ sw hS
  show wpAny _ A.in1 (tryCatch (cW [v, v] (richCompare .Gt v b >>= _)) _ >>= _) _ _ _
  refine ab (dH (bO (ab (cm (j + 1) (ck bt j) v b _ _ _ pv pb (ab (bO (bi (ab (fD (ao ?_))))))))))
  cases hb : bt (j + 1) (ck bt j) with
  | true =>
   rw [if_pos rfl]
   refine ab ?_; refine fq hS1 rfl (ab (fD ?_)); rw [nm]
   refine ao ⟨bX aZ _, ih (j + 1) _ v _ (by omega) lt (W.frame _ s1 _ s1.toks st1 (az _) fun d hd o e => (aY _ _ (fun z : S = d => sf (by rw [z]; exact hd))).trans e) (by rw [ck, hb, if_pos rfl]; exact pv) (dJ _ hS1 rfl) fun v' s2 p2 m2 => ?_⟩
   exact hR v' s2 p2 (gT W.gtrans ((m1.mono up).then_heap (by first | exact az _ | exact eH _ | omega) fun d o hd e => (aY _ _ (ns hd)).trans e) m2)
  | false =>
   rw [if_neg aw]
   refine ab (fD ?_); rw [nm]
   exact ao ⟨bX aZ _, ih (j + 1) _ b c (by omega) lt st1 (by rw [ck, hb, if_neg aw]; exact pb) hS1 fun v' s2 p2 m2 => hR v' s2 p2 (gT W.gtrans (m1.mono up) m2)⟩
theorem zh8 (W : WalksS prog w A.in1 I fp wr G n P St) (bt : Nat -> Nat -> Bool) (cm : CmpOf prog w A.in1 .Gt P bt) (S : Addr) (sf : S ∉ fp) (hn : 0 < n) {s : Shared} (st : St 0 s) (hS : s.heap.get? S = some { cls := .type "list", dict := none, data := .seq #[] c, slots := #[] })
 (hR : ∀ v s', P (ck bt (n - 1)) v -> Moved (S :: wr) G s s' -> R (.ok (.ret v)) s') : cS (model prog w) A (.builtin "max.loop" ⟨[.ref I, .none, .ref S], kw⟩) R s := by
 have sw : S ∉ wr := fun z => sf (W.sub _ z)
 have up : ∀ b ∈ wr, b ∈ S :: wr := fun b hb => ah _ hb
 have nm : (toString "max" ++ toString ".loop" : String) = "max.loop" := by decide
 have ns : ∀ {b : Addr}, b ∉ S :: wr -> S ≠ b := fun hb z => hb (by rw [z]; exact ai)
 refine bC cK ?_; rw [be aZ _]; show wpAny _ A.in1 (gS (.ref S) >>= _) _ _ s
 refine ab (cV hS rfl ?_); show wpAny _ A.in1 (tryCatch (pyNext (.ref I)) _ >>= _) _ _ s
 refine ab (dH (W.item 0 s _ _ hn st fun v s1 pv st1 m1 => ?_))
 have hS1 := m1.heap S _ sw hS
 show wpAny _ A.in1 (updateSeq S (fun _ => #[v, v]) >>= _) _ _ _; refine ab ?_
 refine fq hS1 rfl ?_; rw [nm]
 refine ao ⟨bX aZ _, zjO W bt cm S sf kw _ 0 _ v _ rfl hn (W.frame _ s1 _ s1.toks st1 (az _) fun d hd o e => (aY _ _ (fun z : S = d => sf (by rw [z]; exact hd))).trans e) pv (dJ _ hS1 rfl) fun v' s2 p2 m2 => ?_⟩
 exact hR v' s2 p2 (gT W.gtrans ((m1.mono up).then_heap (by first | exact az _ | exact eH _ | omega) fun d o hd e => (aY _ _ (ns hd)).trans e) m2)
theorem zjP (W : WalksS prog w A.in1 I fp wr G 0 P St) (S : Addr) (sf : S ∉ fp) {s : Shared} (st : St 0 s) (hS : s.heap.get? S = some { cls := .type "list", dict := none, data := .seq #[] c, slots := #[] })
 (hR : ∀ s', Moved (S :: wr) G s s' -> R (.ok (.ret d)) s') : cS (model prog w) A (.builtin "max.loop" ⟨[.ref I, .none, .ref S], (x, d) :: kw⟩) R s := by
 have sw : S ∉ wr := fun z => sf (W.sub _ z)
 have up : ∀ b ∈ wr, b ∈ S :: wr := fun b hb => ah _ hb
 refine bC cK ?_; rw [be aZ _]; show wpAny _ A.in1 (gS (.ref S) >>= _) _ _ s
 refine ab (cV hS rfl ?_); show wpAny _ A.in1 (tryCatch (pyNext (.ref I)) _ >>= _) _ _ s
 refine ab (dH (W.done s _ _ st fun s1 m1 => ?_))
 exact ab (gj (ao (hR s1 (m1.mono up))))
end
theorem zh9 (a d : Value) : argsOk "max" ⟨[a], [("default", d)]⟩ := by
 unfold argsOk; kernel_rfl
section
variable {prog : Program} {w : World} {A : Around} {E : Value -> Shared -> Prop} {s : Shared}
theorem zh_ {Q : Value -> Shared -> Prop} (hb : hV table "max" = some b) (ha : argsOk "max" ⟨args, kw⟩)
 (hc : wpAny (model prog w) A.in1 (b ⟨args, kw⟩) (fun fin s' => match fin with
  | .done f => (match (Except.ok f : Result) with | .ok (.ret v) => Q v s' | .ok _ => False | .error e => E e s')
  | .again c' => c'.quiet = true /\ cS (model prog w) A c' (fun r s' => match r with | .ok (.ret v) => Q v s' | .ok _ => False | .error e => E e s') s') E s) : wpAny (model prog w) A (call (.builtin "max") args kw) Q E s := by
 refine gh (codeAny_call_builtin PySem.F.plain_max hb ?_); simp only [checkBuiltinCall, PySem.F.kind_max]
 cases q : Manifest.signature? "max" with
 | none => exact ao hc
 | some sg =>
  have z : Bind.checkArgs "max" sg ⟨args, kw⟩ = pure () := by simpa only [argsOk, q] using ha
  simp only [z]
  exact ao hc
theorem zia {l : Addr} {vs : List Value} {ns : List Int} {d : Value} {Q : Value -> Shared -> Prop} (hh : A.handled = none) (hl : s.heap.IsList l vs.toArray) (r : Vals (ns.map V.int) vs)
 (hQ : ∀ v s', (if ns = [] then v = d else ∃ t, v = .int (ns.getD (ck (fun i j => decide (ns.getD i 0 > ns.getD j 0)) (ns.length - 1)) 0) t) -> (∀ b o, s.heap.get? b = some o -> s'.heap.get? b = some o) -> s'.gens = s.gens -> s'.os = s.os -> Q v s') :
 wpAny (model prog w) A (call (.builtin "max") [.ref l] [("default", d)]) Q E s := by
 have nm : (toString "max" ++ toString ".loop" : String) = "max.loop" := by decide
 have hlen := r.length
 rw [am] at hlen
 have llt : l < s.heap.objs.size := by obtain ⟨o, e, _⟩ := id hl; exact ay e
 refine zh_ PySem.F.entry_max (zh9 _ _) ?_
 show wpAny _ A.in1 (d7 "max" ["key", "default"] 0 ⟨[], [("default", d)]⟩ >>= _) _ _ s
 refine ab (gW (show d7 "max" ["key", "default"] 0 ⟨[], [("default", d)]⟩ = pure [none, some d] from by kernel_rfl) ?_)
 refine ab (ao ?_)
 refine ab (cn hl ?_)
 have W := (eZ (prog := prog) (w := w) (A := A.in1) (by simpa using hh) s.heap.objs.size l (aB llt) vs.toArray).toS
 have iter : (s.heap.push { cls := .type "list_iterator", data := .fields #[Value.ref l, Value.int 0 0] }).IsListIter s.heap.objs.size l 0 /\ (s.heap.push { cls := .type "list_iterator", data := .fields #[Value.ref l, Value.int 0 0] }).IsList l vs.toArray := ⟨⟨_, aE _ rfl, rfl, rfl⟩, hl.push _⟩
 have sz : (s.heap.push { cls := .type "list_iterator", data := .fields #[Value.ref l, Value.int 0 0] }).objs.size = s.heap.objs.size + 1 := bF ..
 refine ab (cq ?_)
 generalize hH : (s.heap.push { cls := .type "list_iterator", data := .fields #[Value.ref l, Value.int 0 0] }) = H1 at iter sz
 have sf : H1.objs.size ∉ [s.heap.objs.size, l] := fun z => by
  rw [sz] at z
  have z : s.heap.objs.size + 1 = s.heap.objs.size \/ s.heap.objs.size + 1 = l := by simpa only [ar, aO, or_false] using z
  rcases z with z | z
  · exact absurd z (Nat.succ_ne_self _)
  · exact absurd z.symm (aB (bx llt))
 have keep : ∀ (s' : Shared), Moved (H1.objs.size :: [s.heap.objs.size]) (fun a b => b = a) { s with heap := H1.push { cls := .type "list", data := .seq ([] : List Value).toArray } } s' -> ∀ b o, s.heap.get? b = some o -> s'.heap.get? b = some o := fun s' m b o e => by
  have lt := ay e
  refine m.heap b o (fun z => ?_) (ak _ (hH ▸ ak _ e))
  rw [sz] at z
  simp at z
  rcases z with z | z
  · exact absurd z (aB (bx lt))
  · exact absurd z (aB lt)
 rw [nm]
 have st2 : (H1.push { cls := .type "list", data := .seq ([] : List Value).toArray }).IsListIter s.heap.objs.size l 0 /\ (H1.push { cls := .type "list", data := .seq ([] : List Value).toArray }).IsList l vs.toArray := ⟨iter.1.at fun o e => ak _ e, iter.2.push _⟩
 have hS : (H1.push { cls := .type "list", data := .seq ([] : List Value).toArray }).get? H1.objs.size = some { cls := .type "list", dict := none, data := .seq #[] 0, slots := #[] } := aE _ rfl
 by_cases h0 : ns = []
 · have v0 : vs = [] := by subst h0; exact cH (by simpa using hlen.symm)
   subst v0
   refine ao ⟨bX aZ _, zjP (A := A) W _ sf (s := { s with heap := _ }) st2 hS fun s' m => ?_⟩
   exact hQ d s' (by rw [if_pos h0]) (keep s' m) m.gens m.os
 · have pos : 0 < vs.toArray.size := by rw [av, ← hlen]; exact cx.mpr h0
   refine ao ⟨bX aZ _, zh8 (A := A) W _ (CmpOf.ints_gt (fun i => ns.getD i 0) fun i v hv => Zt r hv) _ sf pos (s := { s with heap := _ }) st2 hS fun v s' pv m => ?_⟩
   refine hQ v s' ?_ (keep s' m) m.gens m.os
   rw [if_neg h0, hlen]
   obtain ⟨t, e⟩ := Zt r pv
   exact ⟨t, by rw [e, av]⟩
end
section
variable {prog : Program} {w : World} {A : Around} {R : Result -> Shared -> Prop} {I : Addr} {fp wr : List Addr} {G : Array GenState -> Array GenState -> Prop} {n : Nat} {P : Nat -> Value -> Prop} {St : Nat -> Shared -> Prop}
end
section
variable {prog : Program} {w : World} {A : Around} {E : Value -> Shared -> Prop} {s : Shared}
end
section
variable {X : Cx} {pins : List (Addr × Obj)} {σ : St} {H : Hp} {s : Shared} {h' : Heap}
end
def ZE : List Int -> Int
 | [] => 0
 | x :: xs => xs.foldl (fun a b => if b > a then b else a) x
theorem zce (ns : List Int) : ∀ k, k < ns.length -> ns.getD (ck (fun i j => decide (ns.getD i 0 > ns.getD j 0)) k) 0 = ZE (ns.take (k + 1))
 | 0, h => by cases ns with | nil => simp at h | cons x xs => rfl
 | k + 1, h => by
  have ih := zce ns k (by omega)
  have hne : ns.take (k + 1) ≠ [] := fun z => by have := congrArg ci z; rw [cz, aD] at this; omega
  have e : ns.take (k + 1 + 1) = ns.take (k + 1) ++ [ns.getD (k + 1) 0] := by
   rw [g9, af h]; simp [aA, af h]
  have f : ∀ (l : List Int) (y : Int), l ≠ [] -> ZE (l ++ [y]) = if y > ZE l then y else ZE l := fun l y hl => by
   cases l with
   | nil => exact absurd rfl hl
   | cons a r => show (r ++ [y]).foldl _ a = _; rw [gD]; rfl
  rw [e, f _ _ hne, ← ih]
  show ns.getD (if decide (ns.getD (k + 1) 0 > ns.getD (ck _ k) 0) = true then k + 1 else ck _ k) 0 = _
  by_cases c : ns.getD (k + 1) 0 > ns.getD (ck (fun i j => decide (ns.getD i 0 > ns.getD j 0)) k) 0
  · rw [if_pos (decide_eq_true c), if_pos c]
  · rw [if_neg (by rw [decide_eq_false c]; exact aw), if_neg c]
theorem zjQ {ns : List Int} (h : ns ≠ []) : ns.getD (ck (fun i j => decide (ns.getD i 0 > ns.getD j 0)) (ns.length - 1)) 0 = ZE ns := by
 have hl := cx.mpr h
 rw [zce ns _ (by omega), show ns.length - 1 + 1 = ns.length by omega, eS]
section
variable {X : Cx}
def zn8 (K : aj) (ta td : TE) : TE := fun σ H Q => ta σ H fun x H1 => td σ H1 fun d H2 => ∃ (a : Addr) (ns : List Int), x = .ref a /\ jQ K H2 a (ns.map V.int) /\ Q (if ns = [] then d else .int (ZE ns)) H2
theorem zlN (hc : X.calm = true) (hg : Gl X "max") (hm : X.mg "max" = none) (ha : PE X e ta) (hd : PE X de td) (hs : ap [e] X.env = [(false, eval e X.env)] := by rfl) :
 PE X (.Call (.Name "max" p) [e] [⟨some "default", de, kp⟩] pos) (zn8 X.K ta td) := by
 intro pins s σ H Q I h
 refine cM (Vh (u := .builtin "max") I hg hm (by kernel_rfl) ?_)
 refine PyProof.Rows.callWith_kw (zZ (yQ ha jJ hs pos pins s σ H (fun vs H1 => match vs with | [x] => td σ H1 fun d H2 => ∃ (a : Addr) (ns : List Int), x = .ref a /\ jQ X.K H2 a (ns.map V.int) /\ Q (if ns = [] then d else .int (ZE ns)) H2 | _ => False) I h) fun us s1 ⟨vs, H1, I1, r1, q1⟩ => ?_) (by rw [hs]; rfl) (by rw [hs]; rfl)
 match vs, q1 with
 | [x], q1 =>
  refine PyProof.Rows.kws_cons (zZ (hd pins s1 σ H1 _ I1 q1) fun ud s2 ⟨d, H2, I2, rd, a, ns, ex, hq, q2⟩ => PyProof.Rows.kws_nil ?_)
  subst ex
  obtain ⟨u, rfl, ru⟩ := r1.one
  cases ru
  obtain ⟨its, r, pl, hz⟩ := I2.list hq
  refine zia (I2.ok.hd hc) pl.isList r fun v s' hv hk hg' ho => ?_
  have I3 : Inv X pins σ H2 { s2 with heap := s'.heap, toks := s'.toks } := I2.kept hk
  refine ⟨_, H2, I3.like rfl ho hg', ?_, q2⟩
  by_cases h0 : ns = []
  · rw [if_pos h0] at hv ⊢; rw [hv]; exact rd
  · rw [if_neg h0] at hv ⊢
    rw [zjQ h0] at hv
    exact hv
end
def J0 : List Int -> Int
 | [] => 0
 | x :: xs => xs.foldl (fun a b => if b < a then b else a) x
theorem zcf (ns : List Int) : ∀ k, k < ns.length -> ns.getD (ck (fun i j => decide (ns.getD i 0 < ns.getD j 0)) k) 0 = J0 (ns.take (k + 1))
 | 0, h => by cases ns with | nil => simp at h | cons x xs => rfl
 | k + 1, h => by
  have ih := zcf ns k (by omega)
  have hne : ns.take (k + 1) ≠ [] := fun z => by have := congrArg ci z; rw [cz, aD] at this; omega
  have e : ns.take (k + 1 + 1) = ns.take (k + 1) ++ [ns.getD (k + 1) 0] := by
   rw [g9, af h]; simp [aA, af h]
  have f : ∀ (l : List Int) (y : Int), l ≠ [] -> J0 (l ++ [y]) = if y < J0 l then y else J0 l := fun l y hl => by
   cases l with
   | nil => exact absurd rfl hl
   | cons a r => show (r ++ [y]).foldl _ a = _; rw [gD]; rfl
  rw [e, f _ _ hne, ← ih]
  show ns.getD (if decide (ns.getD (k + 1) 0 < ns.getD (ck _ k) 0) = true then k + 1 else ck _ k) 0 = _
  by_cases c : ns.getD (k + 1) 0 < ns.getD (ck (fun i j => decide (ns.getD i 0 < ns.getD j 0)) k) 0
  · rw [if_pos (decide_eq_true c), if_pos c]
  · rw [if_neg (by rw [decide_eq_false c]; exact aw), if_neg c]
theorem zjR {ns : List Int} (h : ns ≠ []) : ns.getD (ck (fun i j => decide (ns.getD i 0 < ns.getD j 0)) (ns.length - 1)) 0 = J0 ns := by
 have hl := cx.mpr h
 rw [zcf ns _ (by omega), show ns.length - 1 + 1 = ns.length by omega, eS]
section
variable {X : Cx}
theorem zib (hc : X.calm = true) : jt X (.builtin "min") (fun vs H Q => ∃ (a : Addr) (ns : List Int), vs = [.ref a] /\ jQ X.K H a (ns.map V.int) /\ ns ≠ [] /\ Q (.int (J0 ns)) H) := by
 intro pins s σ H vs us Q I rv h
 obtain ⟨a, ns, rfl, hq, h0, q⟩ := h
 obtain ⟨u, rfl, ru⟩ := rv.one
 cases ru
 obtain ⟨its, r, pl, hz⟩ := I.list hq
 have hl := r.length
 rw [am] at hl
 have hlt : a < s.heap.objs.size := by obtain ⟨o, n, e, _⟩ := pl; exact ay e
 refine call_min_walkS (cn pl.isList ⟨_, _, _, _, _, _, _, _, rfl, (eZ (by simpa using I.ok.hd hc) s.heap.objs.size a (aB hlt) its.toArray).toS, ⟨⟨_, aE _ rfl, rfl, rfl⟩, pl.isList.push _⟩, ?_, ?_, CmpOf.ints_lt (fun i => ns.getD i 0) fun i v hv => Zt r hv, fun v s' pv hm => ?_⟩)
 · intro b hb
   show b < (s.heap.push _).objs.size; rw [bF]; simp at hb
   rcases hb with rfl | rfl
   · exact bY _
   · exact bx hlt
 · rw [av, ← hl]; exact cx.mpr h0
 · obtain ⟨t, e⟩ := Zt r pv
   rw [av, ← hl, zjR h0] at e
   have I1 : Inv X pins σ H { s with heap := s'.heap, toks := s'.toks } := I.kept fun b o e => hm.heap b o (by simp only [dl]; exact aB (ay e)) (ak _ e)
   exact ⟨.int (J0 ns), H, I1.like rfl hm.os hm.gens, ⟨_, e⟩, q⟩
end
section
variable {X : Cx} {pins : List (Addr × Obj)} {σ : St} {H : Hp} {s : Shared}
theorem zic (I : Inv X pins σ H s) (rx : RelV x u) (ty : Zi X.K H x t) : ∃ J : Heap -> Prop, PySem.W.KitX X.K u t J /\ J s.heap /\ ∀ id, u ≠ .builtin id := by
 cases ty with
 | @dict a e =>
  cases (show u = Value.ref a from rx)
  obtain ⟨⟨o, ho, hc⟩, _, _⟩ := (show ObjOk X.prog X.w H s.heap a (zf0 a) from I.hok a _ e)
  exact ⟨_, cj, ⟨o, ho, hc⟩, fun _ z => nomatch z⟩
 | of ty =>
  cases ty with
  | non => cases (show u = Value.none from rx); exact ⟨_, gx, True.intro, fun _ z => nomatch z⟩
  | bl y => cases (show u = Value.bool y from rx); exact ⟨_, gy, True.intro, fun _ z => nomatch z⟩
  | int i => obtain ⟨t, q⟩ := (show ∃ t, u = Value.int i t from rx); cases q; exact ⟨_, gI, True.intro, fun _ z => nomatch z⟩
  | str y => obtain ⟨t, q⟩ := (show ∃ t, u = Value.str y t from rx); cases q; exact ⟨_, gJ, True.intro, fun _ z => nomatch z⟩
  | flt y => obtain ⟨t, q⟩ := (show ∃ t, u = Value.float y t from rx); cases q; exact ⟨_, fU, True.intro, fun _ z => nomatch z⟩
  | @lst a xs ea =>
   cases (show u = Value.ref a from rx)
   obtain ⟨_, _, n, _, h1⟩ := (show ObjOk X.prog X.w H s.heap a (.lst xs) from I.hok a _ ea); exact ⟨_, dC, ⟨_, h1, rfl⟩, fun _ z => nomatch z⟩
  | @frz a ob xs ea =>
   cases (show u = Value.ref a from rx)
   obtain ⟨_, _, _, n, _, h1⟩ := (show ObjOk X.prog X.w H s.heap a (.frz ob (.lst xs)) from I.hok a _ ea); exact ⟨_, dC, ⟨_, h1, rfl⟩, fun _ z => nomatch z⟩
  | @tup a xs ea =>
   cases (show u = Value.ref a from rx)
   obtain ⟨_, _, _, p⟩ := (show ObjOk X.prog X.w H s.heap a (.tup xs) from I.hok a _ ea); obtain ⟨o, h1, h2, _⟩ := p; exact ⟨_, fV, ⟨o, h1, h2⟩, fun _ z => nomatch z⟩
  | @dK a kvs ea =>
   cases (show u = Value.ref a from rx)
   obtain ⟨_, _, vs, _, p⟩ := (show ObjOk X.prog X.w H s.heap a (.dK kvs) from I.hok a _ ea); obtain ⟨o, es, ep, h1, h2, _⟩ := p; exact ⟨_, cj, ⟨o, h1, h2.1⟩, fun _ z => nomatch z⟩
  | @dT a kvs ea =>
   cases (show u = Value.ref a from rx)
   obtain ⟨_, _, xs, _, o, es, ep, h1, h2, _⟩ := (show ObjOk X.prog X.w H s.heap a (.dT kvs) from I.hok a _ ea); exact ⟨_, cj, ⟨o, h1, h2.1⟩, fun _ z => nomatch z⟩
  | @ins a C dx fs ea cl ha hn htk hm =>
   cases (show u = Value.ref a from rx)
   obtain ⟨mA, O, _⟩ := Y0 I.hok ea; obtain ⟨od, J, _⟩ := O.look
   exact ⟨_, gK (cl.get _) cl.hd ha hn htk hm, J, fun _ z => nomatch z⟩
theorem zdO : jt X (.builtin "isinstance") (fun xs H Q => ∃ x t tp, ∃ (ds : List Addr) (b : Bool), xs = [x, .ref tp] /\ Zi X.K H x t /\ H tp = some (.tup (ds.map V.ref)) /\ aU X.K t (ds.map Value.ref) = some b /\ Q (.bl b) H) := by
 intro pins s σ H xs us Q I rv h
 obtain ⟨x, t, tp, ds, b, rfl, c, ht, hk, q⟩ := h
 obtain ⟨u, u', rfl, ru, ru'⟩ := rv.two
 cases ru'
 obtain ⟨J, kj, hj, hne⟩ := zic I ru c
 obtain ⟨_, its, r, p⟩ := I.hok tp _ ht
 have e : its = ds.map Value.ref := zbX r
 subst e
 obtain ⟨⟨oc, od, odt, osl⟩, p1, p2, n, p3⟩ := p
 dsimp only at p2 p3
 subst p2 p3
 exact PySem.W.kia_tup kj I.kIn hj p1 hk (hne _) fun tk => ⟨.bl b, H, I.tok tk, rfl, q⟩
theorem zdP : jt X (.builtin "isinstance") (fun xs H Q => ∃ x t D b, xs = [x, .ref D] /\ Zi X.K H x t /\ ae X.K t (.ref D) = some b /\ Q (.bl b) H) := by
 intro pins s σ H xs us Q I rv h
 obtain ⟨x, t, D, b, rfl, c, hk, q⟩ := h
 obtain ⟨u, u', rfl, ru, ru'⟩ := rv.two
 cases ru'
 obtain ⟨J, kj, hj, hne⟩ := zic I ru c
 exact bc kj I.kIn hj hk (hne _) fun tk => ⟨.bl b, H, I.tok tk, rfl, q⟩
end
end L2
namespace M
open PySem L2
structure UA (K : aj) (C : Addr) : Prop where
 cl : Cls K C
 ha : aH K (.ref C) "__class__" = some (some (.builtin "object.__class__"))
 hn : eK K (.builtin "object.__class__") "__get__" = some (some (.builtin "getset_descriptor.__get__"))
 htk : fi K (.builtin "object.__class__") = some true
 hm : cr K C (.type "object") = some true
def Qh : List String := ["NoneType", "bool", "int", "str", "list", "tuple", "dict"]
structure IsO (K : aj) (cls : Nat -> Option Addr) (ds : List Addr) (tb : Nat -> Option Bool) : Prop where
 own : ∀ c C b, cls c = some C -> tb c = some b -> UA K C /\ aU K (.ref C) (ds.map Value.ref) = some b
 flat : ∀ a ∈ Qh, aU K (.type a) (ds.map Value.ref) = some false
structure zby (K : aj) (cls : Nat -> Option Addr) (D : Addr) (tb : Nat -> Option Bool) : Prop where
 own : ∀ c C b, cls c = some C -> tb c = some b -> UA K C /\ ae K (.ref C) (.ref D) = some b
 flat : ∀ a ∈ Qh, ae K (.type a) (.ref D) = some false
def VG (tb : Nat -> Option Bool) : D -> Option D
 | .obj c _ => (tb c).map D.bl
 | d => if (Ql d).isSome then some (.bl false) else none
def zgA (tb : Nat -> Option Bool) : F1 := fun x q => jG q (VG tb x)
instance {tb : Nat -> Option Bool} : ZB (zgA tb) (VG tb) := ⟨fun x q h => h⟩
theorem zn9 (h : Ql d = some a) : a ∈ Qh := by
 cases d <;> first | (cases h; decide) | cases h
theorem zid {cls : Nat -> Option Addr} {E : Addr -> Prop} {tb : Nat -> Option Bool} {g : Value -> Option Bool} (r : Jy ⟨K, cls⟩ E H v d) (h1 : ∀ c C b, cls c = some C -> tb c = some b -> UA K C /\ g (.ref C) = some b) (h2 : ∀ a ∈ Qh, g (.type a) = some false) {q : D -> Prop} (h : zgA tb d q) :
 ∃ t b, Zi K H v t /\ g t = some b /\ q (.bl b) := by
 have flat : ∀ {e : D}, Jy ⟨K, cls⟩ E H v e -> jG q (if (Ql e).isSome = true then some (.bl false) else none) -> ∃ t b, Zi K H v t /\ g t = some b /\ q (.bl b) := fun {e} r h => by
  cases k : Ql e with
  | none => rw [k] at h; exact aa h
  | some a => rw [k] at h; exact ⟨_, false, ze6 r k, h2 a (zn9 k), h⟩
 cases d with
 | obj c fs =>
  obtain ⟨a, C, dx, gs, rfl, hc, hH, _⟩ := r
  have h : jG q ((tb c).map D.bl) := h
  cases e : tb c with
  | none => rw [e] at h; exact aa h
  | some b =>
   rw [e] at h
   obtain ⟨o, k⟩ := h1 c C b hc e
   exact ⟨_, b, .of (.ins hH o.cl o.ha o.hn o.htk o.hm), k, h⟩
 | _ => exact flat r h
section
variable {X : Cx} {cls : Nat -> Option Addr} {pn : List Nat} {a e : Expr} {es : List Expr} {pos p pc tp : Pos} {x : Str} {ma : MO}
theorem zlO {ds : List Addr} {tb : Nat -> Option Bool} (hg : Gl X "isinstance") (hm : X.mg "isinstance" = none) (ha : PA X cs (zcV ds)) (hlen : ds.length <= 1000) (ht : IsO X.K cls ds tb) (ho : DO X cls pn a ma)
 (hs : ap [a, .Tuple cs ctx tp] X.env = (false, eval a X.env) :: ap [.Tuple cs ctx tp] X.env := by kernel_rfl) (hs2 : ap [.Tuple cs ctx tp] X.env = [(false, eval (.Tuple cs ctx tp) X.env)] := by kernel_rfl) (hp : (backTo pos (ap [.Tuple cs ctx tp] X.env)).any (·.1) = false := by kernel_rfl) :
 DE X cls pn (.Call (.Name "isinstance" p) [a, .Tuple cs ctx tp] [] pos) (Jz (zgA tb) ma) := by
 obtain ⟨ta, pa, ja⟩ := ho.h
 refine ⟨_, QW zdO hg hm (by kernel_rfl) (yQ pa (yQ (zhh ha) jJ hs2) hs) (by decide) (by decide) hs hp, fun S σ ρ H τ Q q hpn R hm' hq => ja S σ ρ H τ _ _ hpn R hm' fun v r1 H1 ρ1 τ1 R1 o1 q1 => ?_⟩
 refine ⟨by rw [am]; exact dA (zhq hlen), fun b hb => ?_⟩
 have g := Ud hb (.tup (ds.map V.ref))
 have R2 := R1.grow g
 obtain ⟨dx, rx, q1⟩ := R2.read o1 q1
 obtain ⟨t, bb, h1, h2, h3⟩ := zid (g := fun t => aU X.K t (ds.map Value.ref)) rx ht.own ht.flat q1
 exact ⟨v, t, b, ds, bb, rfl, h1, jC, h2, hq _ _ _ ρ1 R2.cut (.bl bb) h3⟩
theorem VH {D : Addr} {tb : Nat -> Option Bool} (hg : Gl X "isinstance") (hm : X.mg "isinstance" = none) (hgx : Gl X x) (hmx : X.mg x = some (.ref D)) (ht : zby X.K cls D tb) (ho : DO X cls pn a ma) (hdx : (x == ("__debug__" : Str)) = false := by decide)
 (hs : ap [a, .Name x pc] X.env = (false, eval a X.env) :: ap [.Name x pc] X.env := by kernel_rfl) (hs2 : ap [.Name x pc] X.env = [(false, eval (.Name x pc) X.env)] := by kernel_rfl) (hp : (backTo pos (ap [.Name x pc] X.env)).any (·.1) = false := by kernel_rfl) :
 DE X cls pn (.Call (.Name "isinstance" p) [a, .Name x pc] [] pos) (Jz (zgA tb) ma) := by
 obtain ⟨ta, pa, ja⟩ := ho.h
 refine ⟨_, QW zdP hg hm (by kernel_rfl) (yQ pa (yQ (zbd (v := .ref D) hgx hmx rfl hdx) jJ hs2) hs) (by decide) (by decide) hs hp, fun S σ ρ H τ Q q hpn R hm' hq => ja S σ ρ H τ _ _ hpn R hm' fun v r1 H1 ρ1 τ1 R1 o1 q1 => ?_⟩
 obtain ⟨dx, rx, q1⟩ := R1.read o1 q1
 obtain ⟨t, bb, h1, h2, h3⟩ := zid (g := fun t => ae X.K t (.ref D)) rx ht.own ht.flat q1
 exact ⟨v, t, D, bb, rfl, h1, h2, hq _ _ _ ρ1 R1.cut (.bl bb) h3⟩
end
def JR : List D -> Option (List Int)
 | [] => some []
 | .int i :: r => (JR r).map (i :: ·)
 | _ :: _ => none
def Zl : List D -> Option (List Str)
 | [] => some []
 | .str i :: r => (Zl r).map (i :: ·)
 | _ :: _ => none
section
variable {Γ : Cn} {E : Addr -> Prop} {H : Hp}
theorem zdQ : ∀ {ds : List D} {ns : List Int}, JR ds = some ns -> ds = ns.map D.int
 | [], _, h => by cases h; rfl
 | d :: r, ns, h => by
  cases d with
  | int i =>
   unfold JR at h
   cases e : JR r with
   | none => rw [e] at h; cases h
   | some ms => rw [e] at h; cases h; rw [zdQ e]; rfl
  | _ => cases h
theorem zdR : ∀ {ds : List D} {ns : List Str}, Zl ds = some ns -> ds = ns.map D.str
 | [], _, h => by cases h; rfl
 | d :: r, ns, h => by
  cases d with
  | str i =>
   unfold Zl at h
   cases e : Zl r with
   | none => rw [e] at h; cases h
   | some ms => rw [e] at h; cases h; rw [zdR e]; rfl
  | _ => cases h
theorem VI (ns : List Int) : JR (ns.map D.int) = some ns := by
 induction ns with
 | nil => rfl
 | cons i r ih => show (JR (r.map D.int)).map _ = _; rw [ih]; rfl
theorem Zu (ns : List Str) : Zl (ns.map D.str) = some ns := by
 induction ns with
 | nil => rfl
 | cons i r ih => show (Zl (r.map D.str)).map _ = _; rw [ih]; rfl
theorem zdS {α : Type} {f : α -> D} {g : α -> V} (hf : ∀ a, Qk (f a) = true) (hg : ∀ a, vD (f a) = g a) {ns : List α} (r : Reps Γ E H xs (ns.map f)) : xs = ns.map g := by
 refine eM fun i => ?_
 have hl := r.1
 rw [am] at hl
 cases e : ns[i]? with
 | none => rw [au, e, bz (by rw [hl]; exact List.getElem?_eq_none_iff.mp e)]; rfl
 | some n =>
  obtain ⟨v, h1, h2⟩ := r.get (i := i) (d := f n) (by rw [au, e]; rfl)
  rw [h1, au, e, h2.flat (hf n), hg]; rfl
theorem zdT {ns : List Int} (r : Reps Γ E H xs (ns.map D.int)) : xs = ns.map V.int := zdS (fun _ => rfl) (fun _ => rfl) r
theorem zdU {ns : List Str} (r : Reps Γ E H xs (ns.map D.str)) : xs = ns.map V.str := zdS (fun _ => rfl) (fun _ => rfl) r
theorem zie (ns : List Str) : Reps Γ E H (ns.map V.str) (ns.map D.str) := ⟨by simp, fun i v d h1 h2 => by
 rw [au] at h1 h2
 cases e : ns[i]? with
 | none => rw [e] at h1; cases h1
 | some x => rw [e] at h1 h2; cases h1; cases h2; exact .str x⟩
theorem zdV (r : Jy Γ E H v (.lst ds)) : ∃ a xs, v = .ref a /\ H a = some (.lst xs) /\ Reps Γ E H xs ds := r
def Q3 : D -> Option (List D) | .lst ds => some ds | _ => none
theorem VJ {ns : List Int} (r : Jy Γ E H v d) (h : (Q3 d).bind JR = some ns) : ∃ a, v = .ref a /\ jQ Γ.K H a (ns.map V.int) := by
 cases d with
 | lst ds =>
  obtain ⟨a, xs, rfl, hH, rs⟩ := zdV r
  rw [zdQ (ds := ds) h] at rs
  exact ⟨a, rfl, .inl (.inl (by rw [hH, zdT rs]))⟩
 | _ => cases h
theorem VL {ns : List Str} (r : Jy Γ E H v d) (h : (Q3 d).bind Zl = some ns) : ∃ a, v = .ref a /\ jQ Γ.K H a (ns.map V.str) := by
 cases d with
 | lst ds =>
  obtain ⟨a, xs, rfl, hH, rs⟩ := zdV r
  rw [zdR (ds := ds) h] at rs
  exact ⟨a, rfl, .inl (.inl (by rw [hH, zdU rs]))⟩
 | _ => cases h
end
def hIs (g : List Int -> Option D) (x : D) : Option D := ((Q3 x).bind JR).bind g
def fIs (g : List Int -> Option D) : F1 := fun x q => jG q (hIs g x)
instance {g : List Int -> Option D} : ZB (fIs g) (hIs g) := ⟨fun x q h => h⟩
theorem zif {g : List Int -> Option D} {q : D -> Prop} (h : jG q (hIs g x)) : ∃ ns d, (Q3 x).bind JR = some ns /\ g ns = some d /\ q d := by
 unfold hIs at h
 cases e : (Q3 x).bind JR with
 | none => rw [e] at h; exact aa h
 | some ns =>
  rw [e] at h
  have h : jG q (g ns) := h
  cases e2 : g ns with
  | none => rw [e2] at h; exact aa h
  | some d => rw [e2] at h; exact ⟨ns, d, rfl, e2, h⟩
def zkQ (ns : List Int) : Option D := some (.int ns.sum)
def zal (ns : List Int) : Option D := if ns = [] then none else some (.int (J0 ns))
def zjS := fIs zkQ
def zgB := fIs zal
def Rx := hIs zkQ
def Wq := hIs zal
instance : ZB zjS Rx := ⟨fun x q h => h⟩
instance : ZB zgB Wq := ⟨fun x q h => h⟩
section
variable {Γ : Cn}
theorem znu : QE Γ (fun x H Q => ∃ (a : Addr) (ns : List Int), [x] = [.ref a] /\ jQ Γ.K H a (ns.map V.int) /\ Q (.int ns.sum) H) zjS := fun E H x dx Q q _ rx h k => by
 obtain ⟨ns, d, h1, h2, h3⟩ := zif h
 obtain ⟨a, rfl, sq⟩ := VJ rx h1
 cases h2
 exact ⟨a, ns, rfl, sq, k _ _ H (Same.refl H) (.int _) h3⟩
theorem zlP : QE Γ (fun x H Q => ∃ (a : Addr) (ns : List Int), [x] = [.ref a] /\ jQ Γ.K H a (ns.map V.int) /\ ns ≠ [] /\ Q (.int (J0 ns)) H) zgB := fun E H x dx Q q _ rx h k => by
 obtain ⟨ns, d, h1, h2, h3⟩ := zif h
 obtain ⟨a, rfl, sq⟩ := VJ rx h1
 unfold zal at h2
 split at h2
 · cases h2
 · cases h2; exact ⟨a, ns, rfl, sq, ‹_›, k _ _ H (Same.refl H) (.int _) h3⟩
end
section
variable {X : Cx} {cls : Nat -> Option Addr} {pn : List Nat} {a e de : Expr} {es : List Expr} {pos p p2 pos2 kp : Pos} {x : Str} {ma : MO} {md : ME}
theorem zdW (hc : X.calm = true) (hg : Gl X "sum") (hm : X.mg "sum" = none) (ha : DO X cls pn a ma) (hs : ap [a] X.env = [(false, eval a X.env)] := by kernel_rfl) : DE X cls pn (.Call (.Name "sum" p) [a] [] pos) (Jz zjS ma) := zcU (zjN hc) znu hg hm (by kernel_rfl) ha hs
theorem zfs (hc : X.calm = true) (hg : Gl X "min") (hm : X.mg "min" = none) (ha : DO X cls pn a ma) (hs : ap [a] X.env = [(false, eval a X.env)] := by kernel_rfl) : DE X cls pn (.Call (.Name "min" p) [a] [] pos) (Jz zgB ma) := zcU (zib hc) zlP hg hm (by kernel_rfl) ha hs
end
def zc0 (x y : D) : Option D := ((Q3 x).bind JR).bind fun ns => if ns = [] then (if Qk y = true then some y else none) else some (.int (ZE ns))
def zgC : F2 := fun x y q => jG q (zc0 x y)
instance : yX zgC zc0 := ⟨fun x y q h => h⟩
section
variable {Γ : Cn}
theorem zlQ : jr Γ (fun x y H Q => ∃ (a : Addr) (ns : List Int), x = .ref a /\ jQ Γ.K H a (ns.map V.int) /\ Q (if ns = [] then y else .int (ZE ns)) H) zgC := fun E H x y dx dy Q q _ rx ry h k => by
 have h : jG q (((Q3 dx).bind JR).bind _) := h
 cases e : (Q3 dx).bind JR with
 | none => rw [e] at h; exact aa h
 | some ns =>
  rw [e] at h
  obtain ⟨a, rfl, sq⟩ := VJ rx e
  refine ⟨a, ns, rfl, sq, ?_⟩
  dsimp only [aP] at h
  by_cases h0 : ns = []
  · rw [if_pos h0] at h ⊢
    split at h
    · rename_i f; rw [yL ry f]; exact k _ _ H (Same.refl H) (Z8 f) h
    · exact aa h
  · rw [if_neg h0] at h ⊢; exact k _ _ H (Same.refl H) (.int _) h
end
section
variable {X : Cx} {cls : Nat -> Option Addr} {pn : List Nat} {a b e de : Expr} {es : List Expr} {pos p p2 pos2 kp : Pos} {x : Str} {ma mb : MO}
theorem zlR (hc : X.calm = true) (hg : Gl X "max") (hm : X.mg "max" = none) (ha : DO X cls pn a ma) (hb : DO X cls pn b mb) (hs : ap [a] X.env = [(false, eval a X.env)] := by kernel_rfl) : DE X cls pn (.Call (.Name "max" p) [a] [⟨some "default", b, kp⟩] pos) (Qa zgC ma mb) :=
 let ⟨_, pa, ja⟩ := ha.h; let ⟨_, pb, jb⟩ := hb.h; ⟨_, zlN hc hg hm pa pb hs, Yq zlQ ja jb⟩
end
def Zm (x : D) : Option (List Str) := (Q3 x).bind Zl
def Y5 (x : D) : Option D := (Zm x).bind fun xs => if xs.length < 1000 then some (.int (dd xs).length) else none
def Q4 (x : D) : Option (List D) := (Zm x).bind fun xs => if xs.length < 64 then some ((Qm (dd xs)).map D.str) else none
def zft : F1 := fun x q => jG q (Y5 x)
def zdX : FL1 := fun x q => jG q (Q4 x)
instance : ZB zft Y5 := ⟨fun x q h => h⟩
instance : zjD zdX Q4 := ⟨fun x q h => h⟩
theorem zdY {β : Type} {f : List Str -> β} {q : β -> Prop} (h : jG q ((Zm x).bind fun xs => if xs.length < n then some (f xs) else none)) : ∃ xs, Zm x = some xs /\ xs.length < n /\ q (f xs) := by
 cases e : Zm x with
 | none => rw [e] at h; exact aa h
 | some xs =>
  rw [e] at h
  dsimp only [aP] at h
  split at h
  · exact ⟨xs, rfl, ‹_›, h⟩
  · exact aa h
section
variable {X : Cx} {cls : Nat -> Option Addr} {pn : List Nat} {a b e de : Expr} {es : List Expr} {pos p p2 pos2 kp : Pos} {x : Str} {ma mb : MO}
theorem zig (hc : X.calm = true) (hg : Gl X "len") (hm : X.mg "len" = none) (hg2 : Gl X "set") (hm2 : X.mg "set" = none) (ha : DO X cls pn a ma) (hs : ap [a] X.env = [(false, eval a X.env)] := by kernel_rfl)
 (hs2 : ap [.Call (.Name "set" p2) [a] [] pos2] X.env = [(false, eval (.Call (.Name "set" p2) [a] [] pos2) X.env)] := by kernel_rfl) : DE X cls pn (.Call (.Name "len" p) [.Call (.Name "set" p2) [a] [] pos2] [] pos) (Jz zft ma) := by
 obtain ⟨ta, pa, ja⟩ := ha.h
 refine ⟨_, QW zcE hg hm (by kernel_rfl) (yQ (Yp (zcd hc) hg2 hm2 (by kernel_rfl) (yQ pa jJ hs) (by decide) (by decide) hs rfl) jJ hs2) (by decide) (by decide) hs2 rfl, fun S σ ρ H τ Q q hp R hm hq => ja S σ ρ H τ _ _ hp R hm fun v r1 H1 ρ1 τ1 R1 o1 q1 => ?_⟩
 obtain ⟨dx, rx, q1⟩ := R1.read o1 q1
 obtain ⟨xs, h1, h2, h3⟩ := zdY q1
 obtain ⟨b, rfl, sq⟩ := VL rx h1
 refine ⟨b, xs, rfl, sq, h2, fun l hl => ⟨l, xs, rfl, jC, ?_⟩⟩
 rw [← zdM]
 exact hq _ _ _ ρ1 (R1.grow (Ud hl _)).cut (.int _) h3
theorem zgD (hc : X.calm = true) (hg : Gl X "sorted") (hm : X.mg "sorted" = none) (hg2 : Gl X "set") (hm2 : X.mg "set" = none) (ha : DO X cls pn a ma) (hs : ap [a] X.env = [(false, eval a X.env)] := by kernel_rfl)
 (hs2 : ap [.Call (.Name "set" p2) [a] [] pos2] X.env = [(false, eval (.Call (.Name "set" p2) [a] [] pos2) X.env)] := by kernel_rfl) : DF X cls pn (.Call (.Name "sorted" p) [.Call (.Name "set" p2) [a] [] pos2] [] pos) (Wa zdX ma) := by
 obtain ⟨ta, pa, ja⟩ := ha.h
 refine ⟨_, QW (zbx hc) hg hm (by kernel_rfl) (yQ (Yp (zcd hc) hg2 hm2 (by kernel_rfl) (yQ pa jJ hs) (by decide) (by decide) hs rfl) jJ hs2) (by decide) (by decide) hs2 rfl, fun S σ ρ H τ Q q hp R hm hq => ja S σ ρ H τ _ _ hp R hm fun v r1 H1 ρ1 τ1 R1 o1 q1 => ?_⟩
 obtain ⟨dx, rx, q1⟩ := R1.read o1 q1
 obtain ⟨xs, h1, h2, h3⟩ := zdY q1
 obtain ⟨b, rfl, sq⟩ := VL rx h1
 refine ⟨b, xs, rfl, sq, gq h2 (by decide), fun l hl => ⟨l, xs, rfl, jC, h2, fun l2 hl2 => ?_⟩⟩
 obtain ⟨w1, w2, w3, w4⟩ := JU (R1.grow (Ud hl _)) (zie (Qm (dd xs))) hl2
 exact hq l2 _ _ ρ1 w1.cut w2 w3 w4 h3
end
section
variable {Γ : Cn} {pn : List Nat}
end
variable {z : Nat -> Env -> Prop}
section
variable {X : Cx} {cls : Nat -> Option Addr} {pn : List Nat} {a e o : Expr} {es tes : List Expr} {pos p apos tp : Pos} {kt : Nat} {m : MA} {x : Str}
end
structure HD (P : Program) (w : World) (K : aj) (mg : Str -> Option Value) (base : Heap) (cls : Nat -> Option Addr) (m : Str) (k : Nat) (ps : List Str) (tbl : Nat -> Option Fn) : Prop where
 nf : ∀ n, yP n ≠ m
 has : ∀ c C F, cls c = some C -> tbl c = some F -> Cls K C /\ ∃ f fd, zi6 K C m f /\ FnOk P w K mg base yD k f fd ps (yr ⟨K, cls⟩ [] false ps.length (zo F)) /\ Binds K fd ps []
 len : ∀ c F ss q, tbl c = some F -> zo F ss q Z0 -> ss.length = ps.length
section
variable {X : Cx} {cls : Nat -> Option Addr} {pn : List Nat} {e o : Expr} {es : List Expr} {pos apos : Pos} {m : Str} {k : Nat} {ps : List Str} {tbl : Nat -> Option Fn} {ma : ME} {mr : MA}
theorem HD.disp (h : HD X.prog X.w X.K X.mg X.base cls m k ps tbl) (hr : Room k X.A) : zhG X m (zhF ⟨X.K, cls⟩ (fun c => (tbl c).map zo) ps.length) := fun C sp ⟨c, p, hc, hp, e⟩ => by
 have hp : (tbl c).map zo = some p := hp
 cases ht : tbl c with
 | none => rw [ht] at hp; cases hp
 | some F =>
  rw [ht] at hp; cases hp
  obtain ⟨cl, f, fd, a, b, d⟩ := h.has c C F hc ht
  subst e
  exact ⟨cl, k, f, fd, ps, a, b, hr, d⟩
theorem HD.ln (h : HD X.prog X.w X.K X.mg X.base cls m k ps tbl) : ∀ c p ss q, (tbl c).map zo = some p -> p ss q Z0 -> ss.length = ps.length := fun c p ss q hp hq => by
 cases ht : tbl c with
 | none => rw [ht] at hp; cases hp
 | some F => rw [ht] at hp; cases hp; exact h.len c F ss q ht hq
theorem Jm (h : HD X.prog X.w X.K X.mg X.base cls m k ps tbl) (hr : Room k X.A) (ho : DE X cls pn o ma)
 (ht : eval (.Call (.Attribute o m apos) [] [] pos) X.env = (do
  let ov ← eval o X.env
  fg apos.atName
  let (f, first) ← cW [ov] (gR ov m (do return (← importBound o X.env).getD true))
  callWith pos f first (backTo pos (ap [] X.env)) (eE pos (cU [] X.env))) := by kernel_rfl) :
 DE X cls pn (.Call (.Attribute o m apos) [] [] pos) (zcP (fun c => (tbl c).map zo) ma zf2) :=
 let ⟨_, pa, ja⟩ := ho.h; ⟨_, zhH pa (h.disp hr) ht, zlx h.nf ja zhv h.ln⟩
end
def zam (j : Nat) (p : Y3) : ME := fun ρ q => V9 ρ[j]? fun o => p [.val o] (fun d _ => Qk d = true /\ q d ρ) Z0
section
variable {Γ : Cn} {pn : List Nat}
theorem zjT (hn : ∀ ss q, p ss q Z0 -> ss.length = 1) : JE Γ pn (V8 (yr Γ [] false 1 p) [] E0 (J4 (QB j) Zy)) (zam j p) := fun S σ ρ H τ Q q hp R hm hq => by
 have hm : V9 ρ[j]? _ := hm
 cases e : ρ[j]? with
 | none => rw [e] at hm; exact aa hm
 | some s =>
  rw [e] at hm
  cases s with
  | no => exact aa hm
  | val d =>
   obtain ⟨v, e1, r⟩ := R.val j d e
   refine ⟨v, e1, ?_⟩
   show yr Γ [] false 1 p ([v] ++ []) H Q E0
   rw [aJ]
   refine ⟨rfl, ⟨zJ S σ ρ, H, fun _ => none⟩, [.val d], _, fun _ _ => rfl, rfl, Ui R (.cons r .nil), hm, fun w d' H' σ' ρ' os ⟨R', r'⟩ _ q' => ?_⟩
   obtain ⟨a, b⟩ := Uj R R' r'
   exact hq w d' H' ρ a b q'.2
  | own o =>
   obtain ⟨x, e1, ow, nC, _⟩ := R.own j o e
   refine ⟨_, e1, ?_⟩
   show yr Γ [] false 1 p ([.ref x] ++ []) H Q E0
   rw [aJ]
   have R0 : Rel Γ ⟨fun a => zJ S σ ρ a /\ a ≠ x, H, fun _ => none⟩ H ([V.ref x].map some) [.val o] [] := by
    have no : ∀ i, ¬ yY [Slot.val o] i := fun i ⟨u, h⟩ => by
     cases i with
     | zero => simp at h
     | succ i => simp at h
    have he : ∀ b, zJ ⟨fun a => zJ S σ ρ a /\ a ≠ x, H, fun _ => none⟩ ([V.ref x].map some) [.val o] b -> zJ S σ ρ b /\ b ≠ x := fun b h => h.elim id fun ⟨i, hi, _⟩ => absurd hi (no i)
    have ow' := ow.up (E' := zJ ⟨fun a => zJ S σ ρ a /\ a ≠ x, H, fun _ => none⟩ ([V.ref x].map some) [.val o]) (H' := H) (fun _ z => z) (fun b _ z => (he b z).1) fun _ _ _ z => z
    exact {
     len := rfl
     val := fun i d h => by
      cases i with
      | zero => simp at h; subst h; exact ⟨_, rfl, ow'.rep fun z => (he x z).2 rfl⟩
      | succ i => simp at h
     own := fun i o h => absurd ⟨o, h⟩ (no i)
     pin := fun i p h => by cases h
     inj := fun i j p hi => absurd hi (no i)
     dom := fun a h => jd R h.1
     fr := fun b o h _ => h
     tmp := fun x h => nomatch h }
   refine ⟨rfl, _, [.val o], _, fun _ _ => rfl, rfl, R0, hm, fun w d' H' σ' ρ' os ⟨R', r'⟩ _ q' => ?_⟩
   have R2 : Rel Γ S H' σ ρ τ := R.grow fun b o h => R'.fr b o h fun i => by simp
   rw [r'.flat q'.1]
   exact hq _ d' H' ρ R2 (Z8 q'.1) q'.2
end
def UB (r : RF) (ρ : Env) : O D := match r with | .ok d _ => (if Qk d = true then .ok d ρ else .no) | _ => .no
def Yj (j : Nat) (F : Fn) : G D := fun ρ => (jp (Zk ρ[j]?) ρ).bind fun o ρ => UB (F [.val o]) ρ
theorem zjU {k : D -> Prop} (h : jG k (Zk s)) : V9 s k := by
 unfold Zk at h
 split at h
 · exact h
 · exact h
 · exact aa h
instance {j : Nat} {F : Fn} : Ag z (zam j (zo F)) (Yj j F) := ⟨fun ρ q h => by
 unfold Yj at h
 unfold zam
 refine zjU (yN (Jf (O.on_bind h)) fun o h => ?_)
 unfold zo
 unfold UB at h
 cases e : F [.val o] with
 | no => rw [e] at h; exact aa h
 | ex k => rw [e] at h; exact aa h
 | ok d os =>
  rw [e] at h
  dsimp only at h ⊢
  split at h
  · exact ⟨‹_›, h⟩
  · exact aa h⟩
section
variable {X : Cx} {cls : Nat -> Option Addr} {pn : List Nat} {pos p py : Pos} {x y : Str}
theorem UC (h : HM X.prog X.w X.K X.mg X.base cls x k [a0] [] false F) (hr : Room k X.A) (hg : Gl X x) (j' : X.N[j]? = some y := by kernel_rfl)
 (hvis : Z5 X.env.scope y := by first | exact Or.inl rfl | exact Or.inr (Or.inl rfl) | exact Or.inr (Or.inr rfl)) (hyd : (y == ("__debug__" : Str)) = false := by decide) (hcd : (y == ("__classdict__" : Str)) = false := by decide) (hd : (x == ("__debug__" : Str)) = false := by decide)
 (hs : ap [.Name y py] X.env = [(false, eval (.Name y py) X.env)] := by kernel_rfl) : DE X cls pn (.Call (.Name x p) [.Name y py] [] pos) (zam j F) :=
 ⟨_, Ub h.has hr hg (yQ (QC j' hvis hyd hcd) jJ hs) hd hs rfl, zjT h.len⟩
end
end M
namespace M
open PySem L2
def QU (l : List Nat) : Nat -> Option Bool := fun c => if 11 <= c then some (l.contains c) else none
def noF : Fn := fun _ => .no
theorem FnOk.no {mg : Str -> Option Value} : FnOk P w K mg base yD k f fd ps (yr Γ pn fr n (zo noF)) :=
 ⟨fun vs H Q E ⟨_, _, _, _, _, _, _, h, _⟩ => aa h, fun A outer s H args us vs Q E _ _ _ _ ⟨_, _, _, _, _, _, _, h, _⟩ => aa h⟩
theorem Wr {q z : D -> List D -> Prop} {P : Prop} (h : zo noF ss q z) : P := aa h
def zan (z : Str) (y : D) : Option D := (Zm y).bind fun ys => if (ys.map (·.length)).sum + ys.length * z.length <= 100000 then some (.str (aK z ys)) else none
def zgE (a : ME) (b : MO) : ME := fun ρ q => a ρ fun x ρ1 => match x with | .str z => b ρ1 fun r ρ2 => r.on ρ2 fun y => jG (fun d => q d ρ2) (zan z y) | _ => False
def Jh (a : G D) (b : G Opd) : G D := fun ρ => (a ρ).bind fun x ρ1 => match x with | .str z => (b ρ1).bind fun r ρ2 => jp ((r.get ρ2).bind fun y => zan z y) ρ2 | _ => .no
variable {z : Nat -> Env -> Prop}
instance {a : ME} {b : MO} {ga : G D} {gb : G Opd} [Ag z a ga] [Ag z b gb] : Ag z (zgE a b) (Jh ga gb) := ⟨fun ρ q h => by
 unfold Jh at h
 unfold zgE
 exact Ag.step h fun x ρ1 h => by
  cases x with
  | str w => exact Ag.step h fun r ρ2 h => QH (yN (Jl (Jf h)) fun _ h => h)
  | _ => exact aa h⟩
section
variable {X : Cx} {cls : Nat -> Option Addr} {pn : List Nat} {a e : Expr} {cpos apos : Pos} {ma : ME} {mb : MO}
theorem Qz (ha : DE X cls pn a ma) (hb : DO X cls pn e mb) (hbase : bW a "join" X.env (eval a X.env) = eval a X.env := by kernel_rfl) (hfew : ((backTo cpos (ap [e] X.env)).all (fun x => !x.1) && (eE cpos (cU [] X.env)).all (fun x => x.1.isSome)
      && decide (([e] : List Expr).length + ([] : List Keyword).length + (if ([] : List Keyword).isEmpty then 0 else 1) < 30)) = true := by kernel_rfl) (hline : (apos.endLine == cpos.line) = true := by kernel_rfl) (hs : ap [e] X.env = [(false, eval e X.env)] := by kernel_rfl) :
    DE X cls pn (.Call (.Attribute a "join" apos) [e] [] cpos) (zgE ma mb) := by
  obtain ⟨ta, pa, ja⟩ := ha.h
  obtain ⟨tb, pb, jb⟩ := hb.h
  refine ⟨_, zkB PySem.F.plainAttrs_str PySem.F.slot_str_join PySem.F.type_str_join zlh pa (yQ pb jJ hs) hbase hfew hline hs rfl, fun S σ ρ H τ Q q hp R hm hq => ja S σ ρ H τ _ _ hp R hm fun v d H1 ρ1 R1 r1 q1 => ?_⟩
  cases d with
  | str w =>
    cases ze0 r1
    refine ⟨rfl, jb S σ ρ1 H1 τ _ _ hp R1 q1 fun v2 r2 H2 ρ2 τ2 R2 o2 q2 => ?_⟩
    obtain ⟨dy, ry, q2⟩ := R2.read o2 q2
    unfold zan at q2
    cases e : Zm dy with
    | none => rw [e] at q2; exact aa q2
    | some ys =>
      rw [e] at q2
      dsimp only [aP] at q2
      split at q2
      · rename_i hl
        obtain ⟨b, rfl, sq⟩ := VL ry e
        exact ⟨w, b, ys, rfl, rfl, sq, aM hl (by decide), hq _ _ H2 ρ2 R2.cut (.str _) q2⟩
      · exact aa q2
  | _ => exact aa q1
end
end M
namespace M
open PySem L2
theorem Zv (h : (("" : Str) :: fNames).contains m = false) (n : Nat) : yP n ≠ m := fun z => by
 have h : ∀ y ∈ (("" : Str) :: fNames), y ≠ m := fun y hy e => by
  subst e
  have := List.contains_iff_mem.mpr hy
  rw [h] at this; cases this
 refine h (yP n) ?_ z
 unfold yP
 rw [aA]
 cases e : fNames[n]? with
 | none => exact ai
 | some y => exact ah _ (dS e)
theorem zU (h : t = some F) (e : t = some X) : F = X := ba (h.symm.trans e)
end M
namespace L2
open PySem PySem.Spec PyProof.Rows
def UD (i j : Int) : Prop := 0 < j /\ j < 18446744073709551616
theorem zjV : jV X (dh .FloorDiv) (rI UD fun i j => .int (i / j)) := opI fun i j _ _ _ _ _ hc q => by
  have h1 : (0 : Int) < j := hc.1
  have h2 : j < 18446744073709551616 := hc.2
  refine floordiv_int (by omega) (by rw [Int.fdiv_eq_ediv_of_nonneg i (by omega)]; exact q) (.inl (PyProof.noPylong_of_log2 ?_))
  have hn : j.natAbs ≠ 0 := by omega
  have hl : j.natAbs < 2 ^ 64 := by have : (2 : Nat) ^ 64 = 18446744073709551616 := by decide
                                    omega
  exact gq ((Nat.log2_lt hn).mpr hl) (by decide)
end L2
namespace M
open PySem L2
def zih : F2 := fI UD fun i j => .int (i / j)
instance {i j : Int} : Decidable (UD i j) := inferInstanceAs (Decidable (_ /\ _))
def jW := hI UD fun i j => .int (i / j)
instance : yX zih jW := inferInstanceAs (yX (fI _ _) (hI _ _))
theorem Q5 {cls : Nat -> Option Addr} (ha : DO X cls pn a ma) (hb : DO X cls pn b mb) : DE X cls pn (.BinOp a .FloorDiv b pos) (Qa zih ma mb) := Ul zjV (zgf (fun _ _ => rfl) fun _ _ => rfl) ha hb
abbrev FI (K : aj) (C : Addr) (m : Str) (f : Addr) : Prop := aH K (.ref C) m = some (some (.ref f))
abbrev FN0 (K : aj) (C : Addr) (m : Str) : Prop := aH K (.ref C) m = some none
abbrev NI (K : aj) (x : Str) (f : Addr) : Prop := bq K aT x = some (some (.ref f))
abbrev NZ (K : aj) (x : Str) : Prop := bq K aT x = some none
abbrev CI (K : aj) (cd : Value) (x : Str) : Prop := d9 K cd x = true
abbrev KI (K : aj) (f : Addr) : Prop := bg K (.ref f) = true
abbrev LK (K : aj) (f : Addr) (oc : Value) (od : Option Addr) (x q : Str) (st : Stmt) (kV dc pm : Value) (an : Option Addr) (cd ct : Value) (sl : Array (Option Value)) : Prop := K.lookup f = some ⟨oc, od, .func (cJ x q (ZU st) (Qw st) (zv st) .none kV dc pm an cd ct), sl⟩
end M
namespace PySem
open Sem (wp)
section
variable {prog : Program} {w : World} {A : Around} {E : Value -> Shared -> Prop} {s : Shared}
end
end PySem
namespace L2
open PySem PySem.Spec PyProof.Rows
end L2
namespace PySem.AutoSeq1
open PySem PySem.Spec PyProof.Rows
end PySem.AutoSeq1
namespace PyProof.Rows.KTD
open PySem PySem.Spec PySem.Calls PyProof.V
section
variable {prog : Program} {w : World} {A : Around} {E : Value -> Shared -> Prop} {s : Shared} {δ : Type} {R : δ -> Value -> Prop} {D : List (Str × δ)} {a : Addr} {k : Str} {tk : Tok}
end
end PyProof.Rows.KTD
namespace L2
open PySem PySem.Spec PyProof.Rows
variable {X : Cx}
end L2
namespace M
open PySem L2
section
variable {Γ : Cn} {pn : List Nat} {X : Cx} {cls : Nat -> Option Addr} {a b e : Expr} {pos p apos cpos : Pos} {x : Str} {ma mb : MO} {z : Nat -> Env -> Prop}
theorem zeB : jt X (.type "str") (fun xs H Q => (∃ i, xs = [.int i] /\ i.natAbs.log2 < 1920 /\ Q (.str (toString i)) H) \/ ∃ x, xs = [.str x] /\ Q (.str x) H) := by
 intro pins s σ H xs us Q I r h
 rcases h with h | ⟨x, rfl, q⟩
 · exact zc8 pins s σ H xs us Q I r h
 · obtain ⟨u, rfl, t, rfl⟩ := V7 r
   exact PySem.P.str_of_str ⟨.str x, H, I, ⟨_, rfl⟩, q⟩
def zgF : F1 := fun x q => match x with | .int i => i.natAbs < 10 ^ 30 /\ q (.str (toString i)) | .str y => q (.str y) | _ => False
theorem zlS : QE Γ (fun x H Q => (∃ i, [x] = [.int i] /\ i.natAbs.log2 < 1920 /\ Q (.str (toString i)) H) \/ ∃ y, [x] = [.str y] /\ Q (.str y) H) zgF := fun E H x dx Q q _ rx h k => by
 cases dx with
 | int i =>
  refine .inl ⟨i, by rw [ju rx], ?_, k _ _ H (Same.refl H) (.str _) h.2⟩
  by_cases h0 : i.natAbs = 0
  · rw [h0]; decide
  · exact (Nat.log2_lt h0).mpr (aF h.1 (by decide +kernel))
 | str y => exact .inr ⟨y, by rw [JW rx], k _ _ H (Same.refl H) (.str _) h⟩
 | _ => exact aa h
def jy : D -> Option D | .int i => if i.natAbs < 10 ^ 30 then some (.str (toString i)) else none | .str y => some (.str y) | _ => none
instance : ZB zgF jy := ⟨fun x q h => by
 cases x with
 | int i =>
  unfold jy at h
  dsimp only at h
  split at h
  · exact ⟨‹_›, h⟩
  · exact aa h
 | str y => exact h
 | _ => exact aa h⟩
theorem JL (hg : Gl X "str") (hm : X.mg "str" = none) (ha : DO X cls pn a ma) (hs : ap [a] X.env = [(false, eval a X.env)] := by kernel_rfl) : DE X cls pn (.Call (.Name "str" p) [a] [] pos) (Jz zgF ma) :=
 zkL zeB zlS hg hm (by kernel_rfl) ha hs
theorem vals_strs : ∀ {vs : List Value} {ss : List Str}, cb vs ss = true -> Vals (ss.map V.str) vs
 | [], [], _ => .nil
 | [], _ :: _, h => by simp [cb] at h
 | _ :: _, [], h => by simp [cb] at h
 | v :: vs, s :: ss, h => by
  unfold cb at h
  cases v with
  | str y t =>
   simp only [bu] at h
   have e : y = s := by simpa using h.1
   exact .cons ⟨t, by rw [e]⟩ (vals_strs h.2)
  | _ => simp at h
end
end M
namespace L2
open PySem PySem.Spec PyProof.Rows
section
variable {X : Cx} {e k : Expr} {te tk : TE} {pos p2 : Pos}
end
section
variable {X : Cx}
end
end L2
namespace M
open PySem L2
section
variable {Γ : Cn} {pn : List Nat} {X : Cx} {cls : Nat -> Option Addr} {a b e : Expr} {pos p apos cpos p2 p3 p4 : Pos} {x : Str} {ma mb : MO} {z : Nat -> Env -> Prop} {c3 : Nat}
end
end M
namespace L2
open PySem PySem.Spec PyProof.Rows
section
variable {X : Cx} {a b c : Expr} {ta tb tc : TE} {pos : Pos}
def zjW : V -> Hp -> VK -> Prop := fun x H Q => ∃ y, x = .str y /\ y.length <= aG /\ Q (.str y) H
theorem znv (ha : PE X a ta) : PE X (.FormattedValue a (-1) none pos) (tUn zjW ta) := by
 intro pins s σ H Q I h
 refine FormattedValue_plain (zZ (ha pins s σ H _ I h) fun v s1 ⟨x, H1, I1, r1, q1⟩ => ?_)
 obtain ⟨y, rfl, hy, q⟩ := q1
 obtain ⟨t, rfl⟩ := r1
 exact formatField_str (fun t' tk => ⟨.str y, H1, I1.kept (t' := tk) fun _ _ e => e, ⟨t', rfl⟩, q⟩) hy
def zkR : R2 := fun x y H Q => ∃ i j, x = .str i /\ y = .str j /\ i.length + j.length <= aG /\ Q (.str (i ++ j)) H
theorem zii (y : Str) : dM ++ y = y := by
 cases y with
 | mk a => show Str.mk (#[] ++ a) = Str.mk a; rw [Array.empty_append]
theorem zbz (x y : Str) : (x ++ y).length = x.length + y.length := strLen_append x y
theorem znw (ha : PE X a ta) (hb : PE X b tb) (hc : PE X c tc) : PE X (.JoinedStr [a, b, c] pos) (tOp zkR (tOp zkR (tUn zjW ta) tb) tc) := by
 intro pins s σ H Q I h
 refine JoinedStr_many (fG (zZ (ha pins s σ H _ I h) fun v s1 ⟨x, H1, I1, r1, q1⟩ => ?_))
 obtain ⟨y, rfl, hy, q⟩ := q1
 obtain ⟨t, rfl⟩ := r1
 dsimp only
 rw [zii]
 refine ⟨hy, fG (zZ (hb pins s1 σ H1 _ I1 q) fun v s2 ⟨x2, H2, I2, r2, q2⟩ => ?_)⟩
 obtain ⟨i, j, e1, rfl, hl, q⟩ := q2
 cases e1
 obtain ⟨t2, rfl⟩ := r2
 dsimp only
 refine ⟨by rw [zbz]; exact hl, fG (zZ (hc pins s2 σ H2 _ I2 q) fun v s3 ⟨x3, H3, I3, r3, q3⟩ => ?_)⟩
 obtain ⟨i2, k, e1, rfl, hl2, q⟩ := q3
 cases e1
 obtain ⟨t3, rfl⟩ := r3
 dsimp only
 exact ⟨by rw [zbz]; exact hl2, joinParts_nil ⟨.str (y ++ j ++ k), H3, I3.tok _, ⟨_, rfl⟩, q⟩ (by rw [zbz]; exact hl2)⟩
end
end L2
namespace M
open PySem L2
section
variable {Γ : Cn} {pn : List Nat} {X : Cx} {cls : Nat -> Option Addr} {a b c : Expr} {pos p : Pos} {ma mb mc : MO}
def Qb : D -> Option D | .str a => if a.length <= 100000 then some (.str a) else none | _ => none
def zdZ : F1 := fun x q => jG q (Qb x)
instance : ZB zdZ Qb := ⟨fun _ _ h => h⟩
theorem zij : QE Γ zjW zdZ := fun E H x dx Q q _ rx h k => by
 unfold zdZ Qb at h
 cases dx with
 | str y =>
  dsimp only at h
  split at h
  · rename_i hl
    exact ⟨_, JW rx, aM hl (by decide), k _ _ H (Same.refl H) (.str _) h⟩
  · exact aa h
 | _ => exact aa h
theorem zao (ha : DO X cls pn a ma) : DE X cls pn (.FormattedValue a (-1) none p) (Jz zdZ ma) := let ⟨_, pa, ja⟩ := ha.h; ⟨_, znv pa, zkE zij ja⟩
theorem zd0 (ha : DO X cls pn a ma) (hb : DO X cls pn b mb) (hc : DO X cls pn c mc) : DE X cls pn (.JoinedStr [a, b, c] pos) (Qa Wj (mO (Qa Wj (mO (Jz zdZ ma)) mb)) mc) :=
 let ⟨_, pa, ja⟩ := ha.h; let ⟨_, pb, jb⟩ := hb.h; let ⟨_, pc, jc⟩ := hc.h; ⟨_, znw pa pb pc, Yq zbn (zf1 (Yq zbn (zf1 (zkE zij ja)) jb)) jc⟩
end
def Ry : G zq := (zN (zT (gCons (zf zz (gO (zT (gCons (gC (.int 0)) (gCons (zb 0) gNil)))) (gO (zw zgp (gO (zf hGe (zh 0) (gO (zf ZC (gO (gC (.int 10))) (gO (gC (.int 18)))))))))) (gCons (zf YN (zh 0) (gO (gC (.int 2147483629)))) (gCons (gC (.int 0)) gNil)))))
def Qr : Fn := zQ [] 1 0 true Ry
def YQ : G zq := (zx (yK (gB (zf WI (zh 1) (gO (zw y6 (zh 0)))))
 (zN (zf zz (zh 0) (zh 1)))
 yx)
 (zN (gC (.int 0))))
def Jn : Fn := zQ [] 2 0 false YQ
def UE : G zq := (zx (Y4 0 (gC (.int 0)) (zf jW (gO (zf zz (zh 0) (gO (gC (.int 0))))) (zh 1)))
 (zN (zb 2)))
def UF : G zq := (zN (zf YN (gO (zf YN (gO (zf Rq (zh 3) (gO (zf jj (gO (zf jW (zh 3) (gO (gC (.int 2003))))) (gO (gC (.int 40692))))))) (gO (gC (.int 2147483399))))) (zh 1)))
def UG : G zq := (zx (zX 3 (zf YN (gO (zf Rq (zh 3) (gO (zf jj (gO (zf jW (zh 3) (gO (gC (.int 1009))))) (gO (gC (.int 69621))))))) (gO (gC (.int 2147483647)))))
 UF)
def UH : G zq := (zx (zX 3 (zf YN (gO (zf Rq (gO (zf jj (gO (zf jj (gO (zf zz (zh 0) (gO (gC (.int 1))))) (gO (zf Rq (gO (gC (.int 7919))) (gO (zf zz (zh 0) (gO (gC (.int 2))))))))) (gO (gC (.int 1))))) (gO (gC (.int 48271))))) (gO (gC (.int 2147483647)))))
 UG)
def UI : G zq := (zx (Y4 0 (gC (.int 2)) (zf jj (gO (zf zz (zh 0) (gO (gC (.int 2))))) (gO (gC (.int 1)))))
 UH)
def Rz : G zq := (zx (yK (gB (zf hGt (gO (zf zz (zh 0) (gO (gC (.int 0))))) (gO (gC (.int 0)))))
 (zx (zX 2 (zf YN (gO (zf zz (zh 0) (gO (gC (.int 0))))) (zh 1)))
 UE)
  yx)
 UI)
def zp : Fn := zQ [0] 2 2 false Rz
def ZO : G zq := (zX 3 (zf yC (zh 3) (gO (zf zz (zh 2) (gO (zm 0 zp (gCons (gC (.int 26)) gNil)))))))
def UJ : G zq := (zN (zf yC (zh 3) (gO (zf zz (zh 2) (gO (zf YN (zh 1) (gO (gC (.int 26)))))))))
def UK : G zq := (zx (Qq (yU (gCons (zm 0 zp (gCons (gC (.int 8)) gNil)) gNil)) (zr 4)
 ZO)
 UJ)
def RA : G zq := (zx (zX 2 (gC (.str "abcdefghijklmnopqrstuvwxyz")))
 (zx (zX 3 (gC (.str "")))
 UK))
def Qs : Fn := zQ [0] 2 3 false RA
def WQ : G zq := (zX 2 (yg (yU (gCons (gC (.int 5)) gNil)) [none, some 0, some 3] (zr 0) yF (zm 1 Qs (gCons (zf jj (zh 2) (zh 0)) gNil))))
def Zn : G zq := (zN (Rr (zh 2) ZZ (Uq (zf jj (gO (gC (.int 1))) (gO (zm 0 zp (gCons (zb 1) gNil)))))))
def WR : G zq := (zx (yK (gB (zf jg (gO (zm 0 zp (gCons (gC (.int 2)) gNil))) (gO (gC (.int 0)))))
 (zx (zX 3 (zm 0 zp (gCons (gC (.int 26)) gNil)))
 WQ)
  yx)
 Zn)
def zch : G zq := (zx (zX 2 (zT (zcW ["count", "a", "weigh", "ab", "houses"])))
 WR)
def QA : Fn := zQ [0] 2 2 false zch
def UL : G zq := (yk (Jg Jb 3 (Jg Vw 2 (zm 0 zp (gCons (zw y6 (zh 2)) gNil)))))
def UM : G zq := (zx (Qq (yU (gCons (zf jj (gO (gC (.int 1))) (gO (zm 0 zp (gCons (zw y6 (zh 1)) gNil)))) gNil)) (zr 4)
 UL)
 (zN (Uo 3)))
def RB : G zq := (zx (j7 2 (jH jZ (zh 1)))
 (zx (j7 3 (zT gNil))
 UM))
def Jo : Fn := zQ [0] 2 3 false RB
def zap : G zq := (yk (Jg Jb 4 (gTup (gCons (zb 5) (gCons (zf zz (zh 6) (gO (zm 0 zp (gCons (gC (.int 3)) gNil)))) gNil)))))
def QL : G zq := (zx (zX 6 (zT (gCons (zf jj (gO (gC (.int 1))) (gO (zm 0 zp (gCons (gC (.int 3)) gNil)))) (gCons (zf jj (gO (gC (.int 1))) (gO (zm 0 zp (gCons (zf ZC (gO (gC (.int 10))) (gO (gC (.int 9)))) gNil)))) (gCons (zf ZC (gO (gC (.int 10))) (gO (gC (.int 9)))) gNil)))))
 zap)
def UN : G zq := (zN (gTup (gCons (gC (.str "weigh")) (gCons (zf zz (gO (zT (gCons (zf jj (gO (gC (.int 1))) (gO (zm 0 zp (gCons (zb 7) gNil)))) (gCons (zb 7) gNil)))) (gO (zm 0 zp (gCons (gC (.int 2)) gNil)))) (gCons (Uo 4) gNil)))))
def zaq : G zq := (zx (zX 7 (zw Rx (gO (yg (zW (Uo 4)) [none, none] (Yu (JY (zr 0) (JY (zr 1) Ur)) 2) yF (zb 1)))))
 UN)
def ZP : G zq := (zx (Qq (zW (zb 3)) (zr 5)
 QL)
 zaq)
def ZQ : G zq := (zN (gTup (gCons (gC (.str "houses")) (gCons (zf jj (gO (gC (.int 1))) (gO (zm 0 zp (gCons (zw y6 (zh 8)) gNil)))) (gCons (zf jj (gO (gC (.int 1))) (gO (zm 0 zp (gCons (zb 9) gNil)))) (gCons (zb 8) gNil))))))
def UO : G zq := (zx (zX 9 (zw Wq (gO (yg (zW (zb 8)) [none] (zr 0) yF (zw y6 (zh 0))))))
 ZQ)
def UP : G zq := (zx (zX 8 (jD y7 (gO (zT (gCons (zb 3) gNil))) (gO (yg (yU (gCons (zm 0 zp (gCons (gC (.int 5)) gNil)) gNil)) [none, some 0, some 1] (zr 0) yF (zm 1 Jo (gCons (zb 2) gNil))))))
 UO)
def zar : G zq := (zx (yK (gB (zf jg (zh 2) (gO (gC (.int 1)))))
 (zx (j7 4 (zT gNil))
 ZP)
  yx)
 UP)
def WS : G zq := (zx (yK (gB (zf jg (zh 2) (gO (gC (.int 0)))))
 (zN (gTup (gCons (gC (.str "count")) (gCons (zf jj (gO (gC (.int 1))) (gO (zm 0 zp (gCons (zw y6 (zh 3)) gNil)))) (gCons (zb 3) gNil)))))
 yx)
 zar)
def WT : G zq := (zx (zX 3 (zm 0 Jo (gCons (zb 1) gNil)))
 WS)
def zd1 : G zq := (zx (zX 2 (zm 0 zp (gCons (gC (.int 3)) gNil)))
 WT)
def yz : Fn := zQ [0] 2 8 false zd1
def zas (R : Fn) : G zq := (zN (gTup (gCons (gC (.str ">")) (gCons (zT (gCons (zb 5) (gCons (zm 0 R (gCons (zb 1) (gCons (zf Ju (zh 2) (gO (gC (.int 1)))) (gCons (zf jW (gO (zf Ju (zh 3) (gO (gC (.int 1))))) (gO (gC (.int 2)))) gNil)))) gNil))) gNil))))
def zat (R : Fn) : G zq := (zN (gTup (gCons (zf zz (gO (zT (gCons (gC (.str "&")) (gCons (gC (.str "|")) gNil)))) (zh 4)) (gCons (zb 7) gNil))))
def zau (R : Fn) : G zq := (zx (zX 7 (yg (yU (gCons (zb 6) gNil)) [none, some 0, some 1, some 2, some 6, some 3] (zr 0) yF (zm 1 R (gCons (zb 2) (gCons (zf Ju (zh 3) (gO (gC (.int 1)))) (gCons (zf jW (gO (zf Ju (zh 5) (gO (gC (.int 1))))) (zh 4)) gNil))))))
 (zat R))
def zav (R : Fn) : G zq := (zx (zX 6 (zf jj (gO (gC (.int 1))) (gO (zm 0 zp (gCons (zf Ys (gO (gC (.int 5))) (gO (zf Ju (zh 3) (gO (gC (.int 1)))))) gNil)))))
 (zau R))
def zaw (R : Fn) : G zq := (zx (yK (gB (zf jg (zh 4) (gO (gC (.int 2)))))
 (zx (zX 5 (zm 0 R (gCons (zb 1) (gCons (zf Ju (zh 2) (gO (gC (.int 1)))) (gCons (zf jW (gO (zf Ju (zh 3) (gO (gC (.int 1))))) (gO (gC (.int 2)))) gNil)))))
 (zas R))
  yx)
 (zav R))
def zax (R : Fn) : G zq := (zx (zX 4 (zm 0 zp (gCons (gC (.int 3)) gNil)))
 (zaw R))
def UQ (R : Fn) : G zq := (zx (yK (Yi (gB (zf WI (zh 2) (gO (gC (.int 2))))) (Yi (gB (zf WI (zh 3) (gO (gC (.int 3))))) (gB (zf jg (gO (zm 0 zp (gCons (gC (.int 4)) gNil))) (gO (gC (.int 0)))))))
 (zN (zm 0 yz (gCons (zb 1) gNil)))
 yx)
 (zax R))
def jE : Nat -> Fn
 | 0 => noF
 | n + 1 => zQ [0] 4 4 false (UQ (jE n))
def WU : G zq := (zN (gTup (gCons (gC (.str "&")) (gCons (zT (gCons (zb 2) (gCons (gTup (gCons (zf zz (gO (zT (gCons (gC (.str "&")) (gCons (gC (.str "|")) gNil)))) (gO (zm 0 zp (gCons (gC (.int 2)) gNil)))) (gCons (yg (yU (gCons (gC (.int 4)) gNil)) [none, some 0, some 1] (zr 0) yF (zm 1 yz (gCons (zb 2) gNil))) gNil))) gNil))) gNil))))
def WV : G zq := (yK (gB (zf jg (zh 5) (gO (gC (.int 2)))))
 (zX 3 (gTup (gCons (gC (.str ">")) (gCons (zf zz (gO (zT (gCons (zT (gCons (zb 3) (gCons (zm 0 yz (gCons (zb 1) gNil)) gNil))) (gCons (zT (gCons (zm 0 yz (gCons (zb 1) gNil)) (gCons (zb 3) gNil))) gNil)))) (gO (zm 0 zp (gCons (gC (.int 2)) gNil)))) gNil))))
 (zX 3 (gTup (gCons (zf zz (gO (zT (gCons (gC (.str "&")) (gCons (gC (.str "|")) gNil)))) (zh 5)) (gCons (zT (gCons (zb 3) gNil)) gNil)))))
def JM : G zq := (zx (zX 5 (zm 0 zp (gCons (gC (.int 3)) gNil)))
 WV)
def WW : G zq := (zx (Qq (yU (gCons (gC (.int 3)) gNil)) (zr 4)
 JM)
 (zN (zb 3)))
def WX : G zq := (zx (zX 3 (zm 0 yz (gCons (zb 1) gNil)))
 WW)
def zci : G zq := (zx (yK (gB (zf jg (gO (zm 0 zp (gCons (gC (.int 2)) gNil))) (gO (gC (.int 0)))))
 (zx (zX 2 (gTup (gCons (gC (.str "|")) (gCons (yg (yU (gCons (gC (.int 5)) gNil)) [none, some 0, some 1] (zr 0) yF (zm 1 yz (gCons (zb 2) gNil))) gNil))))
 WU)
  yx)
 WX)
def J1 : Fn := zQ [0] 2 4 false zci
def Qn : G zq := (zX 2 (jD y7 (gO (jD y7 (zh 2) (gO (zT (gCons (zb 1) gNil))))) (zh 3)))
def U7 : G zq := (zx (Qq (zW (Rr (zh 0) (Uq (gC (.int 1))) ZZ)) (zr 3)
 Qn)
 (zN (zb 2)))
def WY : G zq := (zx (zX 2 (jH jZ (gO (zf zz (zh 0) (gO (gC (.int 0)))))))
 U7)
def j3 : Fn := zQ [] 2 2 false WY
def Zo (R : Fn) : G zq := (zX 1 (jD y7 (zh 1) (gO (zT (gCons (zb 2) (gCons (zw jy (zh 3)) gNil))))))
def WZ (R : Fn) : G zq := (zx (Qq (zW (zf zz (zh 0) (gO (gC (.int 2))))) (Yu (JY (zr 2) (JY (zr 3) Ur)) 2)
 (Zo R))
 (zN (zb 1)))
def W0 (R : Fn) : G zq := (zN (jD y7 (gO (jD y7 (gO (zT (gCons (gC (.str "(")) gNil))) (gO (zB j3 (gCons (zb 4) (gCons (zf zz (zh 0) (gO (gC (.int 0)))) gNil)))))) (gO (zT (gCons (gC (.str ")")) gNil)))))
def YR (R : Fn) : G zq := (zx (yK (gB (zf jg (gO (zw y6 (zh 4))) (gO (gC (.int 1)))))
 (zN (jD y7 (gO (jD y7 (gO (zT (gCons (gC (.str "(")) (gCons (zf zz (zh 0) (gO (gC (.int 0)))) gNil)))) (gO (zf zz (zh 4) (gO (gC (.int 0))))))) (gO (zT (gCons (gC (.str ")")) gNil)))))
 yx)
 (W0 R))
def YS (R : Fn) : G zq := (zx (zX 4 (yg (zW (zf zz (zh 0) (gO (gC (.int 1))))) [none] (zr 0) yF (zB R (gCons (zb 0) gNil))))
 (YR R))
def W1 (R : Fn) : G zq := (zx (yK (gB (zf jg (gO (zf zz (zh 0) (gO (gC (.int 0))))) (gO (gC (.str "houses")))))
 (zN (jD y7 (gO (zT (gCons (gC (.str "houses")) (gCons (zw jy (gO (zf zz (zh 0) (gO (gC (.int 1)))))) (gCons (zw jy (gO (zf zz (zh 0) (gO (gC (.int 2)))))) gNil))))) (gO (zB j3 (gCons (zf zz (zh 0) (gO (gC (.int 3)))) (gCons (gC (.str "/")) gNil))))))
 yx)
 (YS R))
def W2 (R : Fn) : G zq := (zx (yK (gB (zf jg (gO (zf zz (zh 0) (gO (gC (.int 0))))) (gO (gC (.str "weigh")))))
 (zx (zX 1 (zT (gCons (gC (.str "weigh")) (gCons (zw jy (gO (zf zz (zh 0) (gO (gC (.int 1)))))) gNil))))
 (WZ R))
  yx)
 (W1 R))
def YB (R : Fn) : G zq := (zx (yK (gB (zf jg (gO (zf zz (zh 0) (gO (gC (.int 0))))) (gO (gC (.str "count")))))
 (zN (jD y7 (gO (zT (gCons (gC (.str "count")) (gCons (zw jy (gO (zf zz (zh 0) (gO (gC (.int 1)))))) gNil)))) (gO (zf zz (zh 0) (gO (gC (.int 2)))))))
 yx)
 (W2 R))
def jq : Nat -> Fn
 | 0 => noF
 | n + 1 => zQ [] 1 4 false (YB (jq n))
def RC : G zq := (yK (Up (zdv (zh 0)))
 zhW
 yx)
def z4 : Fn := zQ [] 2 0 false RC
def YT : G zq := (zN (zw Yh (gO (yg (Wo (zb 0)) [none] (zr 0) yF (Qf ZD ZD (gC (.str "a")) (zb 0) (gC (.str "z")))))))
def VM : G zq := (zx (yK (Yi (Up (gB (zf Zj (zh 0) (gO (gC (.ty "str")))))) (Up (gB (Qf U5 U5 (gC (.int 1)) (zw y6 (zh 0)) (gC (.int 8))))))
 (zN (gC (.bl false)))
 yx)
 YT)
def jM : Fn := zQ [] 1 0 false VM
def ZR : G zq := (zN (J6 (zw Yh (gO (yg (zW (zb 0)) [none] (zr 0) yF (zB jM (gCons (zb 0) gNil))))) (zf jg (gO (zw Y5 (zh 0))) (gO (zw y6 (zh 0))))))
def RD : G zq := (zx (yK (Up (gB (zf Zj (zh 0) (gO (gC (.ty "list"))))))
 (zN (gC (.bl false)))
 yx)
 ZR)
def Jp : Fn := zQ [] 1 0 false RD
def QM : G zq := (zN (J6 (zf Zj (zh 0) (gO (gC (.ty "list")))) (Qf U5 U5 (gC (.int 1)) (zw y6 (zh 0)) (gC (.int 5)))))
def z0 : Fn := zQ [] 1 0 false QM
def Y6 : G zq := (zN (J6 (zB z0 (gCons (zb 0) gNil)) (zB Jp (gCons (zb 0) gNil))))
def jF : Fn := zQ [] 1 0 false Y6
def UR : G zq := (zN (J6 (zf Zj (zh 0) (gO (gC (.ty "int")))) (zag (zf Zj (zh 0) (gO (gC (.ty "bool")))))))
def J7 : Fn := zQ [] 1 0 false UR
def US : G zq := (zN (J6 (zB J7 (gCons (zb 0) gNil)) (Qf U5 U5 (gC (.int 1)) (zb 0) (zb 1))))
def yW : Fn := zQ [] 2 0 false US
def VN : G zq := (zx (JB 0 0 (zb 1))
 (JB 0 1 (jH jZ (zh 2))))
def zcj : G zq := (zx (yk (zB z4 (gCons (zB yW (gCons (zb 1) (gCons (zw y6 (zh 2)) gNil))) (gCons (gC (.str "many is not from 1 to how many names there are")) gNil))))
 VN)
def zfv : G zq := (zx (yk (zB z4 (gCons (zB jF (gCons (zb 2) gNil)) (gCons (gC (.str "the names are no list of one to five unlike names")) gNil))))
 zcj)
def Z1 : Fn := zQ [0] 3 0 false zfv
def W3 : G zq := (zN (J6 (zB jM (gCons (zf zz (zh 0) (gO (gC (.int 0)))) gNil)) (zB yW (gCons (zf zz (zh 0) (gO (gC (.int 1)))) (gCons (gC (.int 1000000000)) gNil)))))
def zck : G zq := (zx (yK (Yi (Up (gB (zf Zj (zh 0) (gO (gC (.ty "tuple")))))) (gB (zf ZF (gO (zw y6 (zh 0))) (gO (gC (.int 2))))))
 (zN (gC (.bl false)))
 yx)
 W3)
def Zw : Fn := zQ [] 1 0 false zck
def VO : G zq := (zx (JB 0 2 (zb 1))
 (JB 0 3 (jH jZ (zh 2))))
def zcl : G zq := (zx (yk (zB z4 (gCons (zB yW (gCons (zb 1) (gCons (zw Rx (gO (yg (zW (zb 2)) [none] (zr 0) yF (zf zz (zh 0) (gO (gC (.int 1))))))) gNil))) (gCons (gC (.str "least is not from 1 to the sum of the weights")) gNil))))
 VO)
def zcm : G zq := (zx (yk (zB z4 (gCons (zB Jp (gCons (yg (zW (zb 2)) [none] (zr 0) yF (zf zz (zh 0) (gO (gC (.int 0))))) gNil)) (gCons (gC (.str "a name stands twice among the pairs")) gNil))))
 zcl)
def zcn : G zq := (zx (yk (zB z4 (gCons (zw Yh (gO (yg (zW (zb 2)) [none] (zr 0) yF (zB Zw (gCons (zb 0) gNil))))) (gCons (gC (.str "a pair is no tuple of a name and a weight")) gNil))))
 zcm)
def zfw : G zq := (zx (yk (zB z4 (gCons (zB z0 (gCons (zb 2) gNil)) (gCons (gC (.str "the pairs are no list of one to five")) gNil))))
 zcn)
def Z2 : Fn := zQ [0] 3 0 false zfw
def ZG : G zq := (zN (jH jZ (gO (zw (jx 1) (zh 0)))))
def Qc : Fn := zQ [] 1 0 false ZG
def ZH : G zq := (zN (yg (zW (zw (jx 3) (zh 0))) [none] (zr 0) yF (zf zz (zh 0) (gO (gC (.int 0))))))
def Qd : Fn := zQ [] 1 0 false ZH
def QN : G zq := (zx (Qq (zW (zw (jx 5) (zh 0))) (zr 2)
 (yk (Jg Q2 1 (zb 2))))
 (zN (Uo 1)))
def Zx : G zq := (zx (j7 1 (zT gNil))
 QN)
def Ji : Fn := zQ [] 1 2 false Zx
def Qt : G zq := (zN (zT gNil))
def yA : Fn := zQ [] 1 0 false Qt
def J2 (c : Nat) : Option Fn := match c with | 12 => some Qc | 13 => some Qd | 14 => some Ji | 15 => some yA | 16 => some yA | 17 => some yA | _ => none
def Q6 : G zq := (zN (jH jZ (gO (zw (jx 6) (zh 0)))))
def j8 : Fn := zQ [] 1 0 false Q6
def Y7 : G zq := (zN (zT (gCons (zw (jx 7) (zh 0)) (gCons (zw (jx 8) (zh 0)) gNil))))
def Q7 : Fn := zQ [] 1 0 false Y7
def jI (c : Nat) : Option Fn := match c with | 12 => some yA | 13 => some yA | 14 => some yA | 15 => some j8 | 16 => some j8 | 17 => some Q7 | _ => none
def ZI (R : Nat -> Option Fn) : G zq := (zx (Qq (zW (jk jI (zb 0) gNil)) (zr 2)
 (zX 1 (jD y7 (zh 1) (gO (jk R (zb 2) gNil)))))
 (zN (jH Q4 (zh 1))))
def YC (R : Nat -> Option Fn) : G zq := (zx (zX 1 (jk J2 (zb 0) gNil))
 (ZI R))
def jh (R : Nat -> Option Fn) : Fn := zQ [] 1 2 false (YC R)
def Yk (R : Nat -> Option Fn) (c : Nat) : Option Fn := match c with | 12 => some (jh R) | 13 => some (jh R) | 14 => some (jh R) | 15 => some (jh R) | 16 => some (jh R) | 17 => some (jh R) | _ => none
def y3 : Nat -> Nat -> Option Fn
 | 0 => fun _ => none
 | n + 1 => Yk (y3 n)
def VP (R : Nat -> Option Fn) : G zq := (zN (zf jj (gO (gC (.int 1))) (gO (zf zc0 (gO (yg (zW (jk jI (zb 0) gNil)) [none] (zr 0) yF (jk R (zb 0) gNil))) (gO (gC (.int 0)))))))
def jN (R : Nat -> Option Fn) : Fn := zQ [] 1 0 false (VP R)
def VQ (R : Nat -> Option Fn) (c : Nat) : Option Fn := match c with | 12 => some (jN R) | 13 => some (jN R) | 14 => some (jN R) | 15 => some (jN R) | 16 => some (jN R) | 17 => some (jN R) | _ => none
def JD : Nat -> Nat -> Option Fn
 | 0 => fun _ => none
 | n + 1 => VQ (JD n)
def ZJ (R : Nat -> Option Fn) : G zq := (zN (zf jj (gO (gC (.int 1))) (gO (zw Rx (gO (yg (zW (jk jI (zb 0) gNil)) [none] (zr 0) yF (jk R (zb 0) gNil)))))))
def yS (R : Nat -> Option Fn) : Fn := zQ [] 1 0 false (ZJ R)
def Q8 (R : Nat -> Option Fn) (c : Nat) : Option Fn := match c with | 12 => some (yS R) | 13 => some (yS R) | 14 => some (yS R) | 15 => some (yS R) | 16 => some (yS R) | 17 => some (yS R) | _ => none
def jm : Nat -> Nat -> Option Fn
 | 0 => fun _ => none
 | n + 1 => Q8 (jm n)
def YD : G zq := (yk (zB z4 (gCons (zf U5 (gO (jk (jm 6) (zb 0) gNil)) (gO (gC (.int 12)))) (gCons (gC (.str "a wish has at most twelve parts")) gNil))))
def YE : G zq := (zx (yk (zB z4 (gCons (zf U5 (gO (jk (JD 6) (zb 0) gNil)) (gO (gC (.int 4)))) (gCons (gC (.str "a wish is at most four deep")) gNil))))
 YD)
def U8 : G zq := (zx (yk (zB z4 (gCons (zf U5 (gO (zw y6 (gO (jk (y3 6) (zb 0) gNil)))) (gO (gC (.int 5)))) (gCons (gC (.str "a wish has at most five names in all")) gNil))))
 YE)
def ya : Fn := zQ [] 1 0 false U8
def zay : G zq := (zx (JB 0 5 (yg (zW (zb 3)) [none] (zr 0) yF (jH jZ (zh 0))))
 (yk (Yj 0 ya)))
def zaz : G zq := (zx (JB 0 0 (zb 1))
 (zx (JB 0 4 (zb 2))
 zay))
def zaA : G zq := (zx (yk (zB z4 (gCons (zB yW (gCons (zb 2) (gCons (zw Wq (gO (yg (zW (zb 3)) [none] (zr 0) yF (zw y6 (zh 0))))) gNil))) (gCons (gC (.str "each is not from 1 to the smallest house")) gNil))))
 zaz)
def zaB : G zq := (zx (yk (zB z4 (gCons (zB yW (gCons (zb 1) (gCons (zw y6 (zh 3)) gNil))) (gCons (gC (.str "many is not from 1 to how many houses there are")) gNil))))
 zaA)
def zaC : G zq := (zx (yk (zB z4 (gCons (zw Yh (gO (yg (zW (zb 3)) [none] (zr 0) yF (zB jF (gCons (zb 0) gNil))))) (gCons (gC (.str "a house is no list of one to five unlike names")) gNil))))
 zaB)
def zd2 : G zq := (zx (yk (zB z4 (gCons (zB z0 (gCons (zb 3) gNil)) (gCons (gC (.str "the houses are no list of one to five")) gNil))))
 zaC)
def Q9 : Fn := zQ [0] 4 0 false zd2
def zco : G zq := (zN (zw (VG (QU [12, 13, 14, 15, 16, 17])) (zh 0)))
def Jj : Fn := zQ [] 1 0 false zco
def ZK : G zq := (yk (zB z4 (gCons (zw Yh (gO (yg (zW (zb 0)) [none] (zr 0) yF (zB Jj (gCons (zb 0) gNil))))) (gCons (gC (.str "what stands among the wishes is none")) gNil))))
def YF : G zq := (zx (yk (zB z4 (gCons (zB z0 (gCons (zb 0) gNil)) (gCons (gC (.str "the wishes are no list of one to five")) gNil))))
 ZK)
def jR : Fn := zQ [] 1 0 false YF
def RE : G zq := (zx (JB 0 6 (jH jZ (zh 1)))
 (yk (Yj 0 ya)))
def zd3 : G zq := (zx (yk (zB jR (gCons (zb 1) gNil)))
 RE)
def jB : Fn := zQ [0] 2 0 false zd3
def zd4 : G zq := (zx (JB 0 8 (zb 2))
 (yk (Yj 0 ya)))
def zik : G zq := (zx (yk (zB z4 (gCons (J6 (zB Jj (gCons (zb 1) gNil)) (zB Jj (gCons (zb 2) gNil))) (gCons (gC (.str "what is to come one behind the other are no wishes")) gNil))))
 (zx (JB 0 7 (zb 1))
 zd4))
def Qi : Fn := zQ [0] 3 0 false zik
def zaD (R : Fn) : G zq := (zN (j2 17 Qi (gCons (zf zz (zh 1) (gO (gC (.int 0)))) (gCons (zf zz (zh 1) (gO (gC (.int 1)))) gNil))))
def zaE (R : Fn) : G zq := (zx (yK (gB (zf jg (gO (zf zz (zh 0) (gO (gC (.int 0))))) (gO (gC (.str "|")))))
 (zN (j2 16 jB (gCons (zb 1) gNil)))
 yx)
 (zaD R))
def zaF (R : Fn) : G zq := (zx (yK (gB (zf jg (gO (zf zz (zh 0) (gO (gC (.int 0))))) (gO (gC (.str "&")))))
 (zN (j2 15 jB (gCons (zb 1) gNil)))
 yx)
 (zaE R))
def zaG (R : Fn) : G zq := (zx (zX 1 (yg (zW (zf zz (zh 0) (gO (gC (.int 1))))) [none] (zr 0) yF (zB R (gCons (zb 0) gNil))))
 (zaF R))
def zaH (R : Fn) : G zq := (zx (yK (gB (zf jg (gO (zf zz (zh 0) (gO (gC (.int 0))))) (gO (gC (.str "houses")))))
 (zN (j2 14 Q9 (gCons (zf zz (zh 0) (gO (gC (.int 1)))) (gCons (zf zz (zh 0) (gO (gC (.int 2)))) (gCons (yg (zW (zf zz (zh 0) (gO (gC (.int 3))))) [none] (zr 0) yF (jH jZ (zh 0))) gNil)))))
 yx)
 (zaG R))
def zaI (R : Fn) : G zq := (zx (yK (gB (zf jg (gO (zf zz (zh 0) (gO (gC (.int 0))))) (gO (gC (.str "weigh")))))
 (zN (j2 13 Z2 (gCons (zf zz (zh 0) (gO (gC (.int 1)))) (gCons (jH jZ (gO (zf zz (zh 0) (gO (gC (.int 2)))))) gNil))))
 yx)
 (zaH R))
def UT (R : Fn) : G zq := (zx (yK (gB (zf jg (gO (zf zz (zh 0) (gO (gC (.int 0))))) (gO (gC (.str "count")))))
 (zN (j2 12 Z1 (gCons (zf zz (zh 0) (gO (gC (.int 1)))) (gCons (jH jZ (gO (zf zz (zh 0) (gO (gC (.int 2)))))) gNil))))
 yx)
 (zaI R))
def jU : Nat -> Fn
 | 0 => noF
 | n + 1 => zQ [] 1 1 false (UT (jU n))
def U9 : G zq := (zN (Jh (gC (.str " ")) (gO (zT (gCons (gC (.str "houses")) (gCons (zw jy (gO (zw (jx 0) (zh 0)))) (gCons (zw jy (gO (zw (jx 4) (zh 0)))) (gCons (zb 1) gNil))))))))
def Va : G zq := (zx (zX 1 (Jh (gC (.str " / ")) (gO (yg (zW (zw (jx 5) (zh 0))) [none] (zr 0) yF (Jh (gC (.str " ")) (zh 0))))))
 U9)
def Vb : G zq := (zx (yK (gB (zw (VG (QU [13])) (zh 0)))
 (zN (Jh (gC (.str " ")) (gO (jD y7 (gO (zT (gCons (gC (.str "weigh")) (gCons (zw jy (gO (zw (jx 2) (zh 0)))) gNil)))) (gO (yg (zW (zw (jx 3) (zh 0))) [none] (zr 0) yF (zf yC (gO (zf yC (gO (zf zz (zh 0) (gO (gC (.int 0))))) (gO (gC (.str " "))))) (gO (zw jy (gO (zf zz (zh 0) (gO (gC (.int 1))))))))))))))
 yx)
 Va)
def W4 : G zq := (zx (yK (gB (zw (VG (QU [12])) (zh 0)))
 (zN (Jh (gC (.str " ")) (gO (jD y7 (gO (zT (gCons (gC (.str "count")) (gCons (zw jy (gO (zw (jx 0) (zh 0)))) gNil)))) (gO (zw (jx 1) (zh 0)))))))
 yx)
 Vb)
def JN : Fn := zQ [] 1 1 false W4
def Vc (R : Fn) : G zq := (zx (yK (gB (zw (VG (QU [17])) (zh 0)))
 (zN (zB R (gCons (gC (.str ">")) (gCons (zT (gCons (zw (jx 7) (zh 0)) (gCons (zw (jx 8) (zh 0)) gNil))) gNil))))
 yx)
 (zN (zB JN (gCons (zb 0) gNil))))
def Vd (R : Fn) : G zq := (zx (yK (gB (zw (VG (QU [16])) (zh 0)))
 (zN (zB R (gCons (gC (.str "|")) (gCons (zw (jx 6) (zh 0)) gNil))))
 yx)
 (Vc R))
def YU (R : Fn) : G zq := (zx (yK (gB (zw (VG (QU [15])) (zh 0)))
 (zN (zB R (gCons (gC (.str "&")) (gCons (zw (jx 6) (zh 0)) gNil))))
 yx)
 (Vd R))
def yJ (R : Fn) : Fn := zQ [] 1 0 false (YU R)
def QO (R : Fn) : G zq := (zN (zf yC (gO (zf yC (gO (zw Qb (gO (gC (.str "( "))))) (gO (zw Qb (zh 2))))) (gO (gC (.str " )")))))
def YG (R : Fn) : G zq := (zx (yK (gB (zf jg (gO (zw y6 (zh 1))) (gO (gC (.int 1)))))
 (zX 2 (zf yC (gO (zf yC (gO (zw Qb (gO (zw Qb (zh 0))))) (gO (gC (.str " "))))) (gO (zw Qb (zh 2)))))
 yx)
 (QO R))
def Qo (R : Fn) : G zq := (zx (zX 2 (Jh (zf yC (gO (zf yC (gO (zw Qb (gO (gC (.str " "))))) (gO (zw Qb (zh 0))))) (gO (gC (.str " ")))) (gO (yg (zW (zb 1)) [none] (zr 0) yF (zB (yJ R) (gCons (zb 0) gNil))))))
 (YG R))
def yh : Nat -> Fn
 | 0 => noF
 | n + 1 => zQ [] 2 1 false (Qo (yh n))
def W5 : G zq := (yK (gB (zf ZF (gO (zB (yJ (yh 6)) (gCons (j2 17 Qi (gCons (zb 6) (gCons (j2 16 jB (gCons (zT (gCons (zb 6) gNil)) gNil)) gNil))) gNil))) (gO (zf yC (gO (zf yC (gO (zf yC (gO (zf yC (gO (gC (.str "( "))) (zh 5))) (gO (gC (.str " > ( | "))))) (zh 5))) (gO (gC (.str " ) )")))))))
 (zN (gC (.bl false)))
 yx)
def YV : G zq := (zx (yK (gB (zf ZF (gO (zB (yJ (yh 6)) (gCons (j2 15 jB (gCons (zT (gCons (zb 6) (gCons (zb 6) gNil))) gNil)) gNil))) (gO (zf yC (gO (zf yC (gO (zf yC (gO (zf yC (gO (gC (.str "( "))) (zh 5))) (gO (gC (.str " & "))))) (zh 5))) (gO (gC (.str " )")))))))
 (zN (gC (.bl false)))
 yx)
 W5)
def W6 : G zq := (zx (zX 5 (Jh (gC (.str " ")) (gO (zB (jq 6) (gCons (zb 7) gNil)))))
 YV)
def W7 : G zq := (zx (zX 6 (zB (jU 6) (gCons (zb 7) gNil)))
 W6)
def W8 : G zq := (zx (zX 7 (zm 2 (jE 6) (gCons (zb 3) (gCons (gC (.int 2)) (gCons (gC (.int 5)) gNil)))))
 W7)
def W9 : G zq := (zx (yK (Yi (gB (zf ZF (gO (zB (yJ (yh 6)) (gCons (zb 6) gNil))) (zh 5))) (Yi (gB (zf ZF (gO (zB (yJ (yh 6)) (gCons (zb 6) gNil))) (zh 5))) (gB (zf ZF (gO (zB (yJ (yh 6)) (gCons (zB (jU 6) (gCons (zb 4) gNil)) gNil))) (zh 5)))))
 (zN (gC (.bl false)))
 yx)
 W8)
def Ra : G zq := (zx (zX 6 (zB (jU 6) (gCons (zb 4) gNil)))
 W9)
def YW : G zq := (zx (zX 5 (Jh (gC (.str " ")) (gO (zB (jq 6) (gCons (zb 4) gNil)))))
 Ra)
def Rb : G zq := (zx (yK (gB (zf jg (gO (zm 2 zp (gCons (gC (.int 6)) gNil))) (gO (gC (.int 0)))))
 (zX 4 (zm 2 J1 (gCons (zb 3) gNil)))
 yx)
 YW)
def VR : G zq := (zx (zX 4 (zm 2 (jE 6) (gCons (zb 3) (gCons (gC (.int 4)) (gCons (gC (.int 8)) gNil)))))
 Rb)
def VS : G zq := (zx (zX 3 (zm 2 QA (gCons (gC (.int 5)) gNil)))
 VR)
def QP : G zq := (zx (j7 2 (zB Qr (gCons (zf jj (gO (zB Jn (gCons (zb 0) (gCons (zb 1) gNil)))) (zh 1)) gNil)))
 VS)
def zcp : G zq := (zx (Qq (yU (gCons (zf zaf (gO (gC (.int 1))) (gO (zf Ys (gO (gC (.int 6))) (gO (zw y6 (zh 0)))))) gNil)) (zr 1)
 QP)
 (zN (gC (.bl true))))
def zcq : Fn := zQ [] 1 7 false zcp
theorem zd5 : Jd ρ none s = ρ := by cases s <;> rfl
theorem zaJ : Jd ρ (some j) (.own o) = JV ρ j o := rfl
theorem zaK : Jd ρ x (.val d) = ρ := by cases x <;> rfl
theorem zcr : Jd ρ x .no = ρ := by cases x <;> rfl
theorem zaL : yc [] ρb ρ = ρ := rfl
theorem Rc : yc (x :: js) (s :: ρb) ρ = yc js ρb (Jd ρ x s) := rfl
local macro_rules | `(tactic| walk_at "gs") => `(tactic| simp only [zQ, eq_self, zx, yK, zX, j7, zN, yk, yx, gC, zb, Uo, zh, gO, zf, zw, jD, jH, gCons, gNil, zcW, zT, gTup, gB, Up, Yi, J6, zag, Qf, zdv, zgq, zgj, Y4, JB, zr, Ur, JY, Yu, Qq, yU, zW, Wo, itL, itS, zB, zm, j2, Jg, ZZ, jk, Rc, zaL, zd5, zaJ, zaK, zcr, JV, Yj, UB, Jh, jW, Uq, Rr, yF, zL, zfd, zfe, je, zdy, zff, zfg, zfh, zfi, zfj, zfk, zdz, zdA, zdB, zdC, zcZ, Uw, JZ, zb6, Ux, Vz, zb7, zdD, zfl, zdE, Yv, zdF, zfm, zbt, zfn, Rt, zhY, Option.bind_some, Option.map_some, Option.bind_none, Option.map_none, jj, Ju, Rq, YN, ZC, WI, U5, hGt, hGe, zaf, Ys, Qx, hI, jg, ZF, Vq, yC, y6, y7, jZ, zgp, jx, Yt, Yb, ix0, ix1, ix2, ix3, ix4, ix5, ix6, ix7, it0, it1, it2, it3, it4, it5, it6, it7, Zj, Ql, Yc, zjE, List.cons_append, List.nil_append, List.append_nil, List.replicate, List.map_cons, List.map_nil, List.getElem?_cons_zero, List.getElem?_cons_succ, List.set_cons_zero, List.set_cons_succ, List.length_cons, List.length_nil, Nat.reduceAdd, Nat.reduceSub, Nat.reduceLeDiff, Nat.reduceEqDiff, Nat.reduceLT, Nat.zero_add, if_true, if_false, reduceIte, Bool.false_eq_true, Bool.not_true, Bool.not_false, true_and, and_true, and_self, reduceCtorEq, Int.reduceToNat, List.getD_cons_zero, List.getD_cons_succ, Int.reduceLE, Int.reduceLT, Int.reduceNeg, Int.reduceEq, decide_true, decide_false, Bool.true_and, Bool.false_and, Bool.and_true, Bool.and_false, Bool.or_true, Bool.true_or, Bool.or_false, Bool.false_or, List.contains_cons, List.contains_nil, Nat.reduceBEq, String.reduceBEq, VA, String.reduceEq, List.isEmpty_cons, List.isEmpty_nil, beq_self_eq_true, Int.cast_ofNat_Int])
local macro_rules | `(tactic| walk_at "gsa") => `(tactic| simp only [zQ, eq_self, zx, yK, zX, j7, zN, yk, yx, gC, zb, Uo, zh, gO, zf, zw, jD, jH, gCons, gNil, zcW, zT, gTup, gB, Up, Yi, J6, zag, Qf, zdv, zgq, zgj, Y4, JB, zr, Ur, JY, Yu, Qq, yU, zW, Wo, itL, itS, zB, zm, j2, Jg, ZZ, jk, Rc, zaL, zd5, zaJ, zaK, zcr, JV, Yj, UB, Jh, jW, Uq, Rr, yF, zL, zfd, zfe, je, zdy, zff, zfg, zfh, zfi, zfj, zfk, zdz, zdA, zdB, zdC, zcZ, Uw, JZ, zb6, Ux, Vz, zb7, zdD, zfl, zdE, Yv, zdF, zfm, zbt, zfn, Rt, zhY, Option.bind_some, Option.map_some, Option.bind_none, Option.map_none, jj, Ju, Rq, YN, ZC, WI, U5, hGt, hGe, zaf, Ys, Qx, hI, jg, ZF, Vq, yC, y6, y7, jZ, zgp, jx, Yt, Yb, ix0, ix1, ix2, ix3, ix4, ix5, ix6, ix7, it0, it1, it2, it3, it4, it5, it6, it7, Zj, Ql, Yc, zjE, List.cons_append, List.nil_append, List.append_nil, List.replicate, List.map_cons, List.map_nil, List.getElem?_cons_zero, List.getElem?_cons_succ, List.set_cons_zero, List.set_cons_succ, List.length_cons, List.length_nil, Nat.reduceAdd, Nat.reduceSub, Nat.reduceLeDiff, Nat.reduceEqDiff, Nat.reduceLT, Nat.zero_add, if_true, if_false, reduceIte, Bool.false_eq_true, Bool.not_true, Bool.not_false, true_and, and_true, and_self, reduceCtorEq, Int.reduceToNat, List.getD_cons_zero, List.getD_cons_succ, Int.reduceLE, Int.reduceLT, Int.reduceNeg, Int.reduceEq, decide_true, decide_false, Bool.true_and, Bool.false_and, Bool.and_true, Bool.and_false, Bool.or_true, Bool.true_or, Bool.or_false, Bool.false_or, List.contains_cons, List.contains_nil, Nat.reduceBEq, String.reduceBEq, VA, String.reduceEq, List.isEmpty_cons, List.isEmpty_nil, beq_self_eq_true, Int.cast_ofNat_Int, *])
theorem zd6 {g : D -> Env -> Option Env} (I : List D -> Env -> Prop) (hs : ∀ d r ρ, I (d :: r) ρ -> ∃ ρ1, g d ρ = some ρ1 /\ ∃ ρ2, (b ρ1 = .ok .nx ρ2 \/ b ρ1 = .ok .ct ρ2) /\ I r ρ2) :
 ∀ (ds : List D) (ρ : Env), I ds ρ -> ∃ ρ', jT g b ds ρ = .ok .nx ρ' /\ I [] ρ'
 | [], ρ, h => ⟨ρ, rfl, h⟩
 | d :: r, ρ, h => by
  obtain ⟨ρ1, e1, ρ2, e2, h2⟩ := hs d r ρ h
  obtain ⟨ρ', e3, h3⟩ := zd6 I hs r ρ2 h2
  refine ⟨ρ', ?_, h3⟩
  unfold jT
  rw [e1, je, zL]
  rcases e2 with e2 | e2 <;> rw [e2] <;> exact e3
inductive All2 {α β : Type} (P : α -> β -> Prop) : List α -> List β -> Prop where
 | nil : All2 P [] []
 | cons {a b l m} (h : P a b) (r : All2 P l m) : All2 P (a :: l) (b :: m)
theorem All2.len {α β : Type} {P : α -> β -> Prop} {l : List α} {m : List β} (h : All2 P l m) : m.length = l.length := by
 induction h with
 | nil => rfl
 | cons _ _ ih => simp [ih]
theorem RG {g : D -> Env -> Option Env} (I : Env -> Prop) (f : D -> D) (P : D -> Prop) (hs : ∀ d ρ, P d -> I ρ -> ∃ ρ1 ρ2, g d ρ = some ρ1 /\ e ρ1 = .ok (f d) ρ2 /\ I ρ2) :
 ∀ (ds : List D) (ρ : Env), (∀ d ∈ ds, P d) -> I ρ -> ∃ ρ', yO g yF e ds ρ = .ok (ds.map f) ρ' /\ I ρ'
 | [], ρ, _, h => ⟨ρ, rfl, h⟩
 | d :: r, ρ, hd, h => by
  obtain ⟨ρ1, ρ2, e1, e2, h2⟩ := hs d ρ (hd d ai) h
  obtain ⟨ρ', e3, h3⟩ := RG I f P hs r ρ2 (fun x hx => hd x (ah _ hx)) h2
  refine ⟨ρ', ?_, h3⟩
  unfold yO
  rw [e1, je, zL]
  show (O.bind (.ok true ρ1) _) = _
  rw [zL, if_pos rfl, e2, zL, e3, zL]; rfl
theorem jf {g : D -> Env -> Option Env} (h1 : g d ρ = some ρ1) (h2 : e ρ1 = .ok y ρ2) (h3 : yO g yF e r ρ2 = .ok ys ρ3) : yO g yF e (d :: r) ρ = .ok (y :: ys) ρ3 := by
 unfold yO
 rw [h1, je, zL]
 show (O.bind (.ok true ρ1) _) = _
 rw [zL, if_pos rfl, h2, zL, h3, zL]
theorem Za {g : D -> Env -> Option Env} (h1 : g d ρ = some ρ1) (h2 : b ρ1 = .ok .nx ρ2) : jT g b (d :: r) ρ = jT g b r ρ2 := by
 have e : jT g b (d :: r) ρ = (jp (g d ρ) ρ).bind fun ρ1 _ => Uv (b ρ1) (jT g b r) := rfl
 rw [e, h1, je, zL, h2]; rfl
theorem jn : (y9 lo n).length = n := by simp [y9]
theorem zaM (h : d ∈ y9 lo n) : ∃ i : Nat, i < n /\ d = .int (lo + i) := by
 unfold y9 at h
 obtain ⟨i, hi, e⟩ := aW.mp h
 exact ⟨i, dE.mp hi, e.symm⟩
theorem Zb (a : Str) : a.length = a.cps.toList.length := by simp [Str.length]
theorem zbA (a b : Str) : (a ++ b).cps.toList = a.cps.toList ++ b.cps.toList := by
 show (a.cps ++ b.cps).toList = _
 simp
theorem zd7 {g : D -> Env -> Option Env} {ds ys : List D} (hi : gi ρ = .ok ds ρ1) (hl : ds.length <= 100000) (h : yO g c e ds (QF js ρ1) = .ok ys ρb) : yg gi js g c e ρ = .ok (.lst ys) (yc js ρb ρ1) := by
 unfold yg; rw [hi, zL, Vy hl, h]; rfl
theorem Jk (hi : ρ[i]? = some (.val (.lst ds))) : zW (zb i) ρ = .ok ds ρ := by
 unfold zW zb; rw [hi]; rfl
theorem jO (hi : g ρ = .ok (.lst ds) ρ1) : zW g ρ = .ok ds ρ1 := by
 unfold zW; rw [hi]; rfl
theorem JP (hi : ρ[i]? = some (.val (.obj c fs))) (hc : 11 <= c) (hf : Yt fs f = some d) : zw (jx f) (zh i) ρ = .ok d ρ := by
 unfold zw zh jx; rw [hi]; simp only [zL, Opd.get, hi, Zk, aP, if_pos hc, hf, je]
theorem UU (h : a ρ = .ok (.bl k) ρ1) : J6 a b ρ = if k = true then b ρ1 else .ok (.bl false) ρ1 := by
 unfold J6; rw [h]; rfl
theorem zfx {f : D -> Option D} (h : a ρ = .ok x ρ1) : zw f (gO a) ρ = jp (f x) ρ1 := by
 unfold zw gO; rw [h]; rfl
theorem z8 (h : a ρ = .ok x ρ1) : zN a ρ = .ok (.rt x) ρ1 := by
 unfold zN; rw [h]; rfl
theorem zu (h : a ρ = .ok x ρ1) : gCons a r ρ = (r ρ1).bind fun ds ρ2 => .ok (x :: ds) ρ2 := by
 unfold gCons; rw [h]; rfl
theorem yj {g : D -> Env -> Option Env} {ds ys : List D} (hi : gi ρ = .ok ds ρ1) (hl : ds.length <= 100000) (h : yO g c e ds (QF js ρ1) = .ok ys ρb) (hm : yc js ρb ρ1 = ρ2) : yg gi js g c e ρ = .ok (.lst ys) ρ2 := by
 rw [zd7 hi hl h, hm]
theorem znx {f : D -> D -> Option D} (h1 : a ρ = .ok x ρ1) (h2 : b ρ1 = .ok y ρ2) : zf f (gO a) (gO b) ρ = jp (f x y) ρ2 := by
 unfold zf gO; rw [h1]; show O.bind ((b ρ1).bind _) _ = _; rw [h2]; rfl
theorem yd {ss : List Slot} (hl : ss.length = n) (h : g (ss ++ aX nl .no) = .ok (.rt d) ρ) : zQ [] n nl false g ss = .ok d [] := by
 unfold zQ; rw [if_pos hl, h]; rfl
theorem Yl {ds os : List D} (h1 : a ρ = .ok ds ρ1) (h2 : F (ds.map .val) = .ok d os) : zB F a ρ = .ok d ρ1 := by
 unfold zB; rw [h1, zL, h2]; rfl
theorem ZS (h : a ρ = .ok (.bl b) ρ1) : gB a ρ = .ok b ρ1 := by unfold gB; rw [h]; rfl
theorem z9 {f : D -> D -> Option D} (h1 : a ρ = .ok x ρ1) (h2 : b ρ1 = .ok y ρ2) (h : f x y = some d) : zf f (gO a) (gO b) ρ = .ok d ρ2 := by
 rw [znx h1 h2, h]; rfl
theorem Jv {f : D -> Option D} (h1 : a ρ = .ok x ρ1) (h : f x = some d) : zw f (gO a) ρ = .ok d ρ1 := by
 rw [zfx h1, h]; rfl
theorem Zc {j : Int} (h : -1000000 <= j /\ j <= 1000000) : zbr [.int j] = some (y9 0 j.toNat) := if_pos h
theorem Jq (h : g ρ = .ok ds ρ1) (h2 : zbr ds = some xs) : yU g ρ = .ok xs ρ1 := by
 unfold yU; rw [h, zL, h2, je]
theorem Zd {g : D -> Env -> Option Env} (h : gi ρ = .ok ds ρ1) : Qq gi g b ρ = jT g b ds ρ1 := by
 unfold Qq; rw [h, zL]
theorem ze (h : a ρ = .ok .nx ρ1) : zx a b ρ = b ρ1 := by unfold zx; rw [h]; rfl
theorem y8 (h : a ρ = .ok (.rt d) ρ1) : zx a b ρ = .ok (.rt d) ρ1 := by unfold zx; rw [h]; rfl
theorem yZ (h : c ρ = .ok true ρ1) : yK c a b ρ = a ρ1 := by unfold yK; rw [h]; rfl
theorem zK (h : c ρ = .ok false ρ1) : yK c a b ρ = b ρ1 := by unfold yK; rw [h]; rfl
theorem zP {ρ ρ1 : Env} (h : a ρ = .ok d ρ1) : zX i a ρ = .ok .nx (ρ1.set i (.val d)) := by unfold zX; rw [h]; rfl
theorem Ze (h : a ρ = .ok d ρ1) : yk a ρ = .ok .nx ρ1 := by unfold yk; rw [h]; rfl
theorem JQ {ss : List Slot} (hl : ss.length = n) (h : g (ss ++ aX nl .no) = .ok (.rt d) (.own o :: ρ)) : zQ [0] n nl false g ss = .ok d [o] := by
 unfold zQ; rw [if_pos hl, h]; rfl
theorem Ym {ss : List Slot} (hl : ss.length = n) (h : g (ss ++ aX nl .no) = .ok .nx (.own o :: ρ)) : zQ [0] n nl false g ss = .ok .non [o] := by
 unfold zQ; rw [if_pos hl, h]; rfl
theorem zil {ss : List Slot} (hl : ss.length = n) (h : g (ss ++ aX nl .no) = .ok .nx ρ) : zQ [] n nl false g ss = .ok .non [] := by
 unfold zQ; rw [if_pos hl, h]; rfl
def zd8 : D -> Bool | .int _ => true | _ => false
theorem zeC {d : D} {k : String} (h : Ql d = some k) : J7 [.val d] = .ok (.bl (zd8 d)) [] := by
 unfold J7 UR
 cases d <;> first | (cases h; done) | (walk_at "gs"; rfl)
def QQ (c : Nat) : Bool := decide (97 <= c) && decide (c <= 122)
def Jr (x : Str) : Bool := decide (1 <= x.length) && decide (x.length <= 8) && x.cps.toList.all QQ
def UV : D -> Bool | .str x => Jr x | _ => false
theorem zim (a b : Nat) : (!decide (([b] : List Nat) < [a])) = decide (a <= b) := by
 by_cases h : a <= b
 · rw [decide_eq_true h, decide_eq_false]; rfl
   intro z
   rw [fy] at z
   rcases z with z | ⟨_, z⟩
   · omega
   · exact absurd z (List.not_lt_nil _)
 · rw [decide_eq_false h, decide_eq_true]; rfl
   rw [fy]
   exact .inl (by omega)
theorem zny : (aI "a").cps.toList = [97] := by decide +kernel
theorem znz : (aI "z").cps.toList = [122] := by decide +kernel
theorem zd9 {f : Nat -> Bool} : ∀ (l : List Nat), ZA (l.map fun c => D.bl (f c)) = some (l.map f)
 | [] => rfl
 | c :: r => by rw [al, ZA, zd9 r]; rfl
theorem znA {f : Nat -> Bool} (l : List Nat) : (l.map f).all id = l.all f := by
 induction l with
 | nil => rfl
 | cons a r ih => rw [al, dR, dR, ih]; rfl
theorem zgG {s : Slot} (x : Str) : ∃ ρ', yO (zr 0) yF (Qf ZD ZD (gC (.str "a")) (zb 0) (gC (.str "z"))) (x.cps.toList.map fun c => D.str ⟨#[c]⟩) [s] = .ok (x.cps.toList.map fun c => D.bl (QQ c)) ρ' /\ ρ'.length = 1 := by
 have h := RG (g := zr 0) (e := Qf ZD ZD (gC (.str "a")) (zb 0) (gC (.str "z"))) (fun ρ => ρ.length = 1) (fun d => match d with | .str y => .bl (QQ (y.cps.toList.getD 0 0)) | d => d) (fun d => ∃ c, d = .str ⟨#[c]⟩) (fun d ρ ⟨c, hc⟩ hl => by
  subst hc
  match ρ, hl with
  | [t], _ =>
   refine ⟨_, [.val (.str ⟨#[c]⟩)], rfl, ?_, rfl⟩
   walk_at "gs"
   have e1 : ZD (.str "a") (.str ⟨#[c]⟩) = some (.bl (decide (97 <= c))) := by
    unfold ZD
    dsimp only
    simp only [zny, zim]
   have e2 : ZD (.str ⟨#[c]⟩) (.str "z") = some (.bl (decide (c <= 122))) := by
    unfold ZD
    dsimp only
    simp only [znz, zim]
   rw [e1, je, zL, zdD, zL]
   show _ = O.ok (D.bl (QQ c)) _
   unfold QQ
   by_cases h : 97 <= c
   · rw [decide_eq_true h, if_pos rfl, e2, eN]; rfl
   · rw [decide_eq_false h, if_neg aw, dB]) (x.cps.toList.map fun c => D.str ⟨#[c]⟩) [s] (fun d hd => by
  obtain ⟨c, _, e⟩ := aW.mp hd
  exact ⟨c, e.symm⟩) rfl
 obtain ⟨ρ', e, hl⟩ := h
 refine ⟨ρ', ?_, hl⟩
 rw [e, List.map_map]
 rfl
theorem zgH {d : D} {k : String} (h : Ql d = some k) (hx : ∀ x, d = .str x -> x.length <= 100000) : jM [.val d] = .ok (.bl (UV d)) [] := by
 unfold jM VM
 cases d with
 | str x =>
  have hx := hx x rfl
  walk_at "gsa"
  unfold UV Jr
  dsimp only
  by_cases p0 : 1 <= x.length
  · by_cases p1 : x.length <= 8
    · rw [decide_eq_true (show (1 : Int) <= x.length by omega), decide_eq_true (show (x.length : Int) <= 8 by omega), decide_eq_true p0, decide_eq_true p1]
      unfold YT
      obtain ⟨ρ', e, _⟩ := zgG (s := .no) x
      have hl : (x.cps.toList.map fun c => D.str ⟨#[c]⟩).length <= 100000 := by rw [am, ← Zb]; exact hx
      walk_at "gs"
      simp only [yg, Wo, zb, cE, zL, itS, je, Vy hl, QF, al, bB, e, znr]
      simp only [zcZ, aP, Yh, zd9, cf, je, zL, zbt, Rt, znA, eN]
    · rw [decide_eq_true (show (1 : Int) <= x.length by omega), decide_eq_false (show ¬ (x.length : Int) <= 8 by omega), decide_eq_false p1]
      walk_at "gs"
  · rw [decide_eq_false (show ¬ (1 : Int) <= x.length by omega), decide_eq_false p0]
    walk_at "gs"
 | _ => first | (cases h; done) | (walk_at "gs"; rfl)
theorem zgI {ns : List Int} {k : Int} (h : 0 <= k) : ∃ i, Jn [.val (.fz ns), .val (.int k)] = .ok (.int i) [] := by
 unfold Jn YQ
 by_cases h1 : k < ns.length
 · refine ⟨ns.getD k.toNat 0, ?_⟩
   walk_at "gs"
   rw [decide_eq_true h1]
   walk_at "gs"
   rw [zn6 h h1]
   walk_at "gs"
 · refine ⟨0, ?_⟩
   walk_at "gs"
   rw [decide_eq_false h1]
   walk_at "gs"
def yf (o : D) : Prop := ∃ a b c, o = .lst [.int a, .int b, .int c] /\ 0 <= a /\ 0 <= b /\ b < 2147483629 /\ 0 <= c
theorem zlT {c : Int} : ∃ o, Qr [.val (.int c)] = .ok o [] /\ yf o := by
 unfold Qr Ry
 have hp : Rk 10 18 := ⟨by decide, by decide, by decide⟩
 by_cases h : (10 ^ (18 : Nat) : Int) <= c
 · refine ⟨.lst [.int c, .int (c % 2147483629), .int 0], ?_, c, _, _, rfl, by omega, cg _ (by decide), bM _ (by decide), by decide⟩
   walk_at "gs"
   simp only [if_pos hp]
   walk_at "gs"
   simp only [decide_eq_true h]
   walk_at "gs"
 · refine ⟨.lst [.int 0, .int (c % 2147483629), .int 0], ?_, 0, _, _, rfl, by omega, cg _ (by decide), bM _ (by decide), by decide⟩
   walk_at "gs"
   simp only [if_pos hp]
   walk_at "gs"
   simp only [decide_eq_false h]
   walk_at "gs"
theorem zgJ {i j : Int} (h : -18446744073709551616 < i /\ i < 18446744073709551616) : CMul i j := .inl ⟨by omega, by omega⟩
theorem zkS {i j : Int} (h : -18446744073709551616 < j /\ j < 18446744073709551616) : CMul i j := .inr ⟨by omega, by omega⟩
theorem zjX {i j : Int} (h : 0 < j /\ j < 18446744073709551616) : UD i j := h
def zkT (b c : Int) : Int := (b + 7919 * (c + 1) + 1) * 48271 % 2147483647 * ((b + 7919 * (c + 1) + 1) * 48271 % 2147483647 / 1009 + 69621) % 2147483647 * ((b + 7919 * (c + 1) + 1) * 48271 % 2147483647 * ((b + 7919 * (c + 1) + 1) * 48271 % 2147483647 / 1009 + 69621) % 2147483647 / 2003 + 40692) % 2147483399
theorem yw {o : D} {n : Int} (hw : yf o) (h0 : 0 < n) (h1 : n < 18446744073709551616) : ∃ r o', zp [.own o, .val (.int n)] = .ok (.int r) [o'] /\ 0 <= r /\ r < n /\ yf o' := by
 obtain ⟨a, b, c, rfl, ha, hb, hb', hc⟩ := hw
 unfold zp Rz
 by_cases h : 0 < a
 · refine ⟨a % n, .lst [.int (a / n), .int b, .int c], ?_, cg _ (by omega), bM _ h0, _, _, _, rfl, Int.ediv_nonneg ha (by omega), hb, hb', hc⟩
   walk_at "gs"
   simp only [decide_eq_true h, h0]
   unfold UE
   walk_at "gs"
   simp only [if_pos (zjX (i := a) ⟨h0, h1⟩)]
   walk_at "gs"
 · refine ⟨zkT b c % n, .lst [.int a, .int b, .int (c + 1)], ?_, cg _ (by omega), bM _ h0, _, _, _, rfl, ha, hb, hb', by omega⟩
   unfold zkT
   walk_at "gs"
   simp only [decide_eq_false h]
   unfold UI UH
   walk_at "gs"
   simp only [if_pos (zgJ (i := 7919) (j := c + 1) (by decide)), if_pos (zkS (i := b + 7919 * (c + 1) + 1) (j := 48271) (by decide))]
   walk_at "gs"
   simp only [if_pos (zkS (i := b + 7919 * (c + 1) + 1) (j := 48271) (by decide))]
   walk_at "gs"
   generalize hn : (b + 7919 * (c + 1) + 1) * 48271 % 2147483647 = n1
   have n1a : 0 <= n1 := by rw [← hn]; exact cg _ (by decide)
   have n1b : n1 < 2147483647 := by rw [← hn]; exact bM _ (by decide)
   unfold UG
   walk_at "gs"
   simp only [if_pos (zjX (i := n1) (j := 1009) (by decide))]
   walk_at "gs"
   simp only [if_pos (zgJ (i := n1) (j := n1 / 1009 + 69621) ⟨by omega, by omega⟩)]
   walk_at "gs"
   generalize hn2 : n1 * (n1 / 1009 + 69621) % 2147483647 = n2
   have n2a : 0 <= n2 := by rw [← hn2]; exact cg _ (by decide)
   have n2b : n2 < 2147483647 := by rw [← hn2]; exact bM _ (by decide)
   unfold UF
   walk_at "gs"
   simp only [if_pos (zjX (i := n2) (j := 2003) (by decide))]
   walk_at "gs"
   simp only [if_pos (zgJ (i := n2) (j := n2 / 2003 + 40692) ⟨by omega, by omega⟩)]
   walk_at "gs"
   simp only [if_pos h0]
   walk_at "gs"
def letters : Str := "abcdefghijklmnopqrstuvwxyz"
theorem zcs : letters.cps.toList = List.range' 97 26 := by decide +kernel
theorem Re : letters.cps.toList.length = 26 := by rw [zcs]; simp
theorem zgK {j : Nat} (h : j < 26) : letters.cps.toList.getD j 0 = 97 + j := by
 rw [zcs, aA, List.getElem?_range' (by omega)]; simp
theorem zct {r : Int} (h0 : 0 <= r) (h1 : r < 26) : ∃ c, zz (.str letters) (.int r) = some (.str ⟨#[c]⟩) /\ QQ c = true /\ c = 97 + r.toNat :=
 ⟨97 + r.toNat, by rw [zn7 (by rw [Zb, Re]; omega) h0 (by rw [Re]; exact h1), zgK (by omega)], by simp [QQ]; omega, rfl⟩
theorem zjY {w : Str} {c : Nat} (hl : w.length <= 1000) : yC (.str w) (.str ⟨#[c]⟩) = some (.str (w ++ ⟨#[c]⟩)) := if_pos (by show w.length + 1 <= 100000; omega)
theorem zfy {w : Str} {c : Nat} (hw : w.cps.toList.all QQ = true) (hc : QQ c = true) : (w ++ ⟨#[c]⟩ : Str).cps.toList.all QQ = true /\ (w ++ ⟨#[c]⟩ : Str).length = w.length + 1 := by
 rw [Zb, zbA, Zb]
 simp [hw, hc]
theorem zlU {o : D} {last : Int} (hw : yf o) : ∃ x o', Qs [.own o, .val (.int last)] = .ok (.str x) [o'] /\ Jr x = true /\ yf o' /\ x.cps.toList.getLast? = some (97 + (last % 26).toNat) := by
 unfold Qs RA UK
 obtain ⟨r, o1, e, r0, r1, hw1⟩ := yw hw (n := 8) (by decide) (by decide)
 have hr : -1000000 <= r /\ r <= 1000000 := by omega
 walk_at "gs"
 simp only [e]
 walk_at "gs"
 simp only [zbr, if_pos hr]
 walk_at "gs"
 obtain ⟨ρ', e2, o2, w, s4, hw2, ha, hl, rfl⟩ := zd6 (g := zr 4) (b := ZO) (fun ds ρ => ∃ o w s4, yf o /\ w.cps.toList.all QQ = true /\ w.length + ds.length <= 7 /\ ρ = [.own o, .val (.int last), .val (.str letters), .val (.str w), s4])
  (fun d rr ρ ⟨o, w, s4, hw, ha, hl, e⟩ => by
   subst e
   refine ⟨_, rfl, ?_⟩
   obtain ⟨r, o1, e, r0, r1, hw1⟩ := yw hw (n := 26) (by decide) (by decide)
   obtain ⟨c, e2, hc, _⟩ := zct r0 r1
   have hl' : w.length <= 1000 := by simp at hl; omega
   obtain ⟨a, b⟩ := zfy ha hc
   refine ⟨[.own o1, .val (.int last), .val (.str letters), .val (.str (w ++ ⟨#[c]⟩)), .val d], .inl ?_, o1, _, _, hw1, a, by simp at hl; omega, rfl⟩
   unfold ZO
   simp only [dt, dq]
   walk_at "gs"
   simp only [e]
   walk_at "gs"
   simp only [e2]
   walk_at "gs"
   simp only [zjY hl', if_pos (show w.length + (⟨#[c]⟩ : Str).length <= 100000 by show w.length + 1 <= 100000; omega)]
   walk_at "gs") (y9 0 r.toNat) [.own o1, .val (.int last), .val (.str letters), .val (.str ""), .no] ⟨o1, "", .no, hw1, rfl, by rw [jn, show (aI "").length = 0 from rfl]; omega, rfl⟩
 simp only [show (aI "abcdefghijklmnopqrstuvwxyz") = letters from rfl, e2]
 have hl' : w.length <= 7 := by simpa using hl
 obtain ⟨c, e3, hc, ec⟩ := zct (r := last % 26) (cg _ (by decide)) (bM _ (by decide))
 obtain ⟨a, b⟩ := zfy ha hc
 refine ⟨w ++ ⟨#[c]⟩, o2, ?_, ?_, hw2, by rw [zbA, ec]; simp⟩
 · unfold UJ
   walk_at "gs"
   simp only [e3]
   walk_at "gs"
   simp only [if_pos (show w.length + (⟨#[c]⟩ : Str).length <= 100000 by show w.length + 1 <= 100000; omega)]
   walk_at "gs"
 · unfold Jr
   rw [a, eO, bu, decide_eq_true_eq, decide_eq_true_eq]
   omega
def sL (xs : List Str) : List D := xs.map D.str
theorem yG {xs : List Str} : (sL xs).length = xs.length := by unfold sL; simp
theorem znB {xs : List Str} {j : Nat} (h : j < xs.length) : (sL xs).getD j .non = .str xs[j] := by
 unfold sL; rw [aA, au, af h]; rfl
theorem zjZ {xs : List Str} {j : Nat} : (sL xs).eraseIdx j = sL (xs.eraseIdx j) := by unfold sL; rw [bn, bn]; simp
theorem zaN {xs ys : List Str} : sL xs ++ sL ys = sL (xs ++ ys) := by unfold sL; simp
theorem All2.get {α β : Type} {P : α -> β -> Prop} {l : List α} {m : List β} (h : All2 P l m) : ∀ (i : Nat) b, m[i]? = some b -> ∃ a, l[i]? = some a /\ P a b := by
 induction h with
 | nil => intro i b e; simp at e
 | cons p _ ih =>
  intro i b e
  cases i with
  | zero => simp at e; subst e; exact ⟨_, rfl, p⟩
  | succ i => simp at e; exact ih i b e
theorem zaO {g : D -> Env -> Option Env} {e : G D} (I : Env -> Prop) (Q : D -> Prop) (P : D -> D -> Prop) (hs : ∀ d ρ, Q d -> I ρ -> ∃ ρ1 y ρ2, g d ρ = some ρ1 /\ e ρ1 = .ok y ρ2 /\ P d y /\ I ρ2) :
 ∀ (ds : List D) (ρ : Env), (∀ d ∈ ds, Q d) -> I ρ -> ∃ ys ρ', yO g yF e ds ρ = .ok ys ρ' /\ I ρ' /\ All2 P ds ys
 | [], ρ, _, h => ⟨[], ρ, rfl, h, .nil⟩
 | d :: r, ρ, hd, h => by
  obtain ⟨ρ1, y, ρ2, e1, e2, hp, h2⟩ := hs d ρ (hd d ai) h
  obtain ⟨ys, ρ', e3, h3, h4⟩ := zaO I Q P hs r ρ2 (fun x hx => hd x (ah _ hx)) h2
  refine ⟨y :: ys, ρ', ?_, h3, .cons hp h4⟩
  exact jf e1 e2 e3
theorem zgL {lo : Int} {n i : Nat} {d : D} (h : (y9 lo n)[i]? = some d) : i < n /\ d = .int (lo + i) := by
 unfold y9 at h
 rw [au] at h
 by_cases hi : i < n
 · rw [d4 hi] at h; cases h; exact ⟨hi, rfl⟩
 · rw [bz (by simpa using hi)] at h; cases h
theorem zj0 {o : D} {rest found : List Str} {s1 : Slot} {tl : Env} (hw : yf o) (hne : rest ≠ []) (hl : rest.length <= 1000) (hf : found.length <= 1000) :
 ∃ (j : Nat) (hj : j < rest.length) (o' : D), yf o' /\ yk (Jg Jb 3 (Jg Vw 2 (zm 0 zp (gCons (zw y6 (zh 2)) gNil)))) (.own o :: s1 :: .own (.lst (sL rest)) :: .own (.lst (sL found)) :: tl)
  = .ok .nx (.own o' :: s1 :: .own (.lst (sL (rest.eraseIdx j))) :: .own (.lst (sL (found ++ [rest[j]]))) :: tl) := by
 have hp := cx.mpr hne
 obtain ⟨r, o1, e, r0, r1, hw1⟩ := yw hw (n := rest.length) (by omega) (by omega)
 have hj : r.toNat < rest.length := by omega
 refine ⟨r.toNat, hj, o1, hw1, ?_⟩
 have h1 : Vw (sL rest) (.int r) = some (.str rest[r.toNat], sL (rest.eraseIdx r.toNat)) := by
  unfold Vw; dsimp only
  rw [if_pos ⟨r0, by rw [yG]; exact hj, by rw [yG]; omega⟩, znB hj, zjZ]
 have h2 : Jb (sL found) (.str rest[r.toNat]) = some (.non, sL (found ++ [rest[r.toNat]])) := by
  unfold Jb
  rw [if_pos (by rw [yG]; omega), ← zaN]; rfl
 walk_at "gs"
 simp only [yG, e]
 walk_at "gs"
 simp only [h1]
 walk_at "gs"
 simp only [h2]
 walk_at "gs"
theorem zj1 {rest found : List Str} {j : Nat} (hj : j < rest.length) : (found ++ [rest[j]] ++ rest.eraseIdx j).Perm (found ++ rest) := by
 rw [bI]
 refine List.Perm.append_left found ?_
 have e : rest = rest.take j ++ rest[j] :: rest.drop (j + 1) := by rw [← cY hj, List.take_append_drop]
 rw [bn]
 have p : (rest[j] :: (rest.take j ++ rest.drop (j + 1))).Perm (rest.take j ++ rest[j] :: rest.drop (j + 1)) := List.perm_middle.symm
 rw [← e] at p
 exact p
def Names (xs : List Str) : Prop := xs.Nodup /\ ∀ x ∈ xs, Jr x = true
theorem Names.left {xs ys : List Str} (h : Names (xs ++ ys)) : Names xs := ⟨(List.nodup_append.mp h.1).1, fun x hx => h.2 x (aS _ hx)⟩
theorem Names.perm {xs ys : List Str} (h : Names xs) (p : ys.Perm xs) : Names ys := ⟨p.nodup_iff.mpr h.1, fun x hx => h.2 x (p.mem_iff.mp hx)⟩
theorem Names.sub {xs ys : List Str} (h : Names xs) (s : ys.Sublist xs) : Names ys := ⟨h.1.sublist s, fun x hx => h.2 x (s.subset hx)⟩
theorem pops {o : D} {rest found : List Str} {s1 s4 : Slot} {tl : Env} (n : Nat) (ds : List D) (hn : ds.length = n) (hw : yf o) (hr : n <= rest.length) (hl : rest.length + found.length <= 1000) :
 ∃ o' rest' found' s4', yf o' /\ found'.length = found.length + n /\ (found' ++ rest').Perm (found ++ rest) /\ jT (zr 4) (yk (Jg Jb 3 (Jg Vw 2 (zm 0 zp (gCons (zw y6 (zh 2)) gNil))))) ds (.own o :: s1 :: .own (.lst (sL rest)) :: .own (.lst (sL found)) :: s4 :: tl)
  = .ok .nx (.own o' :: s1 :: .own (.lst (sL rest')) :: .own (.lst (sL found')) :: s4' :: tl) := by
 induction n generalizing ds o rest found s4 with
 | zero =>
  have : ds = [] := cH hn
  subst this
  exact ⟨o, rest, found, s4, hw, rfl, bG _, rfl⟩
 | succ n ih =>
  match ds, hn with
  | d :: ds, hn =>
   obtain ⟨j, hj, o1, hw1, e⟩ := zj0 (rest := rest) (found := found) (s1 := s1) (tl := .val d :: tl) hw (fun z => by subst z; simp at hr) (by omega) (by omega : found.length <= 1000)
   have hle : (rest.eraseIdx j).length = rest.length - 1 := List.length_eraseIdx_of_lt hj
   obtain ⟨o', rest', found', s4', a, b, c, e2⟩ := ih (o := o1) (rest := rest.eraseIdx j) (found := found ++ [rest[j]]) (s4 := .val d) ds (by simpa using hn) hw1 (by rw [hle]; omega) (by simp [hle]; omega)
   refine ⟨o', rest', found', s4', a, by rw [b]; simp; omega, c.trans (zj1 hj), ?_⟩
   unfold jT
   show (O.bind (jp (some _) _) _) = _
   rw [je, zL]
   simp only [dt, dq]
   rw [e]
   exact e2
theorem cut_to' {α : Type} {xs : List α} {k : Nat} (h : k <= xs.length) : Q0 xs none (some (k : Int)) = xs.take k := by
 unfold Q0; rw [HT.sIx_none, HT.sIx_nat]; simp [g4 h]
theorem gCall0_eq' {j : Nat} {F : Fn} {a : G (List D)} {ρ ρ1 : Env} {ds : List D} {o0 o d o' : D} (h0 : ρ[j]? = some (.own o0)) (h1 : a ρ = .ok ds ρ1) (h2 : ρ1[j]? = some (.own o)) (h3 : F (.own o :: ds.map .val) = .ok d [o']) : zm j F a ρ = .ok d (ρ1.set j (.own o')) := by
 unfold zm; rw [h0]; simp only [Ux, je, zL, h1, h2, h3, Yv]
theorem gCall0_1' {j : Nat} {F : Fn} {a : G D} {ρ ρ1 ρ2 : Env} {x o0 o d o' : D} (h0 : ρ[j]? = some (.own o0)) (h1 : a ρ = .ok x ρ1) (h2 : ρ1[j]? = some (.own o)) (h3 : F [.own o, .val x] = .ok d [o']) (h4 : ρ1.set j (.own o') = ρ2) : zm j F (gCons a gNil) ρ = .ok d ρ2 := by
 rw [gCall0_eq' (ds := [x]) h0 ((zu h1).trans rfl) h2 h3, h4]
def QR : List Str := ["count", "a", "weigh", "ab", "houses"]
theorem zj2 : Names QR := ⟨by decide +kernel, by decide +kernel⟩
theorem zj3 {ys : List D} {n : Nat} {f : Int} (h5 : n <= 5) (f0 : 0 <= f) (h : All2 (fun d y => ∃ k : Int, d = .int k /\ ∃ x, y = .str x /\ Jr x = true /\ x.cps.toList.getLast? = some (97 + ((f + k) % 26).toNat)) (y9 0 n) ys) : ∃ xs, ys = sL xs /\ xs.length = n /\ Names xs := by
 have hlen := h.len
 rw [jn] at hlen
 have hx : ∀ (l : List D) m, All2 (fun d y => ∃ k : Int, d = .int k /\ ∃ x, y = .str x /\ Jr x = true /\ x.cps.toList.getLast? = some (97 + ((f + k) % 26).toNat)) l m -> ∃ xs, m = sL xs := fun l m h => by
  induction h with
  | nil => exact ⟨[], rfl⟩
  | cons p _ ih => obtain ⟨k, _, x, rfl, _⟩ := p; obtain ⟨xs, rfl⟩ := ih; exact ⟨x :: xs, rfl⟩
 obtain ⟨xs, rfl⟩ := hx _ _ h
 rw [yG] at hlen
 have at_ : ∀ (i : Nat) x, xs[i]? = some x -> i < n /\ Jr x = true /\ x.cps.toList.getLast? = some (97 + ((f + i) % 26).toNat) := fun i x e => by
  obtain ⟨a, h1, k, rfl, y, e2, hn, hl⟩ := h.get i (.str x) (by unfold sL; rw [au, e]; rfl)
  obtain ⟨hi, ek⟩ := zgL h1
  cases e2; cases ek
  rw [Int.zero_add] at hl
  exact ⟨hi, hn, hl⟩
 refine ⟨xs, rfl, hlen, ?_, fun x hx => ?_⟩
 · refine List.pairwise_iff_getElem.mpr fun i j hi hj hij z => ?_
   obtain ⟨i5, _, e⟩ := at_ i xs[i] (af hi)
   obtain ⟨j5, _, e'⟩ := at_ j xs[j] (af hj)
   rw [z, e'] at e
   have := ba e
   omega
 · obtain ⟨i, hi, e⟩ := List.getElem_of_mem hx
   exact (at_ i x (by rw [af hi, e])).2.1
theorem zj4 {o : D} (hw : yf o) : ∃ xs o', QA [.own o, .val (.int 5)] = .ok (.lst (sL xs)) [o'] /\ 1 <= xs.length /\ xs.length <= 5 /\ Names xs /\ yf o' := by
 obtain ⟨b, o1, e, b0, b1, hw1⟩ := yw hw (n := 2) (by decide) (by decide)
 have fin : ∀ (o2 : D) (L : List Str) (s3 : Slot), yf o2 -> Names L -> L.length = 5 -> ∃ xs o', Zn [.own o2, .val (.int 5), .val (.lst (sL L)), s3] = .ok (.rt (.lst (sL xs))) [.own o', .val (.int 5), .val (.lst (sL L)), s3] /\ 1 <= xs.length /\ xs.length <= 5 /\ Names xs /\ yf o' := fun o2 L s3 w2 hL l5 => by
  obtain ⟨r, o3, e3, r0, r1, w3⟩ := yw w2 (n := 5) (by decide) (by decide)
  refine ⟨L.take (1 + r).toNat, o3, ?_, by rw [cz]; omega, by rw [cz]; omega, hL.sub (gz _ _), w3⟩
  unfold Zn
  walk_at "gs"
  simp only [e3]
  walk_at "gs"
  rw [show 1 + r = (((1 + r).toNat : Nat) : Int) by omega, cut_to' (by rw [yG]; omega), bP]
  unfold sL; rw [ik]
 have ec : gB (zf jg (gO (zm 0 zp (gCons (gC (.int 2)) gNil))) (gO (gC (.int 0)))) [.own o, .val (.int 5), .val (.lst (sL QR)), .no] = .ok (decide (b = 0)) [.own o1, .val (.int 5), .val (.lst (sL QR)), .no] := by
  walk_at "gs"
  simp only [e]
  walk_at "gs"
 by_cases hb : b = 0
 · rw [decide_eq_true hb] at ec
   obtain ⟨f, o2, e2, f0, f1, w2⟩ := yw hw1 (n := 26) (by decide) (by decide)
   obtain ⟨ys, ρ', e4, ⟨s0, o3, w3, rfl⟩, hall⟩ := zaO (g := zr 0) (e := zm 1 Qs (gCons (zf jj (zh 2) (zh 0)) gNil)) (fun ρ => ∃ s0 o, yf o /\ ρ = [s0, .own o, .val (.int f)]) (fun d => ∃ k : Int, d = .int k) (fun d y => ∃ k : Int, d = .int k /\ ∃ x, y = .str x /\ Jr x = true /\ x.cps.toList.getLast? = some (97 + ((f + k) % 26).toNat))
    (fun d ρ ⟨k, hd⟩ ⟨s0, o, hw, e⟩ => by
     subst e hd
     obtain ⟨x, o1, e, hx, hw1, hc⟩ := zlU hw (last := f + k)
     refine ⟨_, .str x, [.val (.int k), .own o1, .val (.int f)], rfl, ?_, ⟨k, rfl, x, rfl, hx, hc⟩, _, _, hw1, rfl⟩
     walk_at "gs"
     simp only [e]
     walk_at "gs") (y9 0 5) [.no, .own o2, .val (.int f)] (fun d hd => by obtain ⟨i, hi, rfl⟩ := zaM hd; exact ⟨_, rfl⟩) ⟨_, _, w2, rfl⟩
   obtain ⟨xs, rfl, hl, hx⟩ := zj3 (by decide) f0 hall
   obtain ⟨zs, o4, e5, z1, z5, zn, w4⟩ := fin o3 xs (.val (.int f)) w3 hx hl
   refine ⟨zs, o4, JQ (ρ := [.val (.int 5), .val (.lst (sL xs)), .val (.int f)]) rfl ?_, z1, z5, zn, w4⟩
   have eg := yj (ρ2 := [.own o3, .val (.int 5), .val (.lst (sL QR)), .val (.int f)]) (js := [none, some 0, some 3]) (Jq (g := gCons (gC (.int 5)) gNil) (ρ := [.own o2, .val (.int 5), .val (.lst (sL QR)), .val (.int f)]) (ρ1 := [.own o2, .val (.int 5), .val (.lst (sL QR)), .val (.int f)]) rfl (Zc (j := 5) (by decide))) (by rw [jn]; decide) e4 rfl
   refine (ze (ρ1 := [.own o, .val (.int 5), .val (.lst (sL QR)), .no]) rfl).trans ?_
   refine (ze ((yZ ec).trans ((ze (zP (gCall0_1' (j := 0) (ρ2 := [.own o2, .val (.int 5), .val (.lst (sL QR)), .no]) rfl rfl rfl e2 rfl))).trans (zP eg)))).trans ?_
   exact e5
 · rw [decide_eq_false hb] at ec
   obtain ⟨zs, o4, e5, z1, z5, zn, w4⟩ := fin o1 QR .no hw1 zj2 rfl
   refine ⟨zs, o4, JQ (ρ := [.val (.int 5), .val (.lst (sL QR)), .no]) rfl ?_, z1, z5, zn, w4⟩
   refine (ze (ρ1 := [.own o, .val (.int 5), .val (.lst (sL QR)), .no]) rfl).trans ?_
   exact (ze ((zK ec).trans rfl)).trans e5
theorem zfz {o : D} {xs : List Str} (hw : yf o) (h1 : 1 <= xs.length) (h2 : xs.length <= 100) : ∃ ys rest o', Jo [.own o, .val (.lst (sL xs))] = .ok (.lst (sL ys)) [o'] /\ 1 <= ys.length /\ (ys ++ rest).Perm xs /\ yf o' := by
 unfold Jo RB UM UL
 obtain ⟨b, o1, e, b0, b1, hw1⟩ := yw hw (n := xs.length) (by omega) (by omega)
 have hr : -1000000 <= 1 + b /\ 1 + b <= 1000000 := by omega
 walk_at "gs"
 simp only [yG, e]
 walk_at "gs"
 simp only [zbr, if_pos hr]
 walk_at "gs"
 obtain ⟨o', rest', found', s4', a, hb, c, e2⟩ := pops (s1 := .val (.lst (sL xs))) (s4 := .no) (tl := []) (found := []) (rest := xs) (1 + b).toNat (y9 0 (1 + b).toNat) jn hw1 (by omega) (by simp; omega)
 have e2 : jT (zr 4) (yk (Jg Jb 3 (Jg Vw 2 (zm 0 zp (gCons (zw y6 (zh 2)) gNil))))) (y9 0 (1 + b).toNat) [.own o1, .val (.lst (sL xs)), .own (.lst (sL xs)), .own (.lst []), .no] = _ := e2
 refine ⟨found', rest', o', ?_, by rw [hb]; simp; omega, by simpa using c, a⟩
 simp only [e2]
 walk_at "gs"
def YH (d : D) : Prop := (∃ k, Ql d = some k) /\ ∀ x, d = .str x -> x.length <= 100000
theorem zd_ {d : D} (h : YH d) : jM [.val d] = .ok (.bl (UV d)) [] := let ⟨⟨_, k⟩, hx⟩ := h; zgH k hx
theorem zea {x : Str} (h : Jr x = true) : 1 <= x.length /\ x.length <= 8 := by
 unfold Jr at h
 rw [bu, bu, decide_eq_true_eq, decide_eq_true_eq] at h
 exact h.1
theorem UW {x : Str} (h : Jr x = true) : YH (.str x) := ⟨⟨_, rfl⟩, fun y e => by cases e; have := zea h; omega⟩
theorem zin {i : Int} : YH (.int i) := ⟨⟨_, rfl⟩, fun y e => by cases e⟩
theorem YI {i : List D} : YH (.lst i) := ⟨⟨_, rfl⟩, fun y e => by cases e⟩
theorem zio {w : D} : z4 [.val (.bl true), .val w] = .ok .non [] := by
 unfold z4 RC
 walk_at "gs"
def upD (d : D) (m : Int) : Bool := match d with | .int i => decide (1 <= i) && decide (i <= m) | _ => false
theorem zeD {d : D} {m : Int} (h : YH d) : yW [.val d, .val (.int m)] = .ok (.bl (upD d m)) [] := by
 obtain ⟨⟨k, hk⟩, _⟩ := h
 unfold yW US
 walk_at "gs"
 simp only [zeC hk]
 cases d with
 | int i =>
  simp only [zd8]
  walk_at "gs"
  unfold upD
  dsimp only
  by_cases h : (1 : Int) <= i
  · rw [decide_eq_true h]; walk_at "gs"
  · rw [decide_eq_false h]; walk_at "gs"
 | _ => simp only [zd8]; walk_at "gs"; rfl
def zaP (d : D) : Bool := match d with | .lst ds => decide (1 <= ds.length) && decide (ds.length <= 5) | _ => false
theorem Yn {d : D} (h : YH d) : z0 [.val d] = .ok (.bl (zaP d)) [] := by
 obtain ⟨⟨k, hk⟩, _⟩ := h
 unfold z0 QM
 cases d with
 | lst ds =>
  walk_at "gs"
  unfold zaP
  dsimp only
  by_cases h : 1 <= ds.length
  · by_cases h2 : ds.length <= 5
    · rw [decide_eq_true h, decide_eq_true h2]
      have e1 : decide ((1 : Int) <= ds.length) = true := decide_eq_true (by omega)
      have e2 : decide ((ds.length : Int) <= 5) = true := decide_eq_true (by omega)
      walk_at "gsa"
    · rw [decide_eq_true h, decide_eq_false h2]
      have e1 : decide ((1 : Int) <= ds.length) = true := decide_eq_true (by omega)
      have e2 : decide ((ds.length : Int) <= 5) = false := decide_eq_false (by omega)
      walk_at "gsa"
  · rw [decide_eq_false h]
    have e1 : decide ((1 : Int) <= ds.length) = false := decide_eq_false (by omega)
    walk_at "gsa"
 | _ => first | (cases hk; done) | (walk_at "gs"; rfl)
theorem zfA (f : D -> Bool) : ∀ (l : List D), ZA (l.map fun c => D.bl (f c)) = some (l.map f)
 | [] => rfl
 | c :: r => by rw [al, ZA, zfA f r]; rfl
theorem znD (f : D -> Bool) (l : List D) : (l.map f).all id = l.all f := by
 induction l with
 | nil => rfl
 | cons a r ih => rw [al, dR, dR, ih]; rfl
theorem zj5 {F : Fn} {f : D -> Bool} {ds : List D} {s : Slot} (hF : ∀ d ∈ ds, F [.val d] = .ok (.bl (f d)) []) : ∃ ρ', yO (zr 0) yF (zB F (gCons (zb 0) gNil)) ds [s] = .ok (ds.map fun d => D.bl (f d)) ρ' /\ ρ'.length = 1 := by
 obtain ⟨ρ', e, h⟩ := RG (g := zr 0) (e := zB F (gCons (zb 0) gNil)) (fun ρ => ρ.length = 1) (fun d => .bl (f d)) (fun d => F [.val d] = .ok (.bl (f d)) []) (fun d ρ hd hl => by
  match ρ, hl with
  | [t], _ =>
   refine ⟨_, [.val d], rfl, ?_, rfl⟩
   walk_at "gs"
   simp only [hd]
   walk_at "gs") ds [s] hF rfl
 exact ⟨ρ', e, h⟩
theorem zcu {F : Fn} {f : D -> Bool} {ds : List D} {ρ : Env} {i : Nat} (hi : ρ[i]? = some (.val (.lst ds))) (hl : ds.length <= 100000) (hF : ∀ d ∈ ds, F [.val d] = .ok (.bl (f d)) []) :
 zw Yh (gO (yg (zW (zb i)) [none] (zr 0) yF (zB F (gCons (zb 0) gNil)))) ρ = .ok (.bl (ds.all f)) ρ := by
 obtain ⟨ρ', e, h⟩ := zj5 (s := .no) hF
 rw [zfx (zd7 (Jk hi) hl e)]
 simp only [zhZ, Yh, zfA, cf, znD, je]
theorem zeE {xs : List Str} (h : xs.Nodup) : (dd xs).length = xs.length := ((List.perm_ext_iff_of_nodup Uz h).mpr fun y => dd_mem).length_eq
def RH (ds : List D) : Bool := ds.all UV && (match Zl ds with | some xs => decide ((dd xs).length = xs.length) | none => false)
theorem zaQ {xs : List Str} (h : Names xs) : RH (sL xs) = true := by
 unfold RH sL
 rw [Zu]
 dsimp only
 rw [decide_eq_true (zeE h.1), eO, dN]
 intro d hd
 obtain ⟨x, hx, rfl⟩ := aW.mp hd
 exact h.2 x hx
theorem zaR : ∀ {ds : List D}, ds.all UV = true -> ∃ xs, ds = sL xs /\ ∀ x ∈ xs, Jr x = true
 | [], _ => ⟨[], rfl, fun x h => by cases h⟩
 | d :: r, h => by
  rw [dR, bu] at h
  obtain ⟨xs, rfl, hx⟩ := zaR h.2
  cases d with
  | str x => exact ⟨x :: xs, rfl, fun y hy => (ar.mp hy).elim (fun e => by subst e; exact h.1) (hx y)⟩
  | _ => exact absurd h.1 aw
def zoM (d : D) : Bool := match d with | .lst ds => RH ds | _ => false
theorem zcv {d : D} (h : YH d) (hd : ∀ ds, d = .lst ds -> ds.length < 1000 /\ ∀ e ∈ ds, YH e) : Jp [.val d] = .ok (.bl (zoM d)) [] := by
 obtain ⟨⟨k, hk⟩, _⟩ := h
 unfold Jp RD
 cases d with
 | lst ds =>
  obtain ⟨hl, hp⟩ := hd ds rfl
  have e1 := zcu (F := jM) (f := UV) (ds := ds) (ρ := [.val (.lst ds)]) (i := 0) rfl (by omega) fun d hd => zd_ (hp d hd)
  have e2 : ZR [.val (.lst ds)] = .ok (.rt (.bl (RH ds))) [.val (.lst ds)] := by
   unfold ZR zN
   rw [UU e1]
   unfold RH
   cases h : ds.all UV with
   | false => rfl
   | true =>
    obtain ⟨xs, rfl, _⟩ := zaR h
    have hx : Y5 (.lst (sL xs)) = some (.int (dd xs).length) := by
     unfold Y5 Zm Q3 sL
     rw [yG] at hl
     simp only [aP, Zu, if_pos hl]
    rw [if_pos rfl, show Zl (sL xs) = some xs from Zu xs]
    walk_at "gs"
    simp only [hx, yG]
    walk_at "gs"
    by_cases hx2 : (dd xs).length = xs.length
    · simp [hx2, yG]
    · have : ¬ ((dd xs).length : Int) = xs.length := by omega
      simp [hx2, this, yG]
  walk_at "gs"
  rw [e2]
  walk_at "gs"
  rfl
 | _ => first | (cases hk; done) | (walk_at "gs"; rfl)
theorem zj6 {α : Type} {xs : List α} {k : Nat} (h : k <= xs.length) : Q0 xs (some (k : Int)) none = xs.drop k := by
 unfold Q0; rw [HT.sIx_none, HT.sIx_nat, g4 h]; exact List.take_of_length_le (by simp)
theorem zj7 {tbl : Nat -> Option Fn} {a : G D} {r : G (List D)} {ρ ρ1 ρ2 : Env} {c : Nat} {fs : List (Nat × D)} {ds : List D} {F : Fn} (h1 : a ρ = .ok (.obj c fs) ρ1) (h2 : tbl c = some F) (h3 : r ρ1 = .ok ds ρ2) : jk tbl a r ρ = zcX (F (.val (.obj c fs) :: ds.map .val)) ρ2 := by
 unfold jk; rw [h1]; simp only [zL, h2, h3]
theorem zj8 {tbl : Nat -> Option Fn} {a : G D} {r : G (List D)} {ρ ρ1 ρ2 : Env} {c : Nat} {fs : List (Nat × D)} {ds os : List D} {d : D} {F : Fn} (h1 : a ρ = .ok (.obj c fs) ρ1) (h2 : tbl c = some F) (h3 : r ρ1 = .ok ds ρ2) (h4 : F (.val (.obj c fs) :: ds.map .val) = .ok d os) : jk tbl a r ρ = .ok d ρ2 := by
 rw [zj7 h1 h2 h3, h4]; rfl
inductive PW where
 | count (m : Int) (ys : List Str) | weigh (l : Int) (ps : List (Str × Int)) | houses (m e : Int) (hs : List (List Str))
def zY (p : Str × Int) : D := .tup [.str p.1, .int p.2]
def zM (h : List Str) : D := .lst (sL h)
def PW.cls : PW -> Nat | .count .. => 12 | .weigh .. => 13 | .houses .. => 14
def PW.fs : PW -> List (Nat × D)
 | .count m ys => [(0, .int m), (1, .lst (sL ys))]
 | .weigh l ps => [(2, .int l), (3, .lst (ps.map zY))]
 | .houses m e hs => [(0, .int m), (4, .int e), (5, .lst (hs.map zM))]
def PW.obj (p : PW) : D := .obj p.cls p.fs
def PW.told : PW -> D
 | .count m ys => .tup [.str "count", .int m, .lst (sL ys)]
 | .weigh l ps => .tup [.str "weigh", .int l, .lst (ps.map zY)]
 | .houses m e hs => .tup [.str "houses", .int m, .int e, .lst (hs.map zM)]
theorem znE {xs : List Str} : y6 (.lst (sL xs)) = some (.int xs.length) := by show some (D.int (sL xs).length) = _; rw [yG]
theorem sum_ints {ns : List Int} : Rx (.lst (ns.map D.int)) = some (.int ns.sum) := by
 unfold Rx hIs Q3; rw [aP, VI]; rfl
def PW.names : PW -> List Str | .count _ ys => ys | .weigh _ ps => ps.map (·.1) | .houses _ _ hs => hs.flatten
def PW.Ok : PW -> Prop
 | .count m ys => Names ys /\ ys.length <= 5 /\ 1 <= m /\ m <= ys.length
 | .weigh l ps => Names (ps.map (·.1)) /\ ps.length <= 5 /\ (∀ p ∈ ps, 1 <= p.2 /\ p.2 <= 1000000000) /\ 1 <= l /\ l <= (ps.map (·.2)).sum
 | .houses m e hs => (∀ h ∈ hs, Names h /\ h.length <= 5 /\ e <= h.length) /\ hs.length <= 5 /\ 1 <= m /\ m <= hs.length /\ 1 <= e /\ (dd hs.flatten).length <= 5
theorem zcw {ys : List Str} (hn : Names ys) (h1 : 1 <= ys.length) (h5 : ys.length <= 5) : jF [.val (.lst (sL ys))] = .ok (.bl true) [] := by
 have e1 : z0 [.val (.lst (sL ys))] = .ok (.bl true) [] := by
  rw [Yn YI]
  unfold zaP; dsimp only
  rw [yG, decide_eq_true h1, decide_eq_true h5]; rfl
 have e2 : Jp [.val (.lst (sL ys))] = .ok (.bl true) [] := by
  rw [zcv YI fun ds hd => by cases hd; exact ⟨by rw [yG]; omega, fun e he => by obtain ⟨x, hx, rfl⟩ := aW.mp he; exact UW (hn.2 x hx)⟩]
  show RF.ok (.bl (RH (sL ys))) [] = _
  rw [zaQ hn]
 refine yd (ρ := [.val (.lst (sL ys))]) rfl (z8 ?_)
 refine (UU (k := true) (Yl (ds := [.lst (sL ys)]) rfl e1)).trans ?_
 rw [if_pos rfl]
 exact Yl (ds := [.lst (sL ys)]) rfl e2
theorem zaS {i m : Int} (h1 : 1 <= i) (h2 : i <= m) : yW [.val (.int i), .val (.int m)] = .ok (.bl true) [] := by
 rw [zeD zin]
 unfold upD; dsimp only
 rw [decide_eq_true h1, decide_eq_true h2]; rfl
theorem yT {a : G D} {w : Str} {ρ ρ1 : Env} (h : a ρ = .ok (.bl true) ρ1) : yk (zB z4 (gCons a (gCons (gC (.str w)) gNil))) ρ = .ok .nx ρ1 :=
 Ze (Yl (ds := [.bl true, .str w]) ((zu h).trans rfl) zio)
theorem y0 {F : Fn} {a : G D} {ρ ρ1 : Env} {x d : D} {os : List D} (h : a ρ = .ok x ρ1) (hF : F [.val x] = .ok d os) : zB F (gCons a gNil) ρ = .ok d ρ1 := Yl (ds := [x]) ((zu h).trans rfl) hF
theorem J3 {F : Fn} {a b : G D} {ρ ρ1 ρ2 : Env} {x y d : D} {os : List D} (h : a ρ = .ok x ρ1) (h2 : b ρ1 = .ok y ρ2) (hF : F [.val x, .val y] = .ok d os) : zB F (gCons a (gCons b gNil)) ρ = .ok d ρ2 := Yl (ds := [x, y]) ((zu h).trans (by rw [zu h2]; rfl)) hF
theorem zgM {m : Int} {ys : List Str} (h : (PW.count m ys).Ok) : Z1 [.own (.obj 12 []), .val (.int m), .val (.lst (sL ys))] = .ok .non [(PW.count m ys).obj] := by
 obtain ⟨hn, h5, h1, hm⟩ := h
 refine Ym (ρ := [.val (.int m), .val (.lst (sL ys))]) rfl ?_
 refine (ze (yT (y0 (a := zb 2) rfl (zcw hn (by omega) h5)))).trans ?_
 refine (ze (yT (J3 (a := zb 1) (b := zw y6 (zh 2)) (x := .int m) (y := .int ys.length) rfl (by walk_at "gs"; rw [yG]) (zaS h1 hm)))).trans ?_
 unfold VN
 walk_at "gs"
 rfl
theorem zgN {x : Str} {i : Int} (hx : Jr x = true) (h1 : 1 <= i) (h2 : i <= 1000000000) : Zw [.val (zY (x, i))] = .ok (.bl true) [] := by
 have e1 : jM [.val (.str x)] = .ok (.bl true) [] := by rw [zd_ (UW hx)]; show RF.ok (.bl (Jr x)) [] = _; rw [hx]
 refine yd (ρ := [.val (zY (x, i))]) rfl ?_
 refine (ze (ρ1 := [.val (zY (x, i))]) (by unfold zY; walk_at "gs")).trans ?_
 refine z8 ((UU (k := true) (y0 (a := zf zz (zh 0) (gO (gC (.int 0)))) (x := .str x) (ρ1 := [.val (zY (x, i))]) (by unfold zY; walk_at "gs") e1)).trans ?_)
 rw [if_pos rfl]
 exact J3 (a := zf zz (zh 0) (gO (gC (.int 1)))) (x := .int i) (y := .int 1000000000) (ρ1 := [.val (zY (x, i))]) (by unfold zY; walk_at "gs") rfl (zaS h1 h2)
theorem zeb {ps : List (Str × Int)} {s : Slot} : ∃ s', yO (zr 0) yF (zf zz (zh 0) (gO (gC (.int 0)))) (ps.map zY) [s] = .ok (sL (ps.map (·.1))) [s'] := by
 induction ps generalizing s with
 | nil => exact ⟨s, rfl⟩
 | cons p r ih =>
  obtain ⟨s', e⟩ := ih (s := .val (zY p))
  have e2 : zf zz (zh 0) (gO (gC (.int 0))) [.val (zY p)] = .ok (.str p.1) [.val (zY p)] := by unfold zY; walk_at "gs"
  refine ⟨s', ?_⟩
  rw [al]
  exact jf rfl e2 e
theorem zj9 {ps : List (Str × Int)} {s : Slot} : ∃ s', yO (zr 0) yF (zf zz (zh 0) (gO (gC (.int 1)))) (ps.map zY) [s] = .ok ((ps.map (·.2)).map D.int) [s'] := by
 induction ps generalizing s with
 | nil => exact ⟨s, rfl⟩
 | cons p r ih =>
  obtain ⟨s', e⟩ := ih (s := .val (zY p))
  have e2 : zf zz (zh 0) (gO (gC (.int 1))) [.val (zY p)] = .ok (.int p.2) [.val (zY p)] := by unfold zY; walk_at "gs"
  refine ⟨s', ?_⟩
  rw [al]
  exact jf rfl e2 e
theorem RI {F : Fn} {ds : List D} {ρ : Env} {i : Nat} (hi : ρ[i]? = some (.val (.lst ds))) (hl : ds.length <= 1000) (hF : ∀ d ∈ ds, F [.val d] = .ok (.bl true) []) :
 zw Yh (gO (yg (zW (zb i)) [none] (zr 0) yF (zB F (gCons (zb 0) gNil)))) ρ = .ok (.bl true) ρ := by
 rw [zcu (f := fun _ => true) hi (by omega) hF]; simp
theorem RJ {ds : List D} (h1 : 1 <= ds.length) (h5 : ds.length <= 5) : z0 [.val (.lst ds)] = .ok (.bl true) [] := by
 rw [Yn YI]
 unfold zaP; dsimp only
 rw [decide_eq_true h1, decide_eq_true h5]; rfl
theorem znF {ys : List Str} (hn : Names ys) (h5 : ys.length < 1000) : Jp [.val (.lst (sL ys))] = .ok (.bl true) [] := by
 rw [zcv YI fun ds hd => by cases hd; exact ⟨by rw [yG]; omega, fun e he => by obtain ⟨x, hx, rfl⟩ := aW.mp he; exact UW (hn.2 x hx)⟩]
 show RF.ok (.bl (RH (sL ys))) [] = _
 rw [zaQ hn]
theorem zgO {l : Int} {ps : List (Str × Int)} (h : (PW.weigh l ps).Ok) : Z2 [.own (.obj 13 []), .val (.int l), .val (.lst (ps.map zY))] = .ok .non [(PW.weigh l ps).obj] := by
 obtain ⟨hn, h5, hw, h1, hl⟩ := h
 have hp : 1 <= ps.length := by
  cases ps with
  | nil => simp at hl; omega
  | cons _ _ => simp
 obtain ⟨s1, ec1⟩ := zeb (ps := ps) (s := .no)
 obtain ⟨s2, ec2⟩ := zj9 (ps := ps) (s := .no)
 refine Ym (ρ := [.val (.int l), .val (.lst (ps.map zY))]) rfl ?_
 refine (ze (yT (y0 (a := zb 2) rfl (RJ (by simpa using hp) (by simpa using h5))))).trans ?_
 refine (ze (yT (RI (ds := ps.map zY) rfl (by rw [am]; omega) fun d hd => by
  obtain ⟨p, hp, rfl⟩ := aW.mp hd
  exact zgN (hn.2 _ (List.mem_map_of_mem hp)) (hw p hp).1 (hw p hp).2))).trans ?_
 refine (ze (yT (y0 (x := .lst (sL (ps.map (·.1)))) (ρ1 := [.own (.obj 13 []), .val (.int l), .val (.lst (ps.map zY))]) (yj (Jk (ds := ps.map zY) rfl) (by rw [am]; omega) ec1 rfl) (znF hn (by rw [am]; omega))))).trans ?_
 refine (ze (yT (J3 (a := zb 1) (x := .int l) (y := .int (ps.map (·.2)).sum) (ρ2 := [.own (.obj 13 []), .val (.int l), .val (.lst (ps.map zY))]) rfl (Jv (yj (Jk (ds := ps.map zY) rfl) (by rw [am]; omega) ec2 rfl) sum_ints) (zaS h1 hl)))).trans ?_
 unfold VO
 walk_at "gs"
 rfl
theorem zec {hs : List (List Str)} {s : Slot} : ∃ s', yO (zr 0) yF (zw y6 (zh 0)) (hs.map zM) [s] = .ok ((hs.map fun h => (h.length : Int)).map D.int) [s'] := by
 induction hs generalizing s with
 | nil => exact ⟨s, rfl⟩
 | cons p r ih =>
  obtain ⟨s', e⟩ := ih (s := .val (zM p))
  have e2 : zw y6 (zh 0) [.val (zM p)] = .ok (.int p.length) [.val (zM p)] := by unfold zM; walk_at "gs"; rw [yG]
  refine ⟨s', ?_⟩
  rw [al]
  exact jf rfl e2 e
theorem zcx {hs : List (List Str)} {s : Slot} : ∃ s', yO (zr 0) yF (jH jZ (zh 0)) (hs.map zM) [s] = .ok (hs.map zM) [s'] := by
 induction hs generalizing s with
 | nil => exact ⟨s, rfl⟩
 | cons p r ih =>
  obtain ⟨s', e⟩ := ih (s := .val (zM p))
  have e2 : jH jZ (zh 0) [.val (zM p)] = .ok (zM p) [.val (zM p)] := by unfold zM; walk_at "gs"
  refine ⟨s', ?_⟩
  rw [al]
  exact jf rfl e2 e
theorem zfB {e : Int} : ∀ {ns : List Int}, ns ≠ [] -> (∀ n ∈ ns, e <= n) -> e <= J0 ns
 | [], h, _ => absurd rfl h
 | x :: xs, _, h => by
  show e <= xs.foldl (fun a b => if b < a then b else a) x
  have hx := h x ai
  have hs : ∀ n ∈ xs, e <= n := fun n hn => h n (ah _ hn)
  clear h
  induction xs generalizing x with
  | nil => exact hx
  | cons y ys ih =>
   rw [fj]
   refine ih _ (by simp) ?_ (fun n hn => hs n (ah _ hn))
   have := hs y ai
   split <;> omega
theorem zed {ns : List Int} (h : ns ≠ []) : Wq (.lst (ns.map D.int)) = some (.int (J0 ns)) := by
 unfold Wq hIs Q3; rw [aP, VI]
 show zal ns = _
 unfold zal; rw [if_neg h]
theorem zgP {m e : Int} {hs : List (List Str)} (hl : hs.length <= 5) (hh : ∀ h ∈ hs, h.length <= 5) : Ji [.val (PW.houses m e hs).obj] = .ok (.lst (sL hs.flatten)) [] := by
 have loop : ∀ (l : List (List Str)) (f : List Str) (s : Slot), (∀ h ∈ l, h.length <= 5) -> f.length + 5 * l.length <= 100 -> ∃ s', jT (zr 2) (yk (Jg Q2 1 (zb 2))) (l.map zM) [.val (PW.houses m e hs).obj, .own (.lst (sL f)), s] = .ok .nx [.val (PW.houses m e hs).obj, .own (.lst (sL (f ++ l.flatten))), s'] := by
  intro l
  induction l with
  | nil => intro f s _ _; exact ⟨s, by simp [jT]⟩
  | cons h r ih =>
   intro f s hh hf
   have h5 := hh h ai
   simp only [ac] at hf
   obtain ⟨s', e1⟩ := ih (f ++ h) (.val (zM h)) (fun x hx => hh x (ah _ hx)) (by rw [ax]; omega)
   refine ⟨s', ?_⟩
   rw [al]
   have hx : Q2 (sL f) (.lst (sL h)) = some (.non, sL (f ++ h)) := by
    unfold Q2; dsimp only
    rw [if_pos (by rw [yG, yG]; omega), zaN]
   have e2 : yk (Jg Q2 1 (zb 2)) [.val (PW.houses m e hs).obj, .own (.lst (sL f)), .val (zM h)] = .ok .nx [.val (PW.houses m e hs).obj, .own (.lst (sL (f ++ h))), .val (zM h)] := by
    unfold zM
    walk_at "gs"
    simp only [hx]
    walk_at "gs"
   rw [Za rfl e2, e1, bd, bI]
 obtain ⟨s', e1⟩ := loop hs [] .no hh (by simp; omega)
 have e0 := jO (JP (ρ := [.val (PW.houses m e hs).obj, .own (.lst []), .no]) (c := 14) (i := 0) (f := 5) (d := .lst (hs.map zM)) rfl (by decide) rfl)
 refine yd (ρ := [.val (PW.houses m e hs).obj, .val (.lst (sL hs.flatten)), s']) rfl ?_
 refine (ze (ρ1 := [.val (PW.houses m e hs).obj, .own (.lst []), .no]) rfl).trans ?_
 refine (ze ((Zd e0).trans e1)).trans ?_
 rfl
theorem zgQ {xs : List Str} (h : xs.length < 64) : Q4 (.lst (sL xs)) = some (sL (Qm (dd xs))) := by
 unfold Q4 Zm Q3 sL
 simp only [aP, Zu, if_pos h]
theorem UX : ∀ {l m : List Str}, l.Nodup -> (∀ x ∈ l, x ∈ m) -> l.length <= m.length
 | [], _, _, _ => bJ _
 | x :: r, m, hn, h => by
  have hx := h x ai
  have i := UX (l := r) (m := m.erase x) (ce.mp hn).2 fun y hy => (fC (a := y) (b := x) (fun z => (ce.mp hn).1 (by rw [← z]; exact hy))).mpr (h y (ah _ hy))
  rw [eQ hx] at i
  have := List.length_pos_of_mem hx
  rw [ac]; omega
theorem zn_ {xs ys : List Str} (h : ∀ x ∈ xs, x ∈ ys) : (dd xs).length <= ys.length := UX Uz fun x hx => h x (dd_mem.mp hx)
theorem Ws {ps : List (Str × Int)} (h : ∀ p ∈ ps, 1 <= p.2 /\ p.2 <= 1000000000) : (ps.length : Int) <= (ps.map (·.2)).sum /\ (ps.map (·.2)).sum <= 1000000000 * ps.length := by
 induction ps with
 | nil => simp
 | cons p r ih =>
  have i1 := ih fun q hq => h q (ah _ hq)
  have i2 := h p ai
  simp only [al, eP, ac]
  omega
theorem zcy {j : Nat} {F : Fn} {a : G (List D)} {ρ ρ1 : Env} {ds : List D} {o0 o d o' : D} (h0 : ρ[j]? = some (.own o0)) (h1 : a ρ = .ok ds ρ1) (h2 : ρ1[j]? = some (.own o)) (h3 : F (.own o :: ds.map .val) = .ok d [o']) : zm j F a ρ = .ok d (ρ1.set j (.own o')) := by
 unfold zm; rw [h0]; simp only [Ux, je, zL, h1, h2, h3, Yv]
theorem yo {j : Nat} {F : Fn} {a : G D} {ρ ρ1 ρ2 : Env} {x o0 o d o' : D} (h0 : ρ[j]? = some (.own o0)) (h1 : a ρ = .ok x ρ1) (h2 : ρ1[j]? = some (.own o)) (h3 : F [.own o, .val x] = .ok d [o']) (h4 : ρ1.set j (.own o') = ρ2) : zm j F (gCons a gNil) ρ = .ok d ρ2 := by
 rw [zcy (ds := [x]) h0 ((zu h1).trans rfl) h2 h3, h4]
theorem Rf {xs : List Str} (h1 : 1 <= xs.length) (h2 : xs.length <= 5) : ∀ (ds : List D) (s : Slot) (o : D), yf o -> ∃ (hs : List (List Str)) (s' : Slot) (o' : D), yf o' /\ hs.length = ds.length /\ (∀ h ∈ hs, 1 <= h.length /\ ∃ rest, (h ++ rest).Perm xs) /\ yO (zr 0) yF (zm 1 Jo (gCons (zb 2) gNil)) ds [s, .own o, .val (.lst (sL xs))] = .ok (hs.map zM) [s', .own o', .val (.lst (sL xs))]
 | [], s, o, hw => ⟨[], s, o, hw, rfl, (fun w h => (nomatch h)), rfl⟩
 | d :: r, s, o, hw => by
  obtain ⟨ys, rest, o1, e, y1, yp, hw1⟩ := zfz hw h1 (by omega)
  obtain ⟨hs, s', o', hw', hl, hh, e2⟩ := Rf h1 h2 r (.val d) o1 hw1
  refine ⟨ys :: hs, s', o', hw', by simp [hl], fun w h => (ar.mp h).elim (fun z => by subst z; exact ⟨y1, rest, yp⟩) (hh w), ?_⟩
  have e3 : zm 1 Jo (gCons (zb 2) gNil) [.val d, .own o, .val (.lst (sL xs))] = .ok (zM ys) [.val d, .own o1, .val (.lst (sL xs))] := by
   walk_at "gs"
   simp only [e]
   walk_at "gs"
   rfl
  exact jf rfl e3 e2
theorem QS {xs ys rest : List Str} (h : Names xs) (p : (ys ++ rest).Perm xs) : Names ys /\ ys.length <= xs.length /\ ∀ x ∈ ys, x ∈ xs :=
 ⟨(h.perm p).left, by have := p.length_eq; rw [ax] at this; omega, fun x hx => p.mem_iff.mp (aS _ hx)⟩
theorem zfC : ∀ {xs : List Str} {ws : List Int}, ws.length = xs.length -> (xs.zip ws).map (·.1) = xs
 | [], [], _ => rfl
 | _ :: _, [], h => by simp at h
 | [], _ :: _, h => by simp at h
 | x :: xs, w :: ws, h => by simp only [gf, al]; rw [zfC (by simpa using h)]
theorem ziq {ps : List (Str × Int)} {s t : Slot} : ∃ s' t', yO (Yu (JY (zr 0) (JY (zr 1) Ur)) 2) yF (zb 1) (ps.map zY) [s, t] = .ok ((ps.map (·.2)).map D.int) [s', t'] := by
 induction ps generalizing s t with
 | nil => exact ⟨s, t, rfl⟩
 | cons p r ih =>
  obtain ⟨s', t', e⟩ := ih (s := .val (.str p.1)) (t := .val (.int p.2))
  refine ⟨s', t', ?_⟩
  rw [al]
  exact jf rfl rfl e
theorem zee : ∀ {ns : List Int}, ns ≠ [] -> ∀ n ∈ ns, J0 ns <= n
 | [], h, _, _ => absurd rfl h
 | x :: xs, _, n, hn => by
  have key : ∀ (l : List Int) (a : Int), (l.foldl (fun a b => if b < a then b else a) a) <= a /\ ∀ n ∈ l, (l.foldl (fun a b => if b < a then b else a) a) <= n := fun l => by
   induction l with
   | nil => intro a; exact ⟨Int.le_refl _, fun n h => (nomatch h)⟩
   | cons y ys ih =>
    intro a
    obtain ⟨i1, i2⟩ := ih (if y < a then y else a)
    rw [fj]
    refine ⟨gt i1 (by split <;> omega), fun n hn => ?_⟩
    rcases ar.mp hn with e | e
    · subst e; exact gt i1 (by split <;> omega)
    · exact i2 n e
  obtain ⟨k1, k2⟩ := key xs x
  rcases ar.mp hn with e | e
  · subst e; exact k1
  · exact k2 n e
theorem J8 {f : D -> D -> Option (List D)} {a b : G D} {ρ ρ1 ρ2 : Env} {x y : D} {ds : List D} (h1 : a ρ = .ok x ρ1) (h2 : b ρ1 = .ok y ρ2) (h : f x y = some ds) : jD f (gO a) (gO b) ρ = .ok (.lst ds) ρ2 := by
 unfold jD gO; rw [h1]; show O.bind ((b ρ1).bind _) _ = _; rw [h2]
 show jp ((f x y).map D.lst) _ = _
 rw [h]; rfl
theorem Jc {g : G (List D)} {ρ ρ1 : Env} {ds : List D} (h : g ρ = .ok ds ρ1) (hl : ds.length <= 1000) : zT g ρ = .ok (.lst ds) ρ1 := by
 unfold zT; rw [h, zL, Vy hl]
theorem znG : ZC (.int 10) (.int 9) = some (.int 1000000000) := by
 have hp : Rk 10 9 := ⟨by decide, by decide, by decide⟩
 show (if Rk 10 9 then some (D.int (10 ^ 9)) else none) = _
 rw [if_pos hp]; rfl
theorem zir {acc : List (Str × Int)} {x : Str} {w : Int} (h : acc.length <= 1000) : Jb (acc.map zY) (.tup [.str x, .int w]) = some (.non, (acc ++ [(x, w)]).map zY) := by
 unfold Jb
 rw [if_pos (by rw [am]; omega), dY]; rfl
theorem zaT {x1 x2 x3 : D} : ∀ (ys : List Str) (acc : List (Str × Int)) (o : D) (s5 s6 : Slot), yf o -> acc.length + ys.length <= 100 -> ∃ (ws : List Int) (o' : D) (s5' s6' : Slot), yf o' /\ ws.length = ys.length /\ (∀ w ∈ ws, 1 <= w /\ w <= 1000000000) /\ jT (zr 5) QL (sL ys) [.own o, .val x1, .val x2, .val x3, .own (.lst (acc.map zY)), s5, s6, .no, .no, .no] = .ok .nx [.own o', .val x1, .val x2, .val x3, .own (.lst ((acc ++ ys.zip ws).map zY)), s5', s6', .no, .no, .no]
 | [], acc, o, s5, s6, hw, _ => ⟨[], o, s5, s6, hw, rfl, (fun w h => (nomatch h)), by rw [List.zip_nil_left, aJ]; rfl⟩
 | x :: r, acc, o, s5, s6, hw, hl => by
  simp only [ac] at hl
  obtain ⟨b1, o1, e1, b10, b11, hw1⟩ := yw hw (n := 3) (by decide) (by decide)
  obtain ⟨b2, o2, e2, b20, b21, hw2⟩ := yw hw1 (n := 1000000000) (by decide) (by decide)
  obtain ⟨b3, o3, e3, b30, b31, hw3⟩ := yw hw2 (n := 3) (by decide) (by decide)
  have fin : ∀ w : Int, 1 <= w -> w <= 1000000000 -> zz (.lst [.int (1 + b1), .int (1 + b2), .int 1000000000]) (.int b3) = some (.int w) -> ∃ (ws : List Int) (o' : D) (s5' s6' : Slot), yf o' /\ ws.length = (x :: r).length /\ (∀ w ∈ ws, 1 <= w /\ w <= 1000000000) /\ jT (zr 5) QL (sL (x :: r)) [.own o, .val x1, .val x2, .val x3, .own (.lst (acc.map zY)), s5, s6, .no, .no, .no] = .ok .nx [.own o', .val x1, .val x2, .val x3, .own (.lst ((acc ++ (x :: r).zip ws).map zY)), s5', s6', .no, .no, .no] := fun w w1 w2 ew => by
   obtain ⟨ws, o', s5', s6', hw', wl, wh, e⟩ := zaT (x1 := x1) (x2 := x2) (x3 := x3) r (acc ++ [(x, w)]) o3 (.val (.str x)) (.val (.lst [.int (1 + b1), .int (1 + b2), .int 1000000000])) hw3 (by simp; omega)
   refine ⟨w :: ws, o', s5', s6', hw', by simp [wl], fun z hz => (ar.mp hz).elim (fun q => by subst q; exact ⟨w1, w2⟩) (wh z), ?_⟩
   have ea : zf jj (gO (gC (.int 1))) (gO (zm 0 zp (gCons (gC (.int 3)) gNil))) [.own o, .val x1, .val x2, .val x3, .own (.lst (acc.map zY)), .val (.str x), s6, .no, .no, .no] = .ok (.int (1 + b1)) [.own o1, .val x1, .val x2, .val x3, .own (.lst (acc.map zY)), .val (.str x), s6, .no, .no, .no] := z9 (a := gC (.int 1)) (x := .int 1) (y := .int b1) rfl (yo (j := 0) rfl rfl rfl e1 rfl) rfl
   have ep : zf ZC (gO (gC (.int 10))) (gO (gC (.int 9))) [.own o1, .val x1, .val x2, .val x3, .own (.lst (acc.map zY)), .val (.str x), s6, .no, .no, .no] = .ok (.int 1000000000) [.own o1, .val x1, .val x2, .val x3, .own (.lst (acc.map zY)), .val (.str x), s6, .no, .no, .no] := z9 (a := gC (.int 10)) (b := gC (.int 9)) (x := .int 10) (y := .int 9) rfl rfl znG
   have ep2 : zf ZC (gO (gC (.int 10))) (gO (gC (.int 9))) [.own o2, .val x1, .val x2, .val x3, .own (.lst (acc.map zY)), .val (.str x), s6, .no, .no, .no] = .ok (.int 1000000000) [.own o2, .val x1, .val x2, .val x3, .own (.lst (acc.map zY)), .val (.str x), s6, .no, .no, .no] := z9 (a := gC (.int 10)) (b := gC (.int 9)) (x := .int 10) (y := .int 9) rfl rfl znG
   have eb : zf jj (gO (gC (.int 1))) (gO (zm 0 zp (gCons (zf ZC (gO (gC (.int 10))) (gO (gC (.int 9)))) gNil))) [.own o1, .val x1, .val x2, .val x3, .own (.lst (acc.map zY)), .val (.str x), s6, .no, .no, .no] = .ok (.int (1 + b2)) [.own o2, .val x1, .val x2, .val x3, .own (.lst (acc.map zY)), .val (.str x), s6, .no, .no, .no] := z9 (a := gC (.int 1)) (x := .int 1) (y := .int b2) rfl (yo (j := 0) rfl ep rfl e2 rfl) rfl
   have el := Jc (g := gCons (zf jj (gO (gC (.int 1))) (gO (zm 0 zp (gCons (gC (.int 3)) gNil)))) (gCons (zf jj (gO (gC (.int 1))) (gO (zm 0 zp (gCons (zf ZC (gO (gC (.int 10))) (gO (gC (.int 9)))) gNil)))) (gCons (zf ZC (gO (gC (.int 10))) (gO (gC (.int 9)))) gNil))) (ρ := [.own o, .val x1, .val x2, .val x3, .own (.lst (acc.map zY)), .val (.str x), s6, .no, .no, .no]) (ds := [.int (1 + b1), .int (1 + b2), .int 1000000000]) (ρ1 := [.own o2, .val x1, .val x2, .val x3, .own (.lst (acc.map zY)), .val (.str x), s6, .no, .no, .no]) (by rw [zu ea, zu eb, zu (r := gNil) ep2]; rfl) (by simp)
   have ei : zf zz (zh 6) (gO (zm 0 zp (gCons (gC (.int 3)) gNil))) [.own o2, .val x1, .val x2, .val x3, .own (.lst (acc.map zY)), .val (.str x), .val (.lst [.int (1 + b1), .int (1 + b2), .int 1000000000]), .no, .no, .no] = .ok (.int w) [.own o3, .val x1, .val x2, .val x3, .own (.lst (acc.map zY)), .val (.str x), .val (.lst [.int (1 + b1), .int (1 + b2), .int 1000000000]), .no, .no, .no] := by
    walk_at "gs"
    simp only [e3]
    walk_at "gs"
    simp only [ew]
    walk_at "gs"
   have et : gTup (gCons (zb 5) (gCons (zf zz (zh 6) (gO (zm 0 zp (gCons (gC (.int 3)) gNil)))) gNil)) [.own o2, .val x1, .val x2, .val x3, .own (.lst (acc.map zY)), .val (.str x), .val (.lst [.int (1 + b1), .int (1 + b2), .int 1000000000]), .no, .no, .no] = .ok (.tup [.str x, .int w]) [.own o3, .val x1, .val x2, .val x3, .own (.lst (acc.map zY)), .val (.str x), .val (.lst [.int (1 + b1), .int (1 + b2), .int 1000000000]), .no, .no, .no] := by
    unfold gTup
    rw [zu (a := zb 5) (x := .str x) (ρ1 := [.own o2, .val x1, .val x2, .val x3, .own (.lst (acc.map zY)), .val (.str x), .val (.lst [.int (1 + b1), .int (1 + b2), .int 1000000000]), .no, .no, .no]) rfl, zu (r := gNil) ei]; rfl
   have e5 : QL [.own o, .val x1, .val x2, .val x3, .own (.lst (acc.map zY)), .val (.str x), s6, .no, .no, .no] = .ok .nx [.own o3, .val x1, .val x2, .val x3, .own (.lst ((acc ++ [(x, w)]).map zY)), .val (.str x), .val (.lst [.int (1 + b1), .int (1 + b2), .int 1000000000]), .no, .no, .no] := by
    refine (ze (zP el)).trans ?_
    show yk (Jg Jb 4 _) [.own o2, .val x1, .val x2, .val x3, .own (.lst (acc.map zY)), .val (.str x), .val (.lst [.int (1 + b1), .int (1 + b2), .int 1000000000]), .no, .no, .no] = _
    refine Ze (d := .non) ?_
    unfold Jg
    simp only [cE, bE, Vz, je, zL, et, zir (show acc.length <= 1000 by omega)]
    rfl
   show jT _ _ (.str x :: sL r) _ = _
   rw [Za rfl e5, e, gf, bI]; rfl
  have hb : b3 = 0 \/ b3 = 1 \/ b3 = 2 := by omega
  rcases hb with rfl | rfl | rfl
  · exact fin (1 + b1) (by omega) (by omega) ix0
  · exact fin (1 + b2) (by omega) (by omega) ix1
  · exact fin 1000000000 (by decide) (by decide) ix2
theorem zgR {o : D} {xs ys rest : List Str} {c : Int} (hw : yf o) (hx : Names xs) (h5 : xs.length <= 5) (y1 : 1 <= ys.length) (yp : (ys ++ rest).Perm xs) : ∃ p : PW, ∃ o', (p.Ok /\ ∀ x ∈ p.names, x ∈ xs) /\ yf o' /\ zN (gTup (gCons (gC (.str "count")) (gCons (zf jj (gO (gC (.int 1))) (gO (zm 0 zp (gCons (zw y6 (zh 3)) gNil)))) (gCons (zb 3) gNil)))) [.own o, .val (.lst (sL xs)), .val (.int c), .val (.lst (sL ys)), .no, .no, .no, .no, .no, .no] = .ok (.rt p.told) [.own o', .val (.lst (sL xs)), .val (.int c), .val (.lst (sL ys)), .no, .no, .no, .no, .no, .no] := by
 obtain ⟨yn, yl, ym⟩ := QS hx yp
 obtain ⟨b, o2, e2, b0, b1, hw2⟩ := yw hw (n := ys.length) (by omega) (by omega)
 refine ⟨.count (1 + b) ys, o2, ⟨⟨yn, by omega, by omega, by omega⟩, ym⟩, hw2, ?_⟩
 walk_at "gs"
 simp only [yG, e2]
 walk_at "gs"
 rfl
theorem zgS {o : D} {xs ys rest : List Str} {c : Int} (hw : yf o) (hx : Names xs) (h5 : xs.length <= 5) (y1 : 1 <= ys.length) (yp : (ys ++ rest).Perm xs) : ∃ p : PW, ∃ o' s4 s5 s6 s7, (p.Ok /\ ∀ x ∈ p.names, x ∈ xs) /\ yf o' /\ zx (j7 4 (zT gNil)) ZP [.own o, .val (.lst (sL xs)), .val (.int c), .val (.lst (sL ys)), .no, .no, .no, .no, .no, .no] = .ok (.rt p.told) [.own o', .val (.lst (sL xs)), .val (.int c), .val (.lst (sL ys)), s4, s5, s6, s7, .no, .no] := by
 obtain ⟨yn, yl, ym⟩ := QS hx yp
 obtain ⟨ws, o1, s5, s6, hw1, wl, wh, e⟩ := zaT (x1 := .lst (sL xs)) (x2 := .int c) (x3 := .lst (sL ys)) ys [] o .no .no hw (by simp; omega)
 have pf := zfC (xs := ys) wl
 have pl : (ys.zip ws).length = ys.length := by rw [List.length_zip, wl, Nat.min_self]
 have pw : ∀ p ∈ ys.zip ws, 1 <= p.2 /\ p.2 <= 1000000000 := fun p hp => wh p.2 (dW hp).2
 have ps := Ws pw
 obtain ⟨b, o2, e2, b0, b1, hw2⟩ := yw hw1 (n := ((ys.zip ws).map (·.2)).sum) (by omega) (by omega)
 obtain ⟨d, o3, e3, d0, d1, hw3⟩ := yw hw2 (n := 2) (by decide) (by decide)
 obtain ⟨s', t', ec2⟩ := ziq (ps := ys.zip ws) (s := .no) (t := .no)
 generalize hps : ys.zip ws = qs at *
 generalize hT : (qs.map (·.2)).sum = T at *
 have fin : ∀ l : Int, 1 <= l -> l <= T -> zz (.lst [.int (1 + b), .int T]) (.int d) = some (.int l) -> ∃ p : PW, ∃ o' s4 s5 s6 s7, (p.Ok /\ ∀ x ∈ p.names, x ∈ xs) /\ yf o' /\ zx (j7 4 (zT gNil)) ZP [.own o, .val (.lst (sL xs)), .val (.int c), .val (.lst (sL ys)), .no, .no, .no, .no, .no, .no] = .ok (.rt p.told) [.own o', .val (.lst (sL xs)), .val (.int c), .val (.lst (sL ys)), s4, s5, s6, s7, .no, .no] := fun l l1 l2 el => by
  refine ⟨.weigh l qs, o3, .val (.lst (qs.map zY)), s5, s6, .val (.int T), ⟨⟨by rw [pf]; exact yn, by omega, pw, l1, by rw [hT]; exact l2⟩, by show ∀ x ∈ qs.map (·.1), x ∈ xs; rw [pf]; exact ym⟩, hw3, ?_⟩
  refine (ze (ρ1 := [.own o, .val (.lst (sL xs)), .val (.int c), .val (.lst (sL ys)), .own (.lst []), .no, .no, .no, .no, .no]) rfl).trans ?_
  refine (ze ((Zd (Jk (i := 3) (ds := sL ys) rfl)).trans e)).trans ?_
  have ecd := yj (gi := zW (Uo 4)) (ρ := [.own o1, .val (.lst (sL xs)), .val (.int c), .val (.lst (sL ys)), .own (.lst (qs.map zY)), s5, s6, .no, .no, .no]) (ρ1 := [.own o1, .val (.lst (sL xs)), .val (.int c), .val (.lst (sL ys)), .val (.lst (qs.map zY)), s5, s6, .no, .no, .no]) (ρ2 := [.own o1, .val (.lst (sL xs)), .val (.int c), .val (.lst (sL ys)), .val (.lst (qs.map zY)), s5, s6, .no, .no, .no]) (js := [none, none]) (jO rfl) (by rw [am]; omega) ec2 rfl
  have es := Jv (f := Rx) ecd sum_ints
  rw [hT] at es
  refine (ze (zP es)).trans ?_
  show UN [.own o1, .val (.lst (sL xs)), .val (.int c), .val (.lst (sL ys)), .val (.lst (qs.map zY)), s5, s6, .val (.int T), .no, .no] = _
  refine z8 ?_
  have ea : zf jj (gO (gC (.int 1))) (gO (zm 0 zp (gCons (zb 7) gNil))) [.own o1, .val (.lst (sL xs)), .val (.int c), .val (.lst (sL ys)), .val (.lst (qs.map zY)), s5, s6, .val (.int T), .no, .no] = .ok (.int (1 + b)) [.own o2, .val (.lst (sL xs)), .val (.int c), .val (.lst (sL ys)), .val (.lst (qs.map zY)), s5, s6, .val (.int T), .no, .no] := z9 (a := gC (.int 1)) (x := .int 1) (y := .int b) rfl (yo (j := 0) (a := zb 7) (x := .int T) rfl rfl rfl e2 rfl) rfl
  have eL := Jc (g := gCons (zf jj (gO (gC (.int 1))) (gO (zm 0 zp (gCons (zb 7) gNil)))) (gCons (zb 7) gNil)) (ρ := [.own o1, .val (.lst (sL xs)), .val (.int c), .val (.lst (sL ys)), .val (.lst (qs.map zY)), s5, s6, .val (.int T), .no, .no]) (ds := [.int (1 + b), .int T]) (ρ1 := [.own o2, .val (.lst (sL xs)), .val (.int c), .val (.lst (sL ys)), .val (.lst (qs.map zY)), s5, s6, .val (.int T), .no, .no]) (by rw [zu ea]; rfl) (by simp)
  have eI := z9 (f := zz) eL (b := zm 0 zp (gCons (gC (.int 2)) gNil)) (ρ2 := [.own o3, .val (.lst (sL xs)), .val (.int c), .val (.lst (sL ys)), .val (.lst (qs.map zY)), s5, s6, .val (.int T), .no, .no]) (yo (j := 0) (a := gC (.int 2)) (x := .int 2) rfl rfl rfl e3 rfl) el
  unfold gTup
  rw [zu (a := gC (.str "weigh")) (x := .str "weigh") (ρ1 := [.own o1, .val (.lst (sL xs)), .val (.int c), .val (.lst (sL ys)), .val (.lst (qs.map zY)), s5, s6, .val (.int T), .no, .no]) rfl, zu eI]
  rfl
 have hb : d = 0 \/ d = 1 := by omega
 rcases hb with rfl | rfl
 · exact fin (1 + b) (by omega) (by omega) ix0
 · exact fin T (by omega) (by omega) ix1
theorem zeF {o : D} {xs ys rest : List Str} {c : Int} (hw : yf o) (hx : Names xs) (h1 : 1 <= xs.length) (h5 : xs.length <= 5) (y1 : 1 <= ys.length) (yp : (ys ++ rest).Perm xs) : ∃ p : PW, ∃ o' s8 s9, (p.Ok /\ ∀ x ∈ p.names, x ∈ xs) /\ yf o' /\ UP [.own o, .val (.lst (sL xs)), .val (.int c), .val (.lst (sL ys)), .no, .no, .no, .no, .no, .no] = .ok (.rt p.told) [.own o', .val (.lst (sL xs)), .val (.int c), .val (.lst (sL ys)), .no, .no, .no, .no, s8, s9] := by
 obtain ⟨n, o1, en, n0, n1, hw1⟩ := yw hw (n := 5) (by decide) (by decide)
 obtain ⟨gs, s', o2, hw2, hl, hh, ec⟩ := Rf h1 h5 (y9 0 n.toNat) .no o1 hw1
 rw [jn] at hl
 have ei := Jq ((zu (r := gNil) (yo (j := 0) (a := gC (.int 5)) (x := .int 5) (ρ := [.own o, .val (.lst (sL xs)), .val (.int c), .val (.lst (sL ys)), .no, .no, .no, .no, .no, .no]) (ρ1 := [.own o, .val (.lst (sL xs)), .val (.int c), .val (.lst (sL ys)), .no, .no, .no, .no, .no, .no]) (ρ2 := [.own o1, .val (.lst (sL xs)), .val (.int c), .val (.lst (sL ys)), .no, .no, .no, .no, .no, .no]) rfl rfl rfl en rfl)).trans rfl) (Zc (j := n) (by omega))
 have ecc := yj (ρ2 := [.own o2, .val (.lst (sL xs)), .val (.int c), .val (.lst (sL ys)), .no, .no, .no, .no, .no, .no]) (js := [none, some 0, some 1]) ei (by rw [jn]; omega) ec rfl
 have e8 := J8 (f := y7) (a := zT (gCons (zb 3) gNil)) (x := .lst [zM ys]) (ds := (ys :: gs).map zM) (ρ := [.own o, .val (.lst (sL xs)), .val (.int c), .val (.lst (sL ys)), .no, .no, .no, .no, .no, .no]) (ρ1 := [.own o, .val (.lst (sL xs)), .val (.int c), .val (.lst (sL ys)), .no, .no, .no, .no, .no, .no]) rfl ecc (by
  show (if [zM ys].length + (gs.map zM).length <= 100000 then some ([zM ys] ++ gs.map zM) else none) = _
  rw [if_pos (by rw [am]; show 1 + _ <= _; omega)]; rfl)
 have hall : ∀ h ∈ ys :: gs, 1 <= h.length /\ ∃ rest, (h ++ rest).Perm xs := fun h hm => (ar.mp hm).elim (fun z => by subst z; exact ⟨y1, rest, yp⟩) (hh h)
 have hl5 : (ys :: gs).length <= 5 := by rw [ac]; omega
 have hl1 : 1 <= (ys :: gs).length := by rw [ac]; omega
 generalize ys :: gs = hs at *
 have hne : (hs.map fun h => (h.length : Int)) ≠ [] := fun z => by have := congrArg ci z; rw [am, aD] at this; omega
 have hmin := zfB (e := 1) hne fun n hn => by
  obtain ⟨h, hh', rfl⟩ := aW.mp hn
  have := (hall h hh').1
  omega
 have hmin5 : J0 (hs.map fun h => (h.length : Int)) <= 5 := by
  obtain ⟨h, hm⟩ := List.exists_mem_of_length_pos (show 0 < hs.length by omega)
  have i1 := zee hne (h.length : Int) (aW.mpr ⟨h, hm, rfl⟩)
  obtain ⟨_, rest, p⟩ := hall h hm
  have := (QS hx p).2.1
  omega
 obtain ⟨b, o3, e3, b0, b1, hw3⟩ := yw hw2 (n := hs.length) (by omega) (by omega)
 obtain ⟨d, o4, e4, d0, d1, hw4⟩ := yw hw3 (n := J0 (hs.map fun h => (h.length : Int))) (by omega) (by omega)
 obtain ⟨s9, ec2⟩ := zec (hs := hs) (s := .no)
 have sub : ∀ x ∈ hs.flatten, x ∈ xs := fun x hm => by
  obtain ⟨h, hm1, hm2⟩ := gP.mp hm
  obtain ⟨_, rest, p⟩ := hall h hm1
  exact (QS hx p).2.2 x hm2
 refine ⟨.houses (1 + b) (1 + d) hs, o4, .val (.lst (hs.map zM)), .val (.int (J0 (hs.map fun h => (h.length : Int)))), ⟨⟨fun h hm => ?_, hl5, by omega, by omega, by omega, aM (zn_ sub) h5⟩, sub⟩, hw4, ?_⟩
 · obtain ⟨_, rest, p⟩ := hall h hm
   have i1 := zee hne (h.length : Int) (aW.mpr ⟨h, hm, rfl⟩)
   obtain ⟨a, b', _⟩ := QS hx p
   exact ⟨a, by omega, by omega⟩
 refine (ze (zP e8)).trans ?_
 show UO [.own o2, .val (.lst (sL xs)), .val (.int c), .val (.lst (sL ys)), .no, .no, .no, .no, .val (.lst (hs.map zM)), .no] = _
 have ecd := yj (ρ2 := [.own o2, .val (.lst (sL xs)), .val (.int c), .val (.lst (sL ys)), .no, .no, .no, .no, .val (.lst (hs.map zM)), .no]) (js := [none]) (Jk (i := 8) (ρ := [.own o2, .val (.lst (sL xs)), .val (.int c), .val (.lst (sL ys)), .no, .no, .no, .no, .val (.lst (hs.map zM)), .no]) (ds := hs.map zM) rfl) (by rw [am]; omega) ec2 rfl
 refine (ze (zP (Jv (f := Wq) ecd (zed hne)))).trans ?_
 generalize J0 (hs.map fun h => (h.length : Int)) = mn at *
 show ZQ [.own o2, .val (.lst (sL xs)), .val (.int c), .val (.lst (sL ys)), .no, .no, .no, .no, .val (.lst (hs.map zM)), .val (.int mn)] = _
 unfold ZQ
 have e3' : zp [.own o2, .val (.int ((hs.map zM).length : Int))] = .ok (.int b) [o3] := by rw [am]; exact e3
 walk_at "gs"
 simp only [e3']
 walk_at "gs"
 simp only [e4]
 walk_at "gs"
 rfl
theorem Y8 {o : D} {xs : List Str} (hw : yf o) (hx : Names xs) (h1 : 1 <= xs.length) (h5 : xs.length <= 5) : ∃ p : PW, ∃ o', (p.Ok /\ ∀ x ∈ p.names, x ∈ xs) /\ yf o' /\ yz [.own o, .val (.lst (sL xs))] = .ok p.told [o'] := by
 obtain ⟨c, o1, e, c0, c1, hw1⟩ := yw hw (n := 3) (by decide) (by decide)
 obtain ⟨ys, rest, o2, e2, y1, yp, hw2⟩ := zfz hw1 h1 (by omega)
 have s1 : zX 2 (zm 0 zp (gCons (gC (.int 3)) gNil)) [.own o, .val (.lst (sL xs)), .no, .no, .no, .no, .no, .no, .no, .no] = .ok .nx [.own o1, .val (.lst (sL xs)), .val (.int c), .no, .no, .no, .no, .no, .no, .no] := zP (yo (j := 0) rfl rfl rfl e rfl)
 have s2 : zX 3 (zm 0 Jo (gCons (zb 1) gNil)) [.own o1, .val (.lst (sL xs)), .val (.int c), .no, .no, .no, .no, .no, .no, .no] = .ok .nx [.own o2, .val (.lst (sL xs)), .val (.int c), .val (.lst (sL ys)), .no, .no, .no, .no, .no, .no] := zP (yo (j := 0) (a := zb 1) (x := .lst (sL xs)) (ρ := [.own o1, .val (.lst (sL xs)), .val (.int c), .no, .no, .no, .no, .no, .no, .no]) (ρ1 := [.own o1, .val (.lst (sL xs)), .val (.int c), .no, .no, .no, .no, .no, .no, .no]) (ρ2 := [.own o2, .val (.lst (sL xs)), .val (.int c), .no, .no, .no, .no, .no, .no, .no]) rfl rfl rfl e2 rfl)
 have t0 : ∀ i : Int, gB (zf jg (zh 2) (gO (gC (.int i)))) [.own o2, .val (.lst (sL xs)), .val (.int c), .val (.lst (sL ys)), .no, .no, .no, .no, .no, .no] = .ok (decide (c = i)) [.own o2, .val (.lst (sL xs)), .val (.int c), .val (.lst (sL ys)), .no, .no, .no, .no, .no, .no] := fun i => by walk_at "gs"
 have i0 := t0 0
 have i1 := t0 1
 have hc : c = 0 \/ c = 1 \/ c = 2 := by omega
 rcases hc with rfl | rfl | rfl
 · obtain ⟨p, o', hp, hw', e3⟩ := zgR (c := 0) hw2 hx h5 y1 yp
   exact ⟨p, o', hp, hw', JQ rfl ((ze s1).trans ((ze s2).trans (y8 ((yZ i0).trans e3))))⟩
 · obtain ⟨p, o', s4, s5, s6, s7, hp, hw', e3⟩ := zgS (c := 1) hw2 hx h5 y1 yp
   exact ⟨p, o', hp, hw', JQ rfl ((ze s1).trans ((ze s2).trans ((ze ((zK i0).trans rfl)).trans (y8 ((yZ i1).trans e3)))))⟩
 · obtain ⟨p, o', s8, s9, hp, hw', e3⟩ := zeF (c := 2) hw2 hx h1 h5 y1 yp
   exact ⟨p, o', hp, hw', JQ rfl ((ze s1).trans ((ze s2).trans ((ze ((zK i0).trans rfl)).trans ((ze ((zK i1).trans rfl)).trans e3))))⟩
theorem zfD {r : Int -> Int -> Bool} {le : Int -> Int -> Prop} (hr : ∀ a, le a a) (ht : ∀ a b c, le a b -> le b c -> le a c) (h1 : ∀ a b, r b a = true -> le a b) (h2 : ∀ a b, r b a = false -> le b a) : ∀ (l : List Int) (a : Int), let m := l.foldl (fun a b => if r b a = true then b else a) a; (m = a \/ m ∈ l) /\ le a m /\ ∀ n ∈ l, le n m
 | [], a => ⟨.inl rfl, hr a, fun n h => by cases h⟩
 | y :: l, a => by
  obtain ⟨i1, i2, i3⟩ := zfD hr ht h1 h2 l (if r y a = true then y else a)
  simp only [fj]
  cases e : r y a with
  | true =>
   rw [e] at i1 i2 i3
   simp only [if_true] at i1 i2 i3 ⊢
   refine ⟨?_, ht _ _ _ (h1 a y e) i2, fun n hn => ?_⟩
   · rcases i1 with z | z
     · rw [z]; exact .inr ai
     · exact .inr (ah _ z)
   · rcases ar.mp hn with z | z
     · subst z; exact i2
     · exact i3 n z
  | false =>
   rw [e] at i1 i2 i3
   simp only [aQ, if_false] at i1 i2 i3 ⊢
   refine ⟨?_, i2, fun n hn => ?_⟩
   · rcases i1 with z | z
     · exact .inl z
     · exact .inr (ah _ z)
   · rcases ar.mp hn with z | z
     · subst z; exact ht _ _ _ (h2 a n e) i2
     · exact i3 n z
theorem zlV {ns : List Int} (h : ns ≠ []) : ZE ns ∈ ns /\ ∀ n ∈ ns, n <= ZE ns := by
 cases ns with
 | nil => exact absurd rfl h
 | cons x xs =>
  have e : ZE (x :: xs) = xs.foldl (fun a b => if decide (b > a) = true then b else a) x := by show xs.foldl _ x = _; congr 1; funext a b; simp
  obtain ⟨a, b, c⟩ := zfD (r := fun b a => decide (b > a)) (le := (· <= ·)) Int.le_refl (fun _ _ _ => gt) (fun a b h => by simp at h; omega) (fun a b h => by simp at h; omega) xs x
  rw [e]
  refine ⟨?_, fun n hn => ?_⟩
  · rcases a with z | z
    · rw [z]; exact ai
    · exact ah _ z
  · rcases ar.mp hn with z | z
    · subst z; exact b
    · exact c n z
mutual
inductive W where | pl (p : PW) | bo (ws : WL) | ei (ws : WL) | th (a b : W)
inductive WL where | nil | cons (w : W) (r : WL)
end
mutual
def W.obj : W -> D | .pl p => p.obj | .bo ws => .obj 15 [(6, .lst ws.objs)] | .ei ws => .obj 16 [(6, .lst ws.objs)] | .th a b => .obj 17 [(7, a.obj), (8, b.obj)]
def WL.objs : WL -> List D | .nil => [] | .cons w r => w.obj :: r.objs
end
def W.cls : W -> Nat | .pl p => p.cls | .bo _ => 15 | .ei _ => 16 | .th .. => 17
def W.fs : W -> List (Nat × D) | .pl p => p.fs | .bo ws => [(6, .lst ws.objs)] | .ei ws => [(6, .lst ws.objs)] | .th a b => [(7, a.obj), (8, b.obj)]
theorem W.obj_is (w : W) : w.obj = .obj w.cls w.fs := by cases w <;> rfl
mutual
def W.told : W -> D | .pl p => p.told | .bo ws => .tup [.str "&", .lst ws.tolds] | .ei ws => .tup [.str "|", .lst ws.tolds] | .th a b => .tup [.str ">", .lst [a.told, b.told]]
def WL.tolds : WL -> List D | .nil => [] | .cons w r => w.told :: r.tolds
end
mutual
def W.names : W -> List Str | .pl p => p.names | .bo ws => ws.names | .ei ws => ws.names | .th a b => a.names ++ b.names
def WL.names : WL -> List Str | .nil => [] | .cons w r => w.names ++ r.names
end
mutual
def W.depth : W -> Nat | .pl _ => 1 | .bo ws => 1 + ws.depth | .ei ws => 1 + ws.depth | .th a b => 1 + max a.depth b.depth
def WL.depth : WL -> Nat | .nil => 0 | .cons w r => max w.depth r.depth
end
mutual
def W.parts : W -> Nat | .pl _ => 1 | .bo ws => 1 + ws.parts | .ei ws => 1 + ws.parts | .th a b => 1 + (a.parts + b.parts)
def WL.parts : WL -> Nat | .nil => 0 | .cons w r => w.parts + r.parts
end
mutual
def W.Ok : W -> Prop | .pl p => p.Ok | .bo ws => ws.Ok /\ 1 <= ws.objs.length /\ ws.objs.length <= 5 | .ei ws => ws.Ok /\ 1 <= ws.objs.length /\ ws.objs.length <= 5 | .th a b => a.Ok /\ b.Ok
def WL.Ok : WL -> Prop | .nil => True | .cons w r => w.Ok /\ r.Ok
end
theorem W.depth_pos (w : W) : 1 <= w.depth := by cases w <;> simp only [W.depth] <;> omega
theorem YJ {T : Nat -> Option Fn} {a : G D} {r : G (List D)} {ρ ρ1 ρ2 : Env} {w : W} {ds : List D} {F : Fn} {d : D} {os : List D} (h1 : a ρ = .ok w.obj ρ1) (h2 : T w.cls = some F) (h3 : r ρ1 = .ok ds ρ2) (h4 : F (.val w.obj :: ds.map .val) = .ok d os) : jk T a r ρ = .ok d ρ2 := by
 rw [W.obj_is] at h1 h4
 exact zj8 h1 h2 h3 h4
def W.kids : W -> WL | .pl _ => .nil | .bo ws => ws | .ei ws => ws | .th a b => .cons a (.cons b .nil)
def W.own : W -> List Str | .pl p => p.names | _ => []
theorem W.names_is (w : W) : w.names = w.own ++ w.kids.names := by
 cases w with
 | th a b => simp only [W.names, W.own, W.kids, WL.names, cO, aJ]
 | pl p => simp only [W.names, W.own, W.kids, WL.names, aJ]
 | _ => simp only [W.names, W.own, W.kids, cO]
theorem W.depth_is (w : W) : w.depth = 1 + w.kids.depth := by
 cases w <;> simp only [W.depth, W.kids, WL.depth] <;> omega
theorem W.parts_is (w : W) : w.parts = 1 + w.kids.parts := by
 cases w <;> simp only [W.parts, W.kids, WL.parts] <;> omega
theorem W.kids_ok {w : W} (h : w.Ok) : w.kids.Ok /\ w.kids.objs.length <= 5 := by
 cases w with
 | pl p => exact ⟨trivial, bJ _⟩
 | bo ws => exact ⟨h.1, h.2.2⟩
 | ei ws => exact ⟨h.1, h.2.2⟩
 | th a b => exact ⟨⟨h.1, h.2, trivial⟩, by simp [W.kids, WL.objs]⟩
theorem zef : ∀ l : List (List Str), (∀ h ∈ l, h.length <= 5) -> l.flatten.length <= 5 * l.length
 | [], _ => by simp
 | h :: r, hh => by
  have := zef r fun x hx => hh x (ah _ hx)
  have := hh h ai
  simp only [bd, ax, ac]; omega
theorem znH {w : W} (h : w.Ok) : ∃ F, J2 w.cls = some F /\ F [.val w.obj] = .ok (.lst (sL w.own)) [] /\ w.own.length <= 25 := by
 cases w with
 | pl p =>
  cases p with
  | count m ys => exact ⟨Qc, rfl, rfl, by have := h.2.1; show ys.length <= 25; omega⟩
  | weigh l ps =>
   obtain ⟨s', e⟩ := zeb (ps := ps) (s := .no)
   have h5 := h.2.1
   refine ⟨Qd, rfl, ?_, by show (ps.map (·.1)).length <= 25; rw [am]; omega⟩
   exact yd (ρ := [.val (PW.weigh l ps).obj]) rfl (z8 (yj (ρ2 := [.val (PW.weigh l ps).obj]) (js := [none]) (jO (JP (ρ := [.val (PW.weigh l ps).obj]) (c := 13) (d := .lst (ps.map zY)) rfl (by decide) rfl)) (by rw [am]; omega) e rfl))
  | houses m e hs =>
   have h5 := h.2.1
   have hh : ∀ x ∈ hs, x.length <= 5 := fun x hx => (h.1 x hx).2.1
   exact ⟨Ji, rfl, zgP h5 hh, by have := zef hs hh; show hs.flatten.length <= 25; omega⟩
 | _ => exact ⟨yA, rfl, rfl, bJ _⟩
theorem zj_ {w : W} : ∃ F, jI w.cls = some F /\ F [.val w.obj] = .ok (.lst w.kids.objs) [] := by
 cases w with
 | pl p => cases p <;> exact ⟨yA, rfl, rfl⟩
 | bo ws => exact ⟨j8, rfl, rfl⟩
 | ei ws => exact ⟨j8, rfl, rfl⟩
 | th a b => exact ⟨Q7, rfl, rfl⟩
theorem zeg {w : W} {ρ : Env} (h0 : ρ[0]? = some (.val w.obj)) : zW (jk jI (zb 0) gNil) ρ = .ok w.kids.objs ρ := by
 obtain ⟨F, hF, e⟩ := zj_ (w := w)
 refine jO (YJ (a := zb 0) (r := gNil) (w := w) (ρ1 := ρ) (ds := []) ?_ hF rfl e)
 unfold zb; rw [h0]
def zfE (n : Nat) : Prop := ∀ (w : W) (xs : List Str), w.Ok -> w.depth <= n -> (∀ x ∈ w.names, x ∈ xs) -> xs.length <= 5 -> ∃ ys F, y3 n w.cls = some F /\ F [.val w.obj] = .ok (.lst (sL ys)) [] /\ ys.Nodup /\ ∀ x, x ∈ ys ↔ x ∈ w.names
theorem zaU {n : Nat} (ih : zfE n) {d : D} {xs : List Str} (h5 : xs.length <= 5) : ∀ (ws : WL) (acc : List Str) (s : Slot), ws.Ok -> ws.depth <= n -> (∀ x ∈ ws.names, x ∈ xs) -> acc.length + 5 * ws.objs.length <= 60 ->
 ∃ s' zs, jT (zr 2) (zX 1 (jD y7 (zh 1) (gO (jk (y3 n) (zb 2) gNil)))) ws.objs [.val d, .val (.lst (sL acc)), s] = .ok .nx [.val d, .val (.lst (sL (acc ++ zs))), s'] /\ (∀ x, x ∈ zs ↔ x ∈ ws.names) /\ zs.length <= 5 * ws.objs.length
 | .nil, acc, s, _, _, _, _ => ⟨s, [], by rw [aJ]; rfl, fun x => by simp [WL.names], by simp⟩
 | .cons w r, acc, s, h, hd, hn, hl => by
  simp only [WL.depth] at hd
  simp only [WL.names] at hn
  simp only [WL.objs, ac] at hl
  obtain ⟨ys, F, hF, eF, nd, hm⟩ := ih w xs h.1 (by omega) (fun x hx => hn x (aS _ hx)) h5
  have yl : ys.length <= 5 := aM (UX nd fun x hx => hn x (aS _ ((hm x).mp hx))) h5
  obtain ⟨s', zs, e, hz, zl⟩ := zaU ih (d := d) h5 r (acc ++ ys) (.val w.obj) h.2 (by omega) (fun x hx => hn x (aC _ hx)) (by rw [ax]; omega)
  refine ⟨s', ys ++ zs, ?_, fun x => by simp only [WL.names, aN, hm x, hz x], by simp only [WL.objs, ac, ax]; omega⟩
  simp only [WL.objs]
  have em : jk (y3 n) (zb 2) gNil [.val d, .val (.lst (sL acc)), .val w.obj] = .ok (.lst (sL ys)) [.val d, .val (.lst (sL acc)), .val w.obj] := YJ (w := w) (ds := []) rfl hF rfl eF
  have ec : y7 (.lst (sL acc)) (.lst (sL ys)) = some (sL (acc ++ ys)) := by
   unfold y7; dsimp only; rw [yG, yG, if_pos (by omega), zaN]
  have e2 : zX 1 (jD y7 (zh 1) (gO (jk (y3 n) (zb 2) gNil))) [.val d, .val (.lst (sL acc)), .val w.obj] = .ok .nx [.val d, .val (.lst (sL (acc ++ ys))), .val w.obj] := by
   refine zP (ρ1 := [.val d, .val (.lst (sL acc)), .val w.obj]) (d := .lst (sL (acc ++ ys))) ?_
   unfold jD gO
   show (O.bind (jk (y3 n) (zb 2) gNil [.val d, .val (.lst (sL acc)), .val w.obj] |>.bind _) _) = _
   rw [em]
   show jp ((y7 (.lst (sL acc)) (.lst (sL ys))).map D.lst) _ = _
   rw [ec]; rfl
  rw [Za rfl e2, e, bI]
theorem Rg : ∀ n, zfE n
 | 0, w, _, _, hd, _, _ => by have := w.depth_pos; omega
 | n + 1, w, xs, h, hd, hn, h5 => by
  obtain ⟨F, hF, eF, ol⟩ := znH h
  obtain ⟨ko, kl⟩ := W.kids_ok h
  rw [W.depth_is] at hd
  rw [W.names_is] at hn
  obtain ⟨s', zs, e, hz, zl⟩ := zaU (Rg n) (d := w.obj) h5 w.kids w.own .no ko (by omega) (fun x hx => hn x (aC _ hx)) (by omega)
  refine ⟨Qm (dd (w.own ++ zs)), jh (y3 n), by cases w with | pl p => cases p <;> rfl | _ => rfl, ?_, ?_, fun x => ?_⟩
  · refine yd (ρ := [.val w.obj, .val (.lst (sL (w.own ++ zs))), s']) rfl ?_
    refine (ze (zP (YJ (a := zb 0) (r := gNil) (w := w) (ρ1 := [.val w.obj, .no, .no]) (ds := []) rfl hF rfl eF))).trans ?_
    refine (ze ((Zd (zeg (w := w) (ρ := [.val w.obj, .val (.lst (sL w.own)), .no]) rfl)).trans e)).trans ?_
    refine z8 ?_
    show jp ((Q4 (.lst (sL (w.own ++ zs)))).map D.lst) _ = _
    rw [zgQ (by rw [ax]; omega)]; rfl
  · exact (QK _).nodup_iff.mpr Uz
  · rw [(QK _).mem_iff, dd_mem, W.names_is, aN, aN, hz x]
def WL.deps : WL -> List Nat | .nil => [] | .cons w r => w.depth :: r.deps
theorem WL.depth_is : ∀ (ws : WL), (ws.deps = [] -> ws.depth = 0) /\ (ws.deps ≠ [] -> ws.depth ∈ ws.deps) /\ ∀ n ∈ ws.deps, n <= ws.depth
 | .nil => ⟨fun _ => rfl, fun h => absurd rfl h, fun n h => by cases h⟩
 | .cons w r => by
  obtain ⟨a, b, c⟩ := WL.depth_is r
  simp only [WL.deps, WL.depth]
  refine ⟨fun h => (by cases h), fun _ => ?_, fun n hn => ?_⟩
  · rcases Nat.le_total w.depth r.depth with z | z
    · rw [Nat.max_eq_right z]
      cases e : r.deps with
      | nil => have := a e; have := w.depth_pos; omega
      | cons x y => rw [← e]; exact ah _ (b (by rw [e]; simp))
    · rw [Nat.max_eq_left z]; exact ai
  · rcases ar.mp hn with z | z
    · omega
    · have := c n z; omega
theorem zlW (ws : WL) : zc0 (.lst ((ws.deps.map fun k : Nat => (k : Int)).map D.int)) (.int 0) = some (.int ws.depth) := by
 obtain ⟨a, b, c⟩ := ws.depth_is
 show ((JR ((ws.deps.map fun k : Nat => (k : Int)).map D.int)).bind _) = _
 rw [VI, aP]
 by_cases e : ws.deps = []
 · rw [e, a e]; rfl
 · have e2 : ws.deps.map (fun k : Nat => (k : Int)) ≠ [] := by simpa using e
   rw [if_neg e2]
   obtain ⟨m1, m2⟩ := zlV e2
   obtain ⟨k, hk, ek⟩ := aW.mp m1
   have h1 := m2 (ws.depth : Int) (aW.mpr ⟨_, b e, rfl⟩)
   have h2 := c k hk
   rw [← ek] at h1 ⊢
   rw [show k = ws.depth by omega]
def zfF (n : Nat) : Prop := ∀ (w : W), w.Ok -> w.depth <= n -> ∃ F, JD n w.cls = some F /\ F [.val w.obj] = .ok (.int w.depth) []
theorem zcz {n : Nat} (ih : zfF n) : ∀ (ws : WL) (s : Slot), ws.Ok -> ws.depth <= n -> ∃ s', yO (zr 0) yF (jk (JD n) (zb 0) gNil) ws.objs [s] = .ok ((ws.deps.map fun k : Nat => (k : Int)).map D.int) [s']
 | .nil, s, _, _ => ⟨s, rfl⟩
 | .cons w r, s, h, hd => by
  simp only [WL.depth] at hd
  obtain ⟨s', e⟩ := zcz ih r (.val w.obj) h.2 (by omega)
  obtain ⟨F, hF, eF⟩ := ih w h.1 (by omega)
  refine ⟨s', ?_⟩
  simp only [WL.objs, WL.deps, al]
  exact jf rfl (YJ (a := zb 0) (r := gNil) (w := w) (ρ1 := [.val w.obj]) (ds := []) rfl hF rfl eF) e
theorem zeh : ∀ n, zfF n
 | 0, w, _, hd => by have := w.depth_pos; omega
 | n + 1, w, h, hd => by
  obtain ⟨ko, kl⟩ := W.kids_ok h
  have hd' := hd
  rw [W.depth_is] at hd'
  obtain ⟨s', e⟩ := zcz (zeh n) w.kids .no ko (by omega)
  refine ⟨jN (JD n), by cases w with | pl p => cases p <;> rfl | _ => rfl, ?_⟩
  refine yd (ρ := [.val w.obj]) rfl (z8 (z9 (a := gC (.int 1)) (x := .int 1) (y := .int w.kids.depth) rfl (z9 (yj (ρ2 := [.val w.obj]) (js := [none]) (zeg (w := w) (ρ := [.val w.obj]) rfl) (by omega) e rfl) (y := .int 0) rfl (zlW w.kids)) ?_))
  show some (D.int (1 + (w.kids.depth : Int))) = _
  rw [W.depth_is, fk]; rfl
def WL.pts : WL -> List Nat | .nil => [] | .cons w r => w.parts :: r.pts
theorem zfG : ∀ (ws : WL), (ws.pts.map fun k : Nat => (k : Int)).sum = ws.parts
 | .nil => rfl
 | .cons w r => by simp only [WL.pts, WL.parts, al, eP, zfG r, fk]
def zfH (n : Nat) : Prop := ∀ (w : W), w.Ok -> w.depth <= n -> ∃ F, jm n w.cls = some F /\ F [.val w.obj] = .ok (.int w.parts) []
theorem zei {n : Nat} (ih : zfH n) : ∀ (ws : WL) (s : Slot), ws.Ok -> ws.depth <= n -> ∃ s', yO (zr 0) yF (jk (jm n) (zb 0) gNil) ws.objs [s] = .ok ((ws.pts.map fun k : Nat => (k : Int)).map D.int) [s']
 | .nil, s, _, _ => ⟨s, rfl⟩
 | .cons w r, s, h, hd => by
  simp only [WL.depth] at hd
  obtain ⟨s', e⟩ := zei ih r (.val w.obj) h.2 (by omega)
  obtain ⟨F, hF, eF⟩ := ih w h.1 (by omega)
  refine ⟨s', ?_⟩
  simp only [WL.objs, WL.pts, al]
  exact jf rfl (YJ (a := zb 0) (r := gNil) (w := w) (ρ1 := [.val w.obj]) (ds := []) rfl hF rfl eF) e
theorem zej : ∀ n, zfH n
 | 0, w, _, hd => by have := w.depth_pos; omega
 | n + 1, w, h, hd => by
  obtain ⟨ko, kl⟩ := W.kids_ok h
  have hd' := hd
  rw [W.depth_is] at hd'
  obtain ⟨s', e⟩ := zei (zej n) w.kids .no ko (by omega)
  refine ⟨yS (jm n), by cases w with | pl p => cases p <;> rfl | _ => rfl, ?_⟩
  refine yd (ρ := [.val w.obj]) rfl (z8 (z9 (a := gC (.int 1)) (x := .int 1) (y := .int w.kids.parts) rfl (Jv (yj (ρ2 := [.val w.obj]) (js := [none]) (zeg (w := w) (ρ := [.val w.obj]) rfl) (by omega) e rfl) (sum_ints.trans (by rw [zfG]))) ?_))
  show some (D.int (1 + (w.kids.parts : Int))) = _
  rw [W.parts_is, fk]; rfl
structure W.Fits (w : W) (xs : List Str) : Prop where
 ok : w.Ok
 sub : ∀ x ∈ w.names, x ∈ xs
 deep : w.depth <= 4
 many : w.parts <= 12
theorem Z3 {w : W} {xs : List Str} (h : w.Fits xs) (h5 : xs.length <= 5) : ya [.val w.obj] = .ok .non [] := by
 have hd := h.deep
 have hp := h.many
 obtain ⟨ys, F1, hF1, e1, nd, hm⟩ := Rg 6 w xs h.ok (by omega) h.sub h5
 obtain ⟨F2, hF2, e2⟩ := zeh 6 w h.ok (by omega)
 obtain ⟨F3, hF3, e3⟩ := zej 6 w h.ok (by omega)
 have yl : ys.length <= 5 := aM (UX nd fun x hx => h.sub x ((hm x).mp hx)) h5
 refine zil (ρ := [.val w.obj]) rfl ?_
 refine (ze (yT (z9 (x := .int ys.length) (y := .int 5) (Jv (YJ (a := zb 0) (r := gNil) (w := w) (ρ1 := [.val w.obj]) (ds := []) rfl hF1 rfl e1) znE) rfl ?_))).trans ?_
 · show some (D.bl (decide ((ys.length : Int) <= 5))) = _
   rw [decide_eq_true (by omega)]
 refine (ze (yT (z9 (x := .int w.depth) (y := .int 4) (YJ (a := zb 0) (r := gNil) (w := w) (ρ1 := [.val w.obj]) (ds := []) rfl hF2 rfl e2) rfl ?_))).trans ?_
 · show some (D.bl (decide ((w.depth : Int) <= 4))) = _
   rw [decide_eq_true (by omega)]
 refine yT (z9 (x := .int w.parts) (y := .int 12) (YJ (a := zb 0) (r := gNil) (w := w) (ρ1 := [.val w.obj]) (ds := []) rfl hF3 rfl e3) rfl ?_)
 show some (D.bl (decide ((w.parts : Int) <= 12))) = _
 rw [decide_eq_true (by omega)]
theorem UY (w : W) : Jj [.val w.obj] = .ok (.bl true) [] := by
 cases w with
 | pl p => cases p <;> rfl
 | _ => rfl
theorem zeG {m e : Int} {hs : List (List Str)} (h : (PW.houses m e hs).Ok) : Q9 [.own (.obj 14 []), .val (.int m), .val (.int e), .val (.lst (hs.map zM))] = .ok .non [(PW.houses m e hs).obj] := by
 have hz := Z3 (w := .pl (.houses m e hs)) (xs := dd hs.flatten) ⟨h, fun x hx => dd_mem.mpr hx, by simp only [W.depth]; omega, by simp only [W.parts]; omega⟩ h.2.2.2.2.2
 obtain ⟨hh, h5, h1, hm, he, hd⟩ := h
 have hp : 1 <= hs.length := by omega
 have hne : (hs.map fun h => (h.length : Int)) ≠ [] := fun z => by have := congrArg ci z; rw [am, aD] at this; omega
 obtain ⟨s1, ec1⟩ := zec (hs := hs) (s := .no)
 obtain ⟨s2, ec2⟩ := zcx (hs := hs) (s := .no)
 refine Ym (ρ := [.val (.int m), .val (.int e), .val (.lst (hs.map zM))]) rfl ?_
 refine (ze (yT (y0 (a := zb 3) rfl (RJ (by simpa using hp) (by simpa using h5))))).trans ?_
 refine (ze (yT (RI (ds := hs.map zM) rfl (by rw [am]; omega) fun d hd => by
  obtain ⟨p, hp, rfl⟩ := aW.mp hd
  obtain ⟨a, b, c⟩ := hh p hp
  exact zcw a (by omega) b))).trans ?_
 refine (ze (yT (J3 (a := zb 1) (b := zw y6 (zh 3)) (x := .int m) (y := .int hs.length) rfl (by walk_at "gs"; rw [am]) (zaS h1 hm)))).trans ?_
 refine (ze (yT (J3 (a := zb 2) (x := .int e) (y := .int (J0 (hs.map fun h => (h.length : Int)))) (ρ2 := [.own (.obj 14 []), .val (.int m), .val (.int e), .val (.lst (hs.map zM))]) rfl (Jv (yj (Jk (ds := hs.map zM) rfl) (by rw [am]; omega) ec1 rfl) (zed hne)) (zaS he (zfB hne fun n hn => by
  obtain ⟨h, hh', rfl⟩ := aW.mp hn
  exact (hh h hh').2.2))))).trans ?_
 refine (ze (ρ1 := [.own (.obj 14 [(0, .int m)]), .val (.int m), .val (.int e), .val (.lst (hs.map zM))]) (by walk_at "gs")).trans ?_
 refine (ze (ρ1 := [.own (.obj 14 [(0, .int m), (4, .int e)]), .val (.int m), .val (.int e), .val (.lst (hs.map zM))]) (by walk_at "gs")).trans ?_
 have ec3 := yj (ρ2 := [.own (.obj 14 [(0, .int m), (4, .int e)]), .val (.int m), .val (.int e), .val (.lst (hs.map zM))]) (js := [none]) (Jk (i := 3) (ρ := [.own (.obj 14 [(0, .int m), (4, .int e)]), .val (.int m), .val (.int e), .val (.lst (hs.map zM))]) (ds := hs.map zM) rfl) (by rw [am]; omega) ec2 rfl
 refine (ze (ρ1 := [.own (PW.houses m e hs).obj, .val (.int m), .val (.int e), .val (.lst (hs.map zM))]) ?_).trans ?_
 · unfold JB
   rw [ec3]
   walk_at "gs"
   rfl
 · refine Ze (d := .non) ?_
   show UB (ya [.val (W.pl (.houses m e hs)).obj]) _ = _
   rw [hz]; rfl
theorem zlX (p : PW) (h : p.Ok) (n : Nat) : jU (n + 1) [.val p.told] = .ok p.obj [] := by
 show zQ [] 1 1 false (UT (jU n)) [.val p.told] = _
 have ne : ∀ (w : Str) (k : Bool), gB (zf jg (gO (zf zz (zh 0) (gO (gC (.int 0))))) (gO (gC (.str w)))) [.val p.told, .no] = .ok k [.val p.told, .no] -> gB (zf jg (gO (zf zz (zh 0) (gO (gC (.int 0))))) (gO (gC (.str w)))) [.val p.told, .no] = .ok k [.val p.told, .no] := fun _ _ h => h
 refine yd (ρ := [.val p.told, .no]) rfl ?_
 cases p with
 | count m ys =>
  have e1 : gB (zf jg (gO (zf zz (zh 0) (gO (gC (.int 0))))) (gO (gC (.str "count")))) [.val (PW.count m ys).told, .no] = .ok true [.val (PW.count m ys).told, .no] := by unfold PW.told; walk_at "gs"
  refine y8 ((yZ e1).trans (z8 ?_))
  have e2 : gCons (zf zz (zh 0) (gO (gC (.int 1)))) (gCons (jH jZ (gO (zf zz (zh 0) (gO (gC (.int 2)))))) gNil) [.val (PW.count m ys).told, .no] = .ok [.int m, .lst (sL ys)] [.val (PW.count m ys).told, .no] := by unfold PW.told; walk_at "gs"
  show O.bind (gCons _ _ [.val (PW.count m ys).told, .no]) _ = _
  rw [e2, zL]
  rw [show Z1 (.own (.obj 12 []) :: [D.int m, .lst (sL ys)].map .val) = _ from zgM h]; rfl
 | weigh l ps =>
  have e0 : gB (zf jg (gO (zf zz (zh 0) (gO (gC (.int 0))))) (gO (gC (.str "count")))) [.val (PW.weigh l ps).told, .no] = .ok false [.val (PW.weigh l ps).told, .no] := by unfold PW.told; walk_at "gs"
  have e1 : gB (zf jg (gO (zf zz (zh 0) (gO (gC (.int 0))))) (gO (gC (.str "weigh")))) [.val (PW.weigh l ps).told, .no] = .ok true [.val (PW.weigh l ps).told, .no] := by unfold PW.told; walk_at "gs"
  refine (ze ((zK e0).trans rfl)).trans ?_
  refine y8 ((yZ e1).trans (z8 ?_))
  have e2 : gCons (zf zz (zh 0) (gO (gC (.int 1)))) (gCons (jH jZ (gO (zf zz (zh 0) (gO (gC (.int 2)))))) gNil) [.val (PW.weigh l ps).told, .no] = .ok [.int l, .lst (ps.map zY)] [.val (PW.weigh l ps).told, .no] := by unfold PW.told; walk_at "gs"
  show O.bind (gCons _ _ [.val (PW.weigh l ps).told, .no]) _ = _
  rw [e2, zL]
  rw [show Z2 (.own (.obj 13 []) :: [D.int l, .lst (ps.map zY)].map .val) = _ from zgO h]; rfl
 | houses m e hs =>
  have e0 : gB (zf jg (gO (zf zz (zh 0) (gO (gC (.int 0))))) (gO (gC (.str "count")))) [.val (PW.houses m e hs).told, .no] = .ok false [.val (PW.houses m e hs).told, .no] := by unfold PW.told; walk_at "gs"
  have e1 : gB (zf jg (gO (zf zz (zh 0) (gO (gC (.int 0))))) (gO (gC (.str "weigh")))) [.val (PW.houses m e hs).told, .no] = .ok false [.val (PW.houses m e hs).told, .no] := by unfold PW.told; walk_at "gs"
  have e3 : gB (zf jg (gO (zf zz (zh 0) (gO (gC (.int 0))))) (gO (gC (.str "houses")))) [.val (PW.houses m e hs).told, .no] = .ok true [.val (PW.houses m e hs).told, .no] := by unfold PW.told; walk_at "gs"
  refine (ze ((zK e0).trans rfl)).trans ?_
  refine (ze ((zK e1).trans rfl)).trans ?_
  refine y8 ((yZ e3).trans (z8 ?_))
  obtain ⟨s2, ec2⟩ := zcx (hs := hs) (s := .no)
  have e5 : zf zz (zh 0) (gO (gC (.int 3))) [.val (PW.houses m e hs).told, .no] = .ok (.lst (hs.map zM)) [.val (PW.houses m e hs).told, .no] := by unfold PW.told; walk_at "gs"
  have ec3 := yj (ρ2 := [.val (PW.houses m e hs).told, .no]) (js := [none]) (jO e5) (by have := h.2.1; rw [am]; omega) ec2 rfl
  have e2 : gCons (zf zz (zh 0) (gO (gC (.int 1)))) (gCons (zf zz (zh 0) (gO (gC (.int 2)))) (gCons (yg (zW (zf zz (zh 0) (gO (gC (.int 3))))) [none] (zr 0) yF (jH jZ (zh 0))) gNil)) [.val (PW.houses m e hs).told, .no] = .ok [.int m, .int e, .lst (hs.map zM)] [.val (PW.houses m e hs).told, .no] := by
   refine (zu (x := .int m) (ρ1 := [.val (PW.houses m e hs).told, .no]) (by unfold PW.told; walk_at "gs")).trans ?_
   rw [zu (x := .int e) (ρ1 := [.val (PW.houses m e hs).told, .no]) (by unfold PW.told; walk_at "gs"), zu ec3]
   rfl
  show O.bind (gCons _ _ [.val (PW.houses m e hs).told, .no]) _ = _
  rw [e2, zL]
  rw [show Q9 (.own (.obj 14 []) :: [D.int m, .int e, .lst (hs.map zM)].map .val) = _ from zeG h]; rfl
theorem zaV : ∀ (ws : WL), ∀ d ∈ ws.objs, Jj [.val d] = .ok (.bl true) []
 | .nil, d, h => by cases h
 | .cons w r, d, h => by
  simp only [WL.objs, ar] at h
  rcases h with rfl | h
  · exact UY w
  · exact zaV r d h
theorem zis {ws : WL} (h1 : 1 <= ws.objs.length) (h5 : ws.objs.length <= 5) : jR [.val (.lst ws.objs)] = .ok .non [] := by
 refine zil (ρ := [.val (.lst ws.objs)]) rfl ?_
 refine (ze (yT (y0 (a := zb 0) rfl (RJ h1 h5)))).trans ?_
 exact yT (RI (ds := ws.objs) rfl (by omega) (zaV ws))
theorem VT {c : Nat} {ws : WL} {w : W} (hc : 11 <= c) (e : w.obj = .obj c [(6, .lst ws.objs)]) (h1 : 1 <= ws.objs.length) (h5 : ws.objs.length <= 5) (hs : ya [.val w.obj] = .ok .non []) : jB [.own (.obj c []), .val (.lst ws.objs)] = .ok .non [w.obj] := by
 refine Ym (ρ := [.val (.lst ws.objs)]) rfl ?_
 refine (ze (Ze (y0 (a := zb 1) rfl (zis h1 h5)))).trans ?_
 refine (ze (ρ1 := [.own w.obj, .val (.lst ws.objs)]) ?_).trans ?_
 · rw [e]; walk_at "gs"; exact Vy hc
 · refine Ze (d := .non) ?_
   show UB (ya [.val w.obj]) _ = _
   rw [hs]; rfl
theorem zfI {a b : W} (hs : ya [.val (W.th a b).obj] = .ok .non []) : Qi [.own (.obj 17 []), .val a.obj, .val b.obj] = .ok .non [(W.th a b).obj] := by
 refine Ym (ρ := [.val a.obj, .val b.obj]) rfl ?_
 refine (ze (yT ((UU (k := true) (y0 (a := zb 1) rfl (UY a))).trans (by rw [if_pos rfl]; exact y0 (a := zb 2) rfl (UY b))))).trans ?_
 refine (ze (ρ1 := [.own (.obj 17 [(7, a.obj)]), .val a.obj, .val b.obj]) (by walk_at "gs")).trans ?_
 refine (ze (ρ1 := [.own (W.th a b).obj, .val a.obj, .val b.obj]) (by simp only [W.obj]; walk_at "gs")).trans ?_
 refine Ze (d := .non) ?_
 show UB (ya [.val (W.th a b).obj]) _ = _
 rw [hs]; rfl
def zek (n : Nat) : Prop := ∀ (w : W) (xs : List Str), w.Fits xs -> xs.length <= 5 -> w.depth <= n -> jU n [.val w.told] = .ok w.obj []
theorem zcA {n : Nat} (ih : zek n) {xs : List Str} (h5 : xs.length <= 5) : ∀ (ws : WL) (s : Slot), ws.Ok -> (∀ x ∈ ws.names, x ∈ xs) -> ws.depth <= n -> ws.depth <= 4 -> ws.parts <= 12 -> ∃ s', yO (zr 0) yF (zB (jU n) (gCons (zb 0) gNil)) ws.tolds [s] = .ok ws.objs [s']
 | .nil, s, _, _, _, _, _ => ⟨s, rfl⟩
 | .cons w r, s, h, hn, hd, hd4, hp => by
  simp only [WL.depth, WL.parts, WL.names] at hd hd4 hp hn
  obtain ⟨s', e⟩ := zcA ih h5 r (.val w.told) h.2 (fun x hx => hn x (aC _ hx)) (by omega) (by omega) (by omega)
  have e1 := ih w xs ⟨h.1, fun x hx => hn x (aS _ hx), by omega, by omega⟩ h5 (by omega)
  exact ⟨s', jf rfl (y0 (a := zb 0) (x := w.told) (ρ1 := [.val w.told]) rfl e1) e⟩
theorem VU : ∀ ws : WL, ws.tolds.length = ws.objs.length
 | .nil => rfl
 | .cons w r => by simp only [WL.tolds, WL.objs, ac, VU r]
theorem UZ {n : Nat} (ih : zek n) {k : Str} {ws : WL} {xs : List Str} (h5 : xs.length <= 5) (ho : ws.Ok) (l5 : ws.objs.length <= 5) (hn : ∀ x ∈ ws.names, x ∈ xs) (hd : ws.depth <= n) (hd4 : ws.depth <= 4) (hp : ws.parts <= 12) :
 zX 1 (yg (zW (zf zz (zh 0) (gO (gC (.int 1))))) [none] (zr 0) yF (zB (jU n) (gCons (zb 0) gNil))) [.val (.tup [.str k, .lst ws.tolds]), .no] = .ok .nx [.val (.tup [.str k, .lst ws.tolds]), .val (.lst ws.objs)] := by
 obtain ⟨s', ec⟩ := zcA ih h5 ws .no ho hn hd hd4 hp
 have e5 : zf zz (zh 0) (gO (gC (.int 1))) [.val (.tup [.str k, .lst ws.tolds]), .no] = .ok (.lst ws.tolds) [.val (.tup [.str k, .lst ws.tolds]), .no] := by walk_at "gs"
 exact zP (yj (ρ2 := [.val (.tup [.str k, .lst ws.tolds]), .no]) (js := [none]) (jO e5) (by rw [VU]; omega) ec rfl)
theorem zcB {c : Nat} {k : Str} {ws : WL} {xs : List Str} {w : W} (hc : 11 <= c) (h5 : xs.length <= 5) (e : w.obj = .obj c [(6, .lst ws.objs)]) (l1 : 1 <= ws.objs.length) (l5 : ws.objs.length <= 5) (hf : w.Fits xs) : j2 c jB (gCons (zb 1) gNil) [.val (.tup [.str k, .lst ws.tolds]), .val (.lst ws.objs)] = .ok w.obj [.val (.tup [.str k, .lst ws.tolds]), .val (.lst ws.objs)] := by
 have e6 := VT hc e l1 l5 (Z3 hf h5)
 unfold j2
 rw [zu (a := zb 1) (r := gNil) (x := .lst ws.objs) (ρ1 := [.val (.tup [.str k, .lst ws.tolds]), .val (.lst ws.objs)]) rfl]
 show Us (jB (.own (.obj c []) :: [D.lst ws.objs].map .val)) _ = _
 rw [show jB (.own (.obj c []) :: [D.lst ws.objs].map .val) = _ from e6]; rfl
theorem zbB : ∀ n, zek n
 | 0, w, _, _, _, hd => by have := w.depth_pos; omega
 | n + 1, w, xs, hf, h5, hd => by
  have ih := zbB n
  have ho := hf.ok
  have hn := hf.sub
  have hd4 := hf.deep
  have hp := hf.many
  have tst : ∀ (k q : String) (r : List D) (s : Slot), gB (zf jg (gO (zf zz (zh 0) (gO (gC (.int 0))))) (gO (gC (.str q)))) [.val (.tup (.str k :: r)), s] = .ok (decide (k = q)) [.val (.tup (.str k :: r)), s] := fun k q r s => by
   walk_at "gs"
  cases w with
  | pl p => exact zlX p ho n
  | bo ws =>
   simp only [W.names, W.depth, W.parts] at hn hd hd4 hp
   have a := UZ ih (k := "&") h5 ho.1 ho.2.2 hn (by omega) (by omega) (by omega)
   have b := zcB (c := 15) (k := "&") (w := .bo ws) (by decide) h5 rfl ho.2.1 ho.2.2 hf
   refine yd (ρ := [.val (W.bo ws).told, .val (.lst ws.objs)]) rfl ?_
   refine (ze ((zK (tst "&" "count" _ _)).trans rfl)).trans ((ze ((zK (tst "&" "weigh" _ _)).trans rfl)).trans ((ze ((zK (tst "&" "houses" _ _)).trans rfl)).trans ?_))
   exact (ze a).trans (y8 ((yZ (tst "&" "&" _ _)).trans (z8 b)))
  | ei ws =>
   simp only [W.names, W.depth, W.parts] at hn hd hd4 hp
   have a := UZ ih (k := "|") h5 ho.1 ho.2.2 hn (by omega) (by omega) (by omega)
   have b := zcB (c := 16) (k := "|") (w := .ei ws) (by decide) h5 rfl ho.2.1 ho.2.2 hf
   refine yd (ρ := [.val (W.ei ws).told, .val (.lst ws.objs)]) rfl ?_
   refine (ze ((zK (tst "|" "count" _ _)).trans rfl)).trans ((ze ((zK (tst "|" "weigh" _ _)).trans rfl)).trans ((ze ((zK (tst "|" "houses" _ _)).trans rfl)).trans ?_))
   exact (ze a).trans ((ze ((zK (tst "|" "&" _ _)).trans rfl)).trans (y8 ((yZ (tst "|" "|" _ _)).trans (z8 b))))
  | th u v =>
   simp only [W.names, W.depth, W.parts] at hn hd hd4 hp
   have a := UZ ih (k := ">") (ws := .cons u (.cons v .nil)) h5 ⟨ho.1, ho.2, trivial⟩ (by simp [WL.objs]) (by simpa only [WL.names, aJ] using hn) (by simp only [WL.depth]; omega) (by simp only [WL.depth]; omega) (by simp only [WL.parts]; omega)
   refine yd (ρ := [.val (W.th u v).told, .val (.lst [u.obj, v.obj])]) rfl ?_
   refine (ze ((zK (tst ">" "count" _ _)).trans rfl)).trans ((ze ((zK (tst ">" "weigh" _ _)).trans rfl)).trans ((ze ((zK (tst ">" "houses" _ _)).trans rfl)).trans ?_))
   refine (ze a).trans ((ze ((zK (tst ">" "&" _ _)).trans rfl)).trans ((ze ((zK (tst ">" "|" _ _)).trans rfl)).trans (z8 ?_)))
   have e1 : zf zz (zh 1) (gO (gC (.int 0))) [.val (W.th u v).told, .val (.lst [u.obj, v.obj])] = .ok u.obj [.val (W.th u v).told, .val (.lst [u.obj, v.obj])] := by walk_at "gs"
   have e2 : zf zz (zh 1) (gO (gC (.int 1))) [.val (W.th u v).told, .val (.lst [u.obj, v.obj])] = .ok v.obj [.val (W.th u v).told, .val (.lst [u.obj, v.obj])] := by walk_at "gs"
   show O.bind (gCons _ _ [.val (W.th u v).told, .val (.lst [u.obj, v.obj])]) _ = _
   rw [zu e1, zu (r := gNil) e2]
   show Us (Qi (.own (.obj 17 []) :: [u.obj, v.obj].map .val)) _ = _
   rw [show Qi (.own (.obj 17 []) :: [u.obj, v.obj].map .val) = _ from zfI (Z3 hf h5)]; rfl
def zbC (w : W) (xs : List Str) (d b : Nat) : Prop := w.Ok /\ (∀ x ∈ w.names, x ∈ xs) /\ w.depth <= d /\ w.parts <= b
def zit (R : Fn) (d : Nat) : Prop := ∀ (b : Nat) o xs, 1 <= b -> b <= 12 -> yf o -> Names xs -> 1 <= xs.length -> xs.length <= 5 -> ∃ w o', zbC w xs d b /\ yf o' /\ R [.own o, .val (.lst (sL xs)), .val (.int d), .val (.int b)] = .ok w.told [o']
theorem Yo {j : Nat} {F : Fn} {a b c : G D} {ρ ρ1 ρ2 ρ3 ρ4 : Env} {x y z o0 o d o' : D} (h0 : ρ[j]? = some (.own o0)) (h1 : a ρ = .ok x ρ1) (h2 : b ρ1 = .ok y ρ2) (h2' : c ρ2 = .ok z ρ3) (h3 : ρ3[j]? = some (.own o)) (h4 : F [.own o, .val x, .val y, .val z] = .ok d [o']) (h5 : ρ3.set j (.own o') = ρ4) : zm j F (gCons a (gCons b (gCons c gNil))) ρ = .ok d ρ4 := by
 rw [zcy (ds := [x, y, z]) h0 ((zu h1).trans (by rw [zu h2, zu h2']; rfl)) h3 h4, h5]
theorem zel {a m : Nat} (h : 1 <= m) (h2 : m <= 12) : jW (.int a) (.int m) = some (.int (a / m : Nat)) := by
 have hc : UD (a : Int) (m : Int) := ⟨by omega, by omega⟩
 show (if UD (a : Int) (m : Int) then some (D.int ((a : Int) / m)) else none) = _
 rw [if_pos hc, Int.natCast_ediv]
theorem zcC {R : Fn} {d b m : Nat} (ih : zit R d) {xs : List Str} (hx : Names xs) (h1 : 1 <= xs.length) (h5 : xs.length <= 5) (m1 : 1 <= m) (m5 : m <= 5) (hb : m <= b) (hb2 : b <= 11) : ∀ (ds : List D) (s : Slot) (o : D), yf o -> ∃ (ws : WL) (s' : Slot) (o' : D), (ws.Ok /\ (∀ x ∈ ws.names, x ∈ xs) /\ ws.depth <= d /\ ws.parts <= ds.length * (b / m) /\ ws.objs.length = ds.length) /\ yf o' /\ yO (zr 0) yF (zm 1 R (gCons (zb 2) (gCons (zf Ju (zh 3) (gO (gC (.int 1)))) (gCons (zf jW (gO (zf Ju (zh 5) (gO (gC (.int 1))))) (zh 4)) gNil)))) ds [s, .own o, .val (.lst (sL xs)), .val (.int (d + 1)), .val (.int m), .val (.int (b + 1))] = .ok ws.tolds [s', .own o', .val (.lst (sL xs)), .val (.int (d + 1)), .val (.int m), .val (.int (b + 1))]
 | [], s, o, hw => ⟨.nil, s, o, ⟨trivial, fun x h => (by cases h), bJ _, bJ _, rfl⟩, hw, rfl⟩
 | y :: r, s, o, hw => by
  have bm : 1 <= b / m := (Nat.le_div_iff_mul_le (by omega)).mpr (by omega)
  have bm2 : b / m <= 12 := aM (Nat.div_le_self _ _) (by omega)
  obtain ⟨w, o1, ⟨a1, a2, a3, a4⟩, hw1, e⟩ := ih (b / m) o xs bm bm2 hw hx h1 h5
  obtain ⟨ws, s', o', ⟨b1, b2, b3, b4, b5⟩, hw', e2⟩ := zcC ih hx h1 h5 m1 m5 hb hb2 r (.val y) o1 hw1
  refine ⟨.cons w ws, s', o', ⟨⟨a1, b1⟩, ?_, ?_, ?_, ?_⟩, hw', ?_⟩
  · intro x hm
    simp only [WL.names, aN] at hm
    exact hm.elim (a2 x) (b2 x)
  · simp only [WL.depth]; omega
  · simp only [WL.parts, ac, Nat.add_mul]; omega
  · simp only [WL.objs, ac, b5]
  have es : zf Ju (zh 3) (gO (gC (.int 1))) [.val y, .own o, .val (.lst (sL xs)), .val (.int (d + 1)), .val (.int m), .val (.int (b + 1))] = .ok (.int d) [.val y, .own o, .val (.lst (sL xs)), .val (.int (d + 1)), .val (.int m), .val (.int (b + 1))] := by
   walk_at "gs"
   rw [show (d : Int) + 1 - 1 = d by omega]
  have ef : zf jW (gO (zf Ju (zh 5) (gO (gC (.int 1))))) (zh 4) [.val y, .own o, .val (.lst (sL xs)), .val (.int (d + 1)), .val (.int m), .val (.int (b + 1))] = .ok (.int (b / m : Nat)) [.val y, .own o, .val (.lst (sL xs)), .val (.int (d + 1)), .val (.int m), .val (.int (b + 1))] := by
   show jp (jW (.int ((b : Int) + 1 - 1)) (.int m)) _ = _
   rw [show (b : Int) + 1 - 1 = b by omega, zel m1 (by omega)]; rfl
  exact jf rfl (Yo (j := 1) (F := R) (a := zb 2) (ρ := [.val y, .own o, .val (.lst (sL xs)), .val (.int (d + 1)), .val (.int m), .val (.int (b + 1))]) (ρ4 := [.val y, .own o1, .val (.lst (sL xs)), .val (.int (d + 1)), .val (.int m), .val (.int (b + 1))]) rfl rfl es ef rfl e rfl) e2
theorem ziu {o x1 : D} {d b : Nat} {tl : Env} (hw : yf o) : ∃ (k : Bool) (o1 : D), yf o1 /\ (k = false -> 2 <= d /\ 3 <= b) /\ Yi (gB (zf WI (zh 2) (gO (gC (.int 2))))) (Yi (gB (zf WI (zh 3) (gO (gC (.int 3))))) (gB (zf jg (gO (zm 0 zp (gCons (gC (.int 4)) gNil))) (gO (gC (.int 0)))))) (.own o :: .val x1 :: .val (.int d) :: .val (.int b) :: tl) = .ok k (.own o1 :: .val x1 :: .val (.int d) :: .val (.int b) :: tl) := by
 have e1 : gB (zf WI (zh 2) (gO (gC (.int 2)))) (.own o :: .val x1 :: .val (.int d) :: .val (.int b) :: tl) = .ok (decide ((d : Int) < 2)) (.own o :: .val x1 :: .val (.int d) :: .val (.int b) :: tl) := by walk_at "gs"
 have e2 : gB (zf WI (zh 3) (gO (gC (.int 3)))) (.own o :: .val x1 :: .val (.int d) :: .val (.int b) :: tl) = .ok (decide ((b : Int) < 3)) (.own o :: .val x1 :: .val (.int d) :: .val (.int b) :: tl) := by walk_at "gs"
 unfold Yi
 rw [e1, zL]
 by_cases h1 : (d : Int) < 2
 · exact ⟨true, o, hw, (fun h => by cases h), by rw [decide_eq_true h1]; rfl⟩
 rw [decide_eq_false h1, if_neg aw, e2, zL]
 by_cases h2 : (b : Int) < 3
 · exact ⟨true, o, hw, (fun h => by cases h), by rw [decide_eq_true h2]; rfl⟩
 rw [decide_eq_false h2, if_neg aw]
 obtain ⟨r, o1, e, r0, r1, hw1⟩ := yw hw (n := 4) (by decide) (by decide)
 refine ⟨decide (r = 0), o1, hw1, (fun _ => ⟨by omega, by omega⟩), ?_⟩
 refine ZS (z9 (x := .int r) (y := .int 0) (yo (j := 0) (a := gC (.int 4)) (x := .int 4) rfl rfl rfl e rfl) rfl rfl)
theorem zbD : ∀ (n d : Nat), 1 <= d -> d <= n -> zit (jE n) d
 | 0, d, h, h' => by omega
 | n + 1, d, h1, hdn => by
  intro b o xs b1 b12 hw hx l1 l5
  obtain ⟨k, o1, hw1, hk, et⟩ := ziu (x1 := .lst (sL xs)) (d := d) (b := b) (tl := [.no, .no, .no, .no]) hw
  cases k with
  | true =>
   obtain ⟨p, o2, ⟨hp, hs⟩, hw2, ep⟩ := Y8 hw1 hx l1 l5
   exact ⟨.pl p, o2, ⟨hp, hs, h1, b1⟩, hw2, JQ rfl (y8 ((yZ et).trans (z8 (yo (j := 0) (a := zb 1) (x := .lst (sL xs)) (ρ := [.own o1, .val (.lst (sL xs)), .val (.int d), .val (.int b), .no, .no, .no, .no]) (ρ1 := [.own o1, .val (.lst (sL xs)), .val (.int d), .val (.int b), .no, .no, .no, .no]) (ρ2 := [.own o2, .val (.lst (sL xs)), .val (.int d), .val (.int b), .no, .no, .no, .no]) rfl rfl rfl ep rfl))))⟩
  | false =>
   obtain ⟨d2, b3⟩ := hk rfl
   obtain ⟨d, rfl⟩ : ∃ e, d = e + 1 := ⟨d - 1, by omega⟩
   obtain ⟨b, rfl⟩ : ∃ e, b = e + 1 := ⟨b - 1, by omega⟩
   have ih := zbD n d (by omega) (by omega)
   have ed : (((d + 1 : Nat) : Int)) = (d : Int) + 1 := by omega
   have eb : (((b + 1 : Nat) : Int)) = (b : Int) + 1 := by omega
   rw [ed, eb] at et
   rw [ed, eb]
   obtain ⟨c, o2, ec, c0, c1, hw2⟩ := yw hw1 (n := 3) (by decide) (by decide)
   have s4 : zX 4 (zm 0 zp (gCons (gC (.int 3)) gNil)) [.own o1, .val (.lst (sL xs)), .val (.int (d + 1)), .val (.int (b + 1)), .no, .no, .no, .no] = .ok .nx [.own o2, .val (.lst (sL xs)), .val (.int (d + 1)), .val (.int (b + 1)), .val (.int c), .no, .no, .no] := zP (yo (j := 0) rfl rfl rfl ec rfl)
   have t4 : gB (zf jg (zh 4) (gO (gC (.int 2)))) [.own o2, .val (.lst (sL xs)), .val (.int (d + 1)), .val (.int (b + 1)), .val (.int c), .no, .no, .no] = .ok (decide (c = 2)) [.own o2, .val (.lst (sL xs)), .val (.int (d + 1)), .val (.int (b + 1)), .val (.int c), .no, .no, .no] := by walk_at "gs"
   by_cases h2 : c = 2
   · rw [decide_eq_true h2] at t4
     have bm : 1 <= b / 2 := by omega
     obtain ⟨u, o3, ⟨a1, a2, a3, a4⟩, hw3, eu⟩ := ih (b / 2) o2 xs bm (by omega) hw2 hx l1 l5
     obtain ⟨v, o4, ⟨v1, v2, v3, v4⟩, hw4, ev⟩ := ih (b / 2) o3 xs bm (by omega) hw3 hx l1 l5
     have es : ∀ (o : D) (s : Slot), zf Ju (zh 2) (gO (gC (.int 1))) [.own o, .val (.lst (sL xs)), .val (.int (d + 1)), .val (.int (b + 1)), .val (.int c), s, .no, .no] = .ok (.int d) [.own o, .val (.lst (sL xs)), .val (.int (d + 1)), .val (.int (b + 1)), .val (.int c), s, .no, .no] := fun o s => by
      walk_at "gs"
      rw [show (d : Int) + 1 - 1 = d by omega]
     have ef : ∀ (o : D) (s : Slot), zf jW (gO (zf Ju (zh 3) (gO (gC (.int 1))))) (gO (gC (.int 2))) [.own o, .val (.lst (sL xs)), .val (.int (d + 1)), .val (.int (b + 1)), .val (.int c), s, .no, .no] = .ok (.int (b / 2 : Nat)) [.own o, .val (.lst (sL xs)), .val (.int (d + 1)), .val (.int (b + 1)), .val (.int c), s, .no, .no] := fun o s => by
      show jp (jW (.int ((b : Int) + 1 - 1)) (.int ((2 : Nat) : Int))) _ = _
      rw [show (b : Int) + 1 - 1 = b by omega, zel (by decide) (by decide)]; rfl
     have e5 := Yo (j := 0) (F := jE n) (a := zb 1) (ρ := [.own o2, .val (.lst (sL xs)), .val (.int (d + 1)), .val (.int (b + 1)), .val (.int c), .no, .no, .no]) (ρ4 := [.own o3, .val (.lst (sL xs)), .val (.int (d + 1)), .val (.int (b + 1)), .val (.int c), .no, .no, .no]) rfl rfl (es o2 .no) (ef o2 .no) rfl eu rfl
     have e6 := Yo (j := 0) (F := jE n) (a := zb 1) (ρ := [.own o3, .val (.lst (sL xs)), .val (.int (d + 1)), .val (.int (b + 1)), .val (.int c), .val u.told, .no, .no]) (ρ4 := [.own o4, .val (.lst (sL xs)), .val (.int (d + 1)), .val (.int (b + 1)), .val (.int c), .val u.told, .no, .no]) rfl rfl (es o3 (.val u.told)) (ef o3 (.val u.told)) rfl ev rfl
     refine ⟨.th u v, o4, ⟨⟨a1, v1⟩, fun x hm => ?_, by simp only [W.depth]; omega, by simp only [W.parts]; omega⟩, hw4, ?_⟩
     · simp only [W.names, aN] at hm
       exact hm.elim (a2 x) (v2 x)
     · refine JQ rfl ((ze ((zK et).trans rfl)).trans ((ze s4).trans (y8 ((yZ t4).trans ((ze (zP e5)).trans (z8 (ρ1 := [.own o4, .val (.lst (sL xs)), .val (.int (d + 1)), .val (.int (b + 1)), .val (.int c), .val u.told, .no, .no]) ?_))))))
       have eL := Jc (g := gCons (zb 5) (gCons (zm 0 (jE n) (gCons (zb 1) (gCons (zf Ju (zh 2) (gO (gC (.int 1)))) (gCons (zf jW (gO (zf Ju (zh 3) (gO (gC (.int 1))))) (gO (gC (.int 2)))) gNil)))) gNil)) (ρ := [.own o3, .val (.lst (sL xs)), .val (.int (d + 1)), .val (.int (b + 1)), .val (.int c), .val u.told, .no, .no]) (ds := [u.told, v.told]) (ρ1 := [.own o4, .val (.lst (sL xs)), .val (.int (d + 1)), .val (.int (b + 1)), .val (.int c), .val u.told, .no, .no]) (by rw [zu (a := zb 5) (x := u.told) (ρ1 := [.own o3, .val (.lst (sL xs)), .val (.int (d + 1)), .val (.int (b + 1)), .val (.int c), .val u.told, .no, .no]) rfl, zu (r := gNil) e6]; rfl) (by simp)
       show gTup _ [.own o3, .val (.lst (sL xs)), .val (.int (d + 1)), .val (.int (b + 1)), .val (.int c), .val u.told, .no, .no] = _
       unfold gTup
       rw [zu (a := gC (.str ">")) (x := .str ">") (ρ1 := [.own o3, .val (.lst (sL xs)), .val (.int (d + 1)), .val (.int (b + 1)), .val (.int c), .val u.told, .no, .no]) rfl, zu (r := gNil) eL]
       rfl
   · rw [decide_eq_false h2] at t4
     have em : zf Ys (gO (gC (.int 5))) (gO (zf Ju (zh 3) (gO (gC (.int 1))))) [.own o2, .val (.lst (sL xs)), .val (.int (d + 1)), .val (.int (b + 1)), .val (.int c), .no, .no, .no] = .ok (.int (min 5 b : Nat)) [.own o2, .val (.lst (sL xs)), .val (.int (d + 1)), .val (.int (b + 1)), .val (.int c), .no, .no, .no] := by
      walk_at "gs"
      congr 2
      split <;> omega
     obtain ⟨m, o3, e3, m0, m1, hw3⟩ := yw hw2 (n := (min 5 b : Nat)) (by omega) (by omega)
     obtain ⟨j, hj⟩ : ∃ j : Nat, 1 + m = j := ⟨(1 + m).toNat, by omega⟩
     obtain ⟨ws, s', o4, ⟨q1, q2, q3, q4, q5⟩, hw4, eC⟩ := zcC (b := b) (m := j) ih hx l1 l5 (by omega) (by omega) (by omega) (by omega) (y9 0 ((j : Int)).toNat) .no o3 hw3
     rw [jn, bP] at q4 q5
     have s6 : zX 6 (zf jj (gO (gC (.int 1))) (gO (zm 0 zp (gCons (zf Ys (gO (gC (.int 5))) (gO (zf Ju (zh 3) (gO (gC (.int 1)))))) gNil)))) [.own o2, .val (.lst (sL xs)), .val (.int (d + 1)), .val (.int (b + 1)), .val (.int c), .no, .no, .no] = .ok .nx [.own o3, .val (.lst (sL xs)), .val (.int (d + 1)), .val (.int (b + 1)), .val (.int c), .no, .val (.int j), .no] := zP (z9 (a := gC (.int 1)) (x := .int 1) (y := .int m) (ρ2 := [.own o3, .val (.lst (sL xs)), .val (.int (d + 1)), .val (.int (b + 1)), .val (.int c), .no, .no, .no]) rfl (yo (j := 0) rfl em rfl e3 rfl) (by rw [← hj]; rfl))
     have ei := Jq ((zu (r := gNil) (a := zb 6) (x := .int j) (ρ := [.own o3, .val (.lst (sL xs)), .val (.int (d + 1)), .val (.int (b + 1)), .val (.int c), .no, .val (.int j), .no]) (ρ1 := [.own o3, .val (.lst (sL xs)), .val (.int (d + 1)), .val (.int (b + 1)), .val (.int c), .no, .val (.int j), .no]) rfl).trans rfl) (Zc (j := (j : Int)) (by omega))
     have ecc := yj (ρ2 := [.own o4, .val (.lst (sL xs)), .val (.int (d + 1)), .val (.int (b + 1)), .val (.int c), .no, .val (.int j), .no]) (js := [none, some 0, some 1, some 2, some 6, some 3]) ei (by rw [jn]; omega) eC rfl
     have pb : 1 + j * (b / j) <= b + 1 := by have := Nat.mul_div_le b j; omega
     have fin : ∀ k : String, zz (.lst [.str "&", .str "|"]) (.int c) = some (.str k) -> zQ [0] 4 4 false (UQ (jE n)) [.own o, .val (.lst (sL xs)), .val (.int (d + 1)), .val (.int (b + 1))] = .ok (.tup [.str k, .lst ws.tolds]) [o4] := fun k ek => by
      refine JQ rfl ((ze ((zK et).trans rfl)).trans ((ze s4).trans ((ze ((zK t4).trans rfl)).trans ((ze s6).trans ((ze (zP ecc)).trans (z8 (ρ1 := [.own o4, .val (.lst (sL xs)), .val (.int (d + 1)), .val (.int (b + 1)), .val (.int c), .no, .val (.int j), .val (.lst ws.tolds)]) ?_))))))
      show gTup _ [.own o4, .val (.lst (sL xs)), .val (.int (d + 1)), .val (.int (b + 1)), .val (.int c), .no, .val (.int j), .val (.lst ws.tolds)] = _
      walk_at "gs"
      simp only [ek]
      walk_at "gs"
     have hc : c = 0 \/ c = 1 := by omega
     rcases hc with rfl | rfl
     · exact ⟨.bo ws, o4, ⟨⟨q1, by omega, by omega⟩, q2, by simp only [W.depth]; omega, by simp only [W.parts]; omega⟩, hw4, fin "&" ix0⟩
     · exact ⟨.ei ws, o4, ⟨⟨q1, by omega, by omega⟩, q2, by simp only [W.depth]; omega, by simp only [W.parts]; omega⟩, hw4, fin "|" ix1⟩
theorem YX {xs : List Str} (hx : Names xs) (h1 : 1 <= xs.length) (h5 : xs.length <= 5) : ∀ (ds : List D) (s : Slot) (o : D), yf o -> ∃ (ws : WL) (s' : Slot) (o' : D), (ws.Ok /\ (∀ x ∈ ws.names, x ∈ xs) /\ ws.depth <= 1 /\ ws.parts = ds.length /\ ws.objs.length = ds.length) /\ yf o' /\ yO (zr 0) yF (zm 1 yz (gCons (zb 2) gNil)) ds [s, .own o, .val (.lst (sL xs))] = .ok ws.tolds [s', .own o', .val (.lst (sL xs))]
 | [], s, o, hw => ⟨.nil, s, o, ⟨trivial, fun x h => (by cases h), bJ _, rfl, rfl⟩, hw, rfl⟩
 | y :: r, s, o, hw => by
  obtain ⟨p, o1, ⟨a1, a2⟩, hw1, e⟩ := Y8 hw hx h1 h5
  obtain ⟨ws, s', o', ⟨b1, b2, b3, b4, b5⟩, hw', e2⟩ := YX hx h1 h5 r (.val y) o1 hw1
  refine ⟨.cons (.pl p) ws, s', o', ⟨⟨a1, b1⟩, ?_, ?_, ?_, ?_⟩, hw', ?_⟩
  · intro x hm
    simp only [WL.names, aN] at hm
    exact hm.elim (a2 x) (b2 x)
  · simp only [WL.depth, W.depth]; omega
  · simp only [WL.parts, W.parts, ac]; omega
  · simp only [WL.objs, ac, b5]
  exact jf rfl (yo (j := 1) (a := zb 2) (x := .lst (sL xs)) (ρ := [.val y, .own o, .val (.lst (sL xs))]) (ρ1 := [.val y, .own o, .val (.lst (sL xs))]) (ρ2 := [.val y, .own o1, .val (.lst (sL xs))]) rfl rfl rfl e rfl) e2
theorem zgT {o x2 : D} {xs : List Str} {s2 s4 s5 : Slot} {w : W} (hx : Names xs) (h1 : 1 <= xs.length) (h5 : xs.length <= 5) (hw : yf o) (ho : w.Ok) (hn : ∀ x ∈ w.names, x ∈ xs) : ∃ (w' : W) (o' : D) (s5' : Slot), (w'.Ok /\ (∀ x ∈ w'.names, x ∈ xs) /\ w'.depth <= w.depth + 1 /\ w'.parts <= w.parts + 2) /\ yf o' /\ JM [.own o, .val (.lst (sL xs)), s2, .val w.told, s4, s5] = .ok .nx [.own o', .val (.lst (sL xs)), s2, .val w'.told, s4, s5'] := by
 obtain ⟨c, o1, ec, c0, c1, hw1⟩ := yw hw (n := 3) (by decide) (by decide)
 have s1 : zX 5 (zm 0 zp (gCons (gC (.int 3)) gNil)) [.own o, .val (.lst (sL xs)), s2, .val w.told, s4, s5] = .ok .nx [.own o1, .val (.lst (sL xs)), s2, .val w.told, s4, .val (.int c)] := zP (yo (j := 0) rfl rfl rfl ec rfl)
 have t1 : gB (zf jg (zh 5) (gO (gC (.int 2)))) [.own o1, .val (.lst (sL xs)), s2, .val w.told, s4, .val (.int c)] = .ok (decide (c = 2)) [.own o1, .val (.lst (sL xs)), s2, .val w.told, s4, .val (.int c)] := by walk_at "gs"
 have wp := w.depth_pos
 have hc : c = 2 \/ c = 0 \/ c = 1 := by omega
 rcases hc with rfl | hc
 · rw [decide_eq_true rfl] at t1
   obtain ⟨p, o2, ⟨p1, p2⟩, hw2, ep⟩ := Y8 hw1 hx h1 h5
   obtain ⟨q, o3, ⟨q1, q2⟩, hw3, eq⟩ := Y8 hw2 hx h1 h5
   obtain ⟨r, o4, er, r0, r1, hw4⟩ := yw hw3 (n := 2) (by decide) (by decide)
   have l1 := yo (j := 0) (F := yz) (a := zb 1) (x := .lst (sL xs)) (ρ := [.own o1, .val (.lst (sL xs)), s2, .val w.told, s4, .val (.int 2)]) (ρ1 := [.own o1, .val (.lst (sL xs)), s2, .val w.told, s4, .val (.int 2)]) (ρ2 := [.own o2, .val (.lst (sL xs)), s2, .val w.told, s4, .val (.int 2)]) rfl rfl rfl ep rfl
   have l2 := yo (j := 0) (F := yz) (a := zb 1) (x := .lst (sL xs)) (ρ := [.own o2, .val (.lst (sL xs)), s2, .val w.told, s4, .val (.int 2)]) (ρ1 := [.own o2, .val (.lst (sL xs)), s2, .val w.told, s4, .val (.int 2)]) (ρ2 := [.own o3, .val (.lst (sL xs)), s2, .val w.told, s4, .val (.int 2)]) rfl rfl rfl eq rfl
   have g1 := Jc (g := gCons (zb 3) (gCons (zm 0 yz (gCons (zb 1) gNil)) gNil)) (ds := [w.told, p.told]) (ρ := [.own o1, .val (.lst (sL xs)), s2, .val w.told, s4, .val (.int 2)]) (ρ1 := [.own o2, .val (.lst (sL xs)), s2, .val w.told, s4, .val (.int 2)]) (by rw [zu (a := zb 3) (x := w.told) (ρ1 := [.own o1, .val (.lst (sL xs)), s2, .val w.told, s4, .val (.int 2)]) rfl, zu (r := gNil) l1]; rfl) (by simp)
   have g2 := Jc (g := gCons (zm 0 yz (gCons (zb 1) gNil)) (gCons (zb 3) gNil)) (ds := [q.told, w.told]) (ρ := [.own o2, .val (.lst (sL xs)), s2, .val w.told, s4, .val (.int 2)]) (ρ1 := [.own o3, .val (.lst (sL xs)), s2, .val w.told, s4, .val (.int 2)]) (by rw [zu l2]; rfl) (by simp)
   have g3 := Jc (g := gCons (zT (gCons (zb 3) (gCons (zm 0 yz (gCons (zb 1) gNil)) gNil))) (gCons (zT (gCons (zm 0 yz (gCons (zb 1) gNil)) (gCons (zb 3) gNil))) gNil)) (ds := [.lst [w.told, p.told], .lst [q.told, w.told]]) (ρ1 := [.own o3, .val (.lst (sL xs)), s2, .val w.told, s4, .val (.int 2)]) (ρ := [.own o1, .val (.lst (sL xs)), s2, .val w.told, s4, .val (.int 2)]) (by rw [zu g1, zu (r := gNil) g2]; rfl) (by simp)
   have fin : ∀ (a b : W), a.Ok -> b.Ok -> (∀ x ∈ a.names, x ∈ xs) -> (∀ x ∈ b.names, x ∈ xs) -> a.depth <= w.depth -> b.depth <= w.depth -> a.parts + b.parts <= w.parts + 1 -> zz (.lst [.lst [w.told, p.told], .lst [q.told, w.told]]) (.int r) = some (.lst [a.told, b.told]) -> ∃ (w' : W) (o' : D) (s5' : Slot), (w'.Ok /\ (∀ x ∈ w'.names, x ∈ xs) /\ w'.depth <= w.depth + 1 /\ w'.parts <= w.parts + 2) /\ yf o' /\ JM [.own o, .val (.lst (sL xs)), s2, .val w.told, s4, s5] = .ok .nx [.own o', .val (.lst (sL xs)), s2, .val w'.told, s4, s5'] := fun a b ha hb na nb da db pp ei => by
    refine ⟨.th a b, o4, .val (.int 2), ⟨⟨ha, hb⟩, fun x hm => ?_, by simp only [W.depth]; omega, by simp only [W.parts]; omega⟩, hw4, ?_⟩
    · simp only [W.names, aN] at hm
      exact hm.elim (na x) (nb x)
    refine (ze s1).trans ((yZ t1).trans ?_)
    have eI := z9 (f := zz) g3 (b := zm 0 zp (gCons (gC (.int 2)) gNil)) (ρ2 := [.own o4, .val (.lst (sL xs)), s2, .val w.told, s4, .val (.int 2)]) (yo (j := 0) (a := gC (.int 2)) (x := .int 2) rfl rfl rfl er rfl) ei
    refine zP (ρ1 := [.own o4, .val (.lst (sL xs)), s2, .val w.told, s4, .val (.int 2)]) (d := (W.th a b).told) ?_
    unfold gTup
    rw [zu (a := gC (.str ">")) (x := .str ">") (ρ1 := [.own o1, .val (.lst (sL xs)), s2, .val w.told, s4, .val (.int 2)]) rfl, zu (r := gNil) eI]
    rfl
   have hr : r = 0 \/ r = 1 := by omega
   rcases hr with rfl | rfl
   · exact fin w (.pl p) ho p1 hn p2 (az _) wp (by simp only [W.parts]; omega) ix0
   · exact fin (.pl q) w q1 ho q2 hn wp (az _) (by simp only [W.parts]; omega) ix1
 · rw [decide_eq_false (by omega)] at t1
   have fin : ∀ k : String, zz (.lst [.str "&", .str "|"]) (.int c) = some (.str k) -> JM [.own o, .val (.lst (sL xs)), s2, .val w.told, s4, s5] = .ok .nx [.own o1, .val (.lst (sL xs)), s2, .val (.tup [.str k, .lst [w.told]]), s4, .val (.int c)] := fun k ek => by
    refine (ze s1).trans ((zK t1).trans ?_)
    walk_at "gs"
    simp only [ek]
    walk_at "gs"
   have nn : ∀ x ∈ (WL.cons w .nil).names, x ∈ xs := by simpa only [WL.names, aJ] using hn
   rcases hc with rfl | rfl
   · exact ⟨.bo (.cons w .nil), o1, _, ⟨⟨⟨ho, trivial⟩, by simp [WL.objs], by simp [WL.objs]⟩, nn, by simp only [W.depth, WL.depth]; omega, by simp only [W.parts, WL.parts]; omega⟩, hw1, fin "&" ix0⟩
   · exact ⟨.ei (.cons w .nil), o1, _, ⟨⟨⟨ho, trivial⟩, by simp [WL.objs], by simp [WL.objs]⟩, nn, by simp only [W.depth, WL.depth]; omega, by simp only [W.parts, WL.parts]; omega⟩, hw1, fin "|" ix1⟩
theorem zlY {g : G (List D)} {ρ ρ1 : Env} {ds : List D} (h : g ρ = .ok ds ρ1) (hl : ds.length <= 1000) : gTup g ρ = .ok (.tup ds) ρ1 := by
 unfold gTup; rw [h, zL, Vy hl]
theorem zaW {xs : List Str} {s2 : Slot} (hx : Names xs) (h1 : 1 <= xs.length) (h5 : xs.length <= 5) : ∀ (ds : List D) (o : D) (w : W) (s4 s5 : Slot), yf o -> w.Ok -> (∀ x ∈ w.names, x ∈ xs) -> ∃ (w' : W) (o' : D) (s4' s5' : Slot), (w'.Ok /\ (∀ x ∈ w'.names, x ∈ xs) /\ w'.depth <= w.depth + ds.length /\ w'.parts <= w.parts + 2 * ds.length) /\ yf o' /\ jT (zr 4) JM ds [.own o, .val (.lst (sL xs)), s2, .val w.told, s4, s5] = .ok .nx [.own o', .val (.lst (sL xs)), s2, .val w'.told, s4', s5']
 | [], o, w, s4, s5, hw, ho, hn => ⟨w, o, s4, s5, ⟨ho, hn, az _, az _⟩, hw, rfl⟩
 | y :: r, o, w, s4, s5, hw, ho, hn => by
  obtain ⟨w1, o1, s5', ⟨a1, a2, a3, a4⟩, hw1, e1⟩ := zgT (x2 := y) (s2 := s2) (s4 := .val y) (s5 := s5) hx h1 h5 hw ho hn
  obtain ⟨w2, o2, s4', s6, ⟨b1, b2, b3, b4⟩, hw2, e2⟩ := zaW (s2 := s2) hx h1 h5 r o1 w1 (.val y) s5' hw1 a1 a2
  refine ⟨w2, o2, s4', s6, ⟨b1, b2, by rw [ac]; omega, by rw [ac]; omega⟩, hw2, ?_⟩
  rw [Za rfl e1]
  exact e2
theorem zka {o : D} {xs : List Str} (hw : yf o) (hx : Names xs) (h1 : 1 <= xs.length) (h5 : xs.length <= 5) : ∃ w o', zbC w xs 4 12 /\ yf o' /\ J1 [.own o, .val (.lst (sL xs))] = .ok w.told [o'] := by
 obtain ⟨c, o1, ec, c0, c1, hw1⟩ := yw hw (n := 2) (by decide) (by decide)
 have t1 : gB (zf jg (gO (zm 0 zp (gCons (gC (.int 2)) gNil))) (gO (gC (.int 0)))) [.own o, .val (.lst (sL xs)), .no, .no, .no, .no] = .ok (decide (c = 0)) [.own o1, .val (.lst (sL xs)), .no, .no, .no, .no] := ZS (z9 (x := .int c) (y := .int 0) (yo (j := 0) (a := gC (.int 2)) (x := .int 2) rfl rfl rfl ec rfl) rfl rfl)
 by_cases h : c = 0
 · rw [decide_eq_true h] at t1
   obtain ⟨ws, s', o2, ⟨a1, a2, a3, a4, a5⟩, hw2, eA⟩ := YX hx h1 h5 (y9 0 5) .no o1 hw1
   obtain ⟨r, o3, er, r0, r1, hw3⟩ := yw hw2 (n := 2) (by decide) (by decide)
   obtain ⟨vs, s2, o4, ⟨b1, b2, b3, b4, b5⟩, hw4, eB⟩ := YX hx h1 h5 (y9 0 4) .no o3 hw3
   rw [jn] at a4 a5 b4 b5
   have cA := yj (ρ2 := [.own o2, .val (.lst (sL xs)), .no, .no, .no, .no]) (js := [none, some 0, some 1]) (Jq (g := gCons (gC (.int 5)) gNil) (ρ := [.own o1, .val (.lst (sL xs)), .no, .no, .no, .no]) (ρ1 := [.own o1, .val (.lst (sL xs)), .no, .no, .no, .no]) rfl (Zc (j := 5) (by decide))) (by rw [jn]; decide) eA rfl
   have cB := yj (ρ2 := [.own o4, .val (.lst (sL xs)), .val (W.ei ws).told, .no, .no, .no]) (js := [none, some 0, some 1]) (Jq (g := gCons (gC (.int 4)) gNil) (ρ := [.own o3, .val (.lst (sL xs)), .val (W.ei ws).told, .no, .no, .no]) (ρ1 := [.own o3, .val (.lst (sL xs)), .val (W.ei ws).told, .no, .no, .no]) rfl (Zc (j := 4) (by decide))) (by rw [jn]; decide) eB rfl
   have s1 : zX 2 (gTup (gCons (gC (.str "|")) (gCons (yg (yU (gCons (gC (.int 5)) gNil)) [none, some 0, some 1] (zr 0) yF (zm 1 yz (gCons (zb 2) gNil))) gNil))) [.own o1, .val (.lst (sL xs)), .no, .no, .no, .no] = .ok .nx [.own o2, .val (.lst (sL xs)), .val (W.ei ws).told, .no, .no, .no] := by
    refine zP (ρ1 := [.own o2, .val (.lst (sL xs)), .no, .no, .no, .no]) (d := (W.ei ws).told) ?_
    unfold gTup
    rw [zu (a := gC (.str "|")) (x := .str "|") (ρ1 := [.own o1, .val (.lst (sL xs)), .no, .no, .no, .no]) rfl, zu (r := gNil) cA]
    rfl
   have fin : ∀ k : String, ∀ v : W, v.told = .tup [.str k, .lst vs.tolds] -> v.Ok -> (∀ x ∈ v.names, x ∈ xs) -> v.depth <= 2 -> v.parts <= 5 -> zz (.lst [.str "&", .str "|"]) (.int r) = some (.str k) -> ∃ w o', zbC w xs 4 12 /\ yf o' /\ J1 [.own o, .val (.lst (sL xs))] = .ok w.told [o'] := fun k v ev hv nv dv pv ek => by
    have eI : zf zz (gO (zT (gCons (gC (.str "&")) (gCons (gC (.str "|")) gNil)))) (gO (zm 0 zp (gCons (gC (.int 2)) gNil))) [.own o2, .val (.lst (sL xs)), .val (W.ei ws).told, .no, .no, .no] = .ok (.str k) [.own o3, .val (.lst (sL xs)), .val (W.ei ws).told, .no, .no, .no] := z9 (x := .lst [.str "&", .str "|"]) (y := .int r) (ρ1 := [.own o2, .val (.lst (sL xs)), .val (W.ei ws).told, .no, .no, .no]) rfl (yo (j := 0) (a := gC (.int 2)) (x := .int 2) rfl rfl rfl er rfl) ek
    have eT : gTup (gCons (zf zz (gO (zT (gCons (gC (.str "&")) (gCons (gC (.str "|")) gNil)))) (gO (zm 0 zp (gCons (gC (.int 2)) gNil)))) (gCons (yg (yU (gCons (gC (.int 4)) gNil)) [none, some 0, some 1] (zr 0) yF (zm 1 yz (gCons (zb 2) gNil))) gNil)) [.own o2, .val (.lst (sL xs)), .val (W.ei ws).told, .no, .no, .no] = .ok v.told [.own o4, .val (.lst (sL xs)), .val (W.ei ws).told, .no, .no, .no] := by
     unfold gTup
     rw [zu eI, zu (r := gNil) cB, ev]; rfl
    have eL := Jc (g := gCons (zb 2) (gCons (gTup (gCons (zf zz (gO (zT (gCons (gC (.str "&")) (gCons (gC (.str "|")) gNil)))) (gO (zm 0 zp (gCons (gC (.int 2)) gNil)))) (gCons (yg (yU (gCons (gC (.int 4)) gNil)) [none, some 0, some 1] (zr 0) yF (zm 1 yz (gCons (zb 2) gNil))) gNil))) gNil)) (ds := [(W.ei ws).told, v.told]) (ρ := [.own o2, .val (.lst (sL xs)), .val (W.ei ws).told, .no, .no, .no]) (ρ1 := [.own o4, .val (.lst (sL xs)), .val (W.ei ws).told, .no, .no, .no]) (by rw [zu (a := zb 2) (x := (W.ei ws).told) (ρ1 := [.own o2, .val (.lst (sL xs)), .val (W.ei ws).told, .no, .no, .no]) rfl, zu (r := gNil) eT]; rfl) (by simp)
    refine ⟨.bo (.cons (.ei ws) (.cons v .nil)), o4, ⟨⟨⟨⟨a1, by omega, by omega⟩, hv, trivial⟩, by simp [WL.objs], by simp [WL.objs]⟩, fun x hm => ?_, by simp only [W.depth, WL.depth]; omega, by simp only [W.parts, WL.parts]; omega⟩, hw4, ?_⟩
    · simp only [W.names, WL.names, aJ, aN] at hm
      exact hm.elim (a2 x) (nv x)
    · refine JQ rfl (y8 ((yZ t1).trans ((ze s1).trans (z8 (ρ1 := [.own o4, .val (.lst (sL xs)), .val (W.ei ws).told, .no, .no, .no]) ?_))))
      refine zlY (ds := [.str "&", .lst [(W.ei ws).told, v.told]]) ?_ (by simp)
      rw [zu (a := gC (.str "&")) (x := .str "&") (ρ1 := [.own o2, .val (.lst (sL xs)), .val (W.ei ws).told, .no, .no, .no]) rfl, zu (r := gNil) eL]
      rfl
   have hr : r = 0 \/ r = 1 := by omega
   rcases hr with rfl | rfl
   · exact fin "&" (.bo vs) rfl ⟨b1, by omega, by omega⟩ b2 (by simp only [W.depth]; omega) (by simp only [W.parts]; omega) ix0
   · exact fin "|" (.ei vs) rfl ⟨b1, by omega, by omega⟩ b2 (by simp only [W.depth]; omega) (by simp only [W.parts]; omega) ix1
 · rw [decide_eq_false h] at t1
   obtain ⟨p, o2, ⟨p1, p2⟩, hw2, ep⟩ := Y8 hw1 hx h1 h5
   obtain ⟨w, o3, s4, s5, ⟨a1, a2, a3, a4⟩, hw3, e⟩ := zaW (s2 := .no) hx h1 h5 (y9 0 3) o2 (.pl p) .no .no hw2 p1 p2
   rw [jn] at a3 a4
   simp only [W.depth, W.parts] at a3 a4
   refine ⟨w, o3, ⟨a1, a2, by omega, by omega⟩, hw3, ?_⟩
   refine JQ (ρ := [.val (.lst (sL xs)), .no, .val w.told, s4, s5]) rfl ((ze ((zK t1).trans rfl)).trans ((ze (zP (yo (j := 0) (a := zb 1) (x := .lst (sL xs)) (ρ := [.own o1, .val (.lst (sL xs)), .no, .no, .no, .no]) (ρ1 := [.own o1, .val (.lst (sL xs)), .no, .no, .no, .no]) (ρ2 := [.own o2, .val (.lst (sL xs)), .no, .no, .no, .no]) rfl rfl rfl ep rfl))).trans ?_))
   refine (ze ((Zd (Jq (g := gCons (gC (.int 3)) gNil) (ρ := [.own o2, .val (.lst (sL xs)), .no, .val p.told, .no, .no]) (ρ1 := [.own o2, .val (.lst (sL xs)), .no, .val p.told, .no, .no]) rfl (Zc (j := 3) (by decide)))).trans e)).trans ?_
   rfl
theorem ziv {f : D -> D -> Option (List D)} {i : Nat} {b : G D} {ρ ρ1 : Env} {x y : D} {ds : List D} (h0 : zh i ρ = .ok (.v i) ρ) (h1 : b ρ = .ok y ρ1) (h2 : ρ1[i]? = some (.val x)) (h : f x y = some ds) : jD f (zh i) (gO b) ρ = .ok (.lst ds) ρ1 := by
 unfold jD
 rw [h0, zL]
 show O.bind (O.bind (b ρ) _) _ = _
 rw [h1]
 show jp (((Opd.v i).get ρ1).bind fun x => (f x y).map D.lst) ρ1 = _
 rw [Uw, h2, JZ, aP, h]; rfl
theorem znI {f : D -> D -> Option (List D)} {i : Nat} {a : G D} {ρ ρ1 : Env} {x y : D} {ds : List D} (h1 : a ρ = .ok x ρ1) (h0 : zh i ρ1 = .ok (.v i) ρ1) (h2 : ρ1[i]? = some (.val y)) (h : f x y = some ds) : jD f (gO a) (zh i) ρ = .ok (.lst ds) ρ1 := by
 unfold jD gO
 rw [h1]
 show O.bind (zh i ρ1) _ = _
 rw [h0]
 show jp (((Opd.v i).get ρ1).bind fun y => (f x y).map D.lst) ρ1 = _
 rw [Uw, h2, JZ, aP, h]; rfl
theorem QT {a b : List Str} (h : a.length + b.length <= 100000) : y7 (.lst (sL a)) (.lst (sL b)) = some (sL (a ++ b)) := by
 unfold y7; dsimp only; rw [yG, yG, if_pos h, zaN]
def j4 (g : Str) : List (List Str) -> List Str | [] => [] | h :: r => h ++ (r.map (g :: ·)).flatten
theorem VV {x : D} {g : Str} : ∀ (r : List (List Str)) (acc : List Str) (s : Slot), acc.length + (r.map (g :: ·)).flatten.length <= 100000 -> ∃ s', jT (zr 3) Qn (r.map zM) [.val x, .val (.str g), .val (.lst (sL acc)), s] = .ok .nx [.val x, .val (.str g), .val (.lst (sL (acc ++ (r.map (g :: ·)).flatten))), s']
 | [], acc, s, _ => ⟨s, by simp [jT]⟩
 | h :: r, acc, s, hl => by
  simp only [al, bd, ax, ac] at hl
  obtain ⟨s', e⟩ := VV (x := x) (g := g) r (acc ++ [g] ++ h) (.val (zM h)) (by simp only [ax, ac, aD]; omega)
  refine ⟨s', ?_⟩
  have e1 : jD y7 (zh 2) (gO (zT (gCons (zb 1) gNil))) [.val x, .val (.str g), .val (.lst (sL acc)), .val (zM h)] = .ok (.lst (sL (acc ++ [g]))) [.val x, .val (.str g), .val (.lst (sL acc)), .val (zM h)] := ziv (y := .lst (sL [g])) rfl rfl rfl (QT (by simp only [ac, aD]; omega))
  have e2 : Qn [.val x, .val (.str g), .val (.lst (sL acc)), .val (zM h)] = .ok .nx [.val x, .val (.str g), .val (.lst (sL (acc ++ [g] ++ h))), .val (zM h)] := zP (znI e1 (y := .lst (sL h)) rfl rfl (QT (by simp only [ax, ac, aD]; omega)))
  rw [al, Za rfl e2, e]
  simp only [al, bd, bI, dO, cO]
theorem zaX {g : Str} {h : List Str} {r : List (List Str)} (hl : (j4 g (h :: r)).length <= 100000) : j3 [.val (.lst ((h :: r).map zM)), .val (.str g)] = .ok (.lst (sL (j4 g (h :: r)))) [] := by
 unfold j4 at hl ⊢
 rw [ax] at hl
 obtain ⟨s', e⟩ := VV (x := .lst ((h :: r).map zM)) (g := g) r h .no hl
 refine yd (ρ := [.val (.lst ((h :: r).map zM)), .val (.str g), .val (.lst (sL (h ++ (r.map (g :: ·)).flatten))), s']) rfl ?_
 refine (ze (ρ1 := [.val (.lst ((h :: r).map zM)), .val (.str g), .val (.lst (sL h)), .no]) (by rw [al]; unfold zM; walk_at "gs")).trans ?_
 have ei : zW (Rr (zh 0) (Uq (gC (.int 1))) ZZ) [.val (.lst ((h :: r).map zM)), .val (.str g), .val (.lst (sL h)), .no] = .ok (r.map zM) [.val (.lst ((h :: r).map zM)), .val (.str g), .val (.lst (sL h)), .no] := by
  refine jO ?_
  walk_at "gs"
  rw [show (1 : Int) = ((1 : Nat) : Int) from rfl, zj6 (by simp)]; rfl
 refine (ze ((Zd ei).trans e)).trans ?_
 rfl
def sI (i : Int) : Str := toString i
theorem U0 {i : Int} (h : i.natAbs < 10 ^ 30) : jy (.int i) = some (.str (sI i)) := if_pos h
def PW.words : PW -> List Str
 | .count m ys => "count" :: sI m :: ys
 | .weigh l ps => "weigh" :: sI l :: ps.flatMap fun p => [p.1, sI p.2]
 | .houses m e hs => "houses" :: sI m :: sI e :: j4 "/" hs
theorem Zg {i : Int} (h1 : 0 <= i) (h2 : i <= 1000000000000) : i.natAbs < 10 ^ 30 := aF (show i.natAbs < 1000000000001 by omega) (by decide +kernel)
theorem zaY {x : D} {R : Fn} : ∀ (ps : List (Str × Int)) (acc : List Str) (s2 s3 : Slot), (∀ p ∈ ps, 1 <= p.2 /\ p.2 <= 1000000000) -> acc.length + 2 * ps.length <= 1000 -> ∃ s2' s3', jT (Yu (JY (zr 2) (JY (zr 3) Ur)) 2) (Zo R) (ps.map zY) [.val x, .val (.lst (sL acc)), s2, s3, .no] = .ok .nx [.val x, .val (.lst (sL (acc ++ ps.flatMap fun p => [p.1, sI p.2]))), s2', s3', .no]
 | [], acc, s2, s3, _, _ => ⟨s2, s3, by simp [jT]⟩
 | p :: r, acc, s2, s3, hp, hl => by
  simp only [ac] at hl
  have hp0 := hp p ai
  obtain ⟨s2', s3', e⟩ := zaY (x := x) (R := R) r (acc ++ [p.1, sI p.2]) (.val (.str p.1)) (.val (.int p.2)) (fun q hq => hp q (ah _ hq)) (by simp; omega)
  refine ⟨s2', s3', ?_⟩
  have e1 : zT (gCons (zb 2) (gCons (zw jy (zh 3)) gNil)) [.val x, .val (.lst (sL acc)), .val (.str p.1), .val (.int p.2), .no] = .ok (.lst (sL [p.1, sI p.2])) [.val x, .val (.lst (sL acc)), .val (.str p.1), .val (.int p.2), .no] := by
   walk_at "gs"
   simp only [U0 (Zg (i := p.2) (by omega) (by omega))]
   walk_at "gs"
   rfl
  have e2 : Zo R [.val x, .val (.lst (sL acc)), .val (.str p.1), .val (.int p.2), .no] = .ok .nx [.val x, .val (.lst (sL (acc ++ [p.1, sI p.2]))), .val (.str p.1), .val (.int p.2), .no] := zP (ziv rfl e1 rfl (QT (by simp only [ac, aD]; omega)))
  rw [al, Za rfl e2, e, cR, bI]
theorem zbE {g : Str} : ∀ (hs : List (List Str)), (∀ h ∈ hs, h.length <= 5) -> (j4 g hs).length <= 6 * hs.length
 | [], _ => by simp [j4]
 | h :: r, hh => by
  have key : ∀ l : List (List Str), (∀ h ∈ l, h.length <= 5) -> (l.map (g :: ·)).flatten.length <= 6 * l.length := fun l => by
   induction l with
   | nil => intro _; simp
   | cons a t ih =>
    intro hl
    have := ih fun x hx => hl x (ah _ hx)
    have := hl a ai
    simp only [al, bd, ax, ac]; omega
  have := key r fun x hx => hh x (ah _ hx)
  have := hh h ai
  unfold j4
  rw [ax, ac]; omega
theorem zgU {p : PW} (h : p.Ok) (n : Nat) : jq (n + 1) [.val p.told] = .ok (.lst (sL p.words)) [] := by
 show zQ [] 1 4 false (YB (jq n)) [.val p.told] = _
 have tst : ∀ (k q : String) (r : List D), gB (zf jg (gO (zf zz (zh 0) (gO (gC (.int 0))))) (gO (gC (.str q)))) [.val (.tup (.str k :: r)), .no, .no, .no, .no] = .ok (decide (k = q)) [.val (.tup (.str k :: r)), .no, .no, .no, .no] := fun k q r => by
  walk_at "gs"
 cases p with
 | count m ys =>
  obtain ⟨hn, h5, h1, hm⟩ := h
  have e1 : zT (gCons (gC (.str "count")) (gCons (zw jy (gO (zf zz (zh 0) (gO (gC (.int 1)))))) gNil)) [.val (PW.count m ys).told, .no, .no, .no, .no] = .ok (.lst (sL ["count", sI m])) [.val (PW.count m ys).told, .no, .no, .no, .no] := by
   unfold PW.told
   walk_at "gs"
   simp only [U0 (Zg (i := m) (by omega) (by omega))]
   walk_at "gs"
   rfl
  have e2 : zf zz (zh 0) (gO (gC (.int 2))) [.val (PW.count m ys).told, .no, .no, .no, .no] = .ok (.lst (sL ys)) [.val (PW.count m ys).told, .no, .no, .no, .no] := by unfold PW.told; walk_at "gs"
  exact yd (ρ := [.val (PW.count m ys).told, .no, .no, .no, .no]) rfl (y8 ((yZ (tst "count" "count" _)).trans (z8 (J8 (f := y7) e1 e2 (QT (by simp only [ac, aD]; omega))))))
 | weigh l ps =>
  obtain ⟨hn, h5, hw, h1, hm⟩ := h
  have sm := Ws hw
  have e1 : zT (gCons (gC (.str "weigh")) (gCons (zw jy (gO (zf zz (zh 0) (gO (gC (.int 1)))))) gNil)) [.val (PW.weigh l ps).told, .no, .no, .no, .no] = .ok (.lst (sL ["weigh", sI l])) [.val (PW.weigh l ps).told, .no, .no, .no, .no] := by
   unfold PW.told
   walk_at "gs"
   simp only [U0 (Zg (i := l) (by omega) (by omega))]
   walk_at "gs"
   rfl
  have e2 : zf zz (zh 0) (gO (gC (.int 2))) [.val (PW.weigh l ps).told, .val (.lst (sL ["weigh", sI l])), .no, .no, .no] = .ok (.lst (ps.map zY)) [.val (PW.weigh l ps).told, .val (.lst (sL ["weigh", sI l])), .no, .no, .no] := by unfold PW.told; walk_at "gs"
  obtain ⟨s2, s3, e3⟩ := zaY (x := (PW.weigh l ps).told) (R := jq n) ps ["weigh", sI l] .no .no hw (by simp only [ac, aD]; omega)
  refine yd (ρ := [.val (PW.weigh l ps).told, .val (.lst (sL (PW.weigh l ps).words)), s2, s3, .no]) rfl ((ze ((zK (tst "weigh" "count" _)).trans rfl)).trans (y8 ((yZ (tst "weigh" "weigh" _)).trans ?_)))
  exact (ze (zP e1)).trans ((ze ((Zd (jO e2)).trans e3)).trans rfl)
 | houses m e hs =>
  obtain ⟨hh, h5, h1, hm, he, hd⟩ := h
  cases hs with
  | nil => simp at hm; omega
  | cons a r =>
   have a5 := hh a ai
   have e1 : zT (gCons (gC (.str "houses")) (gCons (zw jy (gO (zf zz (zh 0) (gO (gC (.int 1)))))) (gCons (zw jy (gO (zf zz (zh 0) (gO (gC (.int 2)))))) gNil))) [.val (PW.houses m e (a :: r)).told, .no, .no, .no, .no] = .ok (.lst (sL ["houses", sI m, sI e])) [.val (PW.houses m e (a :: r)).told, .no, .no, .no, .no] := by
    unfold PW.told
    walk_at "gs"
    simp only [U0 (Zg (i := m) (by omega) (by omega))]
    walk_at "gs"
    simp only [U0 (Zg (i := e) (by omega) (by omega))]
    walk_at "gs"
    rfl
   have bl := zbE (g := "/") (a :: r) fun x hx => (hh x hx).2.1
   have e2 : zf zz (zh 0) (gO (gC (.int 3))) [.val (PW.houses m e (a :: r)).told, .no, .no, .no, .no] = .ok (.lst ((a :: r).map zM)) [.val (PW.houses m e (a :: r)).told, .no, .no, .no, .no] := by unfold PW.told; walk_at "gs"
   have e3 := J3 (F := j3) (b := gC (.str "/")) (y := .str "/") e2 rfl (zaX (g := "/") (h := a) (r := r) (by omega))
   exact yd (ρ := [.val (PW.houses m e (a :: r)).told, .no, .no, .no, .no]) rfl ((ze ((zK (tst "houses" "count" _)).trans rfl)).trans ((ze ((zK (tst "houses" "weigh" _)).trans rfl)).trans (y8 ((yZ (tst "houses" "houses" _)).trans (z8 (J8 (f := y7) e1 e3 (QT (by simp only [ac, aD]; omega))))))))
def JH (g : Str) (ps : List (List Str)) : List Str := match ps with | [p] => (["(", g] : List Str) ++ p ++ ([")"] : List Str) | _ => (["("] : List Str) ++ j4 g ps ++ ([")"] : List Str)
mutual
def W.words : W -> List Str | .pl p => p.words | .bo ws => JH "&" ws.wordss | .ei ws => JH "|" ws.wordss | .th a b => JH ">" [a.words, b.words]
def WL.wordss : WL -> List (List Str) | .nil => [] | .cons w r => w.words :: r.wordss
end
theorem WL.wordss_len : ∀ ws : WL, ws.wordss.length = ws.objs.length
 | .nil => rfl
 | .cons w r => by simp only [WL.wordss, WL.objs, ac, WL.wordss_len r]
theorem zem {g : Str} : ∀ (ps : List (List Str)), (j4 g ps).length <= ps.flatten.length + ps.length
 | [] => by simp [j4]
 | h :: r => by
  have key : ∀ l : List (List Str), (l.map (g :: ·)).flatten.length = l.flatten.length + l.length := fun l => by
   induction l with
   | nil => rfl
   | cons a t ih => simp only [al, bd, ax, ac, ih]; omega
  have := key r
  unfold j4
  simp only [ax, bd, ac]; omega
theorem RK {g : Str} (ps : List (List Str)) : (JH g ps).length <= ps.flatten.length + ps.length + 2 := by
 have := zem (g := g) ps
 unfold JH
 split <;> simp only [ax, ac, aD, bd, eU] at * <;> omega
theorem zen {p : PW} (h : p.Ok) : p.words.length <= 33 := by
 cases p with
 | count m ys => have := h.2.1; simp only [PW.words, ac]; omega
 | weigh l ps =>
  have h5 := h.2.1
  have key : ∀ l : List (Str × Int), (l.flatMap fun p => [p.1, sI p.2]).length = 2 * l.length := fun l => by
   induction l with
   | nil => rfl
   | cons a t ih => simp only [cR, ax, ac, aD, ih]; omega
  simp only [PW.words, ac, key]; omega
 | houses m e hs =>
  have h5 := h.2.1
  have := zbE (g := "/") hs fun x hx => (h.1 x hx).2.1
  simp only [PW.words, ac]; omega
mutual
theorem W.words_len : ∀ (w : W), w.Ok -> w.words.length + 1 <= 40 * w.parts
 | .pl p, h => by have := zen (p := p) h; simp only [W.words, W.parts]; omega
 | .bo ws, h => by have := RK (g := "&") ws.wordss; have := ws.wordss_flat h.1; simp only [W.words, W.parts]; omega
 | .ei ws, h => by have := RK (g := "|") ws.wordss; have := ws.wordss_flat h.1; simp only [W.words, W.parts]; omega
 | .th a b, h => by
  have := RK (g := ">") [a.words, b.words]
  have := a.words_len h.1
  have := b.words_len h.2
  simp only [W.words, W.parts, bd, eU, ax, ac, aD] at *; omega
theorem WL.wordss_flat : ∀ (ws : WL), ws.Ok -> ws.wordss.flatten.length + ws.wordss.length <= 40 * ws.parts
 | .nil, _ => by simp [WL.wordss]
 | .cons w r, h => by
  have := w.words_len h.1
  have := r.wordss_flat h.2
  simp only [WL.wordss, WL.parts, bd, ax, ac]; omega
end
def zbF (n : Nat) : Prop := ∀ (w : W), w.Ok -> w.depth <= n -> w.parts <= 12 -> jq n [.val w.told] = .ok (.lst (sL w.words)) []
theorem zaZ {n : Nat} (ih : zbF n) : ∀ (ws : WL) (s : Slot), ws.Ok -> ws.depth <= n -> ws.parts <= 12 -> ∃ s', yO (zr 0) yF (zB (jq n) (gCons (zb 0) gNil)) ws.tolds [s] = .ok (ws.wordss.map zM) [s']
 | .nil, s, _, _, _ => ⟨s, rfl⟩
 | .cons w r, s, h, hd, hp => by
  simp only [WL.depth, WL.parts] at hd hp
  obtain ⟨s', e⟩ := zaZ ih r (.val w.told) h.2 (by omega) (by omega)
  exact ⟨s', jf rfl (y0 (a := zb 0) (x := w.told) (ρ1 := [.val w.told]) rfl (ih w h.1 (by omega) (by omega))) e⟩
theorem U1 {n : Nat} (ih : zbF n) {k : String} {ws : WL} (ho : ws.Ok) (l1 : 1 <= ws.objs.length) (l5 : ws.objs.length <= 5) (hd : ws.depth <= n) (hp : ws.parts <= 12) : YS (jq n) [.val (.tup [.str k, .lst ws.tolds]), .no, .no, .no, .no] = .ok (.rt (.lst (sL (JH k ws.wordss)))) [.val (.tup [.str k, .lst ws.tolds]), .no, .no, .no, .val (.lst (ws.wordss.map zM))] := by
 obtain ⟨s', ec⟩ := zaZ ih ws .no ho hd hp
 have fl := ws.wordss_flat ho
 have wl := ws.wordss_len
 have e5 : zf zz (zh 0) (gO (gC (.int 1))) [.val (.tup [.str k, .lst ws.tolds]), .no, .no, .no, .no] = .ok (.lst ws.tolds) [.val (.tup [.str k, .lst ws.tolds]), .no, .no, .no, .no] := by walk_at "gs"
 refine (ze (zP (yj (ρ2 := [.val (.tup [.str k, .lst ws.tolds]), .no, .no, .no, .no]) (js := [none]) (jO e5) (by rw [VU]; omega) ec rfl))).trans ?_
 show YR (jq n) [.val (.tup [.str k, .lst ws.tolds]), .no, .no, .no, .val (.lst (ws.wordss.map zM))] = _
 generalize ws.wordss = ps at *
 have lf : ps.flatten.length <= 480 := by omega
 have l5' : ps.length <= 5 := by omega
 match ps, wl, lf, l5' with
 | [], wl, _, _ => simp at wl; omega
 | [p], _, lf, _ =>
  simp only [bd, eU, ax, aD] at lf
  have t4 : gB (zf jg (gO (zw y6 (zh 4))) (gO (gC (.int 1)))) [.val (.tup [.str k, .lst ws.tolds]), .no, .no, .no, .val (.lst ([p].map zM))] = .ok true [.val (.tup [.str k, .lst ws.tolds]), .no, .no, .no, .val (.lst ([p].map zM))] := by walk_at "gs"
  have ek : zf zz (zh 0) (gO (gC (.int 0))) [.val (.tup [.str k, .lst ws.tolds]), .no, .no, .no, .val (.lst ([p].map zM))] = .ok (.str k) [.val (.tup [.str k, .lst ws.tolds]), .no, .no, .no, .val (.lst ([p].map zM))] := by walk_at "gs"
  have a1 := Jc (g := gCons (gC (.str "(")) (gCons (zf zz (zh 0) (gO (gC (.int 0)))) gNil)) (ds := sL ["(", k]) (ρ := [.val (.tup [.str k, .lst ws.tolds]), .no, .no, .no, .val (.lst ([p].map zM))]) (ρ1 := [.val (.tup [.str k, .lst ws.tolds]), .no, .no, .no, .val (.lst ([p].map zM))]) (by rw [zu (a := gC (.str "(")) (x := .str "(") (ρ1 := [.val (.tup [.str k, .lst ws.tolds]), .no, .no, .no, .val (.lst ([p].map zM))]) rfl, zu (r := gNil) ek]; rfl) (by rw [yG]; simp)
  have a2 : zf zz (zh 4) (gO (gC (.int 0))) [.val (.tup [.str k, .lst ws.tolds]), .no, .no, .no, .val (.lst ([p].map zM))] = .ok (.lst (sL p)) [.val (.tup [.str k, .lst ws.tolds]), .no, .no, .no, .val (.lst ([p].map zM))] := by
   rw [al]; unfold zM
   walk_at "gs"
  exact y8 ((yZ t4).trans (z8 (J8 (f := y7) (J8 (f := y7) a1 a2 (QT (by simp only [ac, aD]; omega))) (b := zT (gCons (gC (.str ")")) gNil)) (y := .lst (sL [")"])) rfl (QT (by simp only [ax, ac, aD]; omega)))))
 | p :: q :: r, _, lf, l5' =>
  have bf := zem (g := k) (p :: q :: r)
  have t4 : gB (zf jg (gO (zw y6 (zh 4))) (gO (gC (.int 1)))) [.val (.tup [.str k, .lst ws.tolds]), .no, .no, .no, .val (.lst ((p :: q :: r).map zM))] = .ok false [.val (.tup [.str k, .lst ws.tolds]), .no, .no, .no, .val (.lst ((p :: q :: r).map zM))] := by
   refine ZS (z9 (x := .int ((p :: q :: r).map zM).length) (y := .int 1) rfl rfl ?_)
   show some (D.bl (decide ((((p :: q :: r).map zM).length : Int) = 1))) = _
   rw [decide_eq_false (by rw [am]; simp only [ac]; omega)]
  have ek : zf zz (zh 0) (gO (gC (.int 0))) [.val (.tup [.str k, .lst ws.tolds]), .no, .no, .no, .val (.lst ((p :: q :: r).map zM))] = .ok (.str k) [.val (.tup [.str k, .lst ws.tolds]), .no, .no, .no, .val (.lst ((p :: q :: r).map zM))] := by walk_at "gs"
  have a2 := J3 (F := j3) (a := zb 4) (x := .lst ((p :: q :: r).map zM)) (ρ := [.val (.tup [.str k, .lst ws.tolds]), .no, .no, .no, .val (.lst ((p :: q :: r).map zM))]) rfl ek (zaX (g := k) (h := p) (r := q :: r) (by omega))
  exact (ze ((zK t4).trans rfl)).trans (z8 (J8 (f := y7) (J8 (f := y7) (a := zT (gCons (gC (.str "(")) gNil)) (x := .lst (sL ["("])) (ρ1 := [.val (.tup [.str k, .lst ws.tolds]), .no, .no, .no, .val (.lst ((p :: q :: r).map zM))]) rfl a2 (QT (by simp only [ac, aD]; omega))) (b := zT (gCons (gC (.str ")")) gNil)) (y := .lst (sL [")"])) rfl (QT (by simp only [ax, ac, aD]; omega))))
theorem RL : ∀ n, zbF n
 | 0, w, _, hd, _ => by have := w.depth_pos; omega
 | n + 1, w, ho, hd, hp => by
  have ih := RL n
  have tst : ∀ (k q : String) (r : List D), gB (zf jg (gO (zf zz (zh 0) (gO (gC (.int 0))))) (gO (gC (.str q)))) [.val (.tup (.str k :: r)), .no, .no, .no, .no] = .ok (decide (k = q)) [.val (.tup (.str k :: r)), .no, .no, .no, .no] := fun k q r => by
   walk_at "gs"
  cases w with
  | pl p => exact zgU ho n
  | bo ws =>
   simp only [W.depth, W.parts] at hd hp
   exact yd (ρ := [.val (W.bo ws).told, .no, .no, .no, .val (.lst (ws.wordss.map zM))]) rfl ((ze ((zK (tst "&" "count" _)).trans rfl)).trans ((ze ((zK (tst "&" "weigh" _)).trans rfl)).trans ((ze ((zK (tst "&" "houses" _)).trans rfl)).trans (U1 ih (k := "&") ho.1 ho.2.1 ho.2.2 (by omega) (by omega)))))
  | ei ws =>
   simp only [W.depth, W.parts] at hd hp
   exact yd (ρ := [.val (W.ei ws).told, .no, .no, .no, .val (.lst (ws.wordss.map zM))]) rfl ((ze ((zK (tst "|" "count" _)).trans rfl)).trans ((ze ((zK (tst "|" "weigh" _)).trans rfl)).trans ((ze ((zK (tst "|" "houses" _)).trans rfl)).trans (U1 ih (k := "|") ho.1 ho.2.1 ho.2.2 (by omega) (by omega)))))
  | th a b =>
   simp only [W.depth, W.parts] at hd hp
   have e := U1 ih (k := ">") (ws := .cons a (.cons b .nil)) ⟨ho.1, ho.2, trivial⟩ (by simp [WL.objs]) (by simp [WL.objs]) (by simp only [WL.depth]; omega) (by simp only [WL.parts]; omega)
   exact yd (ρ := [.val (W.th a b).told, .no, .no, .no, .val (.lst ([a.words, b.words].map zM))]) rfl ((ze ((zK (tst ">" "count" _)).trans rfl)).trans ((ze ((zK (tst ">" "weigh" _)).trans rfl)).trans ((ze ((zK (tst ">" "houses" _)).trans rfl)).trans e)))
theorem Z4 (a b c : Str) : a ++ b ++ c = a ++ (b ++ c) := by
 show Str.mk (a.cps ++ b.cps ++ c.cps) = Str.mk (a.cps ++ (b.cps ++ c.cps))
 rw [fS]
theorem jo (z : Str) (ys : List Str) : aK z ys = Str.join z ys := StrLaws.glued_eq_join z ys
theorem YK (z a : Str) : aK z [a] = a := by rw [jo]; rfl
theorem Rh (z a b : Str) (r : List Str) : aK z (a :: b :: r) = a ++ z ++ aK z (b :: r) := by rw [jo, jo]; rfl
theorem JJ (z : Str) : ∀ (a b : List Str), a ≠ [] -> b ≠ [] -> aK z (a ++ b) = aK z a ++ z ++ aK z b
 | [x], b :: r, _, _ => by rw [YK]; exact Rh ..
 | x :: y :: t, b, _, hb => by
  have ih := JJ z (y :: t) b (by simp) hb
  show aK z (x :: y :: (t ++ b)) = _
  rw [Rh, Rh, show y :: (t ++ b) = (y :: t) ++ b from rfl, ih]; simp only [Z4]
 | [], _, h, _ => absurd rfl h
 | _ :: _, [], _, h => absurd rfl h
theorem zeo (z g : Str) : ∀ (ps : List (List Str)), (∀ p ∈ ps, p ≠ []) -> aK (z ++ g ++ z) (ps.map (aK z)) = aK z (j4 g ps)
 | [], _ => by rw [bB, jo]; unfold j4; rw [jo]; rfl
 | [p], _ => by rw [al, bB, YK]; unfold j4; simp
 | p :: q :: r, h => by
  have ih := zeo z g (q :: r) fun x hx => h x (ah _ hx)
  have e : j4 g (p :: q :: r) = p ++ ([g] ++ j4 g (q :: r)) := by simp [j4]
  have hq := h q (ah _ ai)
  have ne : j4 g (q :: r) ≠ [] := by unfold j4; simp [hq]
  rw [al] at ih ⊢
  rw [al, Rh, ih, e, JJ z p _ (h p ai) (by simp), JJ z [g] _ (by simp) ne, YK]
  simp only [Z4]
def wt (ys : List Str) : Nat := (ys.map (·.length)).sum
theorem U2 (z : Str) (ys : List Str) : (aK z ys).length <= wt ys + ys.length * z.length := by
 cases ys with
 | nil => exact bJ _
 | cons a r =>
  rw [jo, PyProof.Rows.len_join_cons]
  unfold wt
  rw [ac, Nat.succ_mul]
  omega
theorem YL {k : Nat} : ∀ (ys : List Str), (∀ y ∈ ys, y.length <= k) -> wt ys <= k * ys.length
 | [], _ => bJ _
 | y :: r, h => by
  have := YL r fun x hx => h x (ah _ hx)
  have := h y ai
  unfold wt at *
  rw [al, eP, ac, Nat.mul_succ]; omega
theorem zep {z : Str} {ys : List Str} (h : wt ys + ys.length * z.length <= 100000) : zan z (.lst (sL ys)) = some (.str (aK z ys)) := by
 have e : Zm (.lst (sL ys)) = some ys := Zu ys
 unfold zan
 rw [e]
 exact if_pos h
theorem Qu {a b : G D} {ρ ρ1 ρ2 : Env} {z : Str} {ys : List Str} (h1 : a ρ = .ok (.str z) ρ1) (h2 : b ρ1 = .ok (.lst (sL ys)) ρ2) (h : wt ys + ys.length * z.length <= 100000) : Jh a (gO b) ρ = .ok (.str (aK z ys)) ρ2 := by
 unfold Jh gO
 rw [h1, zL]
 dsimp only
 rw [h2, zL, zL, zcZ, aP, zep h]; rfl
theorem zlZ {a : G D} {i : Nat} {ρ ρ1 : Env} {z : Str} {ys : List Str} (h1 : a ρ = .ok (.str z) ρ1) (h0 : zh i ρ1 = .ok (.v i) ρ1) (h2 : ρ1[i]? = some (.val (.lst (sL ys)))) (h : wt ys + ys.length * z.length <= 100000) : Jh a (zh i) ρ = .ok (.str (aK z ys)) ρ1 := by
 unfold Jh
 rw [h1, zL]
 dsimp only
 rw [h0, zL, Uw, h2, JZ, aP, zep h]; rfl
theorem Qp {a b : Str} (h : a.length + b.length <= 100000) : yC (.str a) (.str b) = some (.str (a ++ b)) := if_pos h
theorem jv (a b : Str) : (a ++ b).length = a.length + b.length := by rw [Zb, zbA, ax, ← Zb, ← Zb]
theorem U3 {a : Str} (h : a.length <= 100000) : Qb (.str a) = some (.str a) := if_pos h
theorem za0 {f : D -> Option D} {i : Nat} {ρ : Env} {x d : D} (h0 : zh i ρ = .ok (.v i) ρ) (h2 : ρ[i]? = some (.val x)) (h : f x = some d) : zw f (zh i) ρ = .ok d ρ := by
 unfold zw; rw [h0, zL, Uw, h2, JZ, aP, h]; rfl
theorem Qj {i : Int} (h0 : 0 <= i) (h1 : i <= 1000000000000) : (sI i).length <= 20 := PyProof.Rows.toString_length_le h0 (by decide) (by omega)
theorem Y9 {n : Str} (h : Jr n = true) : n.length <= 8 := (zea h).2
theorem zfJ {g x : Str} : ∀ {ps : List (List Str)}, x ∈ j4 g ps -> x = g \/ ∃ p ∈ ps, x ∈ p
 | [], h => by simp [j4] at h
 | p :: r, h => by
  unfold j4 at h
  rcases aN.mp h with h | h
  · exact .inr ⟨p, ai, h⟩
  · obtain ⟨l, hl, hx⟩ := gP.mp h
    obtain ⟨q, hq, rfl⟩ := aW.mp hl
    rcases ar.mp hx with h | h
    · exact .inl h
    · exact .inr ⟨q, ah _ hq, h⟩
theorem zkb {g x : Str} {ps : List (List Str)} (h : x ∈ JH g ps) : x = "(" \/ x = ")" \/ x = g \/ ∃ p ∈ ps, x ∈ p := by
 unfold JH at h
 split at h
 · simp only [aN, ar, aO, or_false] at h
   rcases h with ((h | h) | h) | h
   · exact .inl h
   · exact .inr (.inr (.inl h))
   · exact .inr (.inr (.inr ⟨_, ai, h⟩))
   · exact .inr (.inl h)
 · simp only [aN, ar, aO, or_false] at h
   rcases h with (h | h) | h
   · exact .inl h
   · rcases zfJ h with h | h
     · exact .inr (.inr (.inl h))
     · exact .inr (.inr (.inr h))
   · exact .inr (.inl h)
theorem U4 {g : Str} {ps : List (List Str)} (hg : g.length <= 20) (h : ∀ p ∈ ps, ∀ x ∈ p, x.length <= 20) : ∀ x ∈ JH g ps, x.length <= 20 := by
 intro x hx
 rcases zkb hx with rfl | rfl | rfl | ⟨p, hp, hx⟩
 · decide +kernel
 · decide +kernel
 · exact hg
 · exact h p hp x hx
theorem za1 {p : PW} (h : p.Ok) : ∀ x ∈ p.words, x.length <= 20 := by
 intro x hx
 cases p with
 | count m ys =>
  obtain ⟨hn, h5, h1, hm⟩ := h
  simp only [PW.words, ar] at hx
  rcases hx with rfl | rfl | hx
  · decide +kernel
  · exact Qj (by omega) (by omega)
  · exact aM (Y9 (hn.2 x hx)) (by decide)
 | weigh l ps =>
  obtain ⟨hn, h5, hw, h1, hm⟩ := h
  have sm := Ws hw
  simp only [PW.words, ar, List.mem_flatMap, aO, or_false] at hx
  rcases hx with rfl | rfl | ⟨p, hp, rfl | rfl⟩
  · decide +kernel
  · exact Qj (by omega) (by omega)
  · exact aM (Y9 (hn.2 _ (aW.mpr ⟨p, hp, rfl⟩))) (by decide)
  · have := hw p hp; exact Qj (by omega) (by omega)
 | houses m e hs =>
  obtain ⟨hh, h5, h1, hm, he, hd⟩ := h
  simp only [PW.words, ar] at hx
  rcases hx with rfl | rfl | rfl | hx
  · decide +kernel
  · exact Qj (by omega) (by omega)
  · cases hs with
    | nil => simp at hm; omega
    | cons a r => have := hh a ai; exact Qj (by omega) (by omega)
  · rcases zfJ hx with rfl | ⟨p, hp, hx⟩
    · decide +kernel
    · exact aM (Y9 ((hh p hp).1.2 x hx)) (by decide)
mutual
theorem W.short : ∀ (w : W), w.Ok -> ∀ x ∈ w.words, x.length <= 20
 | .pl p, h => za1 (p := p) h
 | .bo ws, h => U4 (by decide +kernel) (ws.short h.1)
 | .ei ws, h => U4 (by decide +kernel) (ws.short h.1)
 | .th a b, h => U4 (by decide +kernel) fun p hp => by
  simp only [ar, aO, or_false] at hp
  rcases hp with rfl | rfl
  · exact a.short h.1
  · exact b.short h.2
theorem WL.short : ∀ (ws : WL), ws.Ok -> ∀ p ∈ ws.wordss, ∀ x ∈ p, x.length <= 20
 | .nil, _ => fun p hp => by cases hp
 | .cons w r, h => fun p hp => by
  simp only [WL.wordss, ar] at hp
  rcases hp with rfl | hp
  · exact w.short h.1
  · exact r.short h.2 p hp
end
theorem zfK {g : Str} (ps : List (List Str)) : JH g ps ≠ [] := by unfold JH; split <;> simp
theorem W.words_ne (w : W) : w.words ≠ [] := by
 cases w with
 | pl p => cases p <;> simp [W.words, PW.words]
 | _ => exact zfK _
theorem WL.words_ne : ∀ (ws : WL), ∀ p ∈ ws.wordss, p ≠ []
 | .nil, p, hp => by cases hp
 | .cons w r, p, hp => by
  simp only [WL.wordss, ar] at hp
  rcases hp with rfl | hp
  · exact w.words_ne
  · exact r.words_ne p hp
def W.text (w : W) : Str := aK " " w.words
theorem W.text_len {w : W} (h : w.Ok) : w.text.length <= 840 * w.parts := by
 have a := U2 " " w.words
 have b := YL _ (w.short h)
 have c := w.words_len h
 rw [show (aI " ").length = 1 by decide +kernel] at a
 unfold W.text; omega
def WL.texts : WL -> List Str | .nil => [] | .cons w r => w.text :: r.texts
theorem WL.texts_is : ∀ ws : WL, ws.texts = ws.wordss.map (aK " ")
 | .nil => rfl
 | .cons w r => by rw [WL.texts, WL.wordss, al, r.texts_is]; rfl
theorem WL.texts_len : ∀ ws : WL, ws.texts.length = ws.objs.length
 | .nil => rfl
 | .cons w r => by rw [WL.texts, WL.objs, ac, ac, r.texts_len]
theorem WL.texts_wt : ∀ ws : WL, ws.Ok -> wt ws.texts <= 840 * ws.parts
 | .nil, _ => bJ _
 | .cons w r, h => by
  have a := w.text_len h.1
  have b := r.texts_wt h.2
  unfold wt at *
  simp only [WL.texts, WL.parts, al, eP]; omega
theorem zeq {g : Str} {p : List Str} (h : p ≠ []) : aK " " (JH g [p]) = "( " ++ (g ++ " " ++ aK " " p) ++ " )" := by
 unfold JH
 dsimp only
 rw [JJ _ _ _ (by simp) (by simp), JJ _ _ _ (by simp) h, Rh, YK, YK, show (aI "( ") = "(" ++ " " by decide +kernel, show (aI " )") = " " ++ ")" by decide +kernel]
 simp only [Z4]
theorem VW {g : Str} {p q : List Str} {r : List (List Str)} (h : ∀ x ∈ p :: q :: r, x ≠ []) : aK " " (JH g (p :: q :: r)) = "( " ++ aK (" " ++ g ++ " ") ((p :: q :: r).map (aK " ")) ++ " )" := by
 have ne : j4 g (p :: q :: r) ≠ [] := by unfold j4; simp [h p ai]
 rw [zeo _ _ _ h]
 unfold JH
 dsimp only
 rw [JJ _ _ _ (by simp) (by simp), JJ _ _ _ (by simp) ne, YK, YK, show (aI "( ") = "(" ++ " " by decide +kernel, show (aI " )") = " " ++ ")" by decide +kernel]
 simp only [Z4]
theorem za2 {f : Nat} {ρ : Env} {c : Nat} {fs : List (Nat × D)} {m : Int} (h : ρ[0]? = some (.val (.obj c fs))) (hc : 11 <= c) (hf : Yt fs f = some (.int m)) (h0 : 0 <= m) (h1 : m <= 1000000000000) : zw jy (gO (zw (jx f) (zh 0))) ρ = .ok (.str (sI m)) ρ := Jv (JP h hc hf) (U0 (Zg h0 h1))
theorem jP : (aI " ").length = 1 := by decide +kernel
theorem zer : ∀ (ps : List (Str × Int)), ps ≠ [] -> aK " " (ps.map fun p => p.1 ++ " " ++ sI p.2) = aK " " (ps.flatMap fun p => [p.1, sI p.2])
 | [], h => absurd rfl h
 | [p], _ => by rw [al, bB, YK, cR, List.flatMap_nil, aJ, Rh, YK]
 | p :: q :: r, _ => by
  have ih := zer (q :: r) (by simp)
  have e : (p :: q :: r).flatMap (fun p : Str × Int => [p.1, sI p.2]) = [p.1, sI p.2] ++ (q :: r).flatMap fun p : Str × Int => [p.1, sI p.2] := rfl
  rw [e, JJ _ _ _ (by simp) (by rw [cR]; simp), ← ih, al, al, Rh, Rh, YK]
theorem za3 {R : G zq} : ∀ (ps : List (Str × Int)) (s : Slot), (∀ p ∈ ps, p.1.length <= 8 /\ 1 <= p.2 /\ p.2 <= 1000000000) -> ∃ s', yO (zr 0) yF (zf yC (gO (zf yC (gO (zf zz (zh 0) (gO (gC (.int 0))))) (gO (gC (.str " "))))) (gO (zw jy (gO (zf zz (zh 0) (gO (gC (.int 1)))))))) (ps.map zY) [s] = .ok (sL (ps.map fun p => p.1 ++ " " ++ sI p.2)) [s']
 | [], s, _ => ⟨s, rfl⟩
 | p :: r, s, h => by
  obtain ⟨s', e⟩ := za3 (R := R) r (.val (zY p)) fun q hq => h q (ah _ hq)
  have hp := h p ai
  have hs := Qj (i := p.2) (by omega) (by omega)
  refine ⟨s', ?_⟩
  rw [al, al]
  have e0 : zf zz (zh 0) (gO (gC (.int 0))) [.val (zY p)] = .ok (.str p.1) [.val (zY p)] := by unfold zY; walk_at "gs"
  have e1 : zf zz (zh 0) (gO (gC (.int 1))) [.val (zY p)] = .ok (.int p.2) [.val (zY p)] := by unfold zY; walk_at "gs"
  exact jf rfl (z9 (z9 e0 (b := gC (.str " ")) (y := .str " ") rfl (Qp (by rw [jP]; omega))) (Jv e1 (U0 (Zg (by omega) (by omega)))) (Qp (by rw [jv, jP]; omega))) e
theorem Ri : ∀ (hs : List (List Str)) (s : Slot), (∀ h ∈ hs, wt h + h.length <= 1000) -> ∃ s', yO (zr 0) yF (Jh (gC (.str " ")) (zh 0)) (hs.map zM) [s] = .ok (sL (hs.map (aK " "))) [s']
 | [], s, _ => ⟨s, rfl⟩
 | h :: r, s, hh => by
  obtain ⟨s', e⟩ := Ri r (.val (zM h)) fun q hq => hh q (ah _ hq)
  have hp := hh h ai
  refine ⟨s', ?_⟩
  rw [al, al]
  exact jf rfl (zlZ (z := " ") (ys := h) (ρ1 := [.val (zM h)]) rfl rfl rfl (by rw [jP]; omega)) e
theorem zbG {a : Str} {r : List Str} : wt (a :: r) = a.length + wt r := rfl
theorem znJ (a b : List Str) : wt (a ++ b) = wt a + wt b := by unfold wt; rw [dY, gZ]
theorem ziw {p : PW} (h : p.Ok) : JN [.val p.obj] = .ok (.str (aK " " p.words)) [] := by
 have sh := za1 h
 have hw := YL _ sh
 have hl := zen h
 cases p with
 | count m ys =>
  obtain ⟨hn, h5, h1, hm⟩ := h
  have e1 : zT (gCons (gC (.str "count")) (gCons (zw jy (gO (zw (jx 0) (zh 0)))) gNil)) [.val (PW.count m ys).obj, .no] = .ok (.lst (sL ["count", sI m])) [.val (PW.count m ys).obj, .no] := Jc ((zu (x := .str "count") (ρ1 := [.val (PW.count m ys).obj, .no]) rfl).trans (by rw [zu (za2 (f := 0) (m := m) (c := 12) (fs := (PW.count m ys).fs) rfl (by decide) rfl (by omega) (by omega))]; rfl)) (by rw [yG]; simp)
  have e2 : zw (jx 1) (zh 0) [.val (PW.count m ys).obj, .no] = .ok (.lst (sL ys)) [.val (PW.count m ys).obj, .no] := JP (c := 12) (fs := (PW.count m ys).fs) rfl (by decide) rfl
  exact yd (ρ := [.val (PW.count m ys).obj, .no]) rfl (y8 ((yZ (ρ1 := [.val (PW.count m ys).obj, .no]) rfl).trans (z8 (Qu (z := " ") rfl (J8 (f := y7) e1 e2 (QT (by simp only [ac, aD]; omega))) (by rw [jP]; exact aM (Nat.add_le_add hw (fb (Nat.mul_one _))) (by show 20 * (PW.count m ys).words.length + (PW.count m ys).words.length <= _; omega))))))
 | weigh l ps =>
  obtain ⟨hn, h5, hb, h1, hm⟩ := h
  have sm := Ws hb
  have ne : ps ≠ [] := by rintro rfl; simp at hm; omega
  have e1 : zT (gCons (gC (.str "weigh")) (gCons (zw jy (gO (zw (jx 2) (zh 0)))) gNil)) [.val (PW.weigh l ps).obj, .no] = .ok (.lst (sL ["weigh", sI l])) [.val (PW.weigh l ps).obj, .no] := Jc ((zu (x := .str "weigh") (ρ1 := [.val (PW.weigh l ps).obj, .no]) rfl).trans (by rw [zu (za2 (f := 2) (m := l) (c := 13) (fs := (PW.weigh l ps).fs) rfl (by decide) rfl (by omega) (by omega))]; rfl)) (by rw [yG]; simp)
  have hp : ∀ p ∈ ps, p.1.length <= 8 /\ 1 <= p.2 /\ p.2 <= 1000000000 := fun p hp => ⟨Y9 (hn.2 _ (aW.mpr ⟨p, hp, rfl⟩)), hb p hp⟩
  obtain ⟨s', ec⟩ := za3 (R := yx) ps .no hp
  have e2 := yj (ρ := [.val (PW.weigh l ps).obj, .no]) (ρ2 := [.val (PW.weigh l ps).obj, .no]) (js := [none]) (jO (JP (i := 0) (f := 3) (c := 13) (fs := (PW.weigh l ps).fs) (d := .lst (ps.map zY)) rfl (by decide) rfl)) (by rw [am]; omega) ec rfl
  have hx : ∀ x ∈ (ps.map fun p => p.1 ++ " " ++ sI p.2), x.length <= 29 := by
   intro x hx
   obtain ⟨p, hq, rfl⟩ := aW.mp hx
   have := hp p hq
   have := Qj (i := p.2) (by omega) (by omega)
   rw [jv, jv, jP]; omega
  have hx := YL _ hx
  rw [am] at hx
  have i1 := Qj (i := l) (by omega) (by omega)
  have n1 : (ps.map fun p => p.1 ++ " " ++ sI p.2) ≠ [] := fun z => ne (List.map_eq_nil_iff.mp z)
  have n2 : (ps.flatMap fun p : Str × Int => [p.1, sI p.2]) ≠ [] := by
   cases ps with
   | nil => exact absurd rfl ne
   | cons a r => rw [cR]; exact cD _ _
  have et : aK " " ((["weigh", sI l] : List Str) ++ ps.map fun p => p.1 ++ " " ++ sI p.2) = aK " " (PW.weigh l ps).words := by
   show _ = aK " " ((["weigh", sI l] : List Str) ++ ps.flatMap fun p => [p.1, sI p.2])
   rw [JJ _ _ _ (cD _ _) n1, JJ _ _ _ (cD _ _) n2, zer _ ne]
  rw [← et]
  exact yd (ρ := [.val (PW.weigh l ps).obj, .no]) rfl ((ze ((zK (ρ1 := [.val (PW.weigh l ps).obj, .no]) rfl).trans rfl)).trans (y8 ((yZ (ρ1 := [.val (PW.weigh l ps).obj, .no]) rfl).trans (z8 (Qu (z := " ") rfl (J8 (f := y7) e1 e2 (QT (by simp only [ac, aD, am]; omega))) (by
   rw [jP, znJ, zbG, zbG, show (aI "weigh").length = 5 by decide +kernel, show wt [] = 0 from rfl, ax, am]; simp only [ac, aD]; omega))))))
 | houses m e hs =>
  obtain ⟨hh, h5, h1, hm, he, hd⟩ := h
  have hw' : ∀ h ∈ hs, wt h + h.length <= 1000 := fun h hx => by
   have := YL h fun x hy => Y9 ((hh h hx).1.2 x hy)
   have := (hh h hx).2.1
   omega
  have hne : ∀ h ∈ hs, h ≠ [] := fun h hx => by rintro rfl; have := (hh [] hx).2.2; simp at this; omega
  have ne : hs ≠ [] := by rintro rfl; simp at hm; omega
  have e5 : e <= 5 := by
   cases hs with
   | nil => exact absurd rfl ne
   | cons a r => have := hh a ai; omega
  obtain ⟨s', ec⟩ := Ri hs .no hw'
  have e2 := yj (ρ := [.val (PW.houses m e hs).obj, .no]) (ρ2 := [.val (PW.houses m e hs).obj, .no]) (js := [none]) (jO (JP (i := 0) (f := 5) (c := 14) (fs := (PW.houses m e hs).fs) (d := .lst (hs.map zM)) rfl (by decide) rfl)) (by rw [am]; omega) ec rfl
  have hx : ∀ x ∈ hs.map (aK " "), x.length <= 1000 := by
   intro x hx
   obtain ⟨h, hq, rfl⟩ := aW.mp hx
   have a := U2 " " h
   have := hw' h hq
   rw [jP] at a; omega
  have hx := YL _ hx
  rw [am] at hx
  have sep : (aI " / ") = " " ++ "/" ++ " " := by decide +kernel
  have ej := Qu (a := gC (.str " / ")) (z := " / ") (ρ1 := [.val (PW.houses m e hs).obj, .no]) rfl e2 (by rw [show (aI " / ").length = 3 by decide +kernel, am]; omega)
  rw [sep, zeo _ _ _ hne] at ej
  rw [← sep] at ej
  have bl := zbE (g := "/") hs fun x hx => (hh x hx).2.1
  have bs : ∀ x ∈ j4 "/" hs, x.length <= 20 := fun x hx => sh x (by unfold PW.words; exact ah _ (ah _ (ah _ hx)))
  have bs := YL _ bs
  have bj := U2 " " (j4 "/" hs)
  rw [jP] at bj
  have i1 := Qj (i := m) (by omega) (by omega)
  have i2 := Qj (i := e) (by omega) (by omega)
  have bne : j4 "/" hs ≠ [] := by
   cases hs with
   | nil => exact absurd rfl ne
   | cons a r => unfold j4; simp [hne a ai]
  have et : aK " " ((["houses", sI m, sI e] : List Str) ++ [aK " " (j4 "/" hs)]) = aK " " (PW.houses m e hs).words := by
   show _ = aK " " ((["houses", sI m, sI e] : List Str) ++ j4 "/" hs)
   rw [JJ _ _ _ (cD _ _) (cD _ _), JJ _ _ _ (cD _ _) bne, YK]
  rw [← et]
  refine yd (ρ := [.val (PW.houses m e hs).obj, .val (.str (aK " " (j4 "/" hs)))]) rfl ((ze ((zK (ρ1 := [.val (PW.houses m e hs).obj, .no]) rfl).trans rfl)).trans ((ze ((zK (ρ1 := [.val (PW.houses m e hs).obj, .no]) rfl).trans rfl)).trans ((ze (zP ej)).trans ?_)))
  generalize aK " " (j4 "/" hs) = x at *
  have f1 := za2 (f := 0) (m := m) (c := 14) (fs := (PW.houses m e hs).fs) (ρ := [.val (PW.houses m e hs).obj, .val (.str x)]) rfl (by decide) rfl (by omega) (by omega)
  have f2 := za2 (f := 4) (m := e) (c := 14) (fs := (PW.houses m e hs).fs) (ρ := [.val (PW.houses m e hs).obj, .val (.str x)]) rfl (by decide) rfl (by omega) (by omega)
  exact z8 (Qu (z := " ") (ys := (["houses", sI m, sI e] : List Str) ++ [x]) (ρ1 := [.val (PW.houses m e hs).obj, .val (.str x)]) rfl (Jc (ds := sL ((["houses", sI m, sI e] : List Str) ++ [x])) ((zu (x := .str "houses") (ρ1 := [.val (PW.houses m e hs).obj, .val (.str x)]) rfl).trans (by rw [zu f1, zu f2]; rfl)) (by rw [yG]; simp)) (by
   rw [jP]; simp only [dO, cO, zbG, ac, aD, show (aI "houses").length = 6 by decide +kernel, show wt [] = 0 from rfl]; omega))
theorem VX {R : Fn} {g : Str} {ws : WL} (hg : g.length = 1) (ho : ws.Ok) (l1 : 1 <= ws.objs.length) (l5 : ws.objs.length <= 5) (hp : ws.parts <= 12) (hc : ∃ s', yO (zr 0) yF (zB (yJ R) (gCons (zb 0) gNil)) ws.objs [.no] = .ok (sL ws.texts) [s']) : zQ [] 2 1 false (Qo R) [.val (.str g), .val (.lst ws.objs)] = .ok (.str (aK " " (JH g ws.wordss))) [] := by
 obtain ⟨s', ec⟩ := hc
 have tw := ws.texts_wt ho
 have tl := ws.texts_len
 have wl := ws.wordss_len
 have wn := ws.words_ne
 have e0 : zf yC (gO (zf yC (gO (zw Qb (gO (gC (.str " "))))) (gO (zw Qb (zh 0))))) (gO (gC (.str " "))) [.val (.str g), .val (.lst ws.objs), .no] = .ok (.str (" " ++ g ++ " ")) [.val (.str g), .val (.lst ws.objs), .no] := z9 (z9 (Jv (x := .str " ") rfl (U3 (by rw [jP]; omega))) (za0 (x := .str g) rfl rfl (U3 (by omega))) (Qp (by rw [jP]; omega))) (y := .str " ") rfl (Qp (by rw [jv, jP]; omega))
 have e1 := yj (ρ := [.val (.str g), .val (.lst ws.objs), .no]) (ρ2 := [.val (.str g), .val (.lst ws.objs), .no]) (js := [none]) (Jk (i := 1) (ds := ws.objs) rfl) (by omega) ec rfl
 have sl : (" " ++ g ++ " " : Str).length = 3 := by rw [jv, jv, jP]; omega
 have ej := Qu e0 e1 (by rw [sl]; omega)
 have jl := U2 (" " ++ g ++ " ") ws.texts
 rw [sl] at jl
 have c1 : (aI "( ").length = 2 := by decide +kernel
 have c2 : (aI " )").length = 2 := by decide +kernel
 have last : ∀ t : Str, t.length <= 50000 -> QO R [.val (.str g), .val (.lst ws.objs), .val (.str t)] = .ok (.rt (.str ("( " ++ t ++ " )"))) [.val (.str g), .val (.lst ws.objs), .val (.str t)] := fun t ht =>
  z8 (z9 (z9 (Jv (x := .str "( ") rfl (U3 (by rw [c1]; omega))) (za0 (x := .str t) rfl rfl (U3 (by omega))) (Qp (by rw [c1]; omega))) (y := .str " )") rfl (Qp (by rw [jv, c1, c2]; omega)))
 have tst : gB (zf jg (gO (zw y6 (zh 1))) (gO (gC (.int 1)))) [.val (.str g), .val (.lst ws.objs), .val (.str (aK (" " ++ g ++ " ") ws.texts))] = .ok (decide ((ws.objs.length : Int) = 1)) [.val (.str g), .val (.lst ws.objs), .val (.str (aK (" " ++ g ++ " ") ws.texts))] := ZS (z9 (x := .int ws.objs.length) (y := .int 1) rfl rfl rfl)
 rw [ws.texts_is] at *
 generalize ws.wordss = ps at *
 match ps, wl, wn, ej, jl, tst with
 | [], wl, _, _, _, _ => simp at wl; omega
 | [p], wl, wn, ej, jl, tst =>
  rw [decide_eq_true (by rw [← wl]; rfl)] at tst
  rw [zeq (wn p ai)]
  rw [al, bB, YK] at *
  have e5 : zX 2 (zf yC (gO (zf yC (gO (zw Qb (gO (zw Qb (zh 0))))) (gO (gC (.str " "))))) (gO (zw Qb (zh 2)))) [.val (.str g), .val (.lst ws.objs), .val (.str (aK " " p))] = .ok .nx [.val (.str g), .val (.lst ws.objs), .val (.str (g ++ " " ++ aK " " p))] := zP (z9 (z9 (Jv (za0 (x := .str g) rfl rfl (U3 (by omega))) (U3 (by omega))) (y := .str " ") rfl (Qp (by rw [jP]; omega))) (za0 (x := .str (aK " " p)) rfl rfl (U3 (by omega))) (Qp (by rw [jv, jP]; omega)))
  exact yd (ρ := [.val (.str g), .val (.lst ws.objs), .val (.str (g ++ " " ++ aK " " p))]) rfl ((ze (zP ej)).trans ((ze ((yZ tst).trans e5)).trans (last _ (by rw [jv, jv, jP]; omega))))
 | p :: q :: r, wl, wn, ej, jl, tst =>
  rw [decide_eq_false (by rw [← wl]; simp only [ac]; omega)] at tst
  rw [VW wn]
  exact yd rfl ((ze (zP ej)).trans ((ze ((zK tst).trans rfl)).trans (last _ (by omega))))
def zix (n : Nat) : Prop := ∀ (w : W), w.Ok -> w.depth <= n -> w.parts <= 12 -> yJ (yh n) [.val w.obj] = .ok (.str w.text) []
theorem ZT {n : Nat} (ih : zix n) : ∀ (ws : WL) (s : Slot), ws.Ok -> ws.depth <= n -> ws.parts <= 12 -> ∃ s', yO (zr 0) yF (zB (yJ (yh n)) (gCons (zb 0) gNil)) ws.objs [s] = .ok (sL ws.texts) [s']
 | .nil, s, _, _, _ => ⟨s, rfl⟩
 | .cons w r, s, h, hd, hp => by
  simp only [WL.depth, WL.parts] at hd hp
  obtain ⟨s', e⟩ := ZT ih r (.val w.obj) h.2 (by omega) (by omega)
  exact ⟨s', jf rfl (y0 (a := zb 0) (x := w.obj) (ρ1 := [.val w.obj]) rfl (ih w h.1 (by omega) (by omega))) e⟩
theorem Wt : ∀ n, zix n
 | 0, w, _, hd, _ => by have := w.depth_pos; omega
 | n + 1, w, ho, hd, hp => by
  have ih := Wt n
  cases w with
  | pl p =>
   have e := ziw (p := p) ho
   have eq : YU (yh (n + 1)) [.val (W.pl p).obj] = zN (zB JN (gCons (zb 0) gNil)) [.val p.obj] := by cases p <;> rfl
   exact yd (ρ := [.val (W.pl p).obj]) rfl (eq.trans (z8 (y0 (a := zb 0) (x := p.obj) rfl e)))
  | bo ws =>
   simp only [W.depth, W.parts] at hd hp
   have e := VX (g := "&") (by decide +kernel) ho.1 ho.2.1 ho.2.2 (by omega) (ZT ih ws .no ho.1 (by omega) (by omega))
   exact yd (ρ := [.val (W.bo ws).obj]) rfl (y8 ((yZ (ρ1 := [.val (W.bo ws).obj]) rfl).trans (z8 (J3 (a := gC (.str "&")) (x := .str "&") rfl (JP (f := 6) (c := 15) (d := .lst ws.objs) rfl (by decide) rfl) e))))
  | ei ws =>
   simp only [W.depth, W.parts] at hd hp
   have e := VX (g := "|") (by decide +kernel) ho.1 ho.2.1 ho.2.2 (by omega) (ZT ih ws .no ho.1 (by omega) (by omega))
   exact yd (ρ := [.val (W.ei ws).obj]) rfl ((ze ((zK (ρ1 := [.val (W.ei ws).obj]) rfl).trans rfl)).trans (y8 ((yZ (ρ1 := [.val (W.ei ws).obj]) rfl).trans (z8 (J3 (a := gC (.str "|")) (x := .str "|") rfl (JP (f := 6) (c := 16) (d := .lst ws.objs) rfl (by decide) rfl) e)))))
  | th a b =>
   simp only [W.depth, W.parts] at hd hp
   have e := VX (g := ">") (ws := .cons a (.cons b .nil)) (by decide +kernel) ⟨ho.1, ho.2, trivial⟩ (by simp [WL.objs]) (by simp [WL.objs]) (by simp only [WL.parts]; omega) (ZT ih (.cons a (.cons b .nil)) .no ⟨ho.1, ho.2, trivial⟩ (by simp only [WL.depth]; omega) (by simp only [WL.parts]; omega))
   have f1 := JP (ρ := [.val (W.th a b).obj]) (i := 0) (f := 7) (c := 17) (d := a.obj) rfl (by decide) rfl
   have f2 := JP (ρ := [.val (W.th a b).obj]) (i := 0) (f := 8) (c := 17) (d := b.obj) rfl (by decide) rfl
   have e2 := Jc ((zu (r := gCons (zw (jx 8) (zh 0)) gNil) f1).trans (by rw [zu f2]; rfl)) (ds := [a.obj, b.obj]) (by simp)
   exact yd (ρ := [.val (W.th a b).obj]) rfl ((ze ((zK (ρ1 := [.val (W.th a b).obj]) rfl).trans rfl)).trans ((ze ((zK (ρ1 := [.val (W.th a b).obj]) rfl).trans rfl)).trans (y8 ((yZ (ρ1 := [.val (W.th a b).obj]) rfl).trans (z8 (J3 (a := gC (.str ">")) (x := .str ">") rfl e2 e))))))
namespace K61
theorem za4 {f : D -> D -> Option D} {i : Nat} {a : G D} {ρ ρ1 : Env} {x y d : D} (h1 : a ρ = .ok x ρ1) (h0 : zh i ρ1 = .ok (.v i) ρ1) (h2 : ρ1[i]? = some (.val y)) (h : f x y = some d) : zf f (gO a) (zh i) ρ = .ok d ρ1 := by
 unfold zf gO
 rw [h1]
 show O.bind (zh i ρ1) _ = _
 rw [h0]
 show jp (((Opd.v i).get ρ1).bind fun y => f x y) ρ1 = _
 rw [Uw, h2, JZ, aP, h]; rfl
theorem zkU {a b : G Bool} {ρ ρ1 : Env} (h : a ρ = .ok false ρ1) : Yi a b ρ = b ρ1 := by unfold Yi; rw [h]; rfl
theorem Wu {a : Str} : ZF (.str a) (.str a) = some (.bl false) := by simp only [ZF, Vq, cf, beq_self_eq_true, decide_true, cu]
theorem ziy {c : Nat} {F : Fn} {a : G D} {ρ ρ1 : Env} {x d : D} (h : a ρ = .ok x ρ1) (hF : F [.own (.obj c []), .val x] = .ok .non [d]) : j2 c F (gCons a gNil) ρ = .ok d ρ1 := by
 unfold j2
 rw [zu h]
 show Us (F [.own (.obj c []), .val x]) _ = _
 rw [hF]; rfl
theorem znK {c : Nat} {F : Fn} {a b : G D} {ρ ρ1 ρ2 : Env} {x y d : D} (h : a ρ = .ok x ρ1) (h2 : b ρ1 = .ok y ρ2) (hF : F [.own (.obj c []), .val x, .val y] = .ok .non [d]) : j2 c F (gCons a (gCons b gNil)) ρ = .ok d ρ2 := by
 unfold j2
 rw [zu h, zu h2]
 show Us (F [.own (.obj c []), .val x, .val y]) _ = _
 rw [hF]; rfl
theorem zes {w : W} (h : w.Ok) (hp : w.parts <= 12) : wt w.words + w.words.length * (aI " ").length <= 100000 := by
 have b := YL _ (w.short h)
 have c := w.words_len h
 rw [jP]; omega
theorem zkc (v : W) : (W.bo (.cons v (.cons v .nil))).text = "( " ++ v.text ++ " & " ++ v.text ++ " )" := by
 show aK " " (JH "&" [v.words, v.words]) = _
 rw [VW (fun x hx => by simp only [ar, aO, or_false, or_self] at hx; rw [hx]; exact v.words_ne), al, al, bB, Rh, YK, show (" " ++ "&" ++ " " : Str) = " & " by decide +kernel]
 show "( " ++ (v.text ++ " & " ++ v.text) ++ " )" = _
 simp only [Z4]
theorem ziz (v : W) : (W.th v (.ei (.cons v .nil))).text = "( " ++ v.text ++ " > ( | " ++ v.text ++ " ) )" := by
 show aK " " (JH ">" [v.words, JH "|" [v.words]]) = _
 rw [VW (fun x hx => by
  simp only [ar, aO, or_false] at hx
  rcases hx with rfl | rfl
  · exact v.words_ne
  · exact zfK _), al, al, bB, Rh, YK, zeq v.words_ne, show (" " ++ ">" ++ " " : Str) = " > " by decide +kernel, show (aI " > ( | ") = " > " ++ ("( " ++ ("|" ++ " ")) by decide +kernel, show (aI " ) )") = " )" ++ " )" by decide +kernel]
 show "( " ++ (v.text ++ " > " ++ ("( " ++ ("|" ++ " " ++ v.text) ++ " )")) ++ " )" = _
 simp only [Z4]
theorem znL {ρ : Env} {t : Str} {p q r : String} (h0 : zh 5 ρ = .ok (.v 5) ρ) (h : ρ[5]? = some (.val (.str t))) (ht : t.length <= 20000) (hp : (aI p).length <= 20) (hq : (aI q).length <= 20) (hr : (aI r).length <= 20) : zf yC (gO (zf yC (gO (zf yC (gO (zf yC (gO (gC (.str p))) (zh 5))) (gO (gC (.str q))))) (zh 5))) (gO (gC (.str r))) ρ = .ok (.str (aI p ++ t ++ q ++ t ++ r)) ρ :=
 z9 (za4 (z9 (za4 (a := gC (.str p)) (x := .str p) rfl h0 h (Qp (by omega))) (b := gC (.str q)) (y := .str q) rfl (Qp (by rw [jv]; omega))) h0 h (Qp (by rw [jv, jv]; omega))) (b := gC (.str r)) (y := .str r) rfl (Qp (by rw [jv, jv, jv]; omega))
def zet (ns : List Int) (ρ : Env) : Prop := ∃ s1 s2 s3 s4 s5 s6 s7, ρ = [.val (.fz ns), s1, s2, s3, s4, s5, s6, s7]
theorem zoa {ns : List Int} {s1 s2 s3 s4 s7 : Slot} {v : W} {xs : List Str} (hx : xs.length <= 5) (h : zbC v xs 2 5) : ∃ ρ', YV [.val (.fz ns), s1, s2, s3, s4, .val (.str v.text), .val v.obj, s7] = .ok .nx ρ' /\ zet ns ρ' := by
 obtain ⟨ho, hn, hd, hp⟩ := h
 have f2 : (W.bo (.cons v (.cons v .nil))).Fits xs := ⟨⟨⟨ho, ho, trivial⟩, by simp [WL.objs], by simp [WL.objs]⟩, fun x hx => by simp only [W.names, WL.names, aJ, aN, or_self] at hx; exact hn x hx, by simp only [W.depth, WL.depth]; omega, by simp only [W.parts, WL.parts]; omega⟩
 have f1 : (W.ei (.cons v .nil)).Fits xs := ⟨⟨⟨ho, trivial⟩, by simp [WL.objs], by simp [WL.objs]⟩, fun x hx => by simp only [W.names, WL.names, aJ] at hx; exact hn x hx, by simp only [W.depth, WL.depth]; omega, by simp only [W.parts, WL.parts]; omega⟩
 have f3 : (W.th v (.ei (.cons v .nil))).Fits xs := ⟨⟨ho, f1.ok⟩, fun x hx => by simp only [W.names, WL.names, aJ, aN, or_self] at hx; exact hn x hx, by simp only [W.depth, WL.depth]; omega, by simp only [W.parts, WL.parts]; omega⟩
 have tl := v.text_len ho
 have g1 := znL (ρ := [.val (.fz ns), s1, s2, s3, s4, .val (.str v.text), .val v.obj, s7]) (t := v.text) (p := "( ") (q := " & ") (r := " )") rfl rfl (by omega) (by decide +kernel) (by decide +kernel) (by decide +kernel)
 have g2 := znL (ρ := [.val (.fz ns), s1, s2, s3, s4, .val (.str v.text), .val v.obj, s7]) (t := v.text) (p := "( ") (q := " > ( | ") (r := " ) )") rfl rfl (by omega) (by decide +kernel) (by decide +kernel) (by decide +kernel)
 have m2 := ziy (c := 15) (F := jB) (ρ := [.val (.fz ns), s1, s2, s3, s4, .val (.str v.text), .val v.obj, s7]) (a := zT (gCons (zb 6) (gCons (zb 6) gNil))) (x := .lst [v.obj, v.obj]) rfl (VT (c := 15) (ws := .cons v (.cons v .nil)) (w := .bo (.cons v (.cons v .nil))) (by decide) rfl (by simp [WL.objs]) (by simp [WL.objs]) (Z3 f2 hx))
 have m1 := ziy (c := 16) (F := jB) (ρ := [.val (.fz ns), s1, s2, s3, s4, .val (.str v.text), .val v.obj, s7]) (a := zT (gCons (zb 6) gNil)) (x := .lst [v.obj]) rfl (VT (c := 16) (ws := .cons v .nil) (w := .ei (.cons v .nil)) (by decide) rfl (by simp [WL.objs]) (by simp [WL.objs]) (Z3 f1 hx))
 have m3 := znK (c := 17) (F := Qi) (ρ := [.val (.fz ns), s1, s2, s3, s4, .val (.str v.text), .val v.obj, s7]) (a := zb 6) (x := v.obj) rfl m1 (zfI (Z3 f3 hx))
 have t2 := ZS (z9 (f := ZF) (y0 m2 (Wt 6 _ f2.ok (by have := f2.deep; omega) f2.many)) g1 (by rw [zkc]; exact Wu))
 have t3 := ZS (z9 (f := ZF) (y0 m3 (Wt 6 _ f3.ok (by have := f3.deep; omega) f3.many)) g2 (by rw [ziz]; exact Wu))
 exact ⟨_, (ze ((zK t2).trans rfl)).trans ((zK t3).trans rfl), _, _, _, _, _, _, _, rfl⟩
theorem ziA {ns : List Int} {k o : D} {s5 s6 s7 : Slot} {w : W} {xs : List Str} (hw : yf o) (hx : Names xs) (h1 : 1 <= xs.length) (h5 : xs.length <= 5) (h : zbC w xs 4 12) : ∃ ρ', YW [.val (.fz ns), .val k, .own o, .val (.lst (sL xs)), .val w.told, s5, s6, s7] = .ok .nx ρ' /\ zet ns ρ' := by
 obtain ⟨ho, hn, hd, hp⟩ := h
 obtain ⟨v, o', hv, hw', ev⟩ := zbD 6 2 (by decide) (by decide) 5 o xs (by decide) (by decide) hw hx h1 h5
 have e1 := Qu (a := gC (.str " ")) (z := " ") (ρ := [.val (.fz ns), .val k, .own o, .val (.lst (sL xs)), .val w.told, s5, s6, s7]) rfl (y0 (a := zb 4) (x := w.told) rfl (RL 6 w ho (by omega) hp)) (zes ho hp)
 have m1 := zbB 6 w xs ⟨ho, hn, hd, hp⟩ h5 (by omega)
 have s1 := Wt 6 w ho (by omega) hp
 have ta := ZS (za4 (f := ZF) (i := 5) (ρ := [.val (.fz ns), .val k, .own o, .val (.lst (sL xs)), .val w.told, .val (.str w.text), .val w.obj, s7]) (y0 (a := zb 6) (x := w.obj) rfl s1) rfl rfl Wu)
 have tb := ZS (za4 (f := ZF) (i := 5) (ρ := [.val (.fz ns), .val k, .own o, .val (.lst (sL xs)), .val w.told, .val (.str w.text), .val w.obj, s7]) (y0 (y0 (a := zb 4) (x := w.told) rfl m1) s1) rfl rfl Wu)
 have t6 := (zkU ta).trans ((zkU ta).trans tb)
 have e7 := Yo (j := 2) (F := jE 6) (a := zb 3) (b := gC (.int 2)) (c := gC (.int 5)) (ρ := [.val (.fz ns), .val k, .own o, .val (.lst (sL xs)), .val w.told, .val (.str w.text), .val w.obj, s7]) (ρ4 := [.val (.fz ns), .val k, .own o', .val (.lst (sL xs)), .val w.told, .val (.str w.text), .val w.obj, s7]) rfl rfl rfl rfl rfl ev rfl
 have m2 := zbB 6 v xs ⟨hv.1, hv.2.1, by have := hv.2.2.1; omega, by have := hv.2.2.2; omega⟩ h5 (by have := hv.2.2.1; omega)
 have e8 := Qu (a := gC (.str " ")) (z := " ") (ρ := [.val (.fz ns), .val k, .own o', .val (.lst (sL xs)), .val w.told, .val (.str w.text), .val v.obj, .val v.told]) rfl (y0 (a := zb 7) (x := v.told) rfl (RL 6 v hv.1 (by have := hv.2.2.1; omega) (by have := hv.2.2.2; omega))) (zes hv.1 (by have := hv.2.2.2; omega))
 obtain ⟨ρ', e, hi⟩ := zoa (ns := ns) (s1 := .val k) (s2 := .own o') (s3 := .val (.lst (sL xs))) (s4 := .val w.told) (s7 := .val v.told) h5 hv
 refine ⟨ρ', ?_, hi⟩
 refine (ze (zP e1)).trans ?_
 refine (ze (zP (y0 (a := zb 4) (x := w.told) (ρ := [.val (.fz ns), .val k, .own o, .val (.lst (sL xs)), .val w.told, .val (.str w.text), s6, s7]) rfl m1))).trans ?_
 refine (ze ((zK t6).trans rfl)).trans ?_
 refine (ze (zP e7)).trans ?_
 refine (ze (zP (y0 (a := zb 7) (x := v.told) (ρ := [.val (.fz ns), .val k, .own o', .val (.lst (sL xs)), .val w.told, .val (.str w.text), .val w.obj, .val v.told]) rfl m2))).trans ?_
 exact (ze (zP e8)).trans e
theorem one {ns : List Int} {k : Int} {s2 s3 s4 s5 s6 s7 : Slot} (hk : 0 <= k) : ∃ ρ', QP [.val (.fz ns), .val (.int k), s2, s3, s4, s5, s6, s7] = .ok .nx ρ' /\ zet ns ρ' := by
 obtain ⟨i, ei⟩ := zgI (ns := ns) hk
 obtain ⟨o1, e1, w1⟩ := zlT (c := i + k)
 obtain ⟨xs, o2, e2, h1, h5, hx, w2⟩ := zj4 w1
 obtain ⟨w, o3, hw, w3, e3⟩ := zbD 6 4 (by decide) (by decide) 8 o2 xs (by decide) (by decide) w2 hx h1 h5
 obtain ⟨r, o4, e4, r0, r1, w4⟩ := yw w3 (n := 6) (by decide) (by decide)
 have a1 : j7 2 (zB Qr (gCons (zf jj (gO (zB Jn (gCons (zb 0) (gCons (zb 1) gNil)))) (zh 1)) gNil)) [.val (.fz ns), .val (.int k), s2, s3, s4, s5, s6, s7] = .ok .nx [.val (.fz ns), .val (.int k), .own o1, s3, s4, s5, s6, s7] := by
  unfold j7
  rw [y0 (za4 (f := jj) (i := 1) (J3 (a := zb 0) (b := zb 1) (ρ := [.val (.fz ns), .val (.int k), s2, s3, s4, s5, s6, s7]) (x := .fz ns) (y := .int k) rfl rfl ei) rfl rfl (d := .int (i + k)) rfl) e1]
  rfl
 have a2 := yo (j := 2) (F := QA) (a := gC (.int 5)) (ρ := [.val (.fz ns), .val (.int k), .own o1, s3, s4, s5, s6, s7]) (ρ2 := [.val (.fz ns), .val (.int k), .own o2, s3, s4, s5, s6, s7]) rfl rfl rfl e2 rfl
 have a3 := Yo (j := 2) (F := jE 6) (a := zb 3) (b := gC (.int 4)) (c := gC (.int 8)) (ρ := [.val (.fz ns), .val (.int k), .own o2, .val (.lst (sL xs)), s4, s5, s6, s7]) (ρ4 := [.val (.fz ns), .val (.int k), .own o3, .val (.lst (sL xs)), s4, s5, s6, s7]) rfl rfl rfl rfl rfl e3 rfl
 have a4 := yo (j := 2) (F := zp) (a := gC (.int 6)) (ρ := [.val (.fz ns), .val (.int k), .own o3, .val (.lst (sL xs)), .val w.told, s5, s6, s7]) (ρ2 := [.val (.fz ns), .val (.int k), .own o4, .val (.lst (sL xs)), .val w.told, s5, s6, s7]) rfl rfl rfl e4 rfl
 have a5 := ZS (z9 (f := jg) (b := gC (.int 0)) (y := .int 0) a4 rfl (show _ = some (D.bl (decide (r = 0))) from rfl))
 have hw' : zbC w xs 4 12 := ⟨hw.1, hw.2.1, hw.2.2.1, aM hw.2.2.2 (by decide)⟩
 by_cases hr : r = 0
 · rw [decide_eq_true hr] at a5
   obtain ⟨g, o5, hg, w5, e5⟩ := zka w4 hx h1 h5
   have a6 := yo (j := 2) (F := J1) (a := zb 3) (ρ := [.val (.fz ns), .val (.int k), .own o4, .val (.lst (sL xs)), .val w.told, s5, s6, s7]) (ρ2 := [.val (.fz ns), .val (.int k), .own o5, .val (.lst (sL xs)), .val w.told, s5, s6, s7]) rfl rfl rfl e5 rfl
   obtain ⟨ρ', e, hi⟩ := ziA (ns := ns) (k := .int k) (s5 := s5) (s6 := s6) (s7 := s7) w5 hx h1 h5 hg
   exact ⟨ρ', (ze a1).trans ((ze (zP a2)).trans ((ze (zP a3)).trans ((ze ((yZ a5).trans (zP a6))).trans e))), hi⟩
 · rw [decide_eq_false hr] at a5
   obtain ⟨ρ', e, hi⟩ := ziA (ns := ns) (k := .int k) (s5 := s5) (s6 := s6) (s7 := s7) w4 hx h1 h5 hw'
   exact ⟨ρ', (ze a1).trans ((ze (zP a2)).trans ((ze (zP a3)).trans ((ze ((zK a5).trans rfl)).trans e))), hi⟩
theorem zkV {ns : List Int} : ∀ (ds : List D) (ρ : Env), (∀ d ∈ ds, ∃ k : Int, 0 <= k /\ d = .int k) -> zet ns ρ -> ∃ ρ', jT (zr 1) QP ds ρ = .ok .nx ρ' /\ zet ns ρ'
 | [], ρ, _, h => ⟨ρ, rfl, h⟩
 | d :: r, ρ, hd, h => by
  obtain ⟨s1, s2, s3, s4, s5, s6, s7, rfl⟩ := h
  obtain ⟨k, hk, rfl⟩ := hd _ ai
  obtain ⟨ρ1, e1, h1⟩ := one (ns := ns) (k := k) (s2 := s2) (s3 := s3) (s4 := s4) (s5 := s5) (s6 := s6) (s7 := s7) hk
  obtain ⟨ρ', e, h'⟩ := zkV r ρ1 (fun x hx => hd x (ah _ hx)) h1
  refine ⟨ρ', ?_, h'⟩
  rw [Za rfl e1]
  exact e
theorem lawF : ∀ ns : List Int, ns.length <= 63 -> zcq [.val (.fz ns)] = .ok (.bl true) [] := fun ns hn => by
 have e0 : zf zaf (gO (gC (.int 1))) (gO (zf Ys (gO (gC (.int 6))) (gO (zw y6 (zh 0))))) [.val (.fz ns), .no, .no, .no, .no, .no, .no, .no] = .ok (.int (if (if (ns.length : Int) < 6 then (ns.length : Int) else 6) > 1 then (if (ns.length : Int) < 6 then (ns.length : Int) else 6) else 1)) [.val (.fz ns), .no, .no, .no, .no, .no, .no, .no] := z9 (a := gC (.int 1)) (x := .int 1) rfl (z9 (a := gC (.int 6)) (x := .int 6) (y := .int ns.length) rfl rfl rfl) rfl
 generalize hm : (if (if (ns.length : Int) < 6 then (ns.length : Int) else 6) > 1 then (if (ns.length : Int) < 6 then (ns.length : Int) else 6) else 1) = m at e0
 have hm6 : 1 <= m /\ m <= 6 := by subst hm; split <;> (try split) <;> omega
 have e1 := Jq (ds := [.int m]) ((zu (r := gNil) e0).trans rfl) (Zc (by omega))
 obtain ⟨ρ', e3, h3⟩ := zkV (ns := ns) (y9 0 m.toNat) [.val (.fz ns), .no, .no, .no, .no, .no, .no, .no] (fun d hd => by
  obtain ⟨i, _, rfl⟩ := zaM hd
  exact ⟨_, by omega, rfl⟩) ⟨_, _, _, _, _, _, _, rfl⟩
 refine yd (ρ := ρ') rfl ?_
 exact (ze ((Zd e1).trans e3)).trans rfl
end K61
end M
namespace W_k61
open PySem L2 M
def top (i : Nat) : Stmt := PySem.Challenge.pw_enoughsaid_k61_wishes_written.main.body.getD i (.Pass ⟨0, 0, 0, 0⟩)
structure yq (K : aj) (mg : Str -> Option Value) (cls : Nat -> Option Addr) (ad : Nat -> Addr) : Prop where
 GV : mg "int" = none
 AX : mg "len" = none
 Bh : mg "range" = none
 AV : mg "list" = none
 GO : mg "sum" = none
 GA : mg "min" = none
 CP : mg "str" = none
 AD : mg "isinstance" = none
 Gk : mg "all" = none
 GW : mg "set" = none
 Hb : mg "bool" = none
 GX : mg "tuple" = none
 GS : mg "sorted" = none
 GY : mg "max" = none
 Gm : ∃ t, mg "LONGEST_NAME" = some (.int 8 t)
 Gw : ∃ t, mg "MOST_LISTED" = some (.int 5 t)
 Gx : ∃ t, mg "MOST_WEIGHT" = some (.int 1000000000 t)
 GB : ∃ t, mg "MOST_NAMES" = some (.int 5 t)
 GL : ∃ t, mg "MOST_DEEP" = some (.int 4 t)
 GC : ∃ t, mg "MOST_PARTS" = some (.int 12 t)
 CO : QY ⟨K, cls⟩ (yP 0)
 CQ : QY ⟨K, cls⟩ (yP 1)
 El : QY ⟨K, cls⟩ (yP 2)
 CS : QY ⟨K, cls⟩ (yP 3)
 BZ : QY ⟨K, cls⟩ (yP 5)
 AT : QY ⟨K, cls⟩ (yP 6)
 ED : QY ⟨K, cls⟩ (yP 7)
 CT : QY ⟨K, cls⟩ (yP 8)
 Fj : QY ⟨K, cls⟩ (yP 4)
 Gy : mg "Count" = some (.ref (ad 12))
 Gz : mg "Weigh" = some (.ref (ad 13))
 GP : mg "Houses" = some (.ref (ad 14))
 GM : mg "Both" = some (.ref (ad 15))
 Gn : mg "Either" = some (.ref (ad 16))
 GN : mg "Then" = some (.ref (ad 17))
 AA : IsO K cls [ad 12, ad 13, ad 14, ad 15, ad 16, ad 17] (QU [12, 13, 14, 15, 16, 17])
 FN : zby K cls (ad 12) (QU [12])
 FO : zby K cls (ad 13) (QU [13])
 Go : zby K cls (ad 15) (QU [15])
 Fp : zby K cls (ad 16) (QU [16])
 Gp : zby K cls (ad 17) (QU [17])
local macro_rules | `(tactic| walk_at "s") => `(tactic| exact ⟨rfl, rfl, rfl, by decide +kernel, rfl, by decide +kernel, by decide +kernel⟩)
set_option hygiene false
local macro_rules | `(tactic| walk_at "p") => `(tactic| rcases sp _ _ hc with ⟨rfl, rfl⟩ | ⟨rfl, rfl⟩ | ⟨rfl, rfl⟩ | ⟨rfl, rfl⟩ | ⟨rfl, rfl⟩ | ⟨rfl, rfl⟩)
local macro_rules | `(tactic| walk_at "t") => `(tactic| cases zU hF (e := rfl))
local macro_rules | `(tactic| walk_at "q") => `(tactic| rcases sp _ _ h with ⟨rfl, rfl⟩ | ⟨rfl, rfl⟩ | ⟨rfl, rfl⟩ | ⟨rfl, rfl⟩ | ⟨rfl, rfl⟩ | ⟨rfl, rfl⟩)
section
variable {P : Program} {w : World} {K : aj} {mg : Str -> Option Value} {base : Heap} {cls : Nat -> Option Addr} {ad : Nat -> Addr} {f : Addr} {fd : FuncData}
theorem ziB : zE ["_law_cell"] ["_law_cell"] (zv (top 35)) := by walk_at "s"
theorem zkd (F : Fun K "_law_well" "_law_well" (top 35) f fd) (M : yq K mg cls ad) : FnOk P w K mg base yD 1 f fd ["_law_cell"] (yr ⟨K, cls⟩ [] true 1 (zo Qr)) := by
 have sc := ziB
 exact yy F sc rfl fun c A o s H E hr => ⟨_, (zk (zlJ (z6 (za (zH (zc (zD (z6 (za zi (za (zG 0) zd))))) (zc (zlH rfl M.GV (zc (Vs znR zn3 (zj 0) (zc (zds (zc zi) (zc zi))) (yb _))))) (fun _ _ => rfl)) (za (Ye (zj 0) (zc zi)) (za zi zd)))))), by unfold Ry; infer_instance⟩
theorem zeu : zE ["_law_script", "_law_k"] ["_law_script", "_law_k"] (zv (top 34)) := by walk_at "s"
theorem zeH (F : Fun K "_law_cell_at" "_law_cell_at" (top 34) f fd) (M : yq K mg cls ad) : FnOk P w K mg base yD 1 f fd ["_law_script", "_law_k"] (yr ⟨K, cls⟩ [] false 2 (zo Jn)) := by
 have sc := zeu
 exact yy F sc rfl fun c A o s H E hr => ⟨_, (zg (yI (yE zfO zgl (zj 1) (zc (jL rfl M.AX (zj 0))) (yb _))
  (zk (zC (zH (zj 0) (zj 1) (fun _ _ => rfl))))
  z3)
 (zk (zC zi))), by unfold YQ; infer_instance⟩
theorem ziC : zE ["_law_well_here", "_law_base", "_law_digit", "_law_number"] ["_law_well_here", "_law_base"] (zv (top 36)) := by walk_at "s"
theorem zke (F : Fun K "_law_draw" "_law_draw" (top 36) f fd) (M : yq K mg cls ad) : FnOk P w K mg base yD 1 f fd ["_law_well_here", "_law_base"] (yr ⟨K, cls⟩ [0] false 2 (zo zp)) := by
 have sc := ziC
 exact yy F sc rfl fun c A o s H E hr => ⟨_, (zg (yI (yE znQ zn2 (zc (zH (zj 0) (zc zi) (fun _ _ => rfl))) (zc zi) (yb _))
  (zg (zV (i := 2) (by decide) sc.nd rfl (Or.inl rfl) (Ye (zc (zH (zj 0) (zc zi) (fun _ _ => rfl))) (zj 1)))
 (zg (zdt 0 (Q5 (zc (zH (zj 0) (zc zi) (fun _ _ => rfl))) (zj 1)) zi)
 (zk (zC (zG 2)))))
  z3)
 (zg (zdt 0 (jz (zc (zH (zj 0) (zc zi) (fun _ _ => rfl))) (zc zi)) zi)
 (zg (zV (i := 3) (by decide) sc.nd rfl (Or.inl rfl) (Ye (zc (zac (zc (jz (zc (jz (zc (zH (zj 0) (zc zi) (fun _ _ => rfl))) (zc (zac (zc zi) (zc (zH (zj 0) (zc zi) (fun _ _ => rfl))))))) (zc zi))) (zc zi))) (zc zi)))
 (zg (zV (i := 3) (by decide) sc.nd rfl (Or.inl rfl) (Ye (zc (zac (zj 3) (zc (jz (zc (Q5 (zj 3) (zc zi))) (zc zi))))) (zc zi)))
 (zk (zC (Ye (zc (Ye (zc (zac (zj 3) (zc (jz (zc (Q5 (zj 3) (zc zi))) (zc zi))))) (zc zi))) (zj 1)))))))), by unfold Rz UI UH UG UF UE; infer_instance⟩
theorem ziD : zE ["_law_well_here", "_law_last", "_law_letters", "_law_word_here", "_law_k"] ["_law_well_here", "_law_last"] (zv (top 37)) := by walk_at "s"
theorem zkf (F : Fun K "_law_word" "_law_word" (top 37) f fd) (M : yq K mg cls ad) (Ah : HM P w K mg base cls "_law_draw" 1 ["_law_well_here", "_law_base"] [0] false (zo zp)) : FnOk P w K mg base yD 2 f fd ["_law_well_here", "_law_last"] (yr ⟨K, cls⟩ [0] false 2 (zo Qs)) := by
 have sc := ziD
 exact yy F sc rfl fun c A o s H E hr => ⟨_, (zg (zV (i := 2) (by decide) sc.nd rfl (Or.inl rfl) zy)
 (zg (zV (i := 3) (by decide) sc.nd rfl (Or.inl rfl) zy)
 (zg (QG bK rfl (Je rfl M.Bh (za (zF (j := 0) Ah (hr.mono (by omega)) rfl (za zi zd)) zd)) (zR (i := 4) (by decide) sc.nd rfl (Or.inl rfl))
  (zk (zV (i := 3) (by decide) sc.nd rfl (Or.inl rfl) (Ja (zj 3) (zc (zH (zj 2) (zc (zF (j := 0) Ah (hr.mono (by omega)) rfl (za zi zd))) (fun _ _ => rfl)))))))
 (zk (zC (Ja (zj 3) (zc (zH (zj 2) (zc (Ye (zj 1) (zc zi))) (fun _ _ => rfl))))))))), by unfold RA UK UJ ZO; infer_instance⟩
theorem zgV : zE ["_law_well_here", "_law_most", "_law_some_here", "_law_first"] ["_law_well_here", "_law_most"] (zv (top 38)) := by walk_at "s"
theorem ziE (F : Fun K "_law_names" "_law_names" (top 38) f fd) (M : yq K mg cls ad) (Ah : HM P w K mg base cls "_law_draw" 1 ["_law_well_here", "_law_base"] [0] false (zo zp)) (Fq : HM P w K mg base cls "_law_word" 2 ["_law_well_here", "_law_last"] [0] false (zo Qs)) : FnOk P w K mg base yD 3 f fd ["_law_well_here", "_law_most"] (yr ⟨K, cls⟩ [0] false 2 (zo QA)) := by
 have sc := zgV
 exact yy F sc rfl fun c A o s H E hr => ⟨_, (zg (zV (i := 2) (by decide) sc.nd rfl (Or.inl rfl) (zD (z6 (zlG (ss := ["count", "a", "weigh", "ab", "houses"]) (by kernel_rfl)))))
 (zg (yI (yE jX jY (zc (zF (j := 0) Ah (hr.mono (by omega)) rfl (za zi zd))) (zc zi) (yb _))
  (zg (zV (i := 3) (by decide) sc.nd rfl (Or.inr rfl) (zF (j := 0) Ah (hr.mono (by omega)) rfl (za zi zd)))
 (zk (Wn (i := 2) (by decide) rfl sc.nd rfl rfl (CompOk.of_b (N' := ["_law_k", "_law_well_here", "_law_first"]) (js := [none, some 0, some 3]) rfl (by kernel_rfl)) (by decide) (Je rfl M.Bh (za zi zd)) (fun _ _ _ _ _ => (zR (i := 0) (by decide) (show (["_law_k", "_law_well_here", "_law_first"] : List Str).Nodup by decide +kernel) rfl (Or.inl rfl) (Or.inr rfl))) (fun _ _ _ _ _ => yv) (fun _ _ _ _ _ => (zF (j := 1) Fq (hr.mono (by omega)) rfl (za (jz (zj 2) (zj 0)) zd))))))
  z3)
 (zk (zC (zD (zhN (zj 2) ze7 (ze8 (jz (zc zi) (zc (zF (j := 0) Ah (hr.mono (by omega)) rfl (za (zG 1) zd))))))))))), by unfold zch WR Zn WQ; infer_instance⟩
theorem ziF : zE ["_law_well_here", "_law_names_here", "_law_left", "_law_found", "_law_k"] ["_law_well_here", "_law_names_here"] (zv (top 39)) := by walk_at "s"
theorem zkg (F : Fun K "_law_some" "_law_some" (top 39) f fd) (M : yq K mg cls ad) (Ah : HM P w K mg base cls "_law_draw" 1 ["_law_well_here", "_law_base"] [0] false (zo zp)) : FnOk P w K mg base yD 2 f fd ["_law_well_here", "_law_names_here"] (yr ⟨K, cls⟩ [0] false 2 (zo Jo)) := by
 have sc := ziF
 exact yy F sc rfl fun c A o s H E hr => ⟨_, (zg (Zs (i := 2) (by decide) sc.nd rfl (Or.inl rfl) (j6 rfl M.AV (zj 1)))
 (zg (Zs (i := 3) (by decide) sc.nd rfl (Or.inl rfl) (z6 zd))
 (zg (QG bK rfl (Je rfl M.Bh (za (jz (zc zi) (zc (zF (j := 0) Ah (hr.mono (by omega)) rfl (za (jL rfl M.AX (zj 1)) zd)))) zd)) (zR (i := 4) (by decide) sc.nd rfl (Or.inl rfl))
  (zk (yu (zb5 3 (zno 2 (zF (j := 0) Ah (hr.mono (by omega)) rfl (za (jL rfl M.AX (zj 2)) zd)))))))
 (zk (zC (dv 3 (by decide))))))), by unfold RB UM UL; infer_instance⟩
theorem ziG : zE ["_law_well_here", "_law_names_here", "_law_chance", "_law_some_here", "_law_pairs", "_law_name", "_law_some_weights", "_law_total", "_law_houses", "_law_least"] ["_law_well_here", "_law_names_here"] (zv (top 40)) := by walk_at "s"
theorem zkh (F : Fun K "_law_leaf" "_law_leaf" (top 40) f fd) (M : yq K mg cls ad) (Ah : HM P w K mg base cls "_law_draw" 1 ["_law_well_here", "_law_base"] [0] false (zo zp)) (Em : HM P w K mg base cls "_law_some" 2 ["_law_well_here", "_law_names_here"] [0] false (zo Jo)) : FnOk P w K mg base yD 3 f fd ["_law_well_here", "_law_names_here"] (yr ⟨K, cls⟩ [0] false 2 (zo yz)) := by
 have sc := ziG
 exact yy F sc rfl fun c A o s H E hr => ⟨_, (zg (zV (i := 2) (by decide) sc.nd rfl (Or.inl rfl) (zF (j := 0) Ah (hr.mono (by omega)) rfl (za zi zd)))
 (zg (zV (i := 3) (by decide) sc.nd rfl (Or.inl rfl) (zF (j := 0) Em (hr.mono (by omega)) rfl (za (zG 1) zd)))
 (zg (yI (yE jX jY (zj 2) (zc zi) (yb _))
  (zk (zC (JX (za zy (za (jz (zc zi) (zc (zF (j := 0) Ah (hr.mono (by omega)) rfl (za (jL rfl M.AX (zj 3)) zd)))) (za (zG 3) zd))))))
  z3)
 (zg (yI (yE jX jY (zj 2) (zc zi) (yb _))
  (zg (Zs (i := 4) (by decide) sc.nd rfl (Or.inl rfl) (z6 zd))
 (zg (QG bK rfl (yB (zG 3)) (zR (i := 5) (by decide) sc.nd rfl (Or.inl rfl))
  (zg (zV (i := 6) (by decide) sc.nd rfl (Or.inl rfl) (zD (z6 (za (jz (zc zi) (zc (zF (j := 0) Ah (hr.mono (by omega)) rfl (za zi zd)))) (za (jz (zc zi) (zc (zF (j := 0) Ah (hr.mono (by omega)) rfl (za (zds (zc zi) (zc zi)) zd)))) (za (zds (zc zi) (zc zi)) zd))))))
 (zk (yu (zb5 4 (JX (za (zG 5) (za (zH (zj 6) (zc (zF (j := 0) Ah (hr.mono (by omega)) rfl (za zi zd))) (fun _ _ => rfl)) zd))))))))
 (zg (zV (i := 7) (by decide) sc.nd rfl (Or.inl rfl) (zdW rfl rfl M.GO (zc (zD (yR rfl (CompOk.of_b (N' := ["_law_name", "_law_weight"]) (js := [none, none]) rfl (by kernel_rfl)) (by decide) (yB (dv 4 (by decide))) (fun _ _ _ _ _ => (zhO (n := 2) rfl (Um (zR (i := 0) (by decide) (show (["_law_name", "_law_weight"] : List Str).Nodup by decide +kernel) rfl (Or.inl rfl) (Or.inr rfl)) (Um (zR (i := 1) (by decide) (show (["_law_name", "_law_weight"] : List Str).Nodup by decide +kernel) rfl (Or.inl rfl) (Or.inr rfl)) ze_)))) (fun _ _ _ _ _ => yv) (fun _ _ _ _ _ => (zG 1)))))))
 (zk (zC (JX (za zy (za (zH (zc (zD (z6 (za (jz (zc zi) (zc (zF (j := 0) Ah (hr.mono (by omega)) rfl (za (zG 7) zd)))) (za (zG 7) zd))))) (zc (zF (j := 0) Ah (hr.mono (by omega)) rfl (za zi zd))) (fun _ _ => rfl)) (za (dv 4 (by decide)) zd)))))))))
  z3)
 (zg (zV (i := 8) (by decide) sc.nd rfl (Or.inl rfl) (zD (Js (zc (zD (z6 (za (zG 3) zd)))) (zc (zD (yR rfl (CompOk.of_b (N' := ["_law_k", "_law_well_here", "_law_names_here"]) (js := [none, some 0, some 1]) rfl (by kernel_rfl)) (by decide) (Je rfl M.Bh (za (zF (j := 0) Ah (hr.mono (by omega)) rfl (za zi zd)) zd)) (fun _ _ _ _ _ => (zR (i := 0) (by decide) (show (["_law_k", "_law_well_here", "_law_names_here"] : List Str).Nodup by decide +kernel) rfl (Or.inl rfl) (Or.inr rfl))) (fun _ _ _ _ _ => yv) (fun _ _ _ _ _ => (zF (j := 1) Em (hr.mono (by omega)) rfl (za (zG 2) zd)))))))))
 (zg (zV (i := 9) (by decide) sc.nd rfl (Or.inl rfl) (zfs rfl rfl M.GA (zc (zD (yR rfl (CompOk.of_b (N' := ["_law_house"]) (js := [none]) rfl (by kernel_rfl)) (by decide) (yB (zG 8)) (fun _ _ _ _ _ => (zR (i := 0) (by decide) (show (["_law_house"] : List Str).Nodup by decide +kernel) rfl (Or.inl rfl) (Or.inr rfl))) (fun _ _ _ _ _ => yv) (fun _ _ _ _ _ => (jL rfl M.AX (zj 0))))))))
 (zk (zC (JX (za zy (za (jz (zc zi) (zc (zF (j := 0) Ah (hr.mono (by omega)) rfl (za (jL rfl M.AX (zj 8)) zd)))) (za (jz (zc zi) (zc (zF (j := 0) Ah (hr.mono (by omega)) rfl (za (zG 9) zd)))) (za (zG 8) zd))))))))))))), by unfold zd1 WT WS zar UP UO ZQ ZP zaq UN QL zap; infer_instance⟩
theorem ziH : zE ["_law_well_here", "_law_names_here", "_law_deep", "_law_budget", "_law_chance", "_law_one", "_law_many", "_law_parts"] ["_law_well_here", "_law_names_here", "_law_deep", "_law_budget"] (zv (top 41)) := by walk_at "s"
theorem zki (F : Fun K "_law_tree" "_law_tree" (top 41) f fd) (M : yq K mg cls ad) {n : Nat} {R : Fn} (Ah : HM P w K mg base cls "_law_draw" 1 ["_law_well_here", "_law_base"] [0] false (zo zp)) (AR : HM P w K mg base cls "_law_leaf" 3 ["_law_well_here", "_law_names_here"] [0] false (zo yz)) (AS : HM P w K mg base cls "_law_tree" (3 + 1 * n) ["_law_well_here", "_law_names_here", "_law_deep", "_law_budget"] [0] false (zo R)) : FnOk P w K mg base yD (3 + 1 * n + 0 + 1) f fd ["_law_well_here", "_law_names_here", "_law_deep", "_law_budget"] (yr ⟨K, cls⟩ [0] false 4 (zo (zQ [0] 4 4 false (UQ R)))) := by
 have sc := ziH
 exact yy F sc rfl fun c A o s H E hr => ⟨_, (zg (yI (zgm (Wl (yE zfO zgl (zj 2) (zc zi) (yb _)) (Wl (yE zfO zgl (zj 3) (zc zi) (yb _)) (zad (yE jX jY (zc (zF (j := 0) Ah (hr.mono (by omega)) rfl (za zi zd))) (zc zi) (yb _))))))
  (zk (zC (zF (j := 0) AR (hr.mono (by omega)) rfl (za (zG 1) zd))))
  z3)
 (zg (zV (i := 4) (by decide) sc.nd rfl (Or.inl rfl) (zF (j := 0) Ah (hr.mono (by omega)) rfl (za zi zd)))
 (zg (yI (yE jX jY (zj 4) (zc zi) (yb _))
  (zg (zV (i := 5) (by decide) sc.nd rfl (Or.inl rfl) (zF (j := 0) AS (hr.mono (by omega)) rfl (za (zG 1) (za (Yd (zj 2) (zc zi)) (za (Q5 (zc (Yd (zj 3) (zc zi))) (zc zi)) zd)))))
 (zk (zC (JX (za zy (za (zD (z6 (za (zG 5) (za (zF (j := 0) AS (hr.mono (by omega)) rfl (za (zG 1) (za (Yd (zj 2) (zc zi)) (za (Q5 (zc (Yd (zj 3) (zc zi))) (zc zi)) zd)))) zd)))) zd))))))
  z3)
 (zg (zV (i := 6) (by decide) sc.nd rfl (Or.inr rfl) (jz (zc zi) (zc (zF (j := 0) Ah (hr.mono (by omega)) rfl (za (ze9 rfl rfl M.GA (zc zi) (zc (Yd (zj 3) (zc zi)))) zd)))))
 (zg (Wn (i := 7) (by decide) rfl sc.nd rfl rfl (CompOk.of_b (N' := ["_law_k", "_law_well_here", "_law_names_here", "_law_deep", "_law_many", "_law_budget"]) (js := [none, some 0, some 1, some 2, some 6, some 3]) rfl (by kernel_rfl)) (by decide) (Je rfl M.Bh (za (zG 6) zd)) (fun _ _ _ _ _ => (zR (i := 0) (by decide) (show (["_law_k", "_law_well_here", "_law_names_here", "_law_deep", "_law_many", "_law_budget"] : List Str).Nodup by decide +kernel) rfl (Or.inl rfl) (Or.inr rfl))) (fun _ _ _ _ _ => yv) (fun _ _ _ _ _ => (zF (j := 1) AS (hr.mono (by omega)) rfl (za (zG 2) (za (Yd (zj 3) (zc zi)) (za (Q5 (zc (Yd (zj 5) (zc zi))) (zj 4)) zd))))))
 (zk (zC (JX (za (zH (zc (zD (z6 (za zy (za zy zd))))) (zj 4) (fun _ _ => rfl)) (za (zG 7) zd)))))))))), by unfold UQ zax zaw zav zau zat zas; infer_instance⟩
theorem zgW : zE ["_law_well_here", "_law_names_here", "_law_wide", "_law_found", "_law_k", "_law_chance"] ["_law_well_here", "_law_names_here"] (zv (top 42)) := by walk_at "s"
theorem ziI (F : Fun K "_law_great" "_law_great" (top 42) f fd) (M : yq K mg cls ad) (Ah : HM P w K mg base cls "_law_draw" 1 ["_law_well_here", "_law_base"] [0] false (zo zp)) (AR : HM P w K mg base cls "_law_leaf" 3 ["_law_well_here", "_law_names_here"] [0] false (zo yz)) : FnOk P w K mg base yD 4 f fd ["_law_well_here", "_law_names_here"] (yr ⟨K, cls⟩ [0] false 2 (zo J1)) := by
 have sc := zgW
 exact yy F sc rfl fun c A o s H E hr => ⟨_, (zg (yI (yE jX jY (zc (zF (j := 0) Ah (hr.mono (by omega)) rfl (za zi zd))) (zc zi) (yb _))
  (zg (zV (i := 2) (by decide) sc.nd rfl (Or.inl rfl) (JX (za zy (za (zD (yR rfl (CompOk.of_b (N' := ["_law_k", "_law_well_here", "_law_names_here"]) (js := [none, some 0, some 1]) rfl (by kernel_rfl)) (by decide) (Je rfl M.Bh (za zi zd)) (fun _ _ _ _ _ => (zR (i := 0) (by decide) (show (["_law_k", "_law_well_here", "_law_names_here"] : List Str).Nodup by decide +kernel) rfl (Or.inl rfl) (Or.inr rfl))) (fun _ _ _ _ _ => yv) (fun _ _ _ _ _ => (zF (j := 1) AR (hr.mono (by omega)) rfl (za (zG 2) zd))))) zd))))
 (zk (zC (JX (za zy (za (zD (z6 (za (zG 2) (za (JX (za (zH (zc (zD (z6 (za zy (za zy zd))))) (zc (zF (j := 0) Ah (hr.mono (by omega)) rfl (za zi zd))) (fun _ _ => rfl)) (za (zD (yR rfl (CompOk.of_b (N' := ["_law_k", "_law_well_here", "_law_names_here"]) (js := [none, some 0, some 1]) rfl (by kernel_rfl)) (by decide) (Je rfl M.Bh (za zi zd)) (fun _ _ _ _ _ => (zR (i := 0) (by decide) (show (["_law_k", "_law_well_here", "_law_names_here"] : List Str).Nodup by decide +kernel) rfl (Or.inl rfl) (Or.inr rfl))) (fun _ _ _ _ _ => yv) (fun _ _ _ _ _ => (zF (j := 1) AR (hr.mono (by omega)) rfl (za (zG 2) zd))))) zd))) zd)))) zd))))))
  z3)
 (zg (zV (i := 3) (by decide) sc.nd rfl (Or.inl rfl) (zF (j := 0) AR (hr.mono (by omega)) rfl (za (zG 1) zd)))
 (zg (QG bK rfl (Je rfl M.Bh (za zi zd)) (zR (i := 4) (by decide) sc.nd rfl (Or.inl rfl))
  (zg (zV (i := 5) (by decide) sc.nd rfl (Or.inl rfl) (zF (j := 0) Ah (hr.mono (by omega)) rfl (za zi zd)))
 (zk (yI (yE jX jY (zj 5) (zc zi) (yb _))
  (zk (zV (i := 3) (by decide) sc.nd rfl (Or.inl rfl) (JX (za zy (za (zH (zc (zD (z6 (za (zD (z6 (za (zG 3) (za (zF (j := 0) AR (hr.mono (by omega)) rfl (za (zG 1) zd)) zd)))) (za (zD (z6 (za (zF (j := 0) AR (hr.mono (by omega)) rfl (za (zG 1) zd)) (za (zG 3) zd)))) zd))))) (zc (zF (j := 0) Ah (hr.mono (by omega)) rfl (za zi zd))) (fun _ _ => rfl)) zd)))))
  (zk (zV (i := 3) (by decide) sc.nd rfl (Or.inl rfl) (JX (za (zH (zc (zD (z6 (za zy (za zy zd))))) (zj 5) (fun _ _ => rfl)) (za (zD (z6 (za (zG 3) zd))) zd)))))))))
 (zk (zC (zG 3)))))), by unfold zci WX WW JM WV WU; infer_instance⟩
theorem zev : zE ["_law_parts", "_law_sign", "_law_found", "_law_part"] ["_law_parts", "_law_sign"] (zv (top 44)) := by walk_at "s"
theorem zeI (F : Fun K "_law_between" "_law_between" (top 44) f fd) (M : yq K mg cls ad) : FnOk P w K mg base yD 1 f fd ["_law_parts", "_law_sign"] (yr ⟨K, cls⟩ [] false 2 (zo j3)) := by
 have sc := zev
 exact yy F sc rfl fun c A o s H E hr => ⟨_, (zg (zV (i := 2) (by decide) sc.nd rfl (Or.inl rfl) (zD (j6 rfl M.AV (zc (zH (zj 0) (zc zi) (fun _ _ => rfl))))))
 (zg (QG bK rfl (yB (zD (zhN (zj 0) (ze8 zi) ze7))) (zR (i := 3) (by decide) sc.nd rfl (Or.inl rfl))
  (zk (zV (i := 2) (by decide) sc.nd rfl (Or.inl rfl) (zD (Js (zc (zD (Js (zj 2) (zc (zD (z6 (za (zG 1) zd))))))) (zj 3))))))
 (zk (zC (zG 2))))), by unfold WY U7 Qn; infer_instance⟩
theorem zgX : zE ["_law_tree_here", "_law_found", "_law_name", "_law_weight", "_law_parts"] ["_law_tree_here"] (zv (top 45)) := by walk_at "s"
theorem ziJ (F : Fun K "_law_words" "_law_words" (top 45) f fd) (M : yq K mg cls ad) {n : Nat} {R : Fn} (BX : HM P w K mg base cls "_law_between" 1 ["_law_parts", "_law_sign"] [] false (zo j3)) (AU : HM P w K mg base cls "_law_words" (1 + 1 * n) ["_law_tree_here"] [] false (zo R)) : FnOk P w K mg base yD (1 + 1 * n + 0 + 1) f fd ["_law_tree_here"] (yr ⟨K, cls⟩ [] false 1 (zo (zQ [] 1 4 false (YB R)))) := by
 have sc := zgX
 exact yy F sc rfl fun c A o s H E hr => ⟨_, (zg (yI (yE jX jY (zc (zH (zj 0) (zc zi) (fun _ _ => rfl))) (zc zy) (yb _))
  (zk (zC (zD (Js (zc (zD (z6 (za zy (za (JL rfl M.CP (zc (zH (zj 0) (zc zi) (fun _ _ => rfl)))) zd))))) (zc (zH (zj 0) (zc zi) (fun _ _ => rfl)))))))
  z3)
 (zg (yI (yE jX jY (zc (zH (zj 0) (zc zi) (fun _ _ => rfl))) (zc zy) (yb _))
  (zg (zV (i := 1) (by decide) sc.nd rfl (Or.inl rfl) (zD (z6 (za zy (za (JL rfl M.CP (zc (zH (zj 0) (zc zi) (fun _ _ => rfl)))) zd)))))
 (zg (QG bK rfl (yB (zH (zj 0) (zc zi) (fun _ _ => rfl))) (zhO (n := 2) rfl (Um (zR (i := 2) (by decide) sc.nd rfl (Or.inl rfl)) (Um (zR (i := 3) (by decide) sc.nd rfl (Or.inl rfl)) ze_)))
  (zk (zV (i := 1) (by decide) sc.nd rfl (Or.inl rfl) (zD (Js (zj 1) (zc (zD (z6 (za (zG 2) (za (JL rfl M.CP (zj 3)) zd))))))))))
 (zk (zC (zG 1)))))
  z3)
 (zg (yI (yE jX jY (zc (zH (zj 0) (zc zi) (fun _ _ => rfl))) (zc zy) (yb _))
  (zk (zC (zD (Js (zc (zD (z6 (za zy (za (JL rfl M.CP (zc (zH (zj 0) (zc zi) (fun _ _ => rfl)))) (za (JL rfl M.CP (zc (zH (zj 0) (zc zi) (fun _ _ => rfl)))) zd)))))) (zc (zA BX (hr.mono (by omega)) rfl (za (zH (zj 0) (zc zi) (fun _ _ => rfl)) (za zy zd))))))))
  z3)
 (zg (Wn (i := 4) (by decide) rfl sc.nd rfl rfl (CompOk.of_b (N' := ["_law_part"]) (js := [none]) rfl (by kernel_rfl)) (by decide) (yB (zH (zj 0) (zc zi) (fun _ _ => rfl))) (fun _ _ _ _ _ => (zR (i := 0) (by decide) (show (["_law_part"] : List Str).Nodup by decide +kernel) rfl (Or.inl rfl) (Or.inr rfl))) (fun _ _ _ _ _ => yv) (fun _ _ _ _ _ => (zA AU (hr.mono (by omega)) rfl (za (zG 0) zd))))
 (zg (yI (yE jX jY (zc (jL rfl M.AX (zj 4))) (zc zi) (yb _))
  (zk (zC (zD (Js (zc (zD (Js (zc (zD (z6 (za zy (za (zH (zj 0) (zc zi) (fun _ _ => rfl)) zd))))) (zc (zH (zj 4) (zc zi) (fun _ _ => rfl)))))) (zc (zD (z6 (za zy zd))))))))
  z3)
 (zk (zC (zD (Js (zc (zD (Js (zc (zD (z6 (za zy zd)))) (zc (zA BX (hr.mono (by omega)) rfl (za (zG 4) (za (zH (zj 0) (zc zi) (fun _ _ => rfl)) zd))))))) (zc (zD (z6 (za zy zd))))))))))))), by unfold YB W2 W1 YS YR W0 WZ Zo; infer_instance⟩
theorem ziK : zE ["right", "words"] ["right", "words"] (zv (top 19)) := by walk_at "s"
theorem zkj (F : Fun K "demand" "demand" (top 19) f fd) (M : yq K mg cls ad) : FnOk P w K mg base yD 1 f fd ["right", "words"] (yr ⟨K, cls⟩ [] false 2 (zo z4)) := by
 have sc := ziK
 exact yy F sc rfl fun c A o s H E hr => ⟨_, (zk (yI (Vt (zni (zj 0)))
  (zk zjB)
  z3)), by unfold RC; infer_instance⟩
theorem zgY : zE ["thing"] ["thing"] (zv (top 12)) := by walk_at "s"
theorem ziL (F : Fun K "is_name" "is_name" (top 12) f fd) (M : yq K mg cls ad) : FnOk P w K mg base yD 1 f fd ["thing"] (yr ⟨K, cls⟩ [] false 1 (zo jM)) := by
 have sc := zgY
 exact yy F sc rfl fun c A o s H E hr => ⟨_, (zg (yI (zgm (Wl (Vt (Zr (ZX rfl M.AD (zj 0) (zc (Wk (n := "str") rfl M.CP (by kernel_rfl)))))) (zad (Vt (zjA ZM ZN ZM ZN zi (jL rfl M.AX (zj 0)) (ZW rfl M.Gm))))))
  (zk (zC Uk))
  z3)
 (zk (zC (Vu rfl rfl M.Gk (zc (zD (yR rfl (CompOk.of_b (N' := ["sign"]) (js := [none]) rfl (by kernel_rfl)) (by decide) (znk (zG 0)) (fun _ _ _ _ _ => (zR (i := 0) (by decide) (show (["sign"] : List Str).Nodup by decide +kernel) rfl (Or.inl rfl) (Or.inr rfl))) (fun _ _ _ _ _ => yv) (fun _ _ _ _ _ => (Rp zbW zhJ zbW zhJ zy (zG 0) zy))))))))), by unfold VM YT; infer_instance⟩
theorem ziM : zE ["thing"] ["thing"] (zv (top 13)) := by walk_at "s"
theorem zkk (F : Fun K "is_row" "is_row" (top 13) f fd) (M : yq K mg cls ad) (Bg : HM P w K mg base cls "is_name" 1 ["thing"] [] false (zo jM)) : FnOk P w K mg base yD 2 f fd ["thing"] (yr ⟨K, cls⟩ [] false 1 (zo Jp)) := by
 have sc := ziM
 exact yy F sc rfl fun c A o s H E hr => ⟨_, (zg (yI (Vt (Zr (ZX rfl M.AD (zj 0) (zc (Wk (n := "list") rfl M.AV (by kernel_rfl))))))
  (zk (zC Uk))
  z3)
 (zk (zC (Yg (Vu rfl rfl M.Gk (zc (zD (yR rfl (CompOk.of_b (N' := ["name"]) (js := [none]) rfl (by kernel_rfl)) (by decide) (yB (zG 0)) (fun _ _ _ _ _ => (zR (i := 0) (by decide) (show (["name"] : List Str).Nodup by decide +kernel) rfl (Or.inl rfl) (Or.inr rfl))) (fun _ _ _ _ _ => yv) (fun _ _ _ _ _ => (zA Bg (hr.mono (by omega)) rfl (za (zG 0) zd))))))) (Yf (Vs jX jY (zc (zig rfl rfl M.AX rfl M.GW (zj 0))) (zc (jL rfl M.AX (zj 0))) (yb _))))))), by unfold RD ZR; infer_instance⟩
theorem RM : zE ["thing"] ["thing"] (zv (top 16)) := by walk_at "s"
theorem za5 (F : Fun K "is_short_list" "is_short_list" (top 16) f fd) (M : yq K mg cls ad) : FnOk P w K mg base yD 1 f fd ["thing"] (yr ⟨K, cls⟩ [] false 1 (zo z0)) := by
 have sc := RM
 exact yy F sc rfl fun c A o s H E hr => ⟨_, (zk (zC (Yg (ZX rfl M.AD (zj 0) (zc (Wk (n := "list") rfl M.AV (by kernel_rfl)))) (Yf (Rp ZM ZN ZM ZN zi (jL rfl M.AX (zj 0)) (ZW rfl M.Gw)))))), by unfold QM; infer_instance⟩
theorem za6 : zE ["thing"] ["thing"] (zv (top 17)) := by walk_at "s"
theorem zbH (F : Fun K "is_short_row" "is_short_row" (top 17) f fd) (M : yq K mg cls ad) (Bt : HM P w K mg base cls "is_row" 2 ["thing"] [] false (zo Jp)) (Aq : HM P w K mg base cls "is_short_list" 1 ["thing"] [] false (zo z0)) : FnOk P w K mg base yD 3 f fd ["thing"] (yr ⟨K, cls⟩ [] false 1 (zo jF)) := by
 have sc := za6
 exact yy F sc rfl fun c A o s H E hr => ⟨_, (zk (zC (Yg (zA Aq (hr.mono (by omega)) rfl (za (zG 0) zd)) (Yf (zA Bt (hr.mono (by omega)) rfl (za (zG 0) zd)))))), by unfold Y6; infer_instance⟩
theorem zeJ : zE ["thing"] ["thing"] (zv (top 11)) := by walk_at "s"
theorem zgZ (F : Fun K "is_whole" "is_whole" (top 11) f fd) (M : yq K mg cls ad) : FnOk P w K mg base yD 1 f fd ["thing"] (yr ⟨K, cls⟩ [] false 1 (zo J7)) := by
 have sc := zeJ
 exact yy F sc rfl fun c A o s H E hr => ⟨_, (zk (zC (Yg (ZX rfl M.AD (zj 0) (zc (Wk (n := "int") rfl M.GV (by kernel_rfl)))) (Yf (znj (ZX rfl M.AD (zj 0) (zc (Wk (n := "bool") rfl M.Hb (by kernel_rfl))))))))), by unfold UR; infer_instance⟩
theorem zeK : zE ["thing", "most"] ["thing", "most"] (zv (top 15)) := by walk_at "s"
theorem zg0 (F : Fun K "is_up_to" "is_up_to" (top 15) f fd) (M : yq K mg cls ad) (En : HM P w K mg base cls "is_whole" 1 ["thing"] [] false (zo J7)) : FnOk P w K mg base yD 2 f fd ["thing", "most"] (yr ⟨K, cls⟩ [] false 2 (zo yW)) := by
 have sc := zeK
 exact yy F sc rfl fun c A o s H E hr => ⟨_, (zk (zC (Yg (zA En (hr.mono (by omega)) rfl (za (zG 0) zd)) (Yf (Rp ZM ZN ZM ZN zi (zG 0) (zG 1)))))), by unfold US; infer_instance⟩
theorem Wv : zE ["self", "many", "names"] ["self", "many", "names"] (zv (zt (top 23) 0)) := by walk_at "s"
theorem RN (F : Fun K "__init__" "Count.__init__" (zt (top 23) 0) f fd) (M : yq K mg cls ad) (Aj : HM P w K mg base cls "demand" 1 ["right", "words"] [] false (zo z4)) (AQ : HM P w K mg base cls "is_short_row" 3 ["thing"] [] false (zo jF)) (AF : HM P w K mg base cls "is_up_to" 2 ["thing", "most"] [] false (zo yW)) : FnOk P w K mg base yD 4 f fd ["self", "many", "names"] (yr ⟨K, cls⟩ [0] false 3 (zo Z1)) := by
 have sc := Wv
 exact yy F sc rfl fun c A o s H E hr => ⟨_, (zg (yu (zA Aj (hr.mono (by omega)) rfl (za (zA AQ (hr.mono (by omega)) rfl (za (zG 2) zd)) (za zy zd))))
 (zg (yu (zA Aj (hr.mono (by omega)) rfl (za (zA AF (hr.mono (by omega)) rfl (za (zG 1) (za (jL rfl M.AX (zj 2)) zd))) (za zy zd))))
 (zg (Jt (f := 0) (i := 0) (by kernel_rfl) (by decide) M.CO (zG 1))
 (zk (Jt (f := 1) (i := 0) (by kernel_rfl) (by decide) M.CQ (zD (j6 rfl M.AV (zj 2)))))))), by unfold zfv zcj VN; infer_instance⟩
theorem zg1 : zE ["thing"] ["thing"] (zv (top 18)) := by walk_at "s"
theorem ziN (F : Fun K "is_pair" "is_pair" (top 18) f fd) (M : yq K mg cls ad) (AF : HM P w K mg base cls "is_up_to" 2 ["thing", "most"] [] false (zo yW)) (Bg : HM P w K mg base cls "is_name" 1 ["thing"] [] false (zo jM)) : FnOk P w K mg base yD 3 f fd ["thing"] (yr ⟨K, cls⟩ [] false 1 (zo Zw)) := by
 have sc := zg1
 exact yy F sc rfl fun c A o s H E hr => ⟨_, (zg (yI (zgm (Wl (Vt (Zr (ZX rfl M.AD (zj 0) (zc (Wk (n := "tuple") rfl M.GX (by kernel_rfl)))))) (zad (yE V6 Wi (zc (jL rfl M.AX (zj 0))) (zc zi) (yb _)))))
  (zk (zC Uk))
  z3)
 (zk (zC (Yg (zA Bg (hr.mono (by omega)) rfl (za (zH (zj 0) (zc zi) (fun _ _ => rfl)) zd)) (Yf (zA AF (hr.mono (by omega)) rfl (za (zH (zj 0) (zc zi) (fun _ _ => rfl)) (za (ZW rfl M.Gx) zd)))))))), by unfold zck W3; infer_instance⟩
theorem Ww : zE ["self", "least", "pairs"] ["self", "least", "pairs"] (zv (zt (top 24) 0)) := by walk_at "s"
theorem RO (F : Fun K "__init__" "Weigh.__init__" (zt (top 24) 0) f fd) (M : yq K mg cls ad) (Aj : HM P w K mg base cls "demand" 1 ["right", "words"] [] false (zo z4)) (Aq : HM P w K mg base cls "is_short_list" 1 ["thing"] [] false (zo z0)) (EE : HM P w K mg base cls "is_pair" 3 ["thing"] [] false (zo Zw)) (Bt : HM P w K mg base cls "is_row" 2 ["thing"] [] false (zo Jp)) (AF : HM P w K mg base cls "is_up_to" 2 ["thing", "most"] [] false (zo yW)) : FnOk P w K mg base yD 4 f fd ["self", "least", "pairs"] (yr ⟨K, cls⟩ [0] false 3 (zo Z2)) := by
 have sc := Ww
 exact yy F sc rfl fun c A o s H E hr => ⟨_, (zg (yu (zA Aj (hr.mono (by omega)) rfl (za (zA Aq (hr.mono (by omega)) rfl (za (zG 2) zd)) (za zy zd))))
 (zg (yu (zA Aj (hr.mono (by omega)) rfl (za (Vu rfl rfl M.Gk (zc (zD (yR rfl (CompOk.of_b (N' := ["pair"]) (js := [none]) rfl (by kernel_rfl)) (by decide) (yB (zG 2)) (fun _ _ _ _ _ => (zR (i := 0) (by decide) (show (["pair"] : List Str).Nodup by decide +kernel) rfl (Or.inl rfl) (Or.inr rfl))) (fun _ _ _ _ _ => yv) (fun _ _ _ _ _ => (zA EE (hr.mono (by omega)) rfl (za (zG 0) zd))))))) (za zy zd))))
 (zg (yu (zA Aj (hr.mono (by omega)) rfl (za (zA Bt (hr.mono (by omega)) rfl (za (zD (yR rfl (CompOk.of_b (N' := ["pair"]) (js := [none]) rfl (by kernel_rfl)) (by decide) (yB (zG 2)) (fun _ _ _ _ _ => (zR (i := 0) (by decide) (show (["pair"] : List Str).Nodup by decide +kernel) rfl (Or.inl rfl) (Or.inr rfl))) (fun _ _ _ _ _ => yv) (fun _ _ _ _ _ => (zH (zj 0) (zc zi) (fun _ _ => rfl))))) zd)) (za zy zd))))
 (zg (yu (zA Aj (hr.mono (by omega)) rfl (za (zA AF (hr.mono (by omega)) rfl (za (zG 1) (za (zdW rfl rfl M.GO (zc (zD (yR rfl (CompOk.of_b (N' := ["pair"]) (js := [none]) rfl (by kernel_rfl)) (by decide) (yB (zG 2)) (fun _ _ _ _ _ => (zR (i := 0) (by decide) (show (["pair"] : List Str).Nodup by decide +kernel) rfl (Or.inl rfl) (Or.inr rfl))) (fun _ _ _ _ _ => yv) (fun _ _ _ _ _ => (zH (zj 0) (zc zi) (fun _ _ => rfl))))))) zd))) (za zy zd))))
 (zg (Jt (f := 2) (i := 0) (by kernel_rfl) (by decide) M.El (zG 1))
 (zk (Jt (f := 3) (i := 0) (by kernel_rfl) (by decide) M.CS (zD (j6 rfl M.AV (zj 2)))))))))), by unfold zfw zcn zcm zcl VO; infer_instance⟩
theorem VY : zE ["self"] ["self"] (zv (zt (top 23) 1)) := by walk_at "s"
theorem Wx (F : Fun K "own_names" "Count.own_names" (zt (top 23) 1) f fd) (M : yq K mg cls ad) : FnOk P w K mg base yD 1 f fd ["self"] (yr ⟨K, cls⟩ [] false 1 (zo Qc)) := by
 have sc := VY
 exact yy F sc rfl fun c A o s H E hr => ⟨_, (zk (zC (zD (j6 rfl M.AV (zc (jA (f := 1) (by kernel_rfl) (by decide) M.CQ (zj 0))))))), by unfold ZG; infer_instance⟩
theorem VZ : zE ["self"] ["self"] (zv (zt (top 24) 1)) := by walk_at "s"
theorem Wy (F : Fun K "own_names" "Weigh.own_names" (zt (top 24) 1) f fd) (M : yq K mg cls ad) : FnOk P w K mg base yD 1 f fd ["self"] (yr ⟨K, cls⟩ [] false 1 (zo Qd)) := by
 have sc := VZ
 exact yy F sc rfl fun c A o s H E hr => ⟨_, (zk (zC (zD (yR rfl (CompOk.of_b (N' := ["pair"]) (js := [none]) rfl (by kernel_rfl)) (by decide) (yB (jA (f := 3) (by kernel_rfl) (by decide) M.CS (zj 0))) (fun _ _ _ _ _ => (zR (i := 0) (by decide) (show (["pair"] : List Str).Nodup by decide +kernel) rfl (Or.inl rfl) (Or.inr rfl))) (fun _ _ _ _ _ => yv) (fun _ _ _ _ _ => (zH (zj 0) (zc zi) (fun _ _ => rfl))))))), by unfold ZH; infer_instance⟩
theorem Vf : zE ["self", "names", "house"] ["self"] (zv (zt (top 25) 1)) := by walk_at "s"
theorem V0 (F : Fun K "own_names" "Houses.own_names" (zt (top 25) 1) f fd) (M : yq K mg cls ad) : FnOk P w K mg base yD 1 f fd ["self"] (yr ⟨K, cls⟩ [] false 1 (zo Ji)) := by
 have sc := Vf
 exact yy F sc rfl fun c A o s H E hr => ⟨_, (zg (Zs (i := 1) (by decide) sc.nd rfl (Or.inl rfl) (z6 zd))
 (zg (QG bK rfl (yB (jA (f := 5) (by kernel_rfl) (by decide) M.BZ (zj 0))) (zR (i := 2) (by decide) sc.nd rfl (Or.inl rfl))
  (zk (yu (zhS 1 (zG 2)))))
 (zk (zC (dv 1 (by decide)))))), by unfold Zx QN; infer_instance⟩
theorem Wz : zE ["self"] ["self"] (zv (zt (top 22) 0)) := by walk_at "s"
theorem Qv (F : Fun K "own_names" "Wish.own_names" (zt (top 22) 0) f fd) (M : yq K mg cls ad) : FnOk P w K mg base yD 1 f fd ["self"] (yr ⟨K, cls⟩ [] false 1 (zo yA)) := by
 have sc := Wz
 exact yy F sc rfl fun c A o s H E hr => ⟨_, (zk (zC (zD (z6 zd)))), by unfold Qt; infer_instance⟩
theorem za7 : zE ["self"] ["self"] (zv (zt (top 22) 1)) := by walk_at "s"
theorem Zh (F : Fun K "made_of" "Wish.made_of" (zt (top 22) 1) f fd) (M : yq K mg cls ad) : FnOk P w K mg base yD 1 f fd ["self"] (yr ⟨K, cls⟩ [] false 1 (zo yA)) := by
 have sc := za7
 exact yy F sc rfl fun c A o s H E hr => ⟨_, (zk (zC (zD (z6 zd)))), by unfold Qt; infer_instance⟩
theorem za8 : zE ["self"] ["self"] (zv (zt (top 26) 1)) := by walk_at "s"
theorem zbI (F : Fun K "made_of" "Both.made_of" (zt (top 26) 1) f fd) (M : yq K mg cls ad) : FnOk P w K mg base yD 1 f fd ["self"] (yr ⟨K, cls⟩ [] false 1 (zo j8)) := by
 have sc := za8
 exact yy F sc rfl fun c A o s H E hr => ⟨_, (zk (zC (zD (j6 rfl M.AV (zc (jA (f := 6) (by kernel_rfl) (by decide) M.AT (zj 0))))))), by unfold Q6; infer_instance⟩
theorem WA : zE ["self"] ["self"] (zv (zt (top 27) 1)) := by walk_at "s"
theorem RP (F : Fun K "made_of" "Either.made_of" (zt (top 27) 1) f fd) (M : yq K mg cls ad) : FnOk P w K mg base yD 1 f fd ["self"] (yr ⟨K, cls⟩ [] false 1 (zo j8)) := by
 have sc := WA
 exact yy F sc rfl fun c A o s H E hr => ⟨_, (zk (zC (zD (j6 rfl M.AV (zc (jA (f := 6) (by kernel_rfl) (by decide) M.AT (zj 0))))))), by unfold Q6; infer_instance⟩
theorem za9 : zE ["self"] ["self"] (zv (zt (top 28) 1)) := by walk_at "s"
theorem zbJ (F : Fun K "made_of" "Then.made_of" (zt (top 28) 1) f fd) (M : yq K mg cls ad) : FnOk P w K mg base yD 1 f fd ["self"] (yr ⟨K, cls⟩ [] false 1 (zo Q7)) := by
 have sc := za9
 exact yy F sc rfl fun c A o s H E hr => ⟨_, (zk (zC (zD (z6 (za (jA (f := 7) (by kernel_rfl) (by decide) M.ED (zj 0)) (za (jA (f := 8) (by kernel_rfl) (by decide) M.CT (zj 0)) zd)))))), by unfold Y7; infer_instance⟩
theorem RQ : zE ["self", "names", "wish"] ["self"] (zv (zt (top 22) 2)) := by walk_at "s"
theorem jS (F : Fun K "names_in" "Wish.names_in" (zt (top 22) 2) f fd) (M : yq K mg cls ad) {n : Nat} {R : Nat -> Option Fn} (AL : HD P w K mg base cls "own_names" 1 ["self"] J2) (Ai : HD P w K mg base cls "made_of" 1 ["self"] jI) (AE : HD P w K mg base cls "names_in" (1 + 1 * n) ["self"] R) : FnOk P w K mg base yD (1 + 1 * n + 0 + 1) f fd ["self"] (yr ⟨K, cls⟩ [] false 1 (zo (jh R))) := by
 have sc := RQ
 exact yy F sc rfl fun c A o s H E hr => ⟨_, (zg (zV (i := 1) (by decide) sc.nd rfl (Or.inl rfl) (Jm AL (hr.mono (by omega)) (zG 0)))
 (zg (QG bK rfl (yB (Jm Ai (hr.mono (by omega)) (zG 0))) (zR (i := 2) (by decide) sc.nd rfl (Or.inl rfl))
  (zk (zV (i := 1) (by decide) sc.nd rfl (Or.inl rfl) (zD (Js (zj 1) (zc (Jm AE (hr.mono (by omega)) (zG 2))))))))
 (zk (zC (zD (zgD rfl rfl M.GS rfl M.GW (zj 1))))))), by unfold YC ZI; infer_instance⟩
theorem zcF : zE ["self"] ["self"] (zv (zt (top 22) 3)) := by walk_at "s"
theorem Jw (F : Fun K "depth" "Wish.depth" (zt (top 22) 3) f fd) (M : yq K mg cls ad) {n : Nat} {R : Nat -> Option Fn} (Ai : HD P w K mg base cls "made_of" 1 ["self"] jI) (AN : HD P w K mg base cls "depth" (1 + 1 * n) ["self"] R) : FnOk P w K mg base yD (1 + 1 * n + 0 + 1) f fd ["self"] (yr ⟨K, cls⟩ [] false 1 (zo (jN R))) := by
 have sc := zcF
 exact yy F sc rfl fun c A o s H E hr => ⟨_, (zk (zC (jz (zc zi) (zc (zlR rfl rfl M.GY (zc (zD (yR rfl (CompOk.of_b (N' := ["wish"]) (js := [none]) rfl (by kernel_rfl)) (by decide) (yB (Jm Ai (hr.mono (by omega)) (zG 0))) (fun _ _ _ _ _ => (zR (i := 0) (by decide) (show (["wish"] : List Str).Nodup by decide +kernel) rfl (Or.inl rfl) (Or.inr rfl))) (fun _ _ _ _ _ => yv) (fun _ _ _ _ _ => (Jm AN (hr.mono (by omega)) (zG 0)))))) (zc zi)))))), by unfold VP; infer_instance⟩
theorem V1 : zE ["self"] ["self"] (zv (zt (top 22) 4)) := by walk_at "s"
theorem jw (F : Fun K "parts_many" "Wish.parts_many" (zt (top 22) 4) f fd) (M : yq K mg cls ad) {n : Nat} {R : Nat -> Option Fn} (Ai : HD P w K mg base cls "made_of" 1 ["self"] jI) (Ay : HD P w K mg base cls "parts_many" (1 + 1 * n) ["self"] R) : FnOk P w K mg base yD (1 + 1 * n + 0 + 1) f fd ["self"] (yr ⟨K, cls⟩ [] false 1 (zo (yS R))) := by
 have sc := V1
 exact yy F sc rfl fun c A o s H E hr => ⟨_, (zk (zC (jz (zc zi) (zc (zdW rfl rfl M.GO (zc (zD (yR rfl (CompOk.of_b (N' := ["wish"]) (js := [none]) rfl (by kernel_rfl)) (by decide) (yB (Jm Ai (hr.mono (by omega)) (zG 0))) (fun _ _ _ _ _ => (zR (i := 0) (by decide) (show (["wish"] : List Str).Nodup by decide +kernel) rfl (Or.inl rfl) (Or.inr rfl))) (fun _ _ _ _ _ => yv) (fun _ _ _ _ _ => (Jm Ay (hr.mono (by omega)) (zG 0))))))))))), by unfold ZJ; infer_instance⟩
theorem zbK : zE ["wish"] ["wish"] (zv (top 21)) := by walk_at "s"
theorem zcG (F : Fun K "demand_size" "demand_size" (top 21) f fd) (M : yq K mg cls ad) (Aj : HM P w K mg base cls "demand" 1 ["right", "words"] [] false (zo z4)) (AE : HD P w K mg base cls "names_in" 7 ["self"] (y3 6)) (AN : HD P w K mg base cls "depth" 7 ["self"] (JD 6)) (Ay : HD P w K mg base cls "parts_many" 7 ["self"] (jm 6)) : FnOk P w K mg base yD 8 f fd ["wish"] (yr ⟨K, cls⟩ [] false 1 (zo ya)) := by
 have sc := zbK
 exact yy F sc rfl fun c A o s H E hr => ⟨_, (zg (yu (zA Aj (hr.mono (by omega)) rfl (za (Vs ZM ZN (zc (jL rfl M.AX (zc (Jm AE (hr.mono (by omega)) (zG 0))))) (zc (ZW rfl M.GB)) (yb _)) (za zy zd))))
 (zg (yu (zA Aj (hr.mono (by omega)) rfl (za (Vs ZM ZN (zc (Jm AN (hr.mono (by omega)) (zG 0))) (zc (ZW rfl M.GL)) (yb _)) (za zy zd))))
 (zk (yu (zA Aj (hr.mono (by omega)) rfl (za (Vs ZM ZN (zc (Jm Ay (hr.mono (by omega)) (zG 0))) (zc (ZW rfl M.GC)) (yb _)) (za zy zd))))))), by unfold U8 YE YD; infer_instance⟩
theorem V2 : zE ["self", "many", "each", "houses"] ["self", "many", "each", "houses"] (zv (zt (top 25) 0)) := by walk_at "s"
theorem WB (F : Fun K "__init__" "Houses.__init__" (zt (top 25) 0) f fd) (M : yq K mg cls ad) (Aj : HM P w K mg base cls "demand" 1 ["right", "words"] [] false (zo z4)) (Aq : HM P w K mg base cls "is_short_list" 1 ["thing"] [] false (zo z0)) (AQ : HM P w K mg base cls "is_short_row" 3 ["thing"] [] false (zo jF)) (AF : HM P w K mg base cls "is_up_to" 2 ["thing", "most"] [] false (zo yW)) (Az : HM P w K mg base cls "demand_size" 8 ["wish"] [] false (zo ya)) : FnOk P w K mg base yD 9 f fd ["self", "many", "each", "houses"] (yr ⟨K, cls⟩ [0] false 4 (zo Q9)) := by
 have sc := V2
 exact yy F sc rfl fun c A o s H E hr => ⟨_, (zg (yu (zA Aj (hr.mono (by omega)) rfl (za (zA Aq (hr.mono (by omega)) rfl (za (zG 3) zd)) (za zy zd))))
 (zg (yu (zA Aj (hr.mono (by omega)) rfl (za (Vu rfl rfl M.Gk (zc (zD (yR rfl (CompOk.of_b (N' := ["house"]) (js := [none]) rfl (by kernel_rfl)) (by decide) (yB (zG 3)) (fun _ _ _ _ _ => (zR (i := 0) (by decide) (show (["house"] : List Str).Nodup by decide +kernel) rfl (Or.inl rfl) (Or.inr rfl))) (fun _ _ _ _ _ => yv) (fun _ _ _ _ _ => (zA AQ (hr.mono (by omega)) rfl (za (zG 0) zd))))))) (za zy zd))))
 (zg (yu (zA Aj (hr.mono (by omega)) rfl (za (zA AF (hr.mono (by omega)) rfl (za (zG 1) (za (jL rfl M.AX (zj 3)) zd))) (za zy zd))))
 (zg (yu (zA Aj (hr.mono (by omega)) rfl (za (zA AF (hr.mono (by omega)) rfl (za (zG 2) (za (zfs rfl rfl M.GA (zc (zD (yR rfl (CompOk.of_b (N' := ["house"]) (js := [none]) rfl (by kernel_rfl)) (by decide) (yB (zG 3)) (fun _ _ _ _ _ => (zR (i := 0) (by decide) (show (["house"] : List Str).Nodup by decide +kernel) rfl (Or.inl rfl) (Or.inr rfl))) (fun _ _ _ _ _ => yv) (fun _ _ _ _ _ => (jL rfl M.AX (zj 0))))))) zd))) (za zy zd))))
 (zg (Jt (f := 0) (i := 0) (by kernel_rfl) (by decide) M.CO (zG 1))
 (zg (Jt (f := 4) (i := 0) (by kernel_rfl) (by decide) M.Fj (zG 2))
 (zg (Jt (f := 5) (i := 0) (by kernel_rfl) (by decide) M.BZ (zD (yR rfl (CompOk.of_b (N' := ["house"]) (js := [none]) rfl (by kernel_rfl)) (by decide) (yB (zG 3)) (fun _ _ _ _ _ => (zR (i := 0) (by decide) (show (["house"] : List Str).Nodup by decide +kernel) rfl (Or.inl rfl) (Or.inr rfl))) (fun _ _ _ _ _ => yv) (fun _ _ _ _ _ => (zD (j6 rfl M.AV (zj 0)))))))
 (zk (yu (UC (j := 0) Az (hr.mono (by omega)) rfl)))))))))), by unfold zd2 zaC zaB zaA zaz zay; infer_instance⟩
theorem zg2 : zE ["thing"] ["thing"] (zv (top 14)) := by walk_at "s"
theorem ziO (F : Fun K "is_wish" "is_wish" (top 14) f fd) (M : yq K mg cls ad) : FnOk P w K mg base yD 1 f fd ["thing"] (yr ⟨K, cls⟩ [] false 1 (zo Jj)) := by
 have sc := zg2
 exact yy F sc rfl fun c A o s H E hr => ⟨_, (zk (zC (zlO (tb := (QU [12, 13, 14, 15, 16, 17])) rfl M.AD (ZY rfl M.Gy (ZY rfl M.Gz (ZY rfl M.GP (ZY rfl M.GM (ZY rfl M.Gn (ZY rfl M.GN zjC)))))) (by simp) M.AA (zj 0)))), by unfold zco; infer_instance⟩
theorem RS : zE ["wishes"] ["wishes"] (zv (top 20)) := by walk_at "s"
theorem za_ (F : Fun K "demand_wishes" "demand_wishes" (top 20) f fd) (M : yq K mg cls ad) (Aj : HM P w K mg base cls "demand" 1 ["right", "words"] [] false (zo z4)) (Aq : HM P w K mg base cls "is_short_list" 1 ["thing"] [] false (zo z0)) (AY : HM P w K mg base cls "is_wish" 1 ["thing"] [] false (zo Jj)) : FnOk P w K mg base yD 2 f fd ["wishes"] (yr ⟨K, cls⟩ [] false 1 (zo jR)) := by
 have sc := RS
 exact yy F sc rfl fun c A o s H E hr => ⟨_, (zg (yu (zA Aj (hr.mono (by omega)) rfl (za (zA Aq (hr.mono (by omega)) rfl (za (zG 0) zd)) (za zy zd))))
 (zk (yu (zA Aj (hr.mono (by omega)) rfl (za (Vu rfl rfl M.Gk (zc (zD (yR rfl (CompOk.of_b (N' := ["wish"]) (js := [none]) rfl (by kernel_rfl)) (by decide) (yB (zG 0)) (fun _ _ _ _ _ => (zR (i := 0) (by decide) (show (["wish"] : List Str).Nodup by decide +kernel) rfl (Or.inl rfl) (Or.inr rfl))) (fun _ _ _ _ _ => yv) (fun _ _ _ _ _ => (zA AY (hr.mono (by omega)) rfl (za (zG 0) zd))))))) (za zy zd)))))), by unfold YF ZK; infer_instance⟩
theorem RT : zE ["self", "wishes"] ["self", "wishes"] (zv (zt (top 26) 0)) := by walk_at "s"
theorem zba (F : Fun K "__init__" "Both.__init__" (zt (top 26) 0) f fd) (M : yq K mg cls ad) (AM : HM P w K mg base cls "demand_wishes" 2 ["wishes"] [] false (zo jR)) (Az : HM P w K mg base cls "demand_size" 8 ["wish"] [] false (zo ya)) : FnOk P w K mg base yD 9 f fd ["self", "wishes"] (yr ⟨K, cls⟩ [0] false 2 (zo jB)) := by
 have sc := RT
 exact yy F sc rfl fun c A o s H E hr => ⟨_, (zg (yu (zA AM (hr.mono (by omega)) rfl (za (zG 1) zd)))
 (zg (Jt (f := 6) (i := 0) (by kernel_rfl) (by decide) M.AT (zD (j6 rfl M.AV (zj 1))))
 (zk (yu (UC (j := 0) Az (hr.mono (by omega)) rfl))))), by unfold zd3 RE; infer_instance⟩
theorem V3 : zE ["self", "wishes"] ["self", "wishes"] (zv (zt (top 27) 0)) := by walk_at "s"
theorem WC (F : Fun K "__init__" "Either.__init__" (zt (top 27) 0) f fd) (M : yq K mg cls ad) (AM : HM P w K mg base cls "demand_wishes" 2 ["wishes"] [] false (zo jR)) (Az : HM P w K mg base cls "demand_size" 8 ["wish"] [] false (zo ya)) : FnOk P w K mg base yD 9 f fd ["self", "wishes"] (yr ⟨K, cls⟩ [0] false 2 (zo jB)) := by
 have sc := V3
 exact yy F sc rfl fun c A o s H E hr => ⟨_, (zg (yu (zA AM (hr.mono (by omega)) rfl (za (zG 1) zd)))
 (zg (Jt (f := 6) (i := 0) (by kernel_rfl) (by decide) M.AT (zD (j6 rfl M.AV (zj 1))))
 (zk (yu (UC (j := 0) Az (hr.mono (by omega)) rfl))))), by unfold zd3 RE; infer_instance⟩
theorem RU : zE ["self", "one", "other"] ["self", "one", "other"] (zv (zt (top 28) 0)) := by walk_at "s"
theorem zbb (F : Fun K "__init__" "Then.__init__" (zt (top 28) 0) f fd) (M : yq K mg cls ad) (Aj : HM P w K mg base cls "demand" 1 ["right", "words"] [] false (zo z4)) (AY : HM P w K mg base cls "is_wish" 1 ["thing"] [] false (zo Jj)) (Az : HM P w K mg base cls "demand_size" 8 ["wish"] [] false (zo ya)) : FnOk P w K mg base yD 9 f fd ["self", "one", "other"] (yr ⟨K, cls⟩ [0] false 3 (zo Qi)) := by
 have sc := RU
 exact yy F sc rfl fun c A o s H E hr => ⟨_, (zg (yu (zA Aj (hr.mono (by omega)) rfl (za (Yg (zA AY (hr.mono (by omega)) rfl (za (zG 1) zd)) (Yf (zA AY (hr.mono (by omega)) rfl (za (zG 2) zd)))) (za zy zd))))
 (zg (Jt (f := 7) (i := 0) (by kernel_rfl) (by decide) M.ED (zG 1))
 (zg (Jt (f := 8) (i := 0) (by kernel_rfl) (by decide) M.CT (zG 2))
 (zk (yu (UC (j := 0) Az (hr.mono (by omega)) rfl)))))), by unfold zik zd4; infer_instance⟩
theorem ziP : zE ["_law_tree_here", "_law_parts"] ["_law_tree_here"] (zv (top 43)) := by walk_at "s"
theorem zkl (F : Fun K "_law_made" "_law_made" (top 43) f fd) (M : yq K mg cls ad) {n : Nat} {R : Fn} (FP : HK P w K mg base cls "Count" 12 4 ["self", "many", "names"] (zo Z1)) (FQ : HK P w K mg base cls "Weigh" 13 4 ["self", "least", "pairs"] (zo Z2)) (Fr : HK P w K mg base cls "Houses" 14 9 ["self", "many", "each", "houses"] (zo Q9)) (AW : HM P w K mg base cls "_law_made" (10 + 1 * n) ["_law_tree_here"] [] false (zo R)) (Ej : HK P w K mg base cls "Both" 15 9 ["self", "wishes"] (zo jB)) (Bu : HK P w K mg base cls "Either" 16 9 ["self", "wishes"] (zo jB)) (Ek : HK P w K mg base cls "Then" 17 9 ["self", "one", "other"] (zo Qi)) : FnOk P w K mg base yD (10 + 1 * n + 0 + 1) f fd ["_law_tree_here"] (yr ⟨K, cls⟩ [] false 1 (zo (zQ [] 1 1 false (UT R)))) := by
 have sc := ziP
 exact yy F sc rfl fun c A o s H E hr => ⟨_, (zg (yI (yE jX jY (zc (zH (zj 0) (zc zi) (fun _ _ => rfl))) (zc zy) (yb _))
  (zk (zC (zD (J5 FP (hr.mono (by omega)) rfl (za (zH (zj 0) (zc zi) (fun _ _ => rfl)) (za (zD (j6 rfl M.AV (zc (zH (zj 0) (zc zi) (fun _ _ => rfl))))) zd))))))
  z3)
 (zg (yI (yE jX jY (zc (zH (zj 0) (zc zi) (fun _ _ => rfl))) (zc zy) (yb _))
  (zk (zC (zD (J5 FQ (hr.mono (by omega)) rfl (za (zH (zj 0) (zc zi) (fun _ _ => rfl)) (za (zD (j6 rfl M.AV (zc (zH (zj 0) (zc zi) (fun _ _ => rfl))))) zd))))))
  z3)
 (zg (yI (yE jX jY (zc (zH (zj 0) (zc zi) (fun _ _ => rfl))) (zc zy) (yb _))
  (zk (zC (zD (J5 Fr (hr.mono (by omega)) rfl (za (zH (zj 0) (zc zi) (fun _ _ => rfl)) (za (zH (zj 0) (zc zi) (fun _ _ => rfl)) (za (zD (yR rfl (CompOk.of_b (N' := ["_law_house"]) (js := [none]) rfl (by kernel_rfl)) (by decide) (yB (zH (zj 0) (zc zi) (fun _ _ => rfl))) (fun _ _ _ _ _ => (zR (i := 0) (by decide) (show (["_law_house"] : List Str).Nodup by decide +kernel) rfl (Or.inl rfl) (Or.inr rfl))) (fun _ _ _ _ _ => yv) (fun _ _ _ _ _ => (zD (j6 rfl M.AV (zj 0)))))) zd)))))))
  z3)
 (zg (Wn (i := 1) (by decide) rfl sc.nd rfl rfl (CompOk.of_b (N' := ["_law_part"]) (js := [none]) rfl (by kernel_rfl)) (by decide) (yB (zH (zj 0) (zc zi) (fun _ _ => rfl))) (fun _ _ _ _ _ => (zR (i := 0) (by decide) (show (["_law_part"] : List Str).Nodup by decide +kernel) rfl (Or.inl rfl) (Or.inr rfl))) (fun _ _ _ _ _ => yv) (fun _ _ _ _ _ => (zA AW (hr.mono (by omega)) rfl (za (zG 0) zd))))
 (zg (yI (yE jX jY (zc (zH (zj 0) (zc zi) (fun _ _ => rfl))) (zc zy) (yb _))
  (zk (zC (zD (J5 Ej (hr.mono (by omega)) rfl (za (zG 1) zd)))))
  z3)
 (zg (yI (yE jX jY (zc (zH (zj 0) (zc zi) (fun _ _ => rfl))) (zc zy) (yb _))
  (zk (zC (zD (J5 Bu (hr.mono (by omega)) rfl (za (zG 1) zd)))))
  z3)
 (zk (zC (zD (J5 Ek (hr.mono (by omega)) rfl (za (zH (zj 1) (zc zi) (fun _ _ => rfl)) (za (zH (zj 1) (zc zi) (fun _ _ => rfl)) zd)))))))))))), by unfold UT zaI zaH zaG zaF zaE zaD; infer_instance⟩
theorem zew : zE ["wish", "houses"] ["wish"] (zv (top 30)) := by walk_at "s"
theorem zeL (F : Fun K "show_leaf" "show_leaf" (top 30) f fd) (M : yq K mg cls ad) : FnOk P w K mg base yD 1 f fd ["wish"] (yr ⟨K, cls⟩ [] false 1 (zo JN)) := by
 have sc := zew
 exact yy F sc rfl fun c A o s H E hr => ⟨_, (zg (yI (Zr (VH (tb := (QU [12])) rfl M.AD rfl M.Gy M.FN (zj 0)))
  (zk (zC (Qz zy (zc (zD (Js (zc (zD (z6 (za zy (za (JL rfl M.CP (zc (jA (f := 0) (by kernel_rfl) (by decide) M.CO (zj 0)))) zd))))) (zc (jA (f := 1) (by kernel_rfl) (by decide) M.CQ (zj 0)))))))))
  z3)
 (zg (yI (Zr (VH (tb := (QU [13])) rfl M.AD rfl M.Gz M.FO (zj 0)))
  (zk (zC (Qz zy (zc (zD (Js (zc (zD (z6 (za zy (za (JL rfl M.CP (zc (jA (f := 2) (by kernel_rfl) (by decide) M.El (zj 0)))) zd))))) (zc (zD (yR rfl (CompOk.of_b (N' := ["pair"]) (js := [none]) rfl (by kernel_rfl)) (by decide) (yB (jA (f := 3) (by kernel_rfl) (by decide) M.CS (zj 0))) (fun _ _ _ _ _ => (zR (i := 0) (by decide) (show (["pair"] : List Str).Nodup by decide +kernel) rfl (Or.inl rfl) (Or.inr rfl))) (fun _ _ _ _ _ => yv) (fun _ _ _ _ _ => (Ja (zc (Ja (zc (zH (zj 0) (zc zi) (fun _ _ => rfl))) (zc zy))) (zc (JL rfl M.CP (zc (zH (zj 0) (zc zi) (fun _ _ => rfl))))))))))))))))
  z3)
 (zg (zV (i := 1) (by decide) sc.nd rfl (Or.inl rfl) (Qz zy (zc (zD (yR rfl (CompOk.of_b (N' := ["house"]) (js := [none]) rfl (by kernel_rfl)) (by decide) (yB (jA (f := 5) (by kernel_rfl) (by decide) M.BZ (zj 0))) (fun _ _ _ _ _ => (zR (i := 0) (by decide) (show (["house"] : List Str).Nodup by decide +kernel) rfl (Or.inl rfl) (Or.inr rfl))) (fun _ _ _ _ _ => yv) (fun _ _ _ _ _ => (Qz zy (zj 0))))))))
 (zk (zC (Qz zy (zc (zD (z6 (za zy (za (JL rfl M.CP (zc (jA (f := 0) (by kernel_rfl) (by decide) M.CO (zj 0)))) (za (JL rfl M.CP (zc (jA (f := 4) (by kernel_rfl) (by decide) M.Fj (zj 0)))) (za (zG 1) zd))))))))))))), by unfold W4 Vb Va U9; infer_instance⟩
theorem zex : zE ["wish"] ["wish"] (zv (top 32)) := by walk_at "s"
theorem Rj (F : Fun K "show_wish" "show_wish" (top 32) f fd) (M : yq K mg cls ad) {n : Nat} {R : Fn} (AO : HM P w K mg base cls "show_joined" (1 + 2 * n) ["sign", "wishes"] [] false (zo R)) (BY : HM P w K mg base cls "show_leaf" 1 ["wish"] [] false (zo JN)) : FnOk P w K mg base yD (1 + 2 * n + 0 + 1) f fd ["wish"] (yr ⟨K, cls⟩ [] false 1 (zo (yJ R))) := by
 have sc := zex
 exact yy F sc rfl fun c A o s H E hr => ⟨_, (zg (yI (Zr (VH (tb := (QU [15])) rfl M.AD rfl M.GM M.Go (zj 0)))
  (zk (zC (zA AO (hr.mono (by omega)) rfl (za zy (za (jA (f := 6) (by kernel_rfl) (by decide) M.AT (zj 0)) zd)))))
  z3)
 (zg (yI (Zr (VH (tb := (QU [16])) rfl M.AD rfl M.Gn M.Fp (zj 0)))
  (zk (zC (zA AO (hr.mono (by omega)) rfl (za zy (za (jA (f := 6) (by kernel_rfl) (by decide) M.AT (zj 0)) zd)))))
  z3)
 (zg (yI (Zr (VH (tb := (QU [17])) rfl M.AD rfl M.GN M.Gp (zj 0)))
  (zk (zC (zA AO (hr.mono (by omega)) rfl (za zy (za (zD (z6 (za (jA (f := 7) (by kernel_rfl) (by decide) M.ED (zj 0)) (za (jA (f := 8) (by kernel_rfl) (by decide) M.CT (zj 0)) zd)))) zd)))))
  z3)
 (zk (zC (zA BY (hr.mono (by omega)) rfl (za (zG 0) zd))))))), by unfold YU Vd Vc; infer_instance⟩
theorem zbL : zE ["sign", "wishes", "within"] ["sign", "wishes"] (zv (top 31)) := by walk_at "s"
theorem zcH (F : Fun K "show_joined" "show_joined" (top 31) f fd) (M : yq K mg cls ad) {n : Nat} {R : Fn} (AG : HM P w K mg base cls "show_wish" (1 + 2 * n + 1) ["wish"] [] false (zo (yJ R))) : FnOk P w K mg base yD (1 + 2 * n + 1 + 1) f fd ["sign", "wishes"] (yr ⟨K, cls⟩ [] false 2 (zo (zQ [] 2 1 false (Qo R)))) := by
 have sc := zbL
 exact yy F sc rfl fun c A o s H E hr => ⟨_, (zg (zV (i := 2) (by decide) sc.nd rfl (Or.inl rfl) (Qz (zd0 (zc zy) (zc (zao (zj 0))) (zc zy)) (zc (zD (yR rfl (CompOk.of_b (N' := ["wish"]) (js := [none]) rfl (by kernel_rfl)) (by decide) (yB (zG 1)) (fun _ _ _ _ _ => (zR (i := 0) (by decide) (show (["wish"] : List Str).Nodup by decide +kernel) rfl (Or.inl rfl) (Or.inr rfl))) (fun _ _ _ _ _ => yv) (fun _ _ _ _ _ => (zA AG (hr.mono (by omega)) rfl (za (zG 0) zd))))))))
 (zg (yI (yE jX jY (zc (jL rfl M.AX (zj 1))) (zc zi) (yb _))
  (zk (zV (i := 2) (by decide) sc.nd rfl (Or.inl rfl) (zd0 (zc (zao (zj 0))) (zc zy) (zc (zao (zj 2))))))
  z3)
 (zk (zC (zd0 (zc zy) (zc (zao (zj 2))) (zc zy)))))), by unfold Qo YG QO; infer_instance⟩
theorem znM : zE ["_law_script", "_law_k", "_law_well_here", "_law_names_here", "_law_tree_here", "_law_due", "_law_wish", "_law_small"] ["_law_script"] (zv (top 46)) := by walk_at "s"
theorem zob (F : Fun K "law" "law" (top 46) f fd) (M : yq K mg cls ad) (Ft : HM P w K mg base cls "_law_well" 1 ["_law_cell"] [] true (zo Qr)) (DH : HM P w K mg base cls "_law_cell_at" 1 ["_law_script", "_law_k"] [] false (zo Jn)) (EF : HM P w K mg base cls "_law_names" 3 ["_law_well_here", "_law_most"] [0] false (zo QA)) (AS : HM P w K mg base cls "_law_tree" 9 ["_law_well_here", "_law_names_here", "_law_deep", "_law_budget"] [0] false (zo (jE 6))) (Ah : HM P w K mg base cls "_law_draw" 1 ["_law_well_here", "_law_base"] [0] false (zo zp)) (EG : HM P w K mg base cls "_law_great" 4 ["_law_well_here", "_law_names_here"] [0] false (zo J1)) (AU : HM P w K mg base cls "_law_words" 7 ["_law_tree_here"] [] false (zo (jq 6))) (AW : HM P w K mg base cls "_law_made" 16 ["_law_tree_here"] [] false (zo (jU 6))) (AG : HM P w K mg base cls "show_wish" 14 ["wish"] [] false (zo (yJ (yh 6)))) (Ej : HK P w K mg base cls "Both" 15 9 ["self", "wishes"] (zo jB)) (Ek : HK P w K mg base cls "Then" 17 9 ["self", "one", "other"] (zo Qi)) (Bu : HK P w K mg base cls "Either" 16 9 ["self", "wishes"] (zo jB)) : FnOk P w K mg base yD 17 f fd ["_law_script"] (yr ⟨K, cls⟩ [] false 1 (zo zcq)) := by
 have sc := znM
 exact yy F sc rfl fun c A o s H E hr => ⟨_, (zg (QG bK rfl (Je rfl M.Bh (za (zlI rfl rfl M.GY (zc zi) (zc (ze9 rfl rfl M.GA (zc zi) (zc (jL rfl M.AX (zj 0)))))) zd)) (zR (i := 1) (by decide) sc.nd rfl (Or.inl rfl))
  (zg (Zs (i := 2) (by decide) sc.nd rfl (Or.inl rfl) (zlK Ft (hr.mono (by omega)) rfl (za (jz (zc (zA DH (hr.mono (by omega)) rfl (za (zG 0) (za (zG 1) zd)))) (zj 1)) zd)))
 (zg (zV (i := 3) (by decide) sc.nd rfl (Or.inl rfl) (zF (j := 2) EF (hr.mono (by omega)) rfl (za zi zd)))
 (zg (zV (i := 4) (by decide) sc.nd rfl (Or.inl rfl) (zF (j := 2) AS (hr.mono (by omega)) rfl (za (zG 3) (za zi (za zi zd)))))
 (zg (yI (yE jX jY (zc (zF (j := 2) Ah (hr.mono (by omega)) rfl (za zi zd))) (zc zi) (yb _))
  (zk (zV (i := 4) (by decide) sc.nd rfl (Or.inl rfl) (zF (j := 2) EG (hr.mono (by omega)) rfl (za (zG 3) zd))))
  z3)
 (zg (zV (i := 5) (by decide) sc.nd rfl (Or.inl rfl) (Qz zy (zc (zA AU (hr.mono (by omega)) rfl (za (zG 4) zd)))))
 (zg (zV (i := 6) (by decide) sc.nd rfl (Or.inl rfl) (zA AW (hr.mono (by omega)) rfl (za (zG 4) zd)))
 (zg (yI (zgm (Wl (yE V6 Wi (zc (zA AG (hr.mono (by omega)) rfl (za (zG 6) zd))) (zj 5) (yb _)) (Wl (yE V6 Wi (zc (zA AG (hr.mono (by omega)) rfl (za (zG 6) zd))) (zj 5) (yb _)) (zad (yE V6 Wi (zc (zA AG (hr.mono (by omega)) rfl (za (zA AW (hr.mono (by omega)) rfl (za (zG 4) zd)) zd))) (zj 5) (yb _))))))
  (zk (zC Uk))
  z3)
 (zg (zV (i := 7) (by decide) sc.nd rfl (Or.inl rfl) (zF (j := 2) AS (hr.mono (by omega)) rfl (za (zG 3) (za zi (za zi zd)))))
 (zg (zV (i := 6) (by decide) sc.nd rfl (Or.inl rfl) (zA AW (hr.mono (by omega)) rfl (za (zG 7) zd)))
 (zg (zV (i := 5) (by decide) sc.nd rfl (Or.inl rfl) (Qz zy (zc (zA AU (hr.mono (by omega)) rfl (za (zG 7) zd)))))
 (zg (yI (yE V6 Wi (zc (zA AG (hr.mono (by omega)) rfl (za (zD (J5 Ej (hr.mono (by omega)) rfl (za (zD (z6 (za (zG 6) (za (zG 6) zd)))) zd))) zd))) (zc (Ja (zc (Ja (zc (Ja (zc (Ja (zc zy) (zj 5))) (zc zy))) (zj 5))) (zc zy))) (yb _))
  (zk (zC Uk))
  z3)
 (zk (yI (yE V6 Wi (zc (zA AG (hr.mono (by omega)) rfl (za (zD (J5 Ek (hr.mono (by omega)) rfl (za (zG 6) (za (zD (J5 Bu (hr.mono (by omega)) rfl (za (zD (z6 (za (zG 6) zd))) zd))) zd)))) zd))) (zc (Ja (zc (Ja (zc (Ja (zc (Ja (zc zy) (zj 5))) (zc zy))) (zj 5))) (zc zy))) (yb _))
  (zk (zC Uk))
  z3))))))))))))))
 (zk (zC Uk))), by unfold zcp QP VS VR Rb YW Ra W9 W8 W7 W6 YV W5; infer_instance⟩
end
theorem all_mk {l : PySem.W.OpenLaw} {w : World} {K : aj} {h : Heap} {mg : Str -> Option Value} {fa : Addr} (X : K.In h) (G : h.Ns aT mg) (hfa : mg "law" = some (.ref fa))
 (Eo : bq K aT "Count" = some (some (.ref Ab)))
 (Fu : br K Ab dM = true)
 (Fv : bv K Ab = true)
 (Fw : bH K Ab = true)
 (Fx : aH K (.ref Ab) "__setattr__" = some (some (.builtin "object.__setattr__")))
 (Fy : bT K Ab = true)
 (Fz : bg K (.ref Ab) = true)
 (CU : FN0 K Ab "many")
 (Ca : FN0 K Ab "names")
 (Cb : FN0 K Ab "least")
 (Cc : FN0 K Ab "pairs")
 (Bv : FN0 K Ab "houses")
 (Bw : FN0 K Ab "wishes")
 (DJ : FN0 K Ab "one")
 (Cd : FN0 K Ab "other")
 (CV : FN0 K Ab "each")
 (FA : aH K (.ref Ab) "__class__" = some (some (.builtin "object.__class__")))
 (FB : cr K Ab (.type "object") = some true)
 (Ep : bq K aT "Weigh" = some (some (.ref Ac)))
 (FC : br K Ac dM = true)
 (FD : bv K Ac = true)
 (FE : bH K Ac = true)
 (FF : aH K (.ref Ac) "__setattr__" = some (some (.builtin "object.__setattr__")))
 (FG : bT K Ac = true)
 (FH : bg K (.ref Ac) = true)
 (CW : FN0 K Ac "many")
 (Ce : FN0 K Ac "names")
 (Cf : FN0 K Ac "least")
 (Cg : FN0 K Ac "pairs")
 (Bx : FN0 K Ac "houses")
 (By : FN0 K Ac "wishes")
 (DK : FN0 K Ac "one")
 (Ch : FN0 K Ac "other")
 (CY : FN0 K Ac "each")
 (FJ : aH K (.ref Ac) "__class__" = some (some (.builtin "object.__class__")))
 (FK : cr K Ac (.type "object") = some true)
 (DC : bq K aT "Houses" = some (some (.ref Ad)))
 (EH : br K Ad dM = true)
 (EI : bv K Ad = true)
 (EJ : bH K Ad = true)
 (EL : aH K (.ref Ad) "__setattr__" = some (some (.builtin "object.__setattr__")))
 (EM : bT K Ad = true)
 (EN : bg K (.ref Ad) = true)
 (Ci : FN0 K Ad "many")
 (Bz : FN0 K Ad "names")
 (BA : FN0 K Ad "least")
 (BB : FN0 K Ad "pairs")
 (Bi : FN0 K Ad "houses")
 (Bj : FN0 K Ad "wishes")
 (CZ : FN0 K Ad "one")
 (BC : FN0 K Ad "other")
 (Cj : FN0 K Ad "each")
 (EO : aH K (.ref Ad) "__class__" = some (some (.builtin "object.__class__")))
 (EQ : cr K Ad (.type "object") = some true)
 (Fk : bq K aT "Both" = some (some (.ref Ae)))
 (FR : br K Ae dM = true)
 (FS : bv K Ae = true)
 (FT : bH K Ae = true)
 (FU : aH K (.ref Ae) "__setattr__" = some (some (.builtin "object.__setattr__")))
 (FV : bT K Ae = true)
 (FW : bg K (.ref Ae) = true)
 (DL : FN0 K Ae "many")
 (Da : FN0 K Ae "names")
 (Db : FN0 K Ae "least")
 (Dc : FN0 K Ae "pairs")
 (Ck : FN0 K Ae "houses")
 (Cl : FN0 K Ae "wishes")
 (Er : FN0 K Ae "one")
 (Dd : FN0 K Ae "other")
 (DM : FN0 K Ae "each")
 (FX : aH K (.ref Ae) "__class__" = some (some (.builtin "object.__class__")))
 (FY : cr K Ae (.type "object") = some true)
 (DD : bq K aT "Either" = some (some (.ref Aa)))
 (ER : br K Aa dM = true)
 (ES : bv K Aa = true)
 (ET : bH K Aa = true)
 (EU : aH K (.ref Aa) "__setattr__" = some (some (.builtin "object.__setattr__")))
 (EV : bT K Aa = true)
 (EW : bg K (.ref Aa) = true)
 (Cm : FN0 K Aa "many")
 (BD : FN0 K Aa "names")
 (BE : FN0 K Aa "least")
 (BF : FN0 K Aa "pairs")
 (Bk : FN0 K Aa "houses")
 (Bl : FN0 K Aa "wishes")
 (De : FN0 K Aa "one")
 (BG : FN0 K Aa "other")
 (Co : FN0 K Aa "each")
 (EX : aH K (.ref Aa) "__class__" = some (some (.builtin "object.__class__")))
 (EY : cr K Aa (.type "object") = some true)
 (Fl : bq K aT "Then" = some (some (.ref Af)))
 (FZ : br K Af dM = true)
 (Ga : bv K Af = true)
 (Gb : bH K Af = true)
 (Gc : aH K (.ref Af) "__setattr__" = some (some (.builtin "object.__setattr__")))
 (Gd : bT K Af = true)
 (Ge : bg K (.ref Af) = true)
 (DN : FN0 K Af "many")
 (Df : FN0 K Af "names")
 (Dg : FN0 K Af "least")
 (Dh : FN0 K Af "pairs")
 (Cp : FN0 K Af "houses")
 (Cq : FN0 K Af "wishes")
 (Es : FN0 K Af "one")
 (Di : FN0 K Af "other")
 (DQ : FN0 K Af "each")
 (Gf : aH K (.ref Af) "__class__" = some (some (.builtin "object.__class__")))
 (Gg : cr K Af (.type "object") = some true)
 (wg : eK K (.builtin "object.__class__") "__get__" = some (some (.builtin "getset_descriptor.__get__")))
 (wt : fi K (.builtin "object.__class__") = some true)
 (An : aU K (.ref Ab) ([Ab, Ac, Ad, Ae, Aa, Af].map Value.ref) = some true)
 (Ao : aU K (.ref Ac) ([Ab, Ac, Ad, Ae, Aa, Af].map Value.ref) = some true)
 (Al : aU K (.ref Ad) ([Ab, Ac, Ad, Ae, Aa, Af].map Value.ref) = some true)
 (Ar : aU K (.ref Ae) ([Ab, Ac, Ad, Ae, Aa, Af].map Value.ref) = some true)
 (Am : aU K (.ref Aa) ([Ab, Ac, Ad, Ae, Aa, Af].map Value.ref) = some true)
 (As : aU K (.ref Af) ([Ab, Ac, Ad, Ae, Aa, Af].map Value.ref) = some true)
 (Ak : aU K (.type "NoneType") ([Ab, Ac, Ad, Ae, Aa, Af].map Value.ref) = some false)
 (At : aU K (.type "bool") ([Ab, Ac, Ad, Ae, Aa, Af].map Value.ref) = some false)
 (Aw : aU K (.type "int") ([Ab, Ac, Ad, Ae, Aa, Af].map Value.ref) = some false)
 (Ax : aU K (.type "str") ([Ab, Ac, Ad, Ae, Aa, Af].map Value.ref) = some false)
 (Au : aU K (.type "list") ([Ab, Ac, Ad, Ae, Aa, Af].map Value.ref) = some false)
 (Ap : aU K (.type "tuple") ([Ab, Ac, Ad, Ae, Aa, Af].map Value.ref) = some false)
 (Av : aU K (.type "dict") ([Ab, Ac, Ad, Ae, Aa, Af].map Value.ref) = some false)
 (BH : ae K (.ref Ab) (.ref Ab) = some true)
 (BI : ae K (.ref Ac) (.ref Ab) = some false)
 (Bm : ae K (.ref Ad) (.ref Ab) = some false)
 (Cr : ae K (.ref Ae) (.ref Ab) = some false)
 (Bn : ae K (.ref Aa) (.ref Ab) = some false)
 (Cs : ae K (.ref Af) (.ref Ab) = some false)
 (Ba : ae K (.type "NoneType") (.ref Ab) = some false)
 (Ct : ae K (.type "bool") (.ref Ab) = some false)
 (Dj : ae K (.type "int") (.ref Ab) = some false)
 (Dk : ae K (.type "str") (.ref Ab) = some false)
 (Cu : ae K (.type "list") (.ref Ab) = some false)
 (BJ : ae K (.type "tuple") (.ref Ab) = some false)
 (Cv : ae K (.type "dict") (.ref Ab) = some false)
 (BK : ae K (.ref Ab) (.ref Ac) = some false)
 (BL : ae K (.ref Ac) (.ref Ac) = some true)
 (Bo : ae K (.ref Ad) (.ref Ac) = some false)
 (Cw : ae K (.ref Ae) (.ref Ac) = some false)
 (Bp : ae K (.ref Aa) (.ref Ac) = some false)
 (Cy : ae K (.ref Af) (.ref Ac) = some false)
 (Bb : ae K (.type "NoneType") (.ref Ac) = some false)
 (Cz : ae K (.type "bool") (.ref Ac) = some false)
 (Dl : ae K (.type "int") (.ref Ac) = some false)
 (Dm : ae K (.type "str") (.ref Ac) = some false)
 (CA : ae K (.type "list") (.ref Ac) = some false)
 (BM : ae K (.type "tuple") (.ref Ac) = some false)
 (CB : ae K (.type "dict") (.ref Ac) = some false)
 (CC : ae K (.ref Ab) (.ref Ae) = some false)
 (CD : ae K (.ref Ac) (.ref Ae) = some false)
 (BN : ae K (.ref Ad) (.ref Ae) = some false)
 (Do : ae K (.ref Ae) (.ref Ae) = some true)
 (BO : ae K (.ref Aa) (.ref Ae) = some false)
 (Dp : ae K (.ref Af) (.ref Ae) = some false)
 (Bc : ae K (.type "NoneType") (.ref Ae) = some false)
 (Dq : ae K (.type "bool") (.ref Ae) = some false)
 (DR : ae K (.type "int") (.ref Ae) = some false)
 (DU : ae K (.type "str") (.ref Ae) = some false)
 (Dr : ae K (.type "list") (.ref Ae) = some false)
 (CF : ae K (.type "tuple") (.ref Ae) = some false)
 (Ds : ae K (.type "dict") (.ref Ae) = some false)
 (Bq : ae K (.ref Ab) (.ref Aa) = some false)
 (Br : ae K (.ref Ac) (.ref Aa) = some false)
 (Bd : ae K (.ref Ad) (.ref Aa) = some false)
 (BP : ae K (.ref Ae) (.ref Aa) = some false)
 (Be : ae K (.ref Aa) (.ref Aa) = some true)
 (BQ : ae K (.ref Af) (.ref Aa) = some false)
 (AZ : ae K (.type "NoneType") (.ref Aa) = some false)
 (BR : ae K (.type "bool") (.ref Aa) = some false)
 (CG : ae K (.type "int") (.ref Aa) = some false)
 (CH : ae K (.type "str") (.ref Aa) = some false)
 (BS : ae K (.type "list") (.ref Aa) = some false)
 (Bs : ae K (.type "tuple") (.ref Aa) = some false)
 (BT : ae K (.type "dict") (.ref Aa) = some false)
 (CJ : ae K (.ref Ab) (.ref Af) = some false)
 (CK : ae K (.ref Ac) (.ref Af) = some false)
 (BU : ae K (.ref Ad) (.ref Af) = some false)
 (Dt : ae K (.ref Ae) (.ref Af) = some false)
 (BV : ae K (.ref Aa) (.ref Af) = some false)
 (Du : ae K (.ref Af) (.ref Af) = some true)
 (Bf : ae K (.type "NoneType") (.ref Af) = some false)
 (Dv : ae K (.type "bool") (.ref Af) = some false)
 (DV : ae K (.type "int") (.ref Af) = some false)
 (DX : ae K (.type "str") (.ref Af) = some false)
 (Dw : ae K (.type "list") (.ref Af) = some false)
 (CL : ae K (.type "tuple") (.ref Af) = some false)
 (Dx : ae K (.type "dict") (.ref Af) = some false)
 (a1 : NI K "_law_well" f1) (l1 : LK K f1 oc1 od1 "_law_well" "_law_well" (top 35) kV1 dc1 pm1 an1 cd1 ct1 sl1) (c1 : CI K cd1 "_law_well") (k1 : KI K f1)
 (a2 : NI K "_law_cell_at" f2) (l2 : LK K f2 oc2 od2 "_law_cell_at" "_law_cell_at" (top 34) kV2 dc2 pm2 an2 cd2 ct2 sl2) (c2 : CI K cd2 "_law_cell_at") (k2 : KI K f2)
 (a3 : NI K "_law_draw" f3) (l3 : LK K f3 oc3 od3 "_law_draw" "_law_draw" (top 36) kV3 dc3 pm3 an3 cd3 ct3 sl3) (c3 : CI K cd3 "_law_draw") (k3 : KI K f3)
 (a4 : NI K "_law_word" f4) (l4 : LK K f4 oc4 od4 "_law_word" "_law_word" (top 37) kV4 dc4 pm4 an4 cd4 ct4 sl4) (c4 : CI K cd4 "_law_word") (k4 : KI K f4)
 (a5 : NI K "_law_names" f5) (l5 : LK K f5 oc5 od5 "_law_names" "_law_names" (top 38) kV5 dc5 pm5 an5 cd5 ct5 sl5) (c5 : CI K cd5 "_law_names") (k5 : KI K f5)
 (a6 : NI K "_law_some" f6) (l6 : LK K f6 oc6 od6 "_law_some" "_law_some" (top 39) kV6 dc6 pm6 an6 cd6 ct6 sl6) (c6 : CI K cd6 "_law_some") (k6 : KI K f6)
 (a7 : NI K "_law_leaf" f7) (l7 : LK K f7 oc7 od7 "_law_leaf" "_law_leaf" (top 40) kV7 dc7 pm7 an7 cd7 ct7 sl7) (c7 : CI K cd7 "_law_leaf") (k7 : KI K f7)
 (a8 : NI K "_law_tree" f8) (l8 : LK K f8 oc8 od8 "_law_tree" "_law_tree" (top 41) kV8 dc8 pm8 an8 cd8 ct8 sl8) (c8 : CI K cd8 "_law_tree") (k8 : KI K f8)
 (a9 : NI K "_law_great" f9) (l9 : LK K f9 oc9 od9 "_law_great" "_law_great" (top 42) kV9 dc9 pm9 an9 cd9 ct9 sl9) (c9 : CI K cd9 "_law_great") (k9 : KI K f9)
 (a10 : NI K "_law_between" f10) (l10 : LK K f10 oc10 od10 "_law_between" "_law_between" (top 44) kV10 dc10 pm10 an10 cd10 ct10 sl10) (c10 : CI K cd10 "_law_between") (k10 : KI K f10)
 (a11 : NI K "_law_words" f11) (l11 : LK K f11 oc11 od11 "_law_words" "_law_words" (top 45) kV11 dc11 pm11 an11 cd11 ct11 sl11) (c11 : CI K cd11 "_law_words") (k11 : KI K f11)
 (a12 : NI K "demand" f12) (l12 : LK K f12 oc12 od12 "demand" "demand" (top 19) kV12 dc12 pm12 an12 cd12 ct12 sl12) (c12 : CI K cd12 "demand") (k12 : KI K f12)
 (a13 : NI K "is_name" f13) (l13 : LK K f13 oc13 od13 "is_name" "is_name" (top 12) kV13 dc13 pm13 an13 cd13 ct13 sl13) (c13 : CI K cd13 "is_name") (k13 : KI K f13)
 (a14 : NI K "is_row" f14) (l14 : LK K f14 oc14 od14 "is_row" "is_row" (top 13) kV14 dc14 pm14 an14 cd14 ct14 sl14) (c14 : CI K cd14 "is_row") (k14 : KI K f14)
 (a15 : NI K "is_short_list" f15) (l15 : LK K f15 oc15 od15 "is_short_list" "is_short_list" (top 16) kV15 dc15 pm15 an15 cd15 ct15 sl15) (c15 : CI K cd15 "is_short_list") (k15 : KI K f15)
 (a16 : NI K "is_short_row" f16) (l16 : LK K f16 oc16 od16 "is_short_row" "is_short_row" (top 17) kV16 dc16 pm16 an16 cd16 ct16 sl16) (c16 : CI K cd16 "is_short_row") (k16 : KI K f16)
 (a17 : NI K "is_whole" f17) (l17 : LK K f17 oc17 od17 "is_whole" "is_whole" (top 11) kV17 dc17 pm17 an17 cd17 ct17 sl17) (c17 : CI K cd17 "is_whole") (k17 : KI K f17)
 (a18 : NI K "is_up_to" f18) (l18 : LK K f18 oc18 od18 "is_up_to" "is_up_to" (top 15) kV18 dc18 pm18 an18 cd18 ct18 sl18) (c18 : CI K cd18 "is_up_to") (k18 : KI K f18)
 (a19 : FI K Ab "__init__" f19) (i19 : aV K (.ref f19) = true) (l19 : LK K f19 oc19 od19 "__init__" "Count.__init__" (zt (top 23) 0) kV19 dc19 pm19 an19 cd19 ct19 sl19) (c19 : CI K cd19 "Count.__init__") (k19 : KI K f19)
 (a20 : NI K "is_pair" f20) (l20 : LK K f20 oc20 od20 "is_pair" "is_pair" (top 18) kV20 dc20 pm20 an20 cd20 ct20 sl20) (c20 : CI K cd20 "is_pair") (k20 : KI K f20)
 (a21 : FI K Ac "__init__" f21) (i21 : aV K (.ref f21) = true) (l21 : LK K f21 oc21 od21 "__init__" "Weigh.__init__" (zt (top 24) 0) kV21 dc21 pm21 an21 cd21 ct21 sl21) (c21 : CI K cd21 "Weigh.__init__") (k21 : KI K f21)
 (Et : FI K Ab "own_names" f22)
  (i22 : aV K (.ref f22) = true) (l22 : LK K f22 oc22 od22 "own_names" "Count.own_names" (zt (top 23) 1) kV22 dc22 pm22 an22 cd22 ct22 sl22) (c22 : CI K cd22 "Count.own_names") (k22 : KI K f22)
 (Eu : FI K Ac "own_names" f23)
  (i23 : aV K (.ref f23) = true) (l23 : LK K f23 oc23 od23 "own_names" "Weigh.own_names" (zt (top 24) 1) kV23 dc23 pm23 an23 cd23 ct23 sl23) (c23 : CI K cd23 "Weigh.own_names") (k23 : KI K f23)
 (DY : FI K Ad "own_names" f24)
  (i24 : aV K (.ref f24) = true) (l24 : LK K f24 oc24 od24 "own_names" "Houses.own_names" (zt (top 25) 1) kV24 dc24 pm24 an24 cd24 ct24 sl24) (c24 : CI K cd24 "Houses.own_names") (k24 : KI K f24)
 (EZ : FI K Ae "own_names" f25)
 (DZ : FI K Aa "own_names" f25)
 (Fa : FI K Af "own_names" f25)
  (i25 : aV K (.ref f25) = true) (l25 : LK K f25 oc25 od25 "own_names" "Wish.own_names" (zt (top 22) 0) kV25 dc25 pm25 an25 cd25 ct25 sl25) (c25 : CI K cd25 "Wish.own_names") (k25 : KI K f25)
 (Ev : FI K Ab "made_of" f26)
 (Ew : FI K Ac "made_of" f26)
 (Ea : FI K Ad "made_of" f26)
  (i26 : aV K (.ref f26) = true) (l26 : LK K f26 oc26 od26 "made_of" "Wish.made_of" (zt (top 22) 1) kV26 dc26 pm26 an26 cd26 ct26 sl26) (c26 : CI K cd26 "Wish.made_of") (k26 : KI K f26)
 (Fb : FI K Ae "made_of" f27)
  (i27 : aV K (.ref f27) = true) (l27 : LK K f27 oc27 od27 "made_of" "Both.made_of" (zt (top 26) 1) kV27 dc27 pm27 an27 cd27 ct27 sl27) (c27 : CI K cd27 "Both.made_of") (k27 : KI K f27)
 (Eb : FI K Aa "made_of" f28)
  (i28 : aV K (.ref f28) = true) (l28 : LK K f28 oc28 od28 "made_of" "Either.made_of" (zt (top 27) 1) kV28 dc28 pm28 an28 cd28 ct28 sl28) (c28 : CI K cd28 "Either.made_of") (k28 : KI K f28)
 (Fc : FI K Af "made_of" f29)
  (i29 : aV K (.ref f29) = true) (l29 : LK K f29 oc29 od29 "made_of" "Then.made_of" (zt (top 28) 1) kV29 dc29 pm29 an29 cd29 ct29 sl29) (c29 : CI K cd29 "Then.made_of") (k29 : KI K f29)
 (Ex : FI K Ab "names_in" f30)
 (Ey : FI K Ac "names_in" f30)
 (Ec : FI K Ad "names_in" f30)
 (Fd : FI K Ae "names_in" f30)
 (Ed : FI K Aa "names_in" f30)
 (Fe : FI K Af "names_in" f30)
  (i30 : aV K (.ref f30) = true) (l30 : LK K f30 oc30 od30 "names_in" "Wish.names_in" (zt (top 22) 2) kV30 dc30 pm30 an30 cd30 ct30 sl30) (c30 : CI K cd30 "Wish.names_in") (k30 : KI K f30)
 (Ez : FI K Ab "depth" f31)
 (EA : FI K Ac "depth" f31)
 (Ee : FI K Ad "depth" f31)
 (Ff : FI K Ae "depth" f31)
 (Ef : FI K Aa "depth" f31)
 (Fg : FI K Af "depth" f31)
  (i31 : aV K (.ref f31) = true) (l31 : LK K f31 oc31 od31 "depth" "Wish.depth" (zt (top 22) 3) kV31 dc31 pm31 an31 cd31 ct31 sl31) (c31 : CI K cd31 "Wish.depth") (k31 : KI K f31)
 (EB : FI K Ab "parts_many" f32)
 (EC : FI K Ac "parts_many" f32)
 (Eg : FI K Ad "parts_many" f32)
 (Fh : FI K Ae "parts_many" f32)
 (Eh : FI K Aa "parts_many" f32)
 (Fi : FI K Af "parts_many" f32)
  (i32 : aV K (.ref f32) = true) (l32 : LK K f32 oc32 od32 "parts_many" "Wish.parts_many" (zt (top 22) 4) kV32 dc32 pm32 an32 cd32 ct32 sl32) (c32 : CI K cd32 "Wish.parts_many") (k32 : KI K f32)
 (a33 : NI K "demand_size" f33) (l33 : LK K f33 oc33 od33 "demand_size" "demand_size" (top 21) kV33 dc33 pm33 an33 cd33 ct33 sl33) (c33 : CI K cd33 "demand_size") (k33 : KI K f33)
 (a34 : FI K Ad "__init__" f34) (i34 : aV K (.ref f34) = true) (l34 : LK K f34 oc34 od34 "__init__" "Houses.__init__" (zt (top 25) 0) kV34 dc34 pm34 an34 cd34 ct34 sl34) (c34 : CI K cd34 "Houses.__init__") (k34 : KI K f34)
 (a35 : NI K "is_wish" f35) (l35 : LK K f35 oc35 od35 "is_wish" "is_wish" (top 14) kV35 dc35 pm35 an35 cd35 ct35 sl35) (c35 : CI K cd35 "is_wish") (k35 : KI K f35)
 (a36 : NI K "demand_wishes" f36) (l36 : LK K f36 oc36 od36 "demand_wishes" "demand_wishes" (top 20) kV36 dc36 pm36 an36 cd36 ct36 sl36) (c36 : CI K cd36 "demand_wishes") (k36 : KI K f36)
 (a37 : FI K Ae "__init__" f37) (i37 : aV K (.ref f37) = true) (l37 : LK K f37 oc37 od37 "__init__" "Both.__init__" (zt (top 26) 0) kV37 dc37 pm37 an37 cd37 ct37 sl37) (c37 : CI K cd37 "Both.__init__") (k37 : KI K f37)
 (a38 : FI K Aa "__init__" f38) (i38 : aV K (.ref f38) = true) (l38 : LK K f38 oc38 od38 "__init__" "Either.__init__" (zt (top 27) 0) kV38 dc38 pm38 an38 cd38 ct38 sl38) (c38 : CI K cd38 "Either.__init__") (k38 : KI K f38)
 (a39 : FI K Af "__init__" f39) (i39 : aV K (.ref f39) = true) (l39 : LK K f39 oc39 od39 "__init__" "Then.__init__" (zt (top 28) 0) kV39 dc39 pm39 an39 cd39 ct39 sl39) (c39 : CI K cd39 "Then.__init__") (k39 : KI K f39)
 (a40 : NI K "_law_made" f40) (l40 : LK K f40 oc40 od40 "_law_made" "_law_made" (top 43) kV40 dc40 pm40 an40 cd40 ct40 sl40) (c40 : CI K cd40 "_law_made") (k40 : KI K f40)
 (a41 : NI K "show_leaf" f41) (l41 : LK K f41 oc41 od41 "show_leaf" "show_leaf" (top 30) kV41 dc41 pm41 an41 cd41 ct41 sl41) (c41 : CI K cd41 "show_leaf") (k41 : KI K f41)
 (a42 : NI K "show_wish" f42) (l42 : LK K f42 oc42 od42 "show_wish" "show_wish" (top 32) kV42 dc42 pm42 an42 cd42 ct42 sl42) (c42 : CI K cd42 "show_wish") (k42 : KI K f42)
 (a43 : NI K "show_joined" f43) (l43 : LK K f43 oc43 od43 "show_joined" "show_joined" (top 31) kV43 dc43 pm43 an43 cd43 ct43 sl43) (c43 : CI K cd43 "show_joined") (k43 : KI K f43)
 (a44 : NI K "law" f44) (l44 : LK K f44 oc44 od44 "law" "law" (top 46) kV44 dc44 pm44 an44 cd44 ct44 sl44) (c44 : CI K cd44 "law") (k44 : KI K f44)
 (GD : NZ K "int")
 (GE : NZ K "len")
 (Gh : NZ K "range")
 (Gq : NZ K "list")
 (GF : NZ K "sum")
 (GG : NZ K "min")
 (GH : NZ K "str")
 (Dy : NZ K "isinstance")
 (GI : NZ K "all")
 (GJ : NZ K "set")
 (Gr : NZ K "bool")
 (Gi : NZ K "tuple")
 (FL : NZ K "sorted")
 (GK : NZ K "max")
 {t_LONGEST_NAME t_MOST_LISTED t_MOST_WEIGHT t_MOST_NAMES t_MOST_DEEP t_MOST_PARTS : Tok}
 (BW : bq K aT "LONGEST_NAME" = some (some (.int 8 t_LONGEST_NAME)))
 (CM : bq K aT "MOST_LISTED" = some (some (.int 5 t_MOST_LISTED)))
 (CN : bq K aT "MOST_WEIGHT" = some (some (.int 1000000000 t_MOST_WEIGHT)))
 (Dz : bq K aT "MOST_NAMES" = some (some (.int 5 t_MOST_NAMES)))
 (Ei : bq K aT "MOST_DEEP" = some (some (.int 4 t_MOST_DEEP)))
 (DB : bq K aT "MOST_PARTS" = some (some (.int 12 t_MOST_PARTS)))
 : ∃ fd : FuncData, (∀ (s : Shared) (v : Value), BindsTo s fd ⟨[v], []⟩ [("_law_script", v)]) /\ ∀ base : Heap, K.In base -> base.Ns aT mg -> FnOk l.prog w K mg base yD 17 fa fd ["_law_script"] (zae K) := by
 have e := hfa.symm.trans (aq X G a44)
 cases e
 obtain ⟨cls, hcls⟩ : ∃ c : Nat -> Option Addr, c = (fun n : Nat => cG n [(12, Ab), (13, Ac), (14, Ad), (15, Ae), (16, Aa), (17, Af)]) := ⟨_, rfl⟩
 have sp : ∀ c C, cls c = some C -> (c = 12 /\ C = Ab) \/ (c = 13 /\ C = Ac) \/ (c = 14 /\ C = Ad) \/ (c = 15 /\ C = Ae) \/ (c = 16 /\ C = Aa) \/ (c = 17 /\ C = Af) := fun c C h => by
  rw [hcls] at h
  have hm := zhX h
  simpa only [ar, Prod.mk.injEq, aO, or_false] using hm
 have GT : cls 12 = some Ab := by rw [hcls]; rfl
 have GU : cls 13 = some Ac := by rw [hcls]; rfl
 have GQ : cls 14 = some Ad := by rw [hcls]; rfl
 have GZ : cls 15 = some Ae := by rw [hcls]; rfl
 have GR : cls 16 = some Aa := by rw [hcls]; rfl
 have Ha : cls 17 = some Af := by rw [hcls]; rfl
 have F1 := zO (st := (top 35)) l1 c1 k1
 have b1 := F1.binds (ps := ["_law_cell"]) fun _ _ _ _ _ _ u h => match u, h with | [_], _ => rfl
 have F2 := zO (st := (top 34)) l2 c2 k2
 have b2 := F2.binds (ps := ["_law_script", "_law_k"]) fun _ _ _ _ _ _ u h => match u, h with | [_, _], _ => rfl
 have F3 := zO (st := (top 36)) l3 c3 k3
 have b3 := F3.binds (ps := ["_law_well_here", "_law_base"]) fun _ _ _ _ _ _ u h => match u, h with | [_, _], _ => rfl
 have F4 := zO (st := (top 37)) l4 c4 k4
 have b4 := F4.binds (ps := ["_law_well_here", "_law_last"]) fun _ _ _ _ _ _ u h => match u, h with | [_, _], _ => rfl
 have F5 := zO (st := (top 38)) l5 c5 k5
 have b5 := F5.binds (ps := ["_law_well_here", "_law_most"]) fun _ _ _ _ _ _ u h => match u, h with | [_, _], _ => rfl
 have F6 := zO (st := (top 39)) l6 c6 k6
 have b6 := F6.binds (ps := ["_law_well_here", "_law_names_here"]) fun _ _ _ _ _ _ u h => match u, h with | [_, _], _ => rfl
 have F7 := zO (st := (top 40)) l7 c7 k7
 have b7 := F7.binds (ps := ["_law_well_here", "_law_names_here"]) fun _ _ _ _ _ _ u h => match u, h with | [_, _], _ => rfl
 have F8 := zO (st := (top 41)) l8 c8 k8
 have b8 := F8.binds (ps := ["_law_well_here", "_law_names_here", "_law_deep", "_law_budget"]) fun _ _ _ _ _ _ u h => match u, h with | [_, _, _, _], _ => rfl
 have F9 := zO (st := (top 42)) l9 c9 k9
 have b9 := F9.binds (ps := ["_law_well_here", "_law_names_here"]) fun _ _ _ _ _ _ u h => match u, h with | [_, _], _ => rfl
 have F10 := zO (st := (top 44)) l10 c10 k10
 have b10 := F10.binds (ps := ["_law_parts", "_law_sign"]) fun _ _ _ _ _ _ u h => match u, h with | [_, _], _ => rfl
 have F11 := zO (st := (top 45)) l11 c11 k11
 have b11 := F11.binds (ps := ["_law_tree_here"]) fun _ _ _ _ _ _ u h => match u, h with | [_], _ => rfl
 have F12 := zO (st := (top 19)) l12 c12 k12
 have b12 := F12.binds (ps := ["right", "words"]) fun _ _ _ _ _ _ u h => match u, h with | [_, _], _ => rfl
 have F13 := zO (st := (top 12)) l13 c13 k13
 have b13 := F13.binds (ps := ["thing"]) fun _ _ _ _ _ _ u h => match u, h with | [_], _ => rfl
 have F14 := zO (st := (top 13)) l14 c14 k14
 have b14 := F14.binds (ps := ["thing"]) fun _ _ _ _ _ _ u h => match u, h with | [_], _ => rfl
 have F15 := zO (st := (top 16)) l15 c15 k15
 have b15 := F15.binds (ps := ["thing"]) fun _ _ _ _ _ _ u h => match u, h with | [_], _ => rfl
 have F16 := zO (st := (top 17)) l16 c16 k16
 have b16 := F16.binds (ps := ["thing"]) fun _ _ _ _ _ _ u h => match u, h with | [_], _ => rfl
 have F17 := zO (st := (top 11)) l17 c17 k17
 have b17 := F17.binds (ps := ["thing"]) fun _ _ _ _ _ _ u h => match u, h with | [_], _ => rfl
 have F18 := zO (st := (top 15)) l18 c18 k18
 have b18 := F18.binds (ps := ["thing", "most"]) fun _ _ _ _ _ _ u h => match u, h with | [_, _], _ => rfl
 have F19 := zO (st := (zt (top 23) 0)) l19 c19 k19
 have b19 := F19.binds (ps := ["self", "many", "names"]) fun _ _ _ _ _ _ u h => match u, h with | [_, _, _], _ => rfl
 have F20 := zO (st := (top 18)) l20 c20 k20
 have b20 := F20.binds (ps := ["thing"]) fun _ _ _ _ _ _ u h => match u, h with | [_], _ => rfl
 have F21 := zO (st := (zt (top 24) 0)) l21 c21 k21
 have b21 := F21.binds (ps := ["self", "least", "pairs"]) fun _ _ _ _ _ _ u h => match u, h with | [_, _, _], _ => rfl
 have F22 := zO (st := (zt (top 23) 1)) l22 c22 k22
 have b22 := F22.binds (ps := ["self"]) fun _ _ _ _ _ _ u h => match u, h with | [_], _ => rfl
 have F23 := zO (st := (zt (top 24) 1)) l23 c23 k23
 have b23 := F23.binds (ps := ["self"]) fun _ _ _ _ _ _ u h => match u, h with | [_], _ => rfl
 have F24 := zO (st := (zt (top 25) 1)) l24 c24 k24
 have b24 := F24.binds (ps := ["self"]) fun _ _ _ _ _ _ u h => match u, h with | [_], _ => rfl
 have F25 := zO (st := (zt (top 22) 0)) l25 c25 k25
 have b25 := F25.binds (ps := ["self"]) fun _ _ _ _ _ _ u h => match u, h with | [_], _ => rfl
 have F26 := zO (st := (zt (top 22) 1)) l26 c26 k26
 have b26 := F26.binds (ps := ["self"]) fun _ _ _ _ _ _ u h => match u, h with | [_], _ => rfl
 have F27 := zO (st := (zt (top 26) 1)) l27 c27 k27
 have b27 := F27.binds (ps := ["self"]) fun _ _ _ _ _ _ u h => match u, h with | [_], _ => rfl
 have F28 := zO (st := (zt (top 27) 1)) l28 c28 k28
 have b28 := F28.binds (ps := ["self"]) fun _ _ _ _ _ _ u h => match u, h with | [_], _ => rfl
 have F29 := zO (st := (zt (top 28) 1)) l29 c29 k29
 have b29 := F29.binds (ps := ["self"]) fun _ _ _ _ _ _ u h => match u, h with | [_], _ => rfl
 have F30 := zO (st := (zt (top 22) 2)) l30 c30 k30
 have b30 := F30.binds (ps := ["self"]) fun _ _ _ _ _ _ u h => match u, h with | [_], _ => rfl
 have F31 := zO (st := (zt (top 22) 3)) l31 c31 k31
 have b31 := F31.binds (ps := ["self"]) fun _ _ _ _ _ _ u h => match u, h with | [_], _ => rfl
 have F32 := zO (st := (zt (top 22) 4)) l32 c32 k32
 have b32 := F32.binds (ps := ["self"]) fun _ _ _ _ _ _ u h => match u, h with | [_], _ => rfl
 have F33 := zO (st := (top 21)) l33 c33 k33
 have b33 := F33.binds (ps := ["wish"]) fun _ _ _ _ _ _ u h => match u, h with | [_], _ => rfl
 have F34 := zO (st := (zt (top 25) 0)) l34 c34 k34
 have b34 := F34.binds (ps := ["self", "many", "each", "houses"]) fun _ _ _ _ _ _ u h => match u, h with | [_, _, _, _], _ => rfl
 have F35 := zO (st := (top 14)) l35 c35 k35
 have b35 := F35.binds (ps := ["thing"]) fun _ _ _ _ _ _ u h => match u, h with | [_], _ => rfl
 have F36 := zO (st := (top 20)) l36 c36 k36
 have b36 := F36.binds (ps := ["wishes"]) fun _ _ _ _ _ _ u h => match u, h with | [_], _ => rfl
 have F37 := zO (st := (zt (top 26) 0)) l37 c37 k37
 have b37 := F37.binds (ps := ["self", "wishes"]) fun _ _ _ _ _ _ u h => match u, h with | [_, _], _ => rfl
 have F38 := zO (st := (zt (top 27) 0)) l38 c38 k38
 have b38 := F38.binds (ps := ["self", "wishes"]) fun _ _ _ _ _ _ u h => match u, h with | [_, _], _ => rfl
 have F39 := zO (st := (zt (top 28) 0)) l39 c39 k39
 have b39 := F39.binds (ps := ["self", "one", "other"]) fun _ _ _ _ _ _ u h => match u, h with | [_, _, _], _ => rfl
 have F40 := zO (st := (top 43)) l40 c40 k40
 have b40 := F40.binds (ps := ["_law_tree_here"]) fun _ _ _ _ _ _ u h => match u, h with | [_], _ => rfl
 have F41 := zO (st := (top 30)) l41 c41 k41
 have b41 := F41.binds (ps := ["wish"]) fun _ _ _ _ _ _ u h => match u, h with | [_], _ => rfl
 have F42 := zO (st := (top 32)) l42 c42 k42
 have b42 := F42.binds (ps := ["wish"]) fun _ _ _ _ _ _ u h => match u, h with | [_], _ => rfl
 have F43 := zO (st := (top 31)) l43 c43 k43
 have b43 := F43.binds (ps := ["sign", "wishes"]) fun _ _ _ _ _ _ u h => match u, h with | [_, _], _ => rfl
 have F44 := zO (st := (top 46)) l44 c44 k44
 have b44 := F44.binds (ps := ["_law_script"]) fun _ _ _ _ _ _ u h => match u, h with | [_], _ => rfl
 have AH : Cls K Ab := ⟨Fu, Fv, Fw, Fx⟩
 have AI : Cls K Ac := ⟨FC, FD, FE, FF⟩
 have AB : Cls K Ad := ⟨EH, EI, EJ, EL⟩
 have AJ : Cls K Ae := ⟨FR, FS, FT, FU⟩
 have AC : Cls K Aa := ⟨ER, ES, ET, EU⟩
 have AK : Cls K Af := ⟨FZ, Ga, Gb, Gc⟩
 have ow_Count : UA K Ab := ⟨AH, FA, wg, wt, FB⟩
 have ow_Weigh : UA K Ac := ⟨AI, FJ, wg, wt, FK⟩
 have ow_Houses : UA K Ad := ⟨AB, EO, wg, wt, EQ⟩
 have ow_Both : UA K Ae := ⟨AJ, FX, wg, wt, FY⟩
 have ow_Either : UA K Aa := ⟨AC, EX, wg, wt, EY⟩
 have ow_Then : UA K Af := ⟨AK, Gf, wg, wt, Gg⟩
 have M : yq K mg cls (fun n : Nat => [0, 0, 0, 0, 0, 0, 0, 0, 0, 0, 0, 0, Ab, Ac, Ad, Ae, Aa, Af, 0, 0, 0, 0].getD n 0) := by
  refine ⟨aR X G GD, aR X G GE, aR X G Gh, aR X G Gq, aR X G GF, aR X G GG, aR X G GH, aR X G Dy, aR X G GI, aR X G GJ, aR X G Gr, aR X G Gi, aR X G FL, aR X G GK, ⟨t_LONGEST_NAME, aq X G BW⟩, ⟨t_MOST_LISTED, aq X G CM⟩, ⟨t_MOST_WEIGHT, aq X G CN⟩, ⟨t_MOST_NAMES, aq X G Dz⟩, ⟨t_MOST_DEEP, aq X G Ei⟩, ⟨t_MOST_PARTS, aq X G DB⟩, ?CO, ?CQ, ?El, ?CS, ?BZ, ?AT, ?ED, ?CT, ?Fj, aq X G Eo, aq X G Ep, aq X G DC, aq X G Fk, aq X G DD, aq X G Fl, ?AA, ?FN, ?FO, ?Go, ?Fp, ?Gp⟩
  case CO =>
   intro c C h11 h
   walk_at "q"
   · exact ⟨AH, CU⟩
   · exact ⟨AI, CW⟩
   · exact ⟨AB, Ci⟩
   · exact ⟨AJ, DL⟩
   · exact ⟨AC, Cm⟩
   · exact ⟨AK, DN⟩
  case CQ =>
   intro c C h11 h
   walk_at "q"
   · exact ⟨AH, Ca⟩
   · exact ⟨AI, Ce⟩
   · exact ⟨AB, Bz⟩
   · exact ⟨AJ, Da⟩
   · exact ⟨AC, BD⟩
   · exact ⟨AK, Df⟩
  case El =>
   intro c C h11 h
   walk_at "q"
   · exact ⟨AH, Cb⟩
   · exact ⟨AI, Cf⟩
   · exact ⟨AB, BA⟩
   · exact ⟨AJ, Db⟩
   · exact ⟨AC, BE⟩
   · exact ⟨AK, Dg⟩
  case CS =>
   intro c C h11 h
   walk_at "q"
   · exact ⟨AH, Cc⟩
   · exact ⟨AI, Cg⟩
   · exact ⟨AB, BB⟩
   · exact ⟨AJ, Dc⟩
   · exact ⟨AC, BF⟩
   · exact ⟨AK, Dh⟩
  case BZ =>
   intro c C h11 h
   walk_at "q"
   · exact ⟨AH, Bv⟩
   · exact ⟨AI, Bx⟩
   · exact ⟨AB, Bi⟩
   · exact ⟨AJ, Ck⟩
   · exact ⟨AC, Bk⟩
   · exact ⟨AK, Cp⟩
  case AT =>
   intro c C h11 h
   walk_at "q"
   · exact ⟨AH, Bw⟩
   · exact ⟨AI, By⟩
   · exact ⟨AB, Bj⟩
   · exact ⟨AJ, Cl⟩
   · exact ⟨AC, Bl⟩
   · exact ⟨AK, Cq⟩
  case ED =>
   intro c C h11 h
   walk_at "q"
   · exact ⟨AH, DJ⟩
   · exact ⟨AI, DK⟩
   · exact ⟨AB, CZ⟩
   · exact ⟨AJ, Er⟩
   · exact ⟨AC, De⟩
   · exact ⟨AK, Es⟩
  case CT =>
   intro c C h11 h
   walk_at "q"
   · exact ⟨AH, Cd⟩
   · exact ⟨AI, Ch⟩
   · exact ⟨AB, BC⟩
   · exact ⟨AJ, Dd⟩
   · exact ⟨AC, BG⟩
   · exact ⟨AK, Di⟩
  case Fj =>
   intro c C h11 h
   walk_at "q"
   · exact ⟨AH, CV⟩
   · exact ⟨AI, CY⟩
   · exact ⟨AB, Cj⟩
   · exact ⟨AJ, DM⟩
   · exact ⟨AC, Co⟩
   · exact ⟨AK, DQ⟩
  case AA =>
   refine ⟨?_, ?_⟩
   · intro c C b h hb
     walk_at "q"
     · cases zS hb (c := true) rfl; exact ⟨ow_Count, An⟩
     · cases zS hb (c := true) rfl; exact ⟨ow_Weigh, Ao⟩
     · cases zS hb (c := true) rfl; exact ⟨ow_Houses, Al⟩
     · cases zS hb (c := true) rfl; exact ⟨ow_Both, Ar⟩
     · cases zS hb (c := true) rfl; exact ⟨ow_Either, Am⟩
     · cases zS hb (c := true) rfl; exact ⟨ow_Then, As⟩
   · intro a ha
     simp only [Qh, ar, aO, or_false] at ha
     rcases ha with rfl | rfl | rfl | rfl | rfl | rfl | rfl
     · exact Ak
     · exact At
     · exact Aw
     · exact Ax
     · exact Au
     · exact Ap
     · exact Av
  case FN =>
   refine ⟨?_, ?_⟩
   · intro c C b h hb
     walk_at "q"
     · cases zS hb (c := true) rfl; exact ⟨ow_Count, BH⟩
     · cases zS hb (c := false) rfl; exact ⟨ow_Weigh, BI⟩
     · cases zS hb (c := false) rfl; exact ⟨ow_Houses, Bm⟩
     · cases zS hb (c := false) rfl; exact ⟨ow_Both, Cr⟩
     · cases zS hb (c := false) rfl; exact ⟨ow_Either, Bn⟩
     · cases zS hb (c := false) rfl; exact ⟨ow_Then, Cs⟩
   · intro a ha
     simp only [Qh, ar, aO, or_false] at ha
     rcases ha with rfl | rfl | rfl | rfl | rfl | rfl | rfl
     · exact Ba
     · exact Ct
     · exact Dj
     · exact Dk
     · exact Cu
     · exact BJ
     · exact Cv
  case FO =>
   refine ⟨?_, ?_⟩
   · intro c C b h hb
     walk_at "q"
     · cases zS hb (c := false) rfl; exact ⟨ow_Count, BK⟩
     · cases zS hb (c := true) rfl; exact ⟨ow_Weigh, BL⟩
     · cases zS hb (c := false) rfl; exact ⟨ow_Houses, Bo⟩
     · cases zS hb (c := false) rfl; exact ⟨ow_Both, Cw⟩
     · cases zS hb (c := false) rfl; exact ⟨ow_Either, Bp⟩
     · cases zS hb (c := false) rfl; exact ⟨ow_Then, Cy⟩
   · intro a ha
     simp only [Qh, ar, aO, or_false] at ha
     rcases ha with rfl | rfl | rfl | rfl | rfl | rfl | rfl
     · exact Bb
     · exact Cz
     · exact Dl
     · exact Dm
     · exact CA
     · exact BM
     · exact CB
  case Go =>
   refine ⟨?_, ?_⟩
   · intro c C b h hb
     walk_at "q"
     · cases zS hb (c := false) rfl; exact ⟨ow_Count, CC⟩
     · cases zS hb (c := false) rfl; exact ⟨ow_Weigh, CD⟩
     · cases zS hb (c := false) rfl; exact ⟨ow_Houses, BN⟩
     · cases zS hb (c := true) rfl; exact ⟨ow_Both, Do⟩
     · cases zS hb (c := false) rfl; exact ⟨ow_Either, BO⟩
     · cases zS hb (c := false) rfl; exact ⟨ow_Then, Dp⟩
   · intro a ha
     simp only [Qh, ar, aO, or_false] at ha
     rcases ha with rfl | rfl | rfl | rfl | rfl | rfl | rfl
     · exact Bc
     · exact Dq
     · exact DR
     · exact DU
     · exact Dr
     · exact CF
     · exact Ds
  case Fp =>
   refine ⟨?_, ?_⟩
   · intro c C b h hb
     walk_at "q"
     · cases zS hb (c := false) rfl; exact ⟨ow_Count, Bq⟩
     · cases zS hb (c := false) rfl; exact ⟨ow_Weigh, Br⟩
     · cases zS hb (c := false) rfl; exact ⟨ow_Houses, Bd⟩
     · cases zS hb (c := false) rfl; exact ⟨ow_Both, BP⟩
     · cases zS hb (c := true) rfl; exact ⟨ow_Either, Be⟩
     · cases zS hb (c := false) rfl; exact ⟨ow_Then, BQ⟩
   · intro a ha
     simp only [Qh, ar, aO, or_false] at ha
     rcases ha with rfl | rfl | rfl | rfl | rfl | rfl | rfl
     · exact AZ
     · exact BR
     · exact CG
     · exact CH
     · exact BS
     · exact Bs
     · exact BT
  case Gp =>
   refine ⟨?_, ?_⟩
   · intro c C b h hb
     walk_at "q"
     · cases zS hb (c := false) rfl; exact ⟨ow_Count, CJ⟩
     · cases zS hb (c := false) rfl; exact ⟨ow_Weigh, CK⟩
     · cases zS hb (c := false) rfl; exact ⟨ow_Houses, BU⟩
     · cases zS hb (c := false) rfl; exact ⟨ow_Both, Dt⟩
     · cases zS hb (c := false) rfl; exact ⟨ow_Either, BV⟩
     · cases zS hb (c := true) rfl; exact ⟨ow_Then, Du⟩
   · intro a ha
     simp only [Qh, ar, aO, or_false] at ha
     rcases ha with rfl | rfl | rfl | rfl | rfl | rfl | rfl
     · exact Bf
     · exact Dv
     · exact DV
     · exact DX
     · exact Dw
     · exact CL
     · exact Dx
 refine ⟨cJ "law" "law" (ZU (top 46)) (Qw (top 46)) (zv (top 46)) .none kV44 dc44 pm44 an44 cd44 ct44, fun s v => .of_eq rfl, fun base _ _ => ?_⟩
 have Ft : HM l.prog w K mg base cls "_law_well" 1 ["_law_cell"] [] true (zo Qr) := ⟨⟨_, _, (zkd F1 M).mono (by omega), b1, k1, aq X G a1⟩, fun _ _ h => zI h⟩
 have DH : HM l.prog w K mg base cls "_law_cell_at" 1 ["_law_script", "_law_k"] [] false (zo Jn) := ⟨⟨_, _, (zeH F2 M).mono (by omega), b2, k2, aq X G a2⟩, fun _ _ h => zI h⟩
 have Ah : HM l.prog w K mg base cls "_law_draw" 1 ["_law_well_here", "_law_base"] [0] false (zo zp) := ⟨⟨_, _, (zke F3 M).mono (by omega), b3, k3, aq X G a3⟩, fun _ _ h => zI h⟩
 have Fq : HM l.prog w K mg base cls "_law_word" 2 ["_law_well_here", "_law_last"] [0] false (zo Qs) := ⟨⟨_, _, (zkf F4 M Ah).mono (by omega), b4, k4, aq X G a4⟩, fun _ _ h => zI h⟩
 have EF : HM l.prog w K mg base cls "_law_names" 3 ["_law_well_here", "_law_most"] [0] false (zo QA) := ⟨⟨_, _, (ziE F5 M Ah Fq).mono (by omega), b5, k5, aq X G a5⟩, fun _ _ h => zI h⟩
 have Em : HM l.prog w K mg base cls "_law_some" 2 ["_law_well_here", "_law_names_here"] [0] false (zo Jo) := ⟨⟨_, _, (zkg F6 M Ah).mono (by omega), b6, k6, aq X G a6⟩, fun _ _ h => zI h⟩
 have AR : HM l.prog w K mg base cls "_law_leaf" 3 ["_law_well_here", "_law_names_here"] [0] false (zo yz) := ⟨⟨_, _, (zkh F7 M Ah Em).mono (by omega), b7, k7, aq X G a7⟩, fun _ _ h => zI h⟩
 have Gs : ∀ n, HM l.prog w K mg base cls "_law_tree" (3 + 1 * n) ["_law_well_here", "_law_names_here", "_law_deep", "_law_budget"] [0] false (zo (jE n)) := by
  intro n
  induction n with
  | zero => exact ⟨⟨_, _, FnOk.no, b8, k8, aq X G a8⟩, fun _ _ h => Wr h⟩
  | succ n AS =>
   exact ⟨⟨_, _, (zki F8 M Ah AR AS).mono (by omega), b8, k8, aq X G a8⟩, fun _ _ h => zI h⟩
 have AS : HM l.prog w K mg base cls "_law_tree" 9 ["_law_well_here", "_law_names_here", "_law_deep", "_law_budget"] [0] false (zo (jE 6)) := Gs 6
 have EG : HM l.prog w K mg base cls "_law_great" 4 ["_law_well_here", "_law_names_here"] [0] false (zo J1) := ⟨⟨_, _, (ziI F9 M Ah AR).mono (by omega), b9, k9, aq X G a9⟩, fun _ _ h => zI h⟩
 have BX : HM l.prog w K mg base cls "_law_between" 1 ["_law_parts", "_law_sign"] [] false (zo j3) := ⟨⟨_, _, (zeI F10 M).mono (by omega), b10, k10, aq X G a10⟩, fun _ _ h => zI h⟩
 have Gj : ∀ n, HM l.prog w K mg base cls "_law_words" (1 + 1 * n) ["_law_tree_here"] [] false (zo (jq n)) := by
  intro n
  induction n with
  | zero => exact ⟨⟨_, _, FnOk.no, b11, k11, aq X G a11⟩, fun _ _ h => Wr h⟩
  | succ n AU =>
   exact ⟨⟨_, _, (ziJ F11 M BX AU).mono (by omega), b11, k11, aq X G a11⟩, fun _ _ h => zI h⟩
 have AU : HM l.prog w K mg base cls "_law_words" 7 ["_law_tree_here"] [] false (zo (jq 6)) := Gj 6
 have Aj : HM l.prog w K mg base cls "demand" 1 ["right", "words"] [] false (zo z4) := ⟨⟨_, _, (zkj F12 M).mono (by omega), b12, k12, aq X G a12⟩, fun _ _ h => zI h⟩
 have Bg : HM l.prog w K mg base cls "is_name" 1 ["thing"] [] false (zo jM) := ⟨⟨_, _, (ziL F13 M).mono (by omega), b13, k13, aq X G a13⟩, fun _ _ h => zI h⟩
 have Bt : HM l.prog w K mg base cls "is_row" 2 ["thing"] [] false (zo Jp) := ⟨⟨_, _, (zkk F14 M Bg).mono (by omega), b14, k14, aq X G a14⟩, fun _ _ h => zI h⟩
 have Aq : HM l.prog w K mg base cls "is_short_list" 1 ["thing"] [] false (zo z0) := ⟨⟨_, _, (za5 F15 M).mono (by omega), b15, k15, aq X G a15⟩, fun _ _ h => zI h⟩
 have AQ : HM l.prog w K mg base cls "is_short_row" 3 ["thing"] [] false (zo jF) := ⟨⟨_, _, (zbH F16 M Bt Aq).mono (by omega), b16, k16, aq X G a16⟩, fun _ _ h => zI h⟩
 have En : HM l.prog w K mg base cls "is_whole" 1 ["thing"] [] false (zo J7) := ⟨⟨_, _, (zgZ F17 M).mono (by omega), b17, k17, aq X G a17⟩, fun _ _ h => zI h⟩
 have AF : HM l.prog w K mg base cls "is_up_to" 2 ["thing", "most"] [] false (zo yW) := ⟨⟨_, _, (zg0 F18 M En).mono (by omega), b18, k18, aq X G a18⟩, fun _ _ h => zI h⟩
 have FP : HK l.prog w K mg base cls "Count" 12 4 ["self", "many", "names"] (zo Z1) := ⟨⟨Ab, _, _, GT, ⟨Fy, a19, i19, Fz⟩, (RN F19 M Aj AQ AF).mono (by omega), b19, aq X G Eo⟩, fun _ _ h => zI h⟩
 have EE : HM l.prog w K mg base cls "is_pair" 3 ["thing"] [] false (zo Zw) := ⟨⟨_, _, (ziN F20 M AF Bg).mono (by omega), b20, k20, aq X G a20⟩, fun _ _ h => zI h⟩
 have FQ : HK l.prog w K mg base cls "Weigh" 13 4 ["self", "least", "pairs"] (zo Z2) := ⟨⟨Ac, _, _, GU, ⟨FG, a21, i21, FH⟩, (RO F21 M Aj Aq EE Bt AF).mono (by omega), b21, aq X G Ep⟩, fun _ _ h => zI h⟩
 have AL : HD l.prog w K mg base cls "own_names" 1 ["self"] J2 := by
  refine ⟨Zv (by decide +kernel), fun c C F hc hF => ?_, fun c F ss q hF h => ?_⟩
  · walk_at "p"
    · walk_at "t"; exact ⟨AH, f22, _, ⟨Et, i22, k22⟩, (Wx F22 M).mono (by omega), b22⟩
    · walk_at "t"; exact ⟨AI, f23, _, ⟨Eu, i23, k23⟩, (Wy F23 M).mono (by omega), b23⟩
    · walk_at "t"; exact ⟨AB, f24, _, ⟨DY, i24, k24⟩, (V0 F24 M).mono (by omega), b24⟩
    · walk_at "t"; exact ⟨AJ, f25, _, ⟨EZ, i25, k25⟩, (Qv F25 M).mono (by omega), b25⟩
    · walk_at "t"; exact ⟨AC, f25, _, ⟨DZ, i25, k25⟩, (Qv F25 M).mono (by omega), b25⟩
    · walk_at "t"; exact ⟨AK, f25, _, ⟨Fa, i25, k25⟩, (Qv F25 M).mono (by omega), b25⟩
  · unfold J2 at hF; split at hF <;> first | (cases hF; exact zI h) | cases hF
 have Ai : HD l.prog w K mg base cls "made_of" 1 ["self"] jI := by
  refine ⟨Zv (by decide +kernel), fun c C F hc hF => ?_, fun c F ss q hF h => ?_⟩
  · walk_at "p"
    · walk_at "t"; exact ⟨AH, f26, _, ⟨Ev, i26, k26⟩, (Zh F26 M).mono (by omega), b26⟩
    · walk_at "t"; exact ⟨AI, f26, _, ⟨Ew, i26, k26⟩, (Zh F26 M).mono (by omega), b26⟩
    · walk_at "t"; exact ⟨AB, f26, _, ⟨Ea, i26, k26⟩, (Zh F26 M).mono (by omega), b26⟩
    · walk_at "t"; exact ⟨AJ, f27, _, ⟨Fb, i27, k27⟩, (zbI F27 M).mono (by omega), b27⟩
    · walk_at "t"; exact ⟨AC, f28, _, ⟨Eb, i28, k28⟩, (RP F28 M).mono (by omega), b28⟩
    · walk_at "t"; exact ⟨AK, f29, _, ⟨Fc, i29, k29⟩, (zbJ F29 M).mono (by omega), b29⟩
  · unfold jI at hF; split at hF <;> first | (cases hF; exact zI h) | cases hF
 have FM : ∀ n, HD l.prog w K mg base cls "names_in" (1 + 1 * n) ["self"] (y3 n) := by
  intro n
  induction n with
  | zero => exact ⟨Zv (by decide +kernel), fun c C F hc hF => (nomatch hF), fun c F ss q hF => (nomatch hF)⟩
  | succ n AE =>
   show HD l.prog w K mg base cls "names_in" (1 + 1 * (n + 1)) ["self"] (Yk (y3 n))
   refine ⟨Zv (by decide +kernel), fun c C F hc hF => ?_, fun c F ss q hF h => ?_⟩
   · walk_at "p"
     · walk_at "t"; exact ⟨AH, f30, _, ⟨Ex, i30, k30⟩, (jS F30 M AL Ai AE).mono (by omega), b30⟩
     · walk_at "t"; exact ⟨AI, f30, _, ⟨Ey, i30, k30⟩, (jS F30 M AL Ai AE).mono (by omega), b30⟩
     · walk_at "t"; exact ⟨AB, f30, _, ⟨Ec, i30, k30⟩, (jS F30 M AL Ai AE).mono (by omega), b30⟩
     · walk_at "t"; exact ⟨AJ, f30, _, ⟨Fd, i30, k30⟩, (jS F30 M AL Ai AE).mono (by omega), b30⟩
     · walk_at "t"; exact ⟨AC, f30, _, ⟨Ed, i30, k30⟩, (jS F30 M AL Ai AE).mono (by omega), b30⟩
     · walk_at "t"; exact ⟨AK, f30, _, ⟨Fe, i30, k30⟩, (jS F30 M AL Ai AE).mono (by omega), b30⟩
   · unfold Yk at hF; split at hF <;> first | (cases hF; exact zI h) | cases hF
 have AE : HD l.prog w K mg base cls "names_in" 7 ["self"] (y3 6) := FM 6
 have Gu : ∀ n, HD l.prog w K mg base cls "depth" (1 + 1 * n) ["self"] (JD n) := by
  intro n
  induction n with
  | zero => exact ⟨Zv (by decide +kernel), fun c C F hc hF => (nomatch hF), fun c F ss q hF => (nomatch hF)⟩
  | succ n AN =>
   show HD l.prog w K mg base cls "depth" (1 + 1 * (n + 1)) ["self"] (VQ (JD n))
   refine ⟨Zv (by decide +kernel), fun c C F hc hF => ?_, fun c F ss q hF h => ?_⟩
   · walk_at "p"
     · walk_at "t"; exact ⟨AH, f31, _, ⟨Ez, i31, k31⟩, (Jw F31 M Ai AN).mono (by omega), b31⟩
     · walk_at "t"; exact ⟨AI, f31, _, ⟨EA, i31, k31⟩, (Jw F31 M Ai AN).mono (by omega), b31⟩
     · walk_at "t"; exact ⟨AB, f31, _, ⟨Ee, i31, k31⟩, (Jw F31 M Ai AN).mono (by omega), b31⟩
     · walk_at "t"; exact ⟨AJ, f31, _, ⟨Ff, i31, k31⟩, (Jw F31 M Ai AN).mono (by omega), b31⟩
     · walk_at "t"; exact ⟨AC, f31, _, ⟨Ef, i31, k31⟩, (Jw F31 M Ai AN).mono (by omega), b31⟩
     · walk_at "t"; exact ⟨AK, f31, _, ⟨Fg, i31, k31⟩, (Jw F31 M Ai AN).mono (by omega), b31⟩
   · unfold VQ at hF; split at hF <;> first | (cases hF; exact zI h) | cases hF
 have AN : HD l.prog w K mg base cls "depth" 7 ["self"] (JD 6) := Gu 6
 have Fm : ∀ n, HD l.prog w K mg base cls "parts_many" (1 + 1 * n) ["self"] (jm n) := by
  intro n
  induction n with
  | zero => exact ⟨Zv (by decide +kernel), fun c C F hc hF => (nomatch hF), fun c F ss q hF => (nomatch hF)⟩
  | succ n Ay =>
   show HD l.prog w K mg base cls "parts_many" (1 + 1 * (n + 1)) ["self"] (Q8 (jm n))
   refine ⟨Zv (by decide +kernel), fun c C F hc hF => ?_, fun c F ss q hF h => ?_⟩
   · walk_at "p"
     · walk_at "t"; exact ⟨AH, f32, _, ⟨EB, i32, k32⟩, (jw F32 M Ai Ay).mono (by omega), b32⟩
     · walk_at "t"; exact ⟨AI, f32, _, ⟨EC, i32, k32⟩, (jw F32 M Ai Ay).mono (by omega), b32⟩
     · walk_at "t"; exact ⟨AB, f32, _, ⟨Eg, i32, k32⟩, (jw F32 M Ai Ay).mono (by omega), b32⟩
     · walk_at "t"; exact ⟨AJ, f32, _, ⟨Fh, i32, k32⟩, (jw F32 M Ai Ay).mono (by omega), b32⟩
     · walk_at "t"; exact ⟨AC, f32, _, ⟨Eh, i32, k32⟩, (jw F32 M Ai Ay).mono (by omega), b32⟩
     · walk_at "t"; exact ⟨AK, f32, _, ⟨Fi, i32, k32⟩, (jw F32 M Ai Ay).mono (by omega), b32⟩
   · unfold Q8 at hF; split at hF <;> first | (cases hF; exact zI h) | cases hF
 have Ay : HD l.prog w K mg base cls "parts_many" 7 ["self"] (jm 6) := Fm 6
 have Az : HM l.prog w K mg base cls "demand_size" 8 ["wish"] [] false (zo ya) := ⟨⟨_, _, (zcG F33 M Aj AE AN Ay).mono (by omega), b33, k33, aq X G a33⟩, fun _ _ h => zI h⟩
 have Fr : HK l.prog w K mg base cls "Houses" 14 9 ["self", "many", "each", "houses"] (zo Q9) := ⟨⟨Ad, _, _, GQ, ⟨EM, a34, i34, EN⟩, (WB F34 M Aj Aq AQ AF Az).mono (by omega), b34, aq X G DC⟩, fun _ _ h => zI h⟩
 have AY : HM l.prog w K mg base cls "is_wish" 1 ["thing"] [] false (zo Jj) := ⟨⟨_, _, (ziO F35 M).mono (by omega), b35, k35, aq X G a35⟩, fun _ _ h => zI h⟩
 have AM : HM l.prog w K mg base cls "demand_wishes" 2 ["wishes"] [] false (zo jR) := ⟨⟨_, _, (za_ F36 M Aj Aq AY).mono (by omega), b36, k36, aq X G a36⟩, fun _ _ h => zI h⟩
 have Ej : HK l.prog w K mg base cls "Both" 15 9 ["self", "wishes"] (zo jB) := ⟨⟨Ae, _, _, GZ, ⟨FV, a37, i37, FW⟩, (zba F37 M AM Az).mono (by omega), b37, aq X G Fk⟩, fun _ _ h => zI h⟩
 have Bu : HK l.prog w K mg base cls "Either" 16 9 ["self", "wishes"] (zo jB) := ⟨⟨Aa, _, _, GR, ⟨EV, a38, i38, EW⟩, (WC F38 M AM Az).mono (by omega), b38, aq X G DD⟩, fun _ _ h => zI h⟩
 have Ek : HK l.prog w K mg base cls "Then" 17 9 ["self", "one", "other"] (zo Qi) := ⟨⟨Af, _, _, Ha, ⟨Gd, a39, i39, Ge⟩, (zbb F39 M Aj AY Az).mono (by omega), b39, aq X G Fl⟩, fun _ _ h => zI h⟩
 have Gv : ∀ n, HM l.prog w K mg base cls "_law_made" (10 + 1 * n) ["_law_tree_here"] [] false (zo (jU n)) := by
  intro n
  induction n with
  | zero => exact ⟨⟨_, _, FnOk.no, b40, k40, aq X G a40⟩, fun _ _ h => Wr h⟩
  | succ n AW =>
   exact ⟨⟨_, _, (zkl F40 M FP FQ Fr AW Ej Bu Ek).mono (by omega), b40, k40, aq X G a40⟩, fun _ _ h => zI h⟩
 have AW : HM l.prog w K mg base cls "_law_made" 16 ["_law_tree_here"] [] false (zo (jU 6)) := Gv 6
 have BY : HM l.prog w K mg base cls "show_leaf" 1 ["wish"] [] false (zo JN) := ⟨⟨_, _, (zeL F41 M).mono (by omega), b41, k41, aq X G a41⟩, fun _ _ h => zI h⟩
 have Fo : ∀ n, HM l.prog w K mg base cls "show_joined" (1 + 2 * n) ["sign", "wishes"] [] false (zo (yh n)) := by
  intro n
  induction n with
  | zero => exact ⟨⟨_, _, FnOk.no, b43, k43, aq X G a43⟩, fun _ _ h => Wr h⟩
  | succ n AO =>
   have AG : HM l.prog w K mg base cls "show_wish" (1 + 2 * n + 1) ["wish"] [] false (zo (yJ (yh n))) := ⟨⟨_, _, (Rj F42 M AO BY).mono (by omega), b42, k42, aq X G a42⟩, fun _ _ h => zI h⟩
   exact ⟨⟨_, _, (zcH F43 M AG).mono (by omega), b43, k43, aq X G a43⟩, fun _ _ h => zI h⟩
 have AO : HM l.prog w K mg base cls "show_joined" 13 ["sign", "wishes"] [] false (zo (yh 6)) := Fo 6
 have AG : HM l.prog w K mg base cls "show_wish" 14 ["wish"] [] false (zo (yJ (yh 6))) := ⟨⟨_, _, (Rj (n := 6) F42 M AO BY).mono (by omega), b42, k42, aq X G a42⟩, fun _ _ h => zI h⟩
 exact (zob (cls := cls) F44 M Ft DH EF AS Ah EG AU AW AG Ej Ek Bu).imp fun vs H Q E h => zgu _root_.M.K61.lawF h
theorem walk {l : PySem.W.OpenLaw} {q : Program} {loose : List Str} {XP : (Str -> Option Value) -> Heap -> Prop} {YP : World -> Heap -> Prop} {d : DefRec} {K : Params -> aj} (hn : l.most = some 63) (hdf : d.params.defaults = [])
 (hY : ∀ (w : World) (h : Heap), YP w h -> (K w.params).In h)
 (F : ∀ (w : World) (mg : Str -> Option Value) (fa : Addr) (h : Heap), (K w.params).In h -> h.Ns aT mg -> mg d.name = some (.ref fa) ->
  ∃ fd : FuncData, (∀ (s : Shared) (u : Value), BindsTo s fd ⟨[u], []⟩ [("_law_script", u)]) /\ ∀ base : Heap, (K w.params).In base -> base.Ns aT mg -> FnOk l.prog w (K w.params) mg base yD 17 fa fd ["_law_script"] (zae (K w.params))) :
 ig q loose XP YP l.row.toRowW d [] (fun f vs => g6 f vs) :=
 L2.walk_of (n := 63) (k := 17) (x := "_law_script") (CX := fun _ => yD) (sp := fun w => zae (K w.params)) hn (by decide) hdf ⟨rfl, by decide, by decide⟩ hY F (fun _ _ a ns hl _ hS => ⟨a, ns, rfl, hS, hl, fun _ => rfl⟩) fun _ _ _ _ _ z => z
end W_k61
open PySem PySem.W PyProof.Rows
def PySem.W.Fast.tw771798796439076649 : Unit := ()
def PySem.W.Fast.tw13357525351374758581 : Unit := ()
def PySem.W.Fast.tw7373493076902676937 : Unit := ()
def PySem.W.Fast.tw12388234558918808090 : Unit := ()
def PySem.W.Fast.tw13977999490578473607 : Unit := ()
def PySem.W.Fast.tw2195564586021945249 : Unit := ()
def PySem.W.Fast.tw17824250049012249951 : Unit := ()
def PySem.W.Fast.tw3670573101418622589 : Unit := ()
def PySem.W.Fast.tw11318354603271945283 : Unit := ()
def PySem.W.Fast.tw6850633415062038906 : Unit := ()
def PySem.W.Fast.tw5071091329151356582 : Unit := ()
def PySem.W.Fast.tw12415399472733098051 : Unit := ()
def PySem.W.Fast.tw7892521596009610491 : Unit := ()
def PySem.W.Fast.tw6446815664142058615 : Unit := ()
def PySem.W.Fast.tw5813007110243272620 : Unit := ()
def PySem.W.Fast.tw2236810796525137038 : Unit := ()
def PySem.W.Fast.tw12379456229351943399 : Unit := ()
def PySem.W.Fast.tw6266233878974182658 : Unit := ()
def PySem.W.Fast.tw2411911571386259595 : Unit := ()
def PySem.W.Fast.tw3941336947290742888 : Unit := ()
def PySem.W.Fast.tw14583789693964640701 : Unit := ()
def PySem.W.Fast.tw4037050609069463475 : Unit := ()
def PySem.W.Fast.tw2782556259023095973 : Unit := ()
def PySem.W.Fast.tw321824268456466454 : Unit := ()
def PySem.W.Fast.tw20386225550392305 : Unit := ()
def PySem.W.Fast.tw17128388531000129506 : Unit := ()
def PySem.W.Fast.tw10440330784328887668 : Unit := ()
def PySem.W.Fast.tw8746860051516829163 : Unit := ()
def PySem.W.Fast.tw1711216327630664212 : Unit := ()
def PySem.W.Fast.tw4956007699324198989 : Unit := ()
def PySem.W.Fast.tw2984288980491103298 : Unit := ()
def PySem.W.Fast.tw9488861402604160532 : Unit := ()
def PySem.W.Fast.tw6368849717251132794 : Unit := ()
def PySem.W.Fast.tw3560220940376263882 : Unit := ()
def PySem.W.Fast.tw15353482394252057807 : Unit := ()
def PySem.W.Fast.tw14538266098438497917 : Unit := ()
def PySem.W.Fast.tw8185886598624252435 : Unit := ()
def PySem.W.Fast.tw4287551384368724389 : Unit := ()
def PySem.W.Fast.tw16578752704241002261 : Unit := ()
set_option maxRecDepth 100000 in
set_option maxHeartbeats 0 in
theorem PySem.Challenge.cw_enoughsaid_k61_wishes_written_holds : PySem.Challenge.rw_enoughsaid_k61_wishes_written.Holds := by
 w_on; o_law; k_head; (case hw => w_witness2)
 k_fill
 refine W_k61.walk (l := PySem.Challenge.rw_enoughsaid_k61_wishes_written) rfl rfl (fun w h Y => PySem.W.kIn_of Y) ?F
 case F =>
  intro w mg fa h KX G hmg
  refine' W_k61.all_mk KX G hmg ?Eo ?Fu ?Fv ?Fw ?Fx ?Fy ?Fz ?CU ?Ca ?Cb ?Cc ?Bv ?Bw ?DJ ?Cd ?CV ?FA ?FB ?Ep ?FC ?FD ?FE ?FF ?FG ?FH ?CW ?Ce ?Cf ?Cg ?Bx ?By ?DK ?Ch ?CY ?FJ ?FK ?DC ?EH ?EI ?EJ ?EL ?EM ?EN ?Ci ?Bz ?BA ?BB ?Bi ?Bj ?CZ ?BC ?Cj ?EO ?EQ ?Fk ?FR ?FS ?FT ?FU ?FV ?FW ?DL ?Da ?Db ?Dc ?Ck ?Cl ?Er ?Dd ?DM ?FX ?FY ?DD ?ER ?ES ?ET ?EU ?EV ?EW ?Cm ?BD ?BE ?BF ?Bk ?Bl ?De ?BG ?Co ?EX ?EY ?Fl ?FZ ?Ga ?Gb ?Gc ?Gd ?Ge ?DN ?Df ?Dg ?Dh ?Cp ?Cq ?Es ?Di ?DQ ?Gf ?Gg ?wg ?wt ?An ?Ao ?Al ?Ar ?Am ?As ?Ak ?At ?Aw ?Ax ?Au ?Ap ?Av ?BH ?BI ?Bm ?Cr ?Bn ?Cs ?Ba ?Ct ?Dj ?Dk ?Cu ?BJ ?Cv ?BK ?BL ?Bo ?Cw ?Bp ?Cy ?Bb ?Cz ?Dl ?Dm ?CA ?BM ?CB ?CC ?CD ?BN ?Do ?BO ?Dp ?Bc ?Dq ?DR ?DU ?Dr ?CF ?Ds ?Bq ?Br ?Bd ?BP ?Be ?BQ ?AZ ?BR ?CG ?CH ?BS ?Bs ?BT ?CJ ?CK ?BU ?Dt ?BV ?Du ?Bf ?Dv ?DV ?DX ?Dw ?CL ?Dx ?a1 ?l1 ?c1 ?k1 ?a2 ?l2 ?c2 ?k2 ?a3 ?l3 ?c3 ?k3 ?a4 ?l4 ?c4 ?k4 ?a5 ?l5 ?c5 ?k5 ?a6 ?l6 ?c6 ?k6 ?a7 ?l7 ?c7 ?k7 ?a8 ?l8 ?c8 ?k8 ?a9 ?l9 ?c9 ?k9 ?a10 ?l10 ?c10 ?k10 ?a11 ?l11 ?c11 ?k11 ?a12 ?l12 ?c12 ?k12 ?a13 ?l13 ?c13 ?k13 ?a14 ?l14 ?c14 ?k14 ?a15 ?l15 ?c15 ?k15 ?a16 ?l16 ?c16 ?k16 ?a17 ?l17 ?c17 ?k17 ?a18 ?l18 ?c18 ?k18 ?a19 ?i19 ?l19 ?c19 ?k19 ?a20 ?l20 ?c20 ?k20 ?a21 ?i21 ?l21 ?c21 ?k21 ?Et ?i22 ?l22 ?c22 ?k22 ?Eu ?i23 ?l23 ?c23 ?k23 ?DY ?i24 ?l24 ?c24 ?k24 ?EZ ?DZ ?Fa ?i25 ?l25 ?c25 ?k25 ?Ev ?Ew ?Ea ?i26 ?l26 ?c26 ?k26 ?Fb ?i27 ?l27 ?c27 ?k27 ?Eb ?i28 ?l28 ?c28 ?k28 ?Fc ?i29 ?l29 ?c29 ?k29 ?Ex ?Ey ?Ec ?Fd ?Ed ?Fe ?i30 ?l30 ?c30 ?k30 ?Ez ?EA ?Ee ?Ff ?Ef ?Fg ?i31 ?l31 ?c31 ?k31 ?EB ?EC ?Eg ?Fh ?Eh ?Fi ?i32 ?l32 ?c32 ?k32 ?a33 ?l33 ?c33 ?k33 ?a34 ?i34 ?l34 ?c34 ?k34 ?a35 ?l35 ?c35 ?k35 ?a36 ?l36 ?c36 ?k36 ?a37 ?i37 ?l37 ?c37 ?k37 ?a38 ?i38 ?l38 ?c38 ?k38 ?a39 ?i39 ?l39 ?c39 ?k39 ?a40 ?l40 ?c40 ?k40 ?a41 ?l41 ?c41 ?k41 ?a42 ?l42 ?c42 ?k42 ?a43 ?l43 ?c43 ?k43 ?a44 ?l44 ?c44 ?k44 ?GD ?GE ?Gh ?Gq ?GF ?GG ?GH ?Dy ?GI ?GJ ?Gr ?Gi ?FL ?GK ?BW ?CM ?CN ?Dz ?Ei ?DB
  all_goals first | delta M.FN0 | delta M.FI | delta M.NI | delta M.NZ | delta M.LK | delta M.CI | delta M.KI | skip
  case Eo|Fu|Fv|Fw|Fx|Fy|Fz|CU|Ca|Cb|Cc|Bv|Bw|DJ|Cd|CV|FA|FB|Ep|FC|FD|FE|FF|FG|FH|CW|Ce|Cf|Cg|Bx|By|DK|Ch|CY|FJ|FK|DC|EH|EI|EJ|EL|EM|EN|Ci|Bz|BA|BB|Bi|Bj|CZ|BC|Cj|EO|EQ|Fk|FR|FS|FT|FU|FV|FW|DL|Da|Db|Dc|Ck|Cl|Er|Dd|DM|FX|FY|DD|ER|ES|ET|EU|EV|EW|Cm|BD|BE|BF|Bk|Bl|De|BG|Co|EX|EY|Fl|FZ|Ga|Gb|Gc|Gd|Ge|DN|Df|Dg|Dh|Cp|Cq|Es|Di|DQ|Gf|Gg|wg|wt => k_is
  case An|Ao|Al|Ar|Am|As|Ak|At|Aw|Ax|Au|Ap|Av|BH|BI|Bm|Cr|Bn|Cs|Ba|Ct|Dj|Dk|Cu|BJ|Cv|BK|BL|Bo|Cw|Bp|Cy|Bb|Cz|Dl|Dm|CA|BM|CB|CC|CD|BN|Do|BO|Dp|Bc|Dq|DR|DU|Dr|CF|Ds|Bq|Br|Bd|BP|Be|BQ|AZ|BR|CG|CH|BS|Bs|BT|CJ|CK|BU|Dt|BV|Du|Bf|Dv|DV|DX|Dw|CL|Dx => first | k_is | kernel_rfl
  case a1|l1|c1|k1|a2|l2|c2|k2|a3|l3|c3|k3|a4|l4|c4|k4|a5|l5|c5|k5|a6|l6|c6|k6|a7|l7|c7|k7|a8|l8|c8|k8|a9|l9|c9|k9|a10|l10|c10|k10|a11|l11|c11|k11|a12|l12|c12|k12|a13|l13|c13|k13|a14|l14|c14|k14|a15|l15|c15|k15|a16|l16|c16|k16|a17|l17|c17|k17|a18|l18|c18|k18|a19|i19|l19|c19|k19|a20|l20|c20|k20|a21|i21|l21|c21|k21|Et|i22|l22|c22|k22|Eu|i23|l23|c23|k23|DY|i24|l24|c24|k24|EZ|DZ|Fa|i25|l25|c25|k25|Ev|Ew|Ea|i26|l26|c26|k26|Fb|i27|l27|c27|k27|Eb|i28|l28|c28|k28|Fc|i29|l29|c29|k29|Ex|Ey|Ec|Fd|Ed|Fe|i30|l30|c30|k30|Ez|EA|Ee|Ff|Ef|Fg|i31|l31|c31|k31|EB|EC|Eg|Fh|Eh|Fi|i32|l32|c32|k32|a33|l33|c33|k33|a34|i34|l34|c34|k34|a35|l35|c35|k35|a36|l36|c36|k36|a37|i37|l37|c37|k37|a38|i38|l38|c38|k38|a39|i39|l39|c39|k39|a40|l40|c40|k40|a41|l41|c41|k41|a42|l42|c42|k42|a43|l43|c43|k43|a44|l44|c44|k44|GD|GE|Gh|Gq|GF|GG|GH|Dy|GI|GJ|Gr|Gi|FL|GK|BW|CM|CN|Dz|Ei|DB => k_is
