import PyProof.Rows.All
import Wide.All
import OpenK.AllK
import Wide.FinOn
import Lean
import PyProof.EqAt
import PyProof.EqKinds
import PyProof.TupleCall
import PyProof.AttrMissHeap
import KE.KDictOf
import KE.KRevSl
import PySem.Challenge.RW_enoughsaid_k08_whole_more_names_never_un
set_option Elab.async false
set_option linter.all false
set_option maxRecDepth 100000
set_option maxHeartbeats 4000000
set_option synthInstance.maxHeartbeats 0
set_option synthInstance.maxSize 1000000
open False renaming elim → aa
open PySem renaming wpAny_bind → ab, wpAny_pure → aj, starEach → am, sizeLine → aF, mainGlobals → aS, wpAny_truthy_bool → aX, codeAny_builtin → aZ, compareOp → a9, plainId_quiet → be, wpAny_holding → bA, argBest → bC, bootBuiltins → bG, wpAny_seqItems → bH, wpAny_tryCatch → bI, wpAny_pyIter_list → bJ, attributeBase → bQ, foldedSetIterable → bV, wpAny_newObj_type → bW, wpAny_setState_of → bX, keywordEach → cp, pickOrder → cr, wpAny_call_entry → cu, wpAny_Call_Name_kw → cw, wpAny_setField_rec → cx, codeAny → cz, assignEach → cF, mem_of_lookup → cG, holding → cH, wpAny_mono → cU, wpAny_updateSeq → cW, scanBound → cY, wpAny_letGo → df, swapsWith → di, wpAny_setEntries_of → dq, binaryOp → dw, backToKw → dz, behindInMarks → dA, letOwnedTupleGo → dD, wpAny_passesOwn → dE, sizeLine_eq → dG, sliceBounds → dH, wpAny_callSpecial?_slot → dI, codeAny_mono → dS, fits_of_scanBound → dU, builtinLookup_eq_fast → dW, seqItems? → d8, codeAny_call_builtin → eC, standAt → eN, slot_list_getitem → fh, relayAll → fw, getMethod → fA, checkBuiltinCall → fB, wpAny_askSetting → fC, wpAny_call → fM, wpAny_rule → fN, wpAny_execs_nil → fS, typeLookup_type → fT, wpAny_of_eq → gx, isSubtype_type → gy, wpAny_fieldsOf → gz, callerA → gA, seqIndex? → gD, wpAny_standAt → gP, evalPart_none → gQ, wpAny_attempt → gS, call_len_set → g3, sysModules → g6, call_meets → g7, Within → g8, entryFor → il, seqIndex_neg → im, lastMarks → iD, updateSeq → iE, seqIndex_of → iF, setNext → iK, call → iL, compEnvC → iT, callWith → iU, slotArgs → iV, builtinsNs → iW, wpAny_Name → iX, typeLookup → iY, cellsFrom → kq, drawOrder → kr
open List renaming getElem?_eq_getElem → ac, mem_cons_of_mem → af, size_toArray → ak, mem_cons_self → ao, length_map → ap, map_cons → aq, getElem?_map → ar, length_cons → au, mem_append_right → aA, mem_cons → aB, getD_eq_getElem?_getD → aC, getElem?_eq_some_iff → aD, mem_map → aE, mem_append_left → aL, length_append → aP, all_eq_true → aR, range → aT, append_nil → aW, replicate → aY, mem_append → a8, getElem?_set → bg, getElem?_cons_succ → bh, eraseIdx_eq_take_drop_succ → bi, mem_range → bm, length_take → bu, length_pos_iff → bv, getElem?_eq_none → bz, length_nil → bB, lookup_cons → bD, nodup_cons → bK, not_mem_nil → bO, all_cons → bP, length → bR, eq_nil_of_length_eq_zero → bS, append_assoc → bT, getElem?_cons_zero → bU, countP_eq_length_filter → cg, filter_cons → cq, pairwise_cons → cv, map_nil → cC, isEmpty_nil → cJ, lookup → cK, map_map → cP, mem_singleton → cQ, length_singleton → cZ, take_append_drop → da, all_map → dg, zipWith → dh, getElem?_append_left → dj, drop_eq_getElem_cons → dk, getElem?_range → dl, set_cons_zero → dF, findIdx?_eq_some_iff_getElem → dJ, reverse_cons → dN, filter_congr → dP, filter_eq_nil_iff → dR, length_drop → dY, any_eq_true → dZ, take_length → d6, sum_cons → eo, mem_of_getElem? → eA, mem_of_mem_take → eB, of_mem_zip → eE, nil_append → eH, foldl_cons → eI, filterMap_cons → eJ, map_congr_left → eL, set_cons_succ → eW, getElem?_append_right → eZ, getElem?_zip_eq_some → e7, sublist_append_right → e8, any_eq_false → fb, take_sublist → fe, ext_getElem? → fg, any_cons → fi, length_erase_of_mem → fm, getElem_mem → fq, getElem?_replicate → ft, getElem?_set_self → fH, pairwise_lt_range → fL, mem_iff_getElem? → fV, cons_lt_cons_iff → gf, countP_mono_left → gg, getElem?_set_ne → gk, length_eraseIdx → gm, mem_erase_of_ne → gp, length_zipWith → gF, length_reverse → gI, getD_cons_zero → gJ, getD_cons_succ → gK, filter_sublist → gL, mem_filterMap → gX, contains_cons → g4, any_map → hV, foldl_append → ia, mapM_toArray → ib, contains_nil → ic, isEmpty_cons → ie, find?_isSome → ig, flatten_cons → ii, pairwise_map → ik, drop_length → iw, cons_append → iB, mem_filter → iG, map_append → iI, take_succ → iQ, mapM_cons → iR, map_take → ke, map_drop → kf
open PySem.Heap renaming get?_push_of_some → ae, lt_size → aw, get?_push_size → ay, get?_update_other → aK, size_push → bj, get?_update_self → cy, SameBut → cN
open Bool renaming false_ne_true → ah, false_eq_true → aM, and_eq_true → aN, eq_iff_iff → cV, not_true → cX, false_and → dL, or_false → d9, and_false → eS, true_and → fj, or_eq_false_iff → gt, and_true → gN, or_eq_true → iH, not_false → iS, false_or → km, or_true → ky, true_or → kz
open PySem.W renaming Frag → ai, mg_of → av, isFn → aI, findIn → aJ, mg_none_of → aQ, kitAny → aU, keepIn → ba, kia_one → bd, nsIn → bq, plainGet → br, hasDictIn → bw, emptyDict → bx, plainOver → bF, instObj → bZ, makesIn → ce, kitx_dict → cD, mroIn → cE, fnOf → cO, kitx_list → dM, plainGet_of → eK, lookIn → eP, kitOne → eQ, codeIn → eR, callWith_K → eU, methodObj → e9, specialIn → fc, cellsFrom_some → fJ, takerIn → fO, takesIn → fP, methodCall_KW → fW, kitx_float → gY, kitx_tuple → gZ, kitx_none → hW, kitx_bool → hZ, handedIn → io, kitx_int → ip, kitx_str → iq, kitx_own → ir, WalkO → kb
open Nat renaming le_refl → ax, ne_of_lt → az, lt_of_lt_of_le → aH, le_trans → aV, lt_succ_of_lt → a5, lt_succ_self → bM, zero_le → ck, lt_irrefl → cn, le_succ → cL, le_of_lt → cM, ne_of_gt → fE, lt_trans → fF, min_eq_left → fR, le_of_eq → g9, succ_ne_self → iz, min_self → ku, zero_add → kv
open Option renaming bind_some → aG, map_some → cB, isSome_iff_exists → fk, getD_none → iu, bind_none → iA, getD_some → iC, map_none → iJ, map → iM
open PySem.Around renaming under_plainId → aO, in1_units → d4, under → hJ
open PySem.F renaming plain_max_loop → a6, plain_min_loop → a7, entry_max_loop → cS, entry_min_loop → cT, plainAttrs_list → fu, plain_list_iadd → fv, plain_set_new → fX, slot_set_iter → fY
open Option.some renaming inj → bc, injEq → ff
open Int renaming toNat_natCast → bf, emod_lt_of_pos → cR, emod_nonneg → dB, natCast_add → dC, lt_of_lt_of_le → eX, le_trans → fG, le_refl → gh, cast_ofNat_Int → g5, ofNat_le → kA
open Ne renaming symm → bn
open PySem.Str renaming ofString → bp, empty → eO, ofString_eq_toList → fK
open List.Perm renaming refl → bE
open Array renaming getElem?_eq_getElem → bL, getElem?_eq_none → dQ, eq_empty_of_size_eq_zero → d7, getElem?_toList → fU, length_toList → gE, toList_push → h9, toList_map → iy, ext → kn
open PySem.Obj renaming mapSeq → bY, putSet → iN
open PySem.PassesOwn renaming never → cf
open PyProof.Rows.F renaming plain_set_update_loop → ci, entry_set_update_loop → dn
open PySem.Builtin.Builtins renaming bindParams → cj
open PyProof.Rows.KTD renaming strsLook → cA
open PySem.SetTable renaming grown → cI, below → eT
open PyProof.Rows renaming callWith_type1 → db, callWith_kw → fo, kws_cons → fZ, kws_nil → gq, subscriptTail → gR
open PySem.Builtin.List renaming listTooLong → du, listExtendWith → eM
open PySem.SetTable.below renaming go → dO
open PySem.Walks renaming list → dX, strAscii → iO, strWide → kc
open PySem.Txt renaming join → ey
open PySem.Moved renaming trans → ez
open List.cons renaming injEq → eG
open PySem.SeqAt.EqAt renaming of_refs → eV, same → fQ, int_str → gU, str_int → gW
open PySem.Calls renaming Name_function_global → eY
open PySem.SeqAt renaming EqAt → fD
open PySem.Heap.SameBut renaming update → gG
open PySem.Manifest renaming signature? → gH
open PySem.Shared renaming TypeIs → gM
open Char renaming toNat → gT
open PySem.Heap.IsSliceOf renaming new → g0
open PySem.Code renaming isFrame → hU, frames → kB
open PySem.Bind renaming checkArgs → iP
open PySem.Value renaming isStrOf → iZ
open PySem.Paired renaming length → ka
open Sum.inr renaming injEq → kg
open PySem.CmpOf renaming ints_gt → kh, ints_lt → ki
open PySem.W.WShape renaming has → kC
namespace L2
open PySem PySem.Spec PyProof.Rows
abbrev y4 := Sum Int Str
def WD : y4 -> Value -> Bool
 | .inl k, v => Value.isInt k v
 | .inr x, v => iZ x v
def zrB (w : World) : y4 -> Int
 | .inl k => hashInt k
 | .inr x => hashStr w x
theorem jf : ∀ {k : y4} {v : Value}, WD k v = true -> (∃ i t, k = Sum.inl i /\ v = Value.int i t) \/ (∃ x t, k = Sum.inr x /\ v = Value.str x t)
 | .inl i, v, h => by
  obtain ⟨t, e⟩ := Value.isInt_shape (k := i) (v := v) h
  exact .inl ⟨i, t, rfl, e⟩
 | .inr x, v, h => by
  obtain ⟨t, e⟩ := Value.isStrOf_shape (x := x) (v := v) h
  exact .inr ⟨x, t, rfl, e⟩
theorem zcB (x : Str) (t : Tok) : WD (.inr x) (.str x t) = true := by simp [WD, iZ]
theorem zot (a b : Int) : decide ((Sum.inl a : y4) = Sum.inl b) = (a == b) := by
 by_cases e : a = b
 · subst e; simp
 · have h : ¬ (Sum.inl a : y4) = Sum.inl b := fun q => e (Sum.inl.inj q)
   rw [decide_eq_false h]
   exact (beq_eq_false_iff_ne.mpr e).symm
theorem zou (a b : Str) : decide ((Sum.inr a : y4) = Sum.inr b) = decide (a = b) := by
 by_cases e : a = b
 · subst e; simp
 · have h : ¬ (Sum.inr a : y4) = Sum.inr b := fun q => e (Sum.inr.inj q)
   rw [decide_eq_false h, decide_eq_false e]
theorem zov (a : Int) (b : Str) : decide ((Sum.inl a : y4) = Sum.inr b) = false := decide_eq_false (fun q => nomatch q)
theorem zow (a : Str) (b : Int) : decide ((Sum.inr a : y4) = Sum.inl b) = false := decide_eq_false (fun q => nomatch q)
def yw (prog : Program) (w : World) : PySem.KeyKind prog w y4 where
 is := WD
 hash := zrB w
 inj := fun v a b ha hb => by
  rcases jf ha with ⟨i, t, rfl, rfl⟩ | ⟨x, t, rfl, rfl⟩
  · rcases jf hb with ⟨j, u, rfl, e⟩ | ⟨y, u, rfl, e⟩
    · injection e with e1 _; rw [e1]
    · exact nomatch e
  · rcases jf hb with ⟨j, u, rfl, e⟩ | ⟨y, u, rfl, e⟩
    · exact nomatch e
    · injection e with e1 _; rw [e1]
 byValue := fun k v h => by
  rcases jf h with ⟨i, t, rfl, rfl⟩ | ⟨x, t, rfl, rfl⟩ <;> rfl
 pyHash := fun hv h => by
  rcases jf hv with ⟨i, t, rfl, rfl⟩ | ⟨x, t, rfl, rfl⟩
  · exact wpAny_pyHash_int h
  · exact wpAny_pyHash_str h
 eqBool := fun hu hv h => by
  rcases jf hu with ⟨i, t, rfl, rfl⟩ | ⟨x, t, rfl, rfl⟩
  · rcases jf hv with ⟨j, u, rfl, rfl⟩ | ⟨y, u, rfl, rfl⟩
    · rw [zot] at h; exact wpAny_eqBool_int h
    · rw [zov] at h; exact gU i t y u _ _ _ _ h
  · rcases jf hv with ⟨j, u, rfl, rfl⟩ | ⟨y, u, rfl, rfl⟩
    · rw [zow] at h; exact gW x t j u _ _ _ _ h
    · rw [zou] at h; exact wpAny_eqBool_str h
 «strs» := fun k x t v h => by
  rcases jf h with ⟨i, u, rfl, e⟩ | ⟨y, u, rfl, e⟩
  · exact nomatch e
  · injection e with e1 _
    subst e1
    cases v <;> rfl
inductive V where
 | non | bl (b : Bool) | int (i : Int) | str (x : Str) | byt (b : Array UInt8) | flt (b : UInt64) | ref (a : Addr) | ty (n : String)
 deriving DecidableEq
def RelV : V -> Value -> Prop
 | .non, u => u = Value.none
 | .bl b, u => u = Value.bool b
 | .int i, u => ∃ t, u = Value.int i t
 | .str x, u => ∃ t, u = Value.str x t
 | .byt b, u => ∃ t, u = Value.bytes b t
 | .flt b, u => ∃ t, u = Value.float b t
 | .ref a, u => u = Value.ref a
 | .ty n, u => u = Value.type n
abbrev Vals : List V -> List Value -> Prop := Paired RelV
theorem Vals.length {xs : List V} {us : List Value} (r : Vals xs us) : xs.length = us.length := ka r
theorem Vals.get : ∀ {xs : List V} {us : List Value} {i : Nat} {x : V}, Vals xs us -> xs[i]? = some x -> ∃ u, us[i]? = some u /\ RelV x u
 | _, _, _, _, .nil, e => by simp at e
 | _, _, 0, _, .cons r _, e => by simp at e; subst e; exact ⟨_, rfl, r⟩
 | _, _, i + 1, x, .cons _ t, e => by
  obtain ⟨u, h1, h2⟩ := Vals.get (i := i) (x := x) t (by simpa using e)
  exact ⟨u, by simpa using h1, h2⟩
theorem Vals.set (r : RelV x u) : ∀ {xs : List V} {us : List Value} (i : Nat), Vals xs us -> Vals (xs.set i x) (us.set i u)
 | _, _, _, .nil => .nil
 | _, _, 0, .cons _ t => .cons r t
 | _, _, i + 1, .cons q t => .cons q (Vals.set r i t)
theorem Vals.append : ∀ {xs ys : List V} {us ws : List Value}, Vals xs us -> Vals ys ws -> Vals (xs ++ ys) (us ++ ws)
 | _, _, _, _, .nil, s => s
 | _, _, _, _, .cons r t, s => .cons r (Vals.append t s)
theorem Vals.take : ∀ {xs : List V} {us : List Value} (n : Nat), Vals xs us -> Vals (xs.take n) (us.take n)
 | _, _, 0, _ => .nil
 | _, _, _ + 1, .nil => .nil
 | _, _, n + 1, .cons r t => .cons r (Vals.take n t)
theorem Vals.drop : ∀ {xs : List V} {us : List Value} (n : Nat), Vals xs us -> Vals (xs.drop n) (us.drop n)
 | _, _, 0, r => r
 | _, _, _ + 1, .nil => .nil
 | _, _, n + 1, .cons _ t => Vals.drop n t
def RelO : Option V -> Option Value -> Prop
 | some v, some u => RelV v u
 | none, none => True
 | _, _ => False
def KV {κ : Type} : List (κ × V) -> List (κ × Value) -> Prop := Paired fun (p : κ × V) (q : κ × Value) => p.1 = q.1 /\ RelV p.2 q.2
def kV : y4 -> V
 | .inl i => .int i
 | .inr x => .str x
inductive HO where
 | lst (xs : List V)
 | tup (xs : List V)
 | dK (kvs : List (y4 × V)) | dT (kvs : List (List y4 × V))
 | set (S : Int -> Bool) (n : Nat)
 | ins (C dx : Addr) (fs : List (Str × V))
 | own (x : Addr)
 | xd (fs : List (Str × V))
 | met (f x : Addr)
 | rng (lo hi : Int)
 | frz (o : Obj) (u : HO)
 | tbl (ps : Array Value)
 | ext (φ : Heap -> Prop)
abbrev Hp := Addr -> Option HO
def yc (H : Hp) (a : Addr) (o : HO) : Hp := fun b => if b = a then some o else H b
theorem jD : yc H a o a = some o := by unfold yc; rw [if_pos rfl]
theorem z8 (h : b ≠ a) : yc H a o b = H b := by unfold yc; rw [if_neg h]
theorem yD {H : Hp} {a b : Addr} {o : HO} (h : H a = some o) (h' : H b = none) : a ≠ b := by
 intro e; subst e; rw [h] at h'; cases h'
section
variable (P : Program) (w : World)
def ObjOk (H : Hp) (h : Heap) (a : Addr) : HO -> Prop
 | .lst xs => xs.length <= aF /\ ∃ (its : List Value) (n : Nat), Vals xs its /\ h.get? a = some { cls := .type "list", data := .seq its.toArray n }
 | .tup xs => xs.length <= aF /\ ∃ its : List Value, Vals xs its /\ IsTup h a its.toArray
 | .dK kvs => kvs.length <= aF /\ (a == g6) = false /\ ∃ vs, KV kvs vs /\ h.DictOf (yw P w) a vs
 | .dT kvs => kvs.length <= aF /\ (a == g6) = false /\ ∃ xs : List (List y4 × Addr × Value),
  Paired (fun (p : List y4 × V) (q : List y4 × Addr × Value) => p.1 = q.1 /\ H q.2.1 = some (.tup (p.1.map kV)) /\ RelV p.2 q.2.2) kvs xs /\
  ∃ o es ep, h.get? a = some o /\ o.ExactDict /\ o.data = .dict es ep /\ es.toList = xs.map (entryOfKey (tupleKind (yw P w))) /\ (xs.map (·.1)).Nodup
 | .set S n => h.SetOf (intKind P w) a S n
 | .ins C dx fs => H dx = some (.own a) /\ fs.length <= 1000 /\ dx ≠ a /\ h.get? a = some (bZ C dx) /\
  ∃ mA, h.Ns1 dx mA /\ (∀ f, RelO (fs.lookup f) (mA f)) /\ g8 mA (fs.map (·.1))
 | .own _ => ∃ o, h.get? a = some o
 | .xd fs => ∃ mA, h.Ns1 a mA /\ ∀ f, RelO (fs.lookup f) (mA f)
 | .rng lo hi => ∃ t u v, h.get? a = some { cls := .type "range", data := .fields #[.int lo t, .int hi u, .int 1 v] }
 | .frz o u => h.get? a = some o /\ ObjOk H h a u
 | .tbl ps => h.get? a = some { cls := .none, data := .fields ps }
 | .met f x => h.get? a = some (e9 (.ref f) (.ref x))
 | .ext φ => φ h /\ (∃ o, h.get? a = some o) /\ ∀ h1 h2 : Heap, φ h1 -> (∀ o, h1.get? a = some o -> h2.get? a = some o) -> φ h2
def HOk (H : Hp) (h : Heap) : Prop := ∀ a o, H a = some o -> ObjOk P w H h a o
end
section
variable {P : Program} {w : World} {H H' : Hp} {h h' : Heap} {a : Addr} {o : HO}
theorem ObjOk.lt (x : ObjOk P w H h a o) : a < h.objs.size := by
 cases o with
 | lst xs => obtain ⟨_, _, _, _, e⟩ := x; exact aw e
 | tup xs => obtain ⟨_, _, _, p⟩ := x; exact p.lt
 | dK kvs => obtain ⟨_, _, _, _, o, _, _, e, _⟩ := x; exact aw e
 | dT kvs => obtain ⟨_, _, _, _, o, _, _, e, _⟩ := x; exact aw e
 | set S n => obtain ⟨o, _, _, _, e, _⟩ := x; exact aw e
 | ins C dx fs => obtain ⟨_, _, _, e, _⟩ := x; exact aw e
 | own y => obtain ⟨_, e⟩ := x; exact aw e
 | xd fs => obtain ⟨_, ⟨_, _, _, e, _⟩, _⟩ := x; exact aw e
 | rng lo hi => obtain ⟨_, _, _, e⟩ := x; exact aw e
 | frz ob u => obtain ⟨e, _⟩ := x; exact aw e
 | tbl ps => exact aw (show h.get? a = some _ from x)
 | met f y => exact aw (show h.get? a = some _ from x)
 | ext φ => obtain ⟨_, ⟨_, e⟩, _⟩ := x; exact aw e
theorem Paired.mapP {α β : Type} {F G : α -> β -> Prop} : ∀ {l₁ : List α} {l₂ : List β}, Paired F l₁ l₂ -> (∀ a b, F a b -> G a b) -> Paired G l₁ l₂
 | _, _, .nil, _ => .nil
 | _, _, .cons r t, f => .cons (f _ _ r) (Paired.mapP t f)
theorem ObjOk.stay (x : ObjOk P w H h a o) (k : ∀ b u, (b = a \/ H b = some (.own a)) -> h.get? b = some u -> h'.get? b = some u)
 (ho : ∀ b, H b = some (.own a) -> H' b = some (.own a)) (ht : ∀ b xs, H b = some (.tup xs) -> H' b = some (.tup xs)) : ObjOk P w H' h' a o := by
 induction o with
 | lst xs => obtain ⟨z, its, n, r, e⟩ := x; exact ⟨z, its, n, r, k _ _ (.inl rfl) e⟩
 | tup xs => obtain ⟨z, its, r, ob, e, c⟩ := x; exact ⟨z, its, r, ob, k _ _ (.inl rfl) e, c⟩
 | dK kvs => obtain ⟨z, y, vs, r, ob, es, ep, e, c⟩ := x; exact ⟨z, y, vs, r, ob, es, ep, k _ _ (.inl rfl) e, c⟩
 | dT kvs =>
  obtain ⟨z, y, xs, r, ob, es, ep, e, c⟩ := x
  exact ⟨z, y, xs, Paired.mapP r fun p q z => ⟨z.1, ht _ _ z.2.1, z.2.2⟩, ob, es, ep, k _ _ (.inl rfl) e, c⟩
 | set S n => obtain ⟨ob, es, ep, t, e, c⟩ := x; exact ⟨ob, es, ep, t, k _ _ (.inl rfl) e, c⟩
 | ins C dx fs =>
  obtain ⟨d, z, ne, e, mA, ⟨od, es, ep, e2, c⟩, r⟩ := x
  exact ⟨ho _ d, z, ne, k _ _ (.inl rfl) e, mA, ⟨od, es, ep, k _ _ (.inr d) e2, c⟩, r⟩
 | own y => obtain ⟨ob, e⟩ := x; exact ⟨ob, k _ _ (.inl rfl) e⟩
 | xd fs => obtain ⟨mA, ⟨od, es, ep, e, c⟩, r⟩ := x; exact ⟨mA, ⟨od, es, ep, k _ _ (.inl rfl) e, c⟩, r⟩
 | rng lo hi => obtain ⟨t, u, v, e⟩ := x; exact ⟨t, u, v, k _ _ (.inl rfl) e⟩
 | frz ob u ih => obtain ⟨e, q⟩ := x; exact ⟨k _ _ (.inl rfl) e, ih q⟩
 | tbl ps =>
  have e : h.get? a = some { cls := .none, data := .fields ps } := x
  show h'.get? a = some { cls := .none, data := .fields ps }
  exact k a _ (.inl rfl) e
 | met f y =>
  have e : h.get? a = some (e9 (.ref f) (.ref y)) := x
  show h'.get? a = some (e9 (.ref f) (.ref y))
  exact k a _ (.inl rfl) e
 | ext φ => obtain ⟨p, ⟨o, e⟩, st⟩ := x; exact ⟨st _ _ p fun o q => k _ _ (.inl rfl) q, ⟨o, k _ _ (.inl rfl) e⟩, st⟩
theorem HOk.lt (x : HOk P w H h) (e : H a = some o) : a < h.objs.size := (x a o e).lt
theorem HOk.fresh (x : HOk P w H h) (e : h.objs.size <= a) : H a = none := by
 cases q : H a with
 | none => rfl
 | some u => exact absurd (aH (x.lt q) e) (cn _)
theorem HOk.kept (x : HOk P w H h) (k : ∀ b u, h.get? b = some u -> h'.get? b = some u) : HOk P w H h' := fun a o e =>
 (x a o e).stay (fun b u _ q => k b u q) (fun _ q => q) fun _ _ q => q
theorem HOk.laid (x : HOk P w H h) (k : ∀ b u, h.get? b = some u -> h'.get? b = some u) (hp : h.objs.size <= a) (new : ObjOk P w (yc H a o) h' a o) : HOk P w (yc H a o) h' := fun b u e => by
 have hn := x.fresh hp
 by_cases hb : b = a
 · subst hb; rw [jD] at e; cases e; exact new
 · rw [z8 hb] at e
   exact (x b u e).stay (fun c v _ q => k c v q) (fun c q => by rw [z8 (yD q hn)]; exact q) fun c xs q => by rw [z8 (yD q hn)]; exact q
end
def Rd (H : Hp) (a : Addr) (u : HO) : Prop := H a = some u \/ ∃ o, H a = some (.frz o u)
theorem Rd.ok (r : Rd H a u) (x : HOk P w H h) : ObjOk P w H h a u := by
 rcases r with r | ⟨o, r⟩
 · exact x a u r
 · obtain ⟨_, q⟩ := x a _ r
   exact q
def Mut : Option HO -> Prop
 | some (.lst _) => True
 | some (.dK _) => True
 | some (.dT _) => True
 | some (.set _ _) => True
 | some (.ins _ _ _) => True
 | some (.ext _) => True
 | _ => False
section
variable {P : Program} {w : World} {H : Hp} {h h' : Heap} {x e : Addr} {o' : HO}
theorem HOk.write (ok : HOk P w H h) (mu : Mut (H x)) (he : e = x \/ H e = some (.own x)) (k : ∀ b u, b ≠ e -> h.get? b = some u -> h'.get? b = some u) (heo : ∃ u, h'.get? e = some u)
 (new : ObjOk P w (yc H x o') h' x o') : HOk P w (yc H x o') h' := fun b u q => by
 have nown : ∀ c y, H c = some (.own y) -> c ≠ x := fun c y r z => by subst z; rw [r] at mu; exact mu
 have ntup : ∀ c xs, H c = some (.tup xs) -> c ≠ x := fun c xs r z => by subst z; rw [r] at mu; exact mu
 by_cases hb : b = x
 · subst hb; rw [jD] at q; cases q; exact new
 · rw [z8 hb] at q
   by_cases hbe : b = e
   · have q' : H b = some (.own x) := by
      rcases he with z | z
      · exact absurd (hbe.trans z) hb
      · rw [hbe]; exact z
     rw [q] at q'; cases q'
     obtain ⟨v, hv⟩ := heo
     exact ⟨v, by rw [hbe]; exact hv⟩
   · refine (ok b u q).stay (fun c v hc r => k c v ?_ r) (fun c r => by rw [z8 (nown c b r)]; exact r) fun c xs r => by rw [z8 (ntup c xs r)]; exact r
     rcases hc with rfl | hc
     · exact hbe
     · rintro rfl
       rcases he with z | z
       · exact nown c b hc z
       · rw [hc] at z; cases z; exact hb rfl
end
structure Un (fs ex : List Addr) (H H' : Hp) (h h' : Heap) : Prop where
 keep : ∀ b o, h.get? b = some o -> H b = none -> b ∉ fs -> b ∉ ex -> h'.get? b = some o
 slot : ∀ b o, h.get? b = some o -> H b = none -> b ∈ fs -> b ∉ ex -> ∃ sl, h'.get? b = some { o with slots := sl }
 free : ∀ b o, h.get? b = some o -> H b = none -> b ∉ ex -> H' b = none
 there : ∀ b o, h.get? b = some o -> b ∉ ex -> ∃ o', h'.get? b = some o'
 tups : ∀ b xs, H b = some (.tup xs) -> H' b = some (.tup xs)
 frzs : ∀ b o u, H b = some (.frz o u) -> H' b = some (.frz o u)
 tbls : ∀ b ps, H b = some (.tbl ps) -> ∃ more, H' b = some (.tbl (ps ++ more))
section
variable {fs fs' ex ex' : List Addr} {H H1 H2 : Hp} {h h1 h2 h' : Heap} {a x e : Addr} {o : HO}
theorem Un.any (u : Un fs ex H H1 h h1) (q : h.get? b = some ob) (n : H b = none) (hx : b ∉ ex) : ∃ sl, h1.get? b = some { ob with slots := sl } := by
 by_cases hb : b ∈ fs
 · exact u.slot b ob q n hb hx
 · exact ⟨ob.slots, u.keep b ob q n hb hx⟩
theorem Un.kept (k : ∀ b u, h.get? b = some u -> h'.get? b = some u) : Un fs ex H H h h' :=
 ⟨fun b ob q _ _ _ => k b ob q, fun b ob q _ _ _ => ⟨ob.slots, k b ob q⟩, fun _ _ _ n _ => n, fun b ob q _ => ⟨ob, k b ob q⟩, fun _ _ q => q, fun _ _ _ q => q, fun _ ps q => ⟨#[], by rw [q]; simp⟩⟩
theorem Un.refl : Un fs ex H H h h := Un.kept fun _ _ q => q
theorem Un.laid (k : ∀ b u, h.get? b = some u -> h'.get? b = some u) (hp : h.objs.size <= a) (hn : H a = none) : Un fs ex H (yc H a o) h h' where
 keep := fun b u q _ _ _ => k b u q
 slot := fun b u q _ _ _ => ⟨u.slots, k b u q⟩
 free := fun b u q n _ => by rw [z8 (az (aH (aw q) hp))]; exact n
 there := fun b u q _ => ⟨u, k b u q⟩
 tups := fun b xs q => by rw [z8 (yD q hn)]; exact q
 frzs := fun b u xs q => by rw [z8 (yD q hn)]; exact q
 tbls := fun b ps q => ⟨#[], by rw [z8 (yD q hn), q]; simp⟩
theorem Un.write (mu : Mut (H x)) (he : e = x \/ H e = some (.own x)) (k : ∀ b u, b ≠ e -> h.get? b = some u -> h'.get? b = some u) (heo : ∃ u, h'.get? e = some u) : Un fs ex H (yc H x o) h h' := by
 have hx : ∀ b, H b = none -> b ≠ x := fun b n z => by subst z; rw [n] at mu; exact mu
 have hb : ∀ b, H b = none -> b ≠ e := fun b n z => by
  subst z
  rcases he with r | r
  · exact hx b n r
  · rw [n] at r; cases r
 have hm : ∀ b u, H b = some u -> ¬ Mut (some u) -> b ≠ x := fun b u q nm z => by subst z; rw [q] at mu; exact nm mu
 refine ⟨fun b u q n _ _ => k b u (hb b n) q, fun b u q n _ _ => ⟨u.slots, k b u (hb b n) q⟩, fun b u q n _ => by rw [z8 (hx b n)]; exact n, fun b u q _ => ?_,
  fun b xs q => by rw [z8 (hm b _ q fun z => z)]; exact q, fun b u xs q => by rw [z8 (hm b _ q fun z => z)]; exact q, fun b ps q => ⟨#[], by rw [z8 (hm b _ q fun z => z), q]; simp⟩⟩
 by_cases hbe : b = e
 · subst hbe; exact heo
 · exact ⟨u, k b u hbe q⟩
end
def trk (h : Heap) (H : Hp) : List Addr := (aT h.objs.size).filter fun a => (H a).isSome
def UW (h : Heap) (H : Hp) : Heap := PySem.W.hideAll h (trk h H)
theorem ziK (h : Heap) (H : Hp) : (UW h H).objs.size = h.objs.size := PySem.W.hideAll_size _ _
theorem zkz {h : Heap} (e : h.get? b = some o) (n : H b = none) : (UW h H).get? b = some o :=
 PySem.W.hideAll_get _ e fun hm => by
  have q : (H b).isSome = true := (iG.mp hm).2
  rw [n] at q; simp at q
theorem zm2 {h : Heap} (e : (UW h H).get? b = some o) : h.get? b = some o /\ H b = none := by
 have e' : h.get? b = some o := PySem.W.of_hideAll (trk h H) e
 refine ⟨e', ?_⟩
 cases q : H b with
 | none => rfl
 | some x =>
  have hm : b ∈ trk h H := iG.mpr ⟨bm.mpr (aw e'), by simp [q]⟩
  have z : (UW h H).get? b = none := PySem.W.hideAll_none (trk h H) hm
  rw [z] at e; cases e
def zm3 (g h : Heap) (L : Addr) : List (Addr × Obj) := (aT h.objs.size).filterMap fun a => if a = L \/ (g.get? a).isSome = true then none else (h.get? a).map fun o => (a, o)
def rest (g h : Heap) (L d : Addr) : List (Addr × Obj) := (zm3 g h L).filter fun p => decide (p.1 ≠ d)
structure Mod (K : ai) (mg : Str -> Option Value) (base : Heap) : Prop where
 kin : K.In base
 glob : base.Ns aS mg
 blt : ∃ mb, base.Ns iW mb /\ ∀ x : Str, x ≠ "__name__" -> mb x = bG x
 nolimit : base.NoLimit
structure Cx where
 prog : Program
 w : World
 K : ai
 mg : Str -> Option Value
 base : Heap
 A : Around
 N : List Str
 s₀ : Shared
 H₀ : Hp
 env : Env
 outer : List Env
 stack : List Env
 ex : List Addr
 fn : Str -> Bool
 calm : Bool
 pn : List (Addr × Obj)
 xe : Value -> Shared -> Prop
def VP (l : List Env) : List Addr := l.filterMap (·.frame)
abbrev Cx.fs (X : Cx) : List Addr := VP X.outer
def Ys (sc : Scope) (x : Str) : Prop := sc.names.lookup x = some .local \/ sc.names.lookup x = some .cell \/ sc.names.lookup x = some .free
def Loc (sc : Scope) (x : Str) : Prop := sc.names.lookup x = some .local \/ sc.names.lookup x = some .cell
def zrC (env : Env) (h : Heap) (m : Str -> Option Value) (x : Str) (u : Value) : Prop :=
 (env.kindOf x = some .local /\ m x = some u) \/ ((env.kindOf x = some .cell \/ env.kindOf x = some .free) /\ ∃ c, env.cells.lookup x = some c /\ h.IsCell c (some u))
structure Cx.Ok (X : Cx) : Prop where
 mod : Mod X.K X.mg X.base
 kind : X.env.scope.kind = .function
 glob : X.env.globals = aS
 blt : X.env.builtins = iW
 above : X.s₀.heap.objs.size <= X.env.locals
 inj : ∀ x y c, X.env.cells.lookup x = some c -> X.env.cells.lookup y = some c -> x = y
 has : ∀ x, (X.env.kindOf x = some .cell \/ X.env.kindOf x = some .free) -> ∃ c, X.env.cells.lookup x = some c
 cab : ∀ x c, X.fn x = true -> X.env.cells.lookup x = some c -> X.s₀.heap.objs.size <= c
 hd : X.calm = true -> X.A.handled = none
 frames : X.A.frames = some X.stack
 stk : X.stack = X.outer \/ (X.stack = X.env :: X.outer /\ X.env.frame = some X.env.locals)
 exf : ∀ b ∈ X.ex, b ≠ X.env.locals /\ ∀ x c, X.env.cells.lookup x = some c -> c ≠ b
 bs : ∀ b o, X.base.get? b = some o -> X.s₀.heap.get? b = some o /\ X.H₀ b = none
 bsz : X.base.objs.size <= X.s₀.heap.objs.size
 noex : ∀ b o, X.base.get? b = some o -> b ∉ X.ex
 exfs : ∀ b ∈ X.ex, b ∉ X.fs
 funs : X.s₀.heap.FunFrames X.base X.outer
 frf : ∀ b ∈ X.fs, X.H₀ b = none
structure Inv (X : Cx) (pins : List (Addr × Obj)) (σ : List (Option V)) (H : Hp) (s : Shared) : Prop where
 ok : X.Ok
 os : s.os = X.s₀.os
 bare : AllBare s.gens
 base : Un X.fs X.ex X.H₀ H X.s₀.heap s.heap
 loc : ∃ m, s.heap.Ns X.env.locals m /\ ∀ (i : Nat) (x : Str) (v : V), X.N[i]? = some x -> σ[i]? = some (some v) -> Ys X.env.scope x -> ∃ u, RelV v u /\ zrC X.env s.heap m x u
 cell : ∀ x c, X.env.cells.lookup x = some c -> ∃ v, s.heap.IsCell c v
 free : H X.env.locals = none
 freeC : ∀ x c, X.env.cells.lookup x = some c -> H c = none
 pin : ∀ p ∈ X.pn ++ pins, s.heap.get? p.1 = some p.2 /\ H p.1 = none /\ p.1 ≠ X.env.locals /\ p.1 ∉ X.fs /\ ∀ v, p.2.data ≠ .cell v
 hok : HOk X.prog X.w H s.heap
 len : σ.length = X.N.length
section
variable {X : Cx} {pins : List (Addr × Obj)} {σ : List (Option V)} {H H' : Hp} {s : Shared} {h' : Heap}
theorem Cx.Ok.nofr (ok : X.Ok) (e : X.base.get? b = some o) : b ∉ X.fs := fun hb => by
 have := (ok.funs.mem hb).1
 rw [e] at this; cases this
theorem Inv.bs (I : Inv X pins σ H s) : ∀ b o, X.base.get? b = some o -> s.heap.get? b = some o /\ H b = none := fun b o e =>
 ⟨I.base.keep b o (I.ok.bs b o e).1 (I.ok.bs b o e).2 (I.ok.nofr e) (I.ok.noex b o e), I.base.free b o (I.ok.bs b o e).1 (I.ok.bs b o e).2 (I.ok.noex b o e)⟩
theorem Inv.bk (I : Inv X pins σ H s) : ∀ b o, X.base.get? b = some o -> s.heap.get? b = some o := fun b o e => (I.bs b o e).1
theorem Inv.mod (I : Inv X pins σ H s) : Mod X.K X.mg X.base := I.ok.mod
theorem Inv.kIn (I : Inv X pins σ H s) : X.K.In s.heap := I.ok.mod.kin.keeps I.bk
theorem Inv.lt (I : Inv X pins σ H s) : X.env.locals < s.heap.objs.size := let ⟨_, hn, _⟩ := I.loc; hn.lt
theorem Inv.sz (I : Inv X pins σ H s) : X.s₀.heap.objs.size <= s.heap.objs.size := aV I.ok.above (cM I.lt)
theorem Inv.nofs (I : Inv X pins σ H s) (h : s.heap.objs.size <= a) : a ∉ X.fs := fun hb => by
 obtain ⟨_, o, ho, _⟩ := I.ok.funs.mem hb
 exact absurd (aH (aw ho) (aV I.sz h)) (cn _)
theorem Inv.cne (I : Inv X pins σ H s) : ∀ x c, X.env.cells.lookup x = some c -> c ≠ X.env.locals := fun x c e z => by
 obtain ⟨v, o, ho, hd⟩ := I.cell x c e
 obtain ⟨m, ⟨o', es, ep, ho', hd', _⟩, _⟩ := I.loc
 rw [z, ho'] at ho; cases ho; rw [hd'] at hd; cases hd
theorem Inv.funs (I : Inv X pins σ H s) : s.heap.FunFrames X.base X.outer := by
 have all : ∀ (l : List Env), (∀ b ∈ VP l, b ∈ X.fs) -> X.s₀.heap.FunFrames X.base l -> s.heap.FunFrames X.base l := by
  intro l
  induction l with
  | nil => intro _ _; trivial
  | cons env r ih =>
   intro hs hl
   obtain ⟨hk, ⟨L, o, hf, hn, ho, hd⟩, hr⟩ := hl
   have hL : L ∈ X.fs := hs L (by unfold VP; rw [eJ, hf]; exact ao)
   obtain ⟨sl, e⟩ := I.base.slot L o ho (I.ok.frf L hL) hL fun z => I.ok.exfs L z hL
   exact ⟨hk, ⟨L, _, hf, hn, e, hd⟩, ih (fun b hb => hs b (by unfold VP; rw [eJ, hf]; exact af _ hb)) hr⟩
 exact all X.outer (fun _ hb => hb) I.ok.funs
theorem Inv.stack (I : Inv X pins σ H s) : s.heap.FunFrames X.base X.stack := by
 rcases I.ok.stk with e | ⟨e, hf⟩
 · rw [e]; exact I.funs
 · rw [e]
   obtain ⟨m, hn, _⟩ := I.loc
   refine .cons (by rw [I.ok.kind]; decide) hf hn ?_ I.funs
   exact Heap.get?_none_of_le (aV I.ok.bsz I.ok.above)
theorem Inv.stkSub (I : Inv X pins σ H s) : ∀ b ∈ VP X.stack, b ∈ X.env.locals :: X.fs := fun b hb => by
 rcases I.ok.stk with e | ⟨e, hf⟩
 · rw [e] at hb; exact af _ hb
 · rw [e] at hb
   unfold VP at hb
   rw [eJ, hf] at hb
   exact hb
theorem Inv.stkFree (I : Inv X pins σ H s) : ∀ b ∈ VP X.stack, H b = none := fun b hb => by
 rcases aB.mp (I.stkSub b hb) with e | hb
 · rw [e]; exact I.free
 · obtain ⟨_, o, ho, _⟩ := I.ok.funs.mem hb
   exact I.base.free b o ho (I.ok.frf b hb) fun z => I.ok.exfs b z hb
theorem Inv.step {g' : Array GenState} {t' : Nat} {d' : Drawn} {ch : List Addr} (I : Inv X pins σ H s)
 (hch : ∀ b ∈ ch, (b ∈ X.ex \/ X.s₀.heap.objs.size <= b) /\ b ≠ X.env.locals /\ (∀ x c, X.env.cells.lookup x = some c -> c ≠ b) /\ ∀ p ∈ X.pn ++ pins, p.1 ≠ b)
 (keep : ∀ b o, b ≠ X.env.locals -> b ∉ X.fs -> b ∉ ch -> s.heap.get? b = some o -> H b = none -> h'.get? b = some o)
 (slot : ∀ b o, b ≠ X.env.locals -> b ∈ X.fs -> b ∉ ch -> s.heap.get? b = some o -> H b = none -> ∃ sl, h'.get? b = some { o with slots := sl }) (free : ∀ b o, b ∉ ch -> s.heap.get? b = some o -> H b = none -> H' b = none)
 (there : ∀ b o, b ∉ ch -> s.heap.get? b = some o -> ∃ o', h'.get? b = some o')
 (tups : ∀ b xs, H b = some (.tup xs) -> H' b = some (.tup xs)) (frzs : ∀ b o u, H b = some (.frz o u) -> H' b = some (.frz o u)) (tbls : ∀ b ps, H b = some (.tbl ps) -> ∃ more, H' b = some (.tbl (ps ++ more)))
 (ns : ∀ m, s.heap.Ns X.env.locals m -> h'.Ns X.env.locals m) (hok : HOk X.prog X.w H' h') (hg : AllBare g') :
 Inv X pins σ H' { s with heap := h', gens := g', drawn := d', toks := t' } := by
 have neL : ∀ b o, X.s₀.heap.get? b = some o -> b ≠ X.env.locals := fun b o e => az (aH (aw e) I.ok.above)
 have neC : ∀ b o, X.s₀.heap.get? b = some o -> b ∉ X.ex -> b ∉ ch := fun b o e hx hb => by
  rcases (hch b hb).1 with z | z
  · exact hx z
  · exact absurd (aH (aw e) z) (cn _)
 have cellK : ∀ x c, X.env.cells.lookup x = some c -> ∀ v, s.heap.IsCell c v -> h'.IsCell c v := fun x c e v ⟨o, ho, hd⟩ => by
  have nch : c ∉ ch := fun z => (hch c z).2.2.1 x c e rfl
  by_cases hc : c ∈ X.fs
  · obtain ⟨sl, q⟩ := slot c o (I.cne x c e) hc nch ho (I.freeC x c e)
    exact ⟨_, q, hd⟩
  · exact ⟨o, keep c o (I.cne x c e) hc nch ho (I.freeC x c e), hd⟩
 refine ⟨I.ok, I.os, hg, ⟨fun b o e n hb hx => ?_, fun b o e n hb hx => ?_, fun b o e n hx => ?_, fun b o e hx => ?_, fun b xs e => tups b xs (I.base.tups b xs e), fun b o xs e => frzs b o xs (I.base.frzs b o xs e), fun b ps e => ?_⟩, ?_, fun x c e => ?_, ?_, fun x c e => ?_, fun p hp => ?_, hok, I.len⟩
 · exact keep b o (neL b o e) hb (neC b o e hx) (I.base.keep b o e n hb hx) (I.base.free b o e n hx)
 · obtain ⟨sl, e1⟩ := I.base.slot b o e n hb hx
   obtain ⟨sl', e2⟩ := slot b _ (neL b o e) hb (neC b o e hx) e1 (I.base.free b o e n hx)
   exact ⟨sl', e2⟩
 · obtain ⟨o', e1⟩ := I.base.there b o e hx
   exact free b o' (neC b o e hx) e1 (I.base.free b o e n hx)
 · obtain ⟨o', e1⟩ := I.base.there b o e hx
   exact there b o' (neC b o e hx) e1
 · obtain ⟨m1, e1⟩ := I.base.tbls b ps e
   obtain ⟨m2, e2⟩ := tbls b _ e1
   exact ⟨m1 ++ m2, by rw [e2, Array.append_assoc]⟩
 · obtain ⟨m, hn, hl⟩ := I.loc
   refine ⟨m, ns m hn, fun i x v e1 e2 e3 => ?_⟩
   obtain ⟨u, r, l⟩ := hl i x v e1 e2 e3
   refine ⟨u, r, ?_⟩
   rcases l with l | ⟨k, c, e, z⟩
   · exact .inl l
   · exact .inr ⟨k, c, e, cellK x c e _ z⟩
 · obtain ⟨v, z⟩ := I.cell x c e
   exact ⟨v, cellK x c e v z⟩
 · obtain ⟨m, ⟨o, _, _, ho, _⟩, _⟩ := I.loc
   exact free _ o (fun z => (hch _ z).2.1 rfl) ho I.free
 · obtain ⟨v, o, ho, hd⟩ := I.cell x c e
   exact free c o (fun z => (hch c z).2.2.1 x c e rfl) ho (I.freeC x c e)
 · obtain ⟨e, n, ne, nf, d⟩ := I.pin p hp
   have nch : p.1 ∉ ch := fun z => (hch p.1 z).2.2.2 p hp rfl
   exact ⟨keep p.1 p.2 ne nf nch e n, free p.1 p.2 nch e n, ne, nf, d⟩
theorem Inv.un {t' : Nat} (I : Inv X pins σ H s) (u : Un X.fs [] H H' s.heap h') (hok : HOk X.prog X.w H' h') : Inv X pins σ H' { s with heap := h', toks := t' } := by
 obtain ⟨m, ⟨o, es, ep, ho, r⟩, _⟩ := id I.loc
 obtain ⟨sl, hL⟩ := u.any ho I.free (by simp)
 exact I.step (g' := s.gens) (d' := s.drawn) (ch := []) (fun _ z => nomatch z) (fun b o _ hb _ e n => u.keep b o e n hb (by simp)) (fun b o _ hb _ e n => u.slot b o e n hb (by simp)) (fun b o _ e n => u.free b o e n (by simp)) (fun b o _ e => u.there b o e (by simp)) u.tups u.frzs u.tbls (fun m' hm => by
  obtain ⟨o', es', ep', ho', r'⟩ := hm
  rw [ho] at ho'; cases ho'
  exact ⟨_, es', ep', hL, r'⟩) hok I.bare
theorem Inv.call {g' : Array GenState} {t' : Nat} {d' : Drawn} {ch : List Addr} (I : Inv X pins σ H s) (u : Un (VP X.stack) ch H H' s.heap h') (hok : HOk X.prog X.w H' h') (hg : AllBare g')
 (hch : ∀ b ∈ ch, (b ∈ X.ex \/ X.s₀.heap.objs.size <= b) /\ b ≠ X.env.locals /\ (∀ x c, X.env.cells.lookup x = some c -> c ≠ b) /\ ∀ p ∈ X.pn ++ pins, p.1 ≠ b) :
 Inv X pins σ H' { s with heap := h', gens := g', drawn := d', toks := t' } := by
 obtain ⟨m, ⟨o, es, ep, ho, r⟩, _⟩ := id I.loc
 obtain ⟨sl, hL⟩ := u.any ho I.free fun z => (hch _ z).2.1 rfl
 exact I.step (ch := ch) hch (fun b o hL hb hc e n => u.keep b o e n (fun z => (aB.mp (I.stkSub b z)).elim hL hb) hc) (fun b o _ _ hc e n => u.any e n hc) (fun b o hc e n => u.free b o e n hc) (fun b o hc e => u.there b o e hc) u.tups u.frzs u.tbls (fun m' hm => by
  obtain ⟨o', es', ep', ho', r'⟩ := hm
  rw [ho] at ho'; cases ho'
  exact ⟨_, es', ep', hL, r'⟩) hok hg
theorem Inv.turned {t' : Nat} {it : Addr} (I : Inv X pins σ H s) (k : ∀ b o, b ≠ it -> s.heap.get? b = some o -> h'.get? b = some o) (hn : H it = none) (hL : it ≠ X.env.locals)
 (h1 : it ∈ X.ex \/ X.s₀.heap.objs.size <= it) (h2 : ∀ x c, X.env.cells.lookup x = some c -> c ≠ it) (h3 : ∀ p ∈ X.pn ++ pins, p.1 ≠ it) : Inv X pins σ H { s with heap := h', toks := t' } := by
 have nit : ∀ b u, H b = some u -> b ≠ it := fun b u e z => by rw [z, hn] at e; cases e
 refine I.step (g' := s.gens) (d' := s.drawn) (ch := [it]) (fun b hb => ?_) (fun b o _ _ hc e _ => k b o (fun z => hc (by simp [z])) e) (fun b o _ _ hc e _ => ⟨o.slots, k b o (fun z => hc (by simp [z])) e⟩) (fun _ _ _ _ n => n)
  (fun b o hc e => ⟨o, k b o (fun z => hc (by simp [z])) e⟩) (fun _ _ e => e) (fun _ _ _ e => e) (fun b ps e => ⟨#[], by rw [e]; simp⟩) (fun m hm => ?_) (fun b u e => ?_) I.bare
 · have e : b = it := by simpa using hb
   subst e
   exact ⟨h1, hL, h2, h3⟩
 · obtain ⟨o, es, ep, ho, r⟩ := hm
   exact ⟨o, es, ep, k _ o (bn hL) ho, r⟩
 · refine (I.hok b u e).stay (fun c v hc q => k c v ?_ q) (fun _ q => q) fun _ _ q => q
   rcases hc with z | z
   · rw [z]; exact nit b u e
   · exact nit c _ z
theorem Inv.tok (I : Inv X pins σ H s) (t : Nat) : Inv X pins σ H { s with toks := t } := I.un (h' := s.heap) (t' := t) Un.refl I.hok
theorem Inv.kept (I : Inv X pins σ H s) (k : ∀ b u, s.heap.get? b = some u -> h'.get? b = some u) : Inv X pins σ H { s with heap := h', toks := t' } := I.un (Un.kept k) (I.hok.kept k)
theorem Inv.laid (I : Inv X pins σ H s) (k : ∀ b u, s.heap.get? b = some u -> h'.get? b = some u) (hp : s.heap.objs.size <= a) (new : ObjOk X.prog X.w (yc H a o) h' a o) :
 Inv X pins σ (yc H a o) { s with heap := h', toks := t' } := I.un (Un.laid k hp (I.hok.fresh hp)) (I.hok.laid k hp new)
theorem Inv.write (I : Inv X pins σ H s) (mu : Mut (H x)) (he : e = x \/ H e = some (.own x)) (k : ∀ b u, b ≠ e -> s.heap.get? b = some u -> h'.get? b = some u) (heo : ∃ u, h'.get? e = some u)
 (new : ObjOk X.prog X.w (yc H x o) h' x o) : Inv X pins σ (yc H x o) { s with heap := h', toks := t' } := I.un (Un.write mu he k heo) (I.hok.write mu he k heo new)
theorem Inv.pins_of (I : Inv X pins σ H s) (h : ∀ p ∈ pins', s.heap.get? p.1 = some p.2 /\ H p.1 = none /\ p.1 ≠ X.env.locals /\ p.1 ∉ X.fs /\ ∀ v, p.2.data ≠ .cell v) : Inv X pins' σ H s :=
 ⟨I.ok, I.os, I.bare, I.base, I.loc, I.cell, I.free, I.freeC, fun p hp => (a8.mp hp).elim (fun z => I.pin p (aL _ z)) (h p), I.hok, I.len⟩
theorem zd1 {N : List Str} (hN : N.Nodup) {i j : Nat} {x : Str} (a : N[i]? = some x) (b : N[j]? = some x) : i = j := by
 obtain ⟨h1, e1⟩ := aD.mp a
 obtain ⟨h2, e2⟩ := aD.mp b
 exact (List.getElem_inj hN).mp (e1.trans e2.symm)
theorem zcC {E : Value -> Shared -> Prop} {Q : Unit -> Shared -> Prop} (I : Inv X pins σ H s) (hN : X.N.Nodup) (hi : X.N[i]? = some x) (hx : Loc X.env.scope x) (r : RelV v u)
 (h : ∀ s', Inv X pins (σ.set i (some v)) H s' -> (∃ a, cN a s.heap s'.heap /\ (a = X.env.locals \/ X.env.cells.lookup x = some a)) -> Q () s') (hf : X.fn x = true \/ X.env.scope.names.lookup x = some .local := by first | exact .inl rfl | exact .inr rfl | assumption) : wpAny M A (storeName X.env x u) Q E s := by
 obtain ⟨m, hn, hl⟩ := id I.loc
 have hcls : (X.env.scope.kind == .class || (X.env.scope.kind == .module && X.env.locals != X.env.globals)) = false := by rw [I.ok.kind]; rfl
 have hiσ : i < σ.length := by rw [I.len]; exact (aD.mp hi).1
 have cne := I.cne
 have tracked : ∀ {a : Addr} {h' : Heap}, (∃ o, s.heap.get? a = some o /\ H a = none) -> cN a s.heap h' -> HOk X.prog X.w H h' := fun {a h'} ha hs b ob e => by
  obtain ⟨_, _, hfree⟩ := ha
  refine (I.hok b ob e).stay (fun c w' hc q => (hs.2 c ?_).trans q) (fun _ q => q) fun _ _ q => q
  rintro rfl
  rcases hc with rfl | hc
  · rw [hfree] at e; cases e
  · rw [hfree] at hc; cases hc
 rcases hx with hk | hk
 · refine wpAny_storeName_local hk hn (fun h' hn' hs => ?_) hcls
   obtain ⟨oL, _, _, hoL, _⟩ := id hn
   refine h _ ⟨I.ok, I.os, I.bare, ⟨fun b o e n hb hx => ?_, fun b o e n hb hx => ?_, I.base.free, fun b o e hx => ?_, I.base.tups, I.base.frzs, I.base.tbls⟩, ⟨_, hn', fun j y v' e1 e2 e3 => ?_⟩, fun y c e => ?_, I.free, I.freeC, fun p hp => ?_, tracked ⟨oL, hoL, I.free⟩ hs, by simpa using I.len⟩ ⟨_, hs, .inl rfl⟩
   · exact (hs.2 b (az (aH (aw e) I.ok.above))).trans (I.base.keep b o e n hb hx)
   · obtain ⟨sl, e1⟩ := I.base.slot b o e n hb hx
     exact ⟨sl, (hs.2 b (az (aH (aw e) I.ok.above))).trans e1⟩
   · obtain ⟨o', e1⟩ := I.base.there b o e hx
     exact ⟨o', (hs.2 b (az (aH (aw e) I.ok.above))).trans e1⟩
   · by_cases hj : j = i
     · subst hj
       rw [hi] at e1; cases e1
       rw [fH hiσ] at e2
       cases e2
       exact ⟨u, r, .inl ⟨hk, by simp⟩⟩
     · rw [gk (bn hj)] at e2
       obtain ⟨u', r', q⟩ := hl j y v' e1 e2 e3
       refine ⟨u', r', ?_⟩
       rcases q with ⟨k, e⟩ | ⟨k, c, e, z⟩
       · refine .inl ⟨k, ?_⟩
         have : y ≠ x := fun e => hj (zd1 hN e1 (e ▸ hi))
         simp [this, e]
       · exact .inr ⟨k, c, e, z.sameBut hs (cne y c e)⟩
   · obtain ⟨w', z⟩ := I.cell y c e
     exact ⟨w', z.sameBut hs (cne y c e)⟩
   · obtain ⟨e, n, ne, nf, d⟩ := I.pin p hp
     exact ⟨(hs.2 p.1 ne).trans e, n, ne, nf, d⟩
 · have hfn : X.fn x = true := by
    rcases hf with z | z
    · exact z
    · rw [z] at hk; cases hk
   obtain ⟨c, hc⟩ := I.ok.has x (.inl hk)
   obtain ⟨w', z⟩ := I.cell x c hc
   refine wpAny_storeName_cell I.ok.kind hk hc z (fun h' hc' hs => ?_)
   obtain ⟨oc, hoc, hocd⟩ := id z
   refine h { s with heap := h' } ⟨I.ok, I.os, I.bare, ⟨fun b o e n hb hx => ?_, fun b o e n hb hx => ?_, I.base.free, fun b o e hx => ?_, I.base.tups, I.base.frzs, I.base.tbls⟩, ⟨m, hn.sameBut hs (bn (cne x c hc)), fun j y v' e1 e2 e3 => ?_⟩, fun y c' e => ?_, I.free, I.freeC, fun p hp => ?_, tracked ⟨oc, hoc, I.freeC x c hc⟩ hs, by simpa using I.len⟩ ⟨c, hs, .inr hc⟩
   · exact (hs.2 b (az (aH (aw e) (I.ok.cab x c hfn hc)))).trans (I.base.keep b o e n hb hx)
   · obtain ⟨sl, e1⟩ := I.base.slot b o e n hb hx
     exact ⟨sl, (hs.2 b (az (aH (aw e) (I.ok.cab x c hfn hc)))).trans e1⟩
   · obtain ⟨o', e1⟩ := I.base.there b o e hx
     exact ⟨o', (hs.2 b (az (aH (aw e) (I.ok.cab x c hfn hc)))).trans e1⟩
   · by_cases hj : j = i
     · subst hj
       rw [hi] at e1; cases e1
       rw [fH hiσ] at e2
       cases e2
       exact ⟨u, r, .inr ⟨.inl hk, c, hc, hc'⟩⟩
     · rw [gk (bn hj)] at e2
       obtain ⟨u', r', q⟩ := hl j y v' e1 e2 e3
       refine ⟨u', r', ?_⟩
       rcases q with q | ⟨k, c', e, z'⟩
       · exact .inl q
       · refine .inr ⟨k, c', e, z'.sameBut hs ?_⟩
         rintro rfl
         exact hj (zd1 hN e1 (I.ok.inj _ _ _ e hc ▸ hi))
   · by_cases hcc : c' = c
     · subst hcc; exact ⟨_, hc'⟩
     · obtain ⟨w2, z2⟩ := I.cell y c' e
       exact ⟨w2, z2.sameBut hs hcc⟩
   · obtain ⟨e, n, ne, nf, d⟩ := I.pin p hp
     refine ⟨(hs.2 p.1 ?_).trans e, n, ne, nf, d⟩
     intro q
     rw [q, hoc] at e
     have q' : oc = p.2 := bc e
     exact d w' (by rw [← q']; exact hocd)
theorem zd2 {E : Value -> Shared -> Prop} {Q : Unit -> Shared -> Prop} (I : Inv X pins σ H s) (hN : X.N.Nodup) (hi : X.N[i]? = some x) (hx : Loc X.env.scope x) (r : RelV v u)
 (h : ∀ s', Inv X pins (σ.set i (some v)) H s' -> Q () s') (hf : X.fn x = true \/ X.env.scope.names.lookup x = some .local := by first | exact .inl rfl | exact .inr rfl | assumption) : wpAny M A (storeName X.env x u) Q E s :=
 zcC I hN hi hx r (fun s' I' _ => h s' I') hf
theorem Inv.call' {s' : Shared} (I : Inv X pins σ H s) (ho : s'.os = s.os) (u : Un (VP X.stack) ch H H' s.heap s'.heap) (hok : HOk X.prog X.w H' s'.heap) (hg : AllBare s'.gens)
 (hch : ∀ b ∈ ch, (b ∈ X.ex \/ X.s₀.heap.objs.size <= b) /\ b ≠ X.env.locals /\ (∀ x c, X.env.cells.lookup x = some c -> c ≠ b) /\ ∀ p ∈ X.pn ++ pins, p.1 ≠ b) : Inv X pins σ H' s' := by
 obtain ⟨h', g', d', t', o'⟩ := s'
 have e : o' = s.os := ho
 subst e
 exact I.call (g' := g') (t' := t') (d' := d') u hok hg hch
end
abbrev XK := Value -> Option Addr -> Hp -> Prop
abbrev St := List (Option V)
abbrev VK := V -> Hp -> Prop
abbrev TE := St -> Hp -> VK -> Prop
abbrev TT := St -> Hp -> (Bool -> Hp -> Prop) -> Prop
abbrev TA := St -> Hp -> (List V -> Hp -> Prop) -> Prop
structure zd3 where
 nx : St -> Hp -> Prop
 rt : VK
 bk : St -> Hp -> Prop := fun _ _ => False
 ct : St -> Hp -> Prop := fun _ _ => False
abbrev TS := zd3 -> St -> Hp -> Prop
def EP (X : Cx) (pins : List (Addr × Obj)) (σ : St) (Q : VK) (u : Value) (s' : Shared) : Prop := ∃ v H', Inv X pins σ H' s' /\ RelV v u /\ Q v H'
def TP (X : Cx) (pins : List (Addr × Obj)) (σ : St) (Q : Bool -> Hp -> Prop) (b : Bool) (s' : Shared) : Prop := ∃ H', Inv X pins σ H' s' /\ Q b H'
def AP (X : Cx) (pins : List (Addr × Obj)) (σ : St) (Q : List V -> Hp -> Prop) (us : List Value) (s' : Shared) : Prop := ∃ vs H', Inv X pins σ H' s' /\ Vals vs us /\ Q vs H'
def SP (X : Cx) (pins : List (Addr × Obj)) (D : zd3) (f : Flow) (s' : Shared) : Prop :=
 match f with
 | .next => ∃ σ' H', Inv X pins σ' H' s' /\ D.nx σ' H'
 | .brk => ∃ σ' H', Inv X pins σ' H' s' /\ D.bk σ' H'
 | .cont => ∃ σ' H', Inv X pins σ' H' s' /\ D.ct σ' H'
 | .ret u => ∃ v σ' H', Inv X pins σ' H' s' /\ RelV v u /\ D.rt v H'
def PE (X : Cx) (e : Expr) (t : TE) : Prop :=
 ∀ (pins : List (Addr × Obj)) (s : Shared) (σ : St) (H : Hp) (Q : VK), Inv X pins σ H s -> t σ H Q -> wpAny (model X.prog X.w) X.A (eval e X.env) (EP X pins σ Q) X.xe s
def PT (X : Cx) (e : Expr) (t : TT) : Prop :=
 ∀ (pins : List (Addr × Obj)) (s : Shared) (σ : St) (H : Hp) (Q : Bool -> Hp -> Prop), Inv X pins σ H s -> t σ H Q -> wpAny (model X.prog X.w) X.A (isTrue e X.env (eval e X.env)) (TP X pins σ Q) X.xe s
def PW (X : Cx) (e : Expr) (t : TT) : Prop :=
 ∀ (whole : Sem Value) (pins : List (Addr × Obj)) (s : Shared) (σ : St) (H : Hp) (Q : Bool -> Hp -> Prop), Inv X pins σ H s -> t σ H Q -> wpAny (model X.prog X.w) X.A (isTrue e X.env whole) (TP X pins σ Q) X.xe s
theorem PW.pt (h : PW X e t) : PT X e t := h _
def PA (X : Cx) (es : List Expr) (t : TA) : Prop :=
 ∀ (pos : Pos) (pins : List (Addr × Obj)) (s : Shared) (σ : St) (H : Hp) (Q : List V -> Hp -> Prop), Inv X pins σ H s -> t σ H Q -> wpAny (model X.prog X.w) X.A (spliced (backTo pos (am es X.env))) (AP X pins σ Q) X.xe s
def PS (X : Cx) (st : Stmt) (t : TS) : Prop :=
 ∀ (pins : List (Addr × Obj)) (s : Shared) (σ : St) (H : Hp) (D : zd3), Inv X pins σ H s -> t D σ H -> wpAny (model X.prog X.w) X.A (exec st X.env) (SP X pins D) X.xe s
def PSs (X : Cx) (st : List Stmt) (t : TS) : Prop :=
 ∀ (pins : List (Addr × Obj)) (s : Shared) (σ : St) (H : Hp) (D : zd3), Inv X pins σ H s -> t D σ H -> wpAny (model X.prog X.w) X.A (execs st X.env) (SP X pins D) X.xe s
theorem zP {α : Type} {t : Sem α} {Q Q' : α -> Shared -> Prop} {M : Model} {A : Around} {E : Value -> Shared -> Prop} {s : Shared} (h : wpAny M A t Q E s) (hQ : ∀ a s, Q a s -> Q' a s) : wpAny M A t Q' E s := cU h hQ fun _ _ x => x
section
variable {X : Cx}
def QL (i : Nat) : TE := fun σ H Q => ∃ v, σ[i]? = some (some v) /\ Q v H
def tC (v : V) : TE := fun _ H Q => Q v H
theorem QM (hN : X.N[i]? = some x) (hv : Ys X.env.scope x) (hd : (x == ("__debug__" : Str)) = false := by decide) (hcd : (x == ("__classdict__" : Str)) = false := by decide) : PE X (.Name x pos) (QL i) := by
 intro pins s σ H Q I h
 obtain ⟨v, e, h⟩ := h
 obtain ⟨m, hn, hl⟩ := I.loc
 obtain ⟨u, r, l⟩ := hl i x v hN e hv
 have fin : EP X pins σ Q u s := ⟨v, H, I, r, h⟩
 rcases l with ⟨hk, hm⟩ | ⟨hk, c, hc, hcell⟩
 · exact iX (wpAny_loadName_local I.ok.kind hk hn hm fin) hd
 · rcases hk with hk | hk
   · exact iX (wpAny_loadName_cell I.ok.kind hk hc hcell fin) hd
   · exact iX (wpAny_loadName_free I.ok.kind hk hc hcell fin hcd) hd
theorem ziL : PE X (.Constant (.int i) j pos) (tC (.int i)) := fun _ _ _ H _ I h => wpAny_Constant_int ⟨.int i, H, I.tok _, ⟨_, rfl⟩, h⟩
theorem zmj : PE X (.Constant (.bool b) j pos) (tC (.bl b)) := fun _ _ _ H _ I h => Constant_bool ⟨.bl b, H, I, rfl, h⟩
theorem zox : PE X (.Constant .none j pos) (tC .non) := fun _ _ _ H _ I h => Constant_none ⟨.non, H, I, rfl, h⟩
theorem ziM : PE X (.Constant (.str x) j pos) (tC (.str x)) := fun _ _ _ H _ I h => Calls.Constant_str ⟨.str x, H, I.tok _, ⟨_, rfl⟩, h⟩
def Gl (X : Cx) (x : Str) : Prop := X.env.kindOf x = some .globalImplicit
theorem zbR {E : Value -> Shared -> Prop} {Q : Value -> Shared -> Prop} (I : Inv X pins σ H s) (hg : Gl X x) (hm : X.mg x = some u) (h : Q u s)
 (hd : (x == ("__debug__" : Str)) = false := by decide) : wpAny (model X.prog X.w) X.A (eval (.Name x pos) X.env) Q E s :=
 eY I.ok.kind hg (Calls.loadGlobal_global (by rw [I.ok.glob]; exact I.mod.glob.keeps I.bk) hm h) hd
theorem Yt {E : Value -> Shared -> Prop} {Q : Value -> Shared -> Prop} (I : Inv X pins σ H s) (hg : Gl X x) (hm : X.mg x = none) (hv : bG x = some u) (h : Q u s)
 (hn : x ≠ "__name__" := by decide) (hd : (x == ("__debug__" : Str)) = false := by decide) : wpAny (model X.prog X.w) X.A (eval (.Name x pos) X.env) Q E s := by
 obtain ⟨mb, h1, h2⟩ := I.mod.blt
 exact eY I.ok.kind hg (Calls.loadGlobal_builtin (by rw [I.ok.glob]; exact I.mod.glob.keeps I.bk) hm (by rw [I.ok.blt]; exact h1.keeps I.bk) ((h2 x hn).trans hv) h) hd
theorem zf4 (hg : Gl X x) (hm : X.mg x = some u) (r : RelV v u) (hd : (x == ("__debug__" : Str)) = false := by decide) : PE X (.Name x pos) (tC v) :=
 fun _ _ _ H _ I h => zbR I hg hm ⟨v, H, I, r, h⟩ hd
theorem zm4 (hg : Gl X x) (hm : X.mg x = none) (hv : bG x = some u) (r : RelV v u) (hn : x ≠ "__name__" := by decide) (hd : (x == ("__debug__" : Str)) = false := by decide) : PE X (.Name x pos) (tC v) :=
 fun _ _ _ H _ I h => Yt I hg hm hv ⟨v, H, I, r, h⟩ hn hd
variable {a b : Expr} {ta tb : TE} {pos : Pos}
def tB (t : TE) : TT := fun σ H Q => t σ H fun x H1 => ∃ c, x = .bl c /\ Q c H1
theorem zoy {e : Expr} {t : TE} (h : PE X e t) (he : ∀ whole, isTrue e X.env whole = (do let v ← whole; eN e.pos; cH [v] (truthy v)) := by intro _; rfl) : PT X e (tB t) := by
 intro pins s σ H Q I hw
 refine isTrue_plain (zP (h pins s σ H _ I hw) fun v s1 ⟨x, H1, I1, r1, q1⟩ => ?_) (he _)
 obtain ⟨d, rfl, q⟩ := q1
 cases r1
 exact aX ⟨H1, I1, q⟩
variable {tA tB' : TT} {rest : List Expr}
def zoz (t u : TT) : TT := fun σ H Q => t σ H fun c H1 => if c = true then u σ H1 Q else Q false H1
def tOr (t u : TT) : TT := fun σ H Q => t σ H fun c H1 => if c = true then Q true H1 else u σ H1 Q
def zoA (t : TT) : TT := fun σ H Q => t σ H fun c H1 => Q (!c) H1
theorem zm5 (ha : PT X a tA) : PW X (.BoolOp .And [a] pos) tA := by
 intro wh pins s σ H Q I h
 refine isTrue_and (zP (ha pins s σ H Q I h) fun c s1 e => ?_)
 cases c with
 | true => exact isTrue_and_nil e
 | false => exact e
theorem zoB (ha : PT X a tA) : PW X (.BoolOp .Or [a] pos) tA := by
 intro wh pins s σ H Q I h
 refine isTrue_or (zP (ha pins s σ H Q I h) fun c s1 e => ?_)
 cases c with
 | false => exact isTrue_or_nil e
 | true => exact e
theorem zoC (ha : PT X a tA) (hb : PW X (.BoolOp .And (b :: rest) pos) tB') : PW X (.BoolOp .And (a :: b :: rest) pos) (zoz tA tB') := by
 intro wh pins s σ H Q I h
 refine isTrue_and (zP (ha pins s σ H _ I h) fun c s1 ⟨H1, I1, q1⟩ => ?_)
 cases c with
 | true => exact hb wh pins s1 σ H1 Q I1 q1
 | false => exact ⟨H1, I1, q1⟩
theorem zqv (ha : PT X a tA) (hb : PW X (.BoolOp .Or (b :: rest) pos) tB') : PW X (.BoolOp .Or (a :: b :: rest) pos) (tOr tA tB') := by
 intro wh pins s σ H Q I h
 refine isTrue_or (zP (ha pins s σ H _ I h) fun c s1 ⟨H1, I1, q1⟩ => ?_)
 cases c with
 | true => exact ⟨H1, I1, q1⟩
 | false => exact hb wh pins s1 σ H1 Q I1 q1
theorem zoD (ha : PT X a tA) : PT X (.UnaryOp .Not a pos) (zoA tA) := by
 intro pins s σ H Q I h
 exact isTrue_not (ha pins s σ H (fun c H1 => Q (!c) H1) I h)
def zmk (ta tb : TE) : TE := fun σ H Q => ta σ H fun x H1 => ∃ c, x = .bl c /\ if c = true then tb σ H1 Q else Q (.bl false) H1
def zoE (ta tb : TE) : TE := fun σ H Q => ta σ H fun x H1 => ∃ c, x = .bl c /\ if c = true then Q (.bl true) H1 else tb σ H1 Q
def zml (ta : TE) : TE := fun σ H Q => ta σ H fun x H1 => ∃ c, x = .bl c /\ Q (.bl (!c)) H1
theorem zoF (h : PE X a t) : PE X (.BoolOp op [a] pos) t := fun pins s σ H Q I hw => BoolOp_one (h pins s σ H Q I hw)
theorem zoG (ha : PE X a ta) (hb : PE X (.BoolOp .And (b :: rest) pos) tb) : PE X (.BoolOp .And (a :: b :: rest) pos) (zmk ta tb) := by
 intro pins s σ H Q I h
 refine BoolOp_and (zP (ha pins s σ H _ I h) fun v s1 ⟨x, H1, I1, r1, q1⟩ => ?_)
 obtain ⟨c, rfl, q1⟩ := q1
 cases r1
 refine aX ?_
 cases c with
 | true => exact hb pins s1 σ H1 Q I1 q1
 | false => exact ⟨.bl false, H1, I1, rfl, q1⟩
theorem zqw (ha : PE X a ta) (hb : PE X (.BoolOp .Or (b :: rest) pos) tb) : PE X (.BoolOp .Or (a :: b :: rest) pos) (zoE ta tb) := by
 intro pins s σ H Q I h
 refine BoolOp_or (zP (ha pins s σ H _ I h) fun v s1 ⟨x, H1, I1, r1, q1⟩ => ?_)
 obtain ⟨c, rfl, q1⟩ := q1
 cases r1
 refine aX ?_
 cases c with
 | false => exact hb pins s1 σ H1 Q I1 q1
 | true => exact ⟨.bl true, H1, I1, rfl, q1⟩
theorem zoH (ha : PE X a ta) : PE X (.UnaryOp .Not a pos) (zml ta) := by
 intro pins s σ H Q I h
 refine UnaryOp_ (zP (ha pins s σ H _ I h) fun v s1 ⟨x, H1, I1, r1, q1⟩ => ?_)
 obtain ⟨c, rfl, q1⟩ := q1
 cases r1
 exact not_of (aX ⟨.bl (!c), H1, I1, rfl, q1⟩)
def tIf (t : TT) (ta tb : TE) : TE := fun σ H Q => t σ H fun c H1 => if c = true then ta σ H1 Q else tb σ H1 Q
theorem zkA {c : Expr} (hc : PT X c tA) (ha : PE X a ta) (hb : PE X b tb) : PE X (.IfExp c a b pos) (tIf tA ta tb) := by
 intro pins s σ H Q I h
 refine wpAny_IfExp (zP (hc pins s σ H _ I h) fun d s1 ⟨H1, I1, q1⟩ => ?_)
 cases d with
 | true => exact ha pins s1 σ H1 Q I1 q1
 | false => exact hb pins s1 σ H1 Q I1 q1
end
def y8 (K : ai) (H : Hp) (a : Addr) (xs : List V) : Prop :=
 Rd H a (.lst xs) \/
  ∃ (o : Obj) (its : Array Value) (n : Nat), K.lookup a = some o /\ o.cls = .type "list" /\ o.dict = none /\ o.data = .seq its n /\ its.size <= aF /\ Vals xs its.toList
def SqT (K : ai) (H : Hp) (a : Addr) (xs : List V) : Prop :=
 Rd H a (.tup xs) \/
  ∃ (o : Obj) (its : Array Value) (n : Nat), K.lookup a = some o /\ o.cls = .type "tuple" /\ o.data = .seq its n /\ its.size <= aF /\ Vals xs its.toList
def zrD : Value -> Option V
 | .none => some .non
 | .bool b => some (.bl b)
 | .int i _ => some (.int i)
 | .str x _ => some (.str x)
 | .bytes b _ => some (.byt b)
 | .float b _ => some (.flt b)
 | .ref a => some (.ref a)
 | .type n => some (.ty n)
 | _ => none
theorem RelV.abs (r : RelV x u) : zrD u = some x := by
 cases x with
 | non => cases r; rfl
 | bl _ => cases r; rfl
 | int _ => obtain ⟨t, rfl⟩ := r; rfl
 | str _ => obtain ⟨t, rfl⟩ := r; rfl
 | byt _ => obtain ⟨t, rfl⟩ := r; rfl
 | flt _ => obtain ⟨t, rfl⟩ := r; rfl
 | ref _ => cases r; rfl
 | ty _ => cases r; rfl
theorem RelV.inj (r : RelV x u) (q : RelV y u) : x = y := bc (r.abs.symm.trans q.abs)
theorem Vals.inj : ∀ {xs ys : List V} {us : List Value}, Vals xs us -> Vals ys us -> xs = ys
 | _, _, _, .nil, .nil => rfl
 | _, _, _, .cons r t, .cons r' t' => by rw [r.inj r', Vals.inj t t']
section
variable {X : Cx} {pins : List (Addr × Obj)} {σ : St} {H : Hp} {s : Shared} {a : Addr} {xs ys : List V}
theorem SqT.of {K : ai} (h : H a = some (.tup xs)) : SqT K H a xs := .inl (.inl h)
theorem Inv.list (I : Inv X pins σ H s) (h : y8 X.K H a xs) : ∃ its : List Value, Vals xs its /\ PlainL s.heap a its.toArray /\ xs.length <= aF := by
 rcases h with h | ⟨o, its, n, hk, hc, hd, hs, hz, r⟩
 · obtain ⟨z, its, n, r, e⟩ := h.ok I.hok
   exact ⟨its, r, ⟨_, n, e, rfl, rfl, rfl⟩, z⟩
 · refine ⟨its.toList, r, ⟨o, n, I.kIn a o hk, hc, hd, by simpa using hs⟩, ?_⟩
   have e := r.length
   simp only [gE] at e
   omega
theorem Inv.tuple (I : Inv X pins σ H s) (h : SqT X.K H a xs) : ∃ its : List Value, Vals xs its /\ IsTup s.heap a its.toArray /\ xs.length <= aF := by
 rcases h with h | ⟨o, its, n, hk, hc, hs, hz, r⟩
 · obtain ⟨z, its, r, p⟩ := h.ok I.hok
   exact ⟨its, r, p, z⟩
 · refine ⟨its.toList, r, ⟨o, I.kIn a o hk, hc, n, by simpa using hs⟩, ?_⟩
   have e := r.length
   simp only [gE] at e
   omega
theorem Inv.list_inj (I : Inv X pins σ H s) (h : y8 X.K H a xs) (h' : y8 X.K H a ys) : xs = ys := by
 obtain ⟨its, r, ⟨o, n, e, _, _, d⟩, _⟩ := I.list h
 obtain ⟨its', r', ⟨o', n', e', _, _, d'⟩, _⟩ := I.list h'
 rw [e] at e'; cases e'
 rw [d] at d'
 injection d' with d1 _
 have : its = its' := by simpa using congrArg Array.toList d1
 subst this
 exact r.inj r'
end
abbrev Cx.wish (X : Cx) (E : Value -> Shared -> Prop) : Cx := { X with xe := E }
abbrev Cx.nox (X : Cx) : Cx := X.wish fun _ _ => False
theorem Cx.Ok.wish {X : Cx} (ok : X.Ok) (E : Value -> Shared -> Prop) : (X.wish E).Ok :=
 ⟨ok.mod, ok.kind, ok.glob, ok.blt, ok.above, ok.inj, ok.has, ok.cab, ok.hd, ok.frames, ok.stk, ok.exf, ok.bs, ok.bsz, ok.noex, ok.exfs, ok.funs, ok.frf⟩
theorem Cx.Ok.unwish {X : Cx} {E : Value -> Shared -> Prop} (ok : (X.wish E).Ok) : X.Ok :=
 ⟨ok.mod, ok.kind, ok.glob, ok.blt, ok.above, ok.inj, ok.has, ok.cab, ok.hd, ok.frames, ok.stk, ok.exf, ok.bs, ok.bsz, ok.noex, ok.exfs, ok.funs, ok.frf⟩
section
variable {X : Cx} {pins : List (Addr × Obj)} {σ : St} {H : Hp} {s : Shared} {E : Value -> Shared -> Prop}
theorem Inv.wish (I : Inv X pins σ H s) (E : Value -> Shared -> Prop) : Inv (X.wish E) pins σ H s := ⟨I.ok.wish E, I.os, I.bare, I.base, I.loc, I.cell, I.free, I.freeC, I.pin, I.hok, I.len⟩
theorem Inv.unwish (I : Inv (X.wish E) pins σ H s) : Inv X pins σ H s := ⟨I.ok.unwish, I.os, I.bare, I.base, I.loc, I.cell, I.free, I.freeC, I.pin, I.hok, I.len⟩
theorem SP.unwish (h : SP (X.wish E) pins D f s') : SP X pins D f s' := by
 cases f with
 | next => obtain ⟨σ', H', I, q⟩ := h; exact ⟨σ', H', I.unwish, q⟩
 | brk => obtain ⟨σ', H', I, q⟩ := h; exact ⟨σ', H', I.unwish, q⟩
 | cont => obtain ⟨σ', H', I, q⟩ := h; exact ⟨σ', H', I.unwish, q⟩
 | ret u => obtain ⟨v, σ', H', I, r, q⟩ := h; exact ⟨v, σ', H', I.unwish, r, q⟩
theorem PSs.nox {st : List Stmt} {t : TS} (h : PSs X.nox st t) : PSs X st t := fun pins s σ H D I hw =>
 cU (h pins s σ H D (I.wish _) hw) (fun _ _ q => q.unwish) fun _ _ z => aa z
end
section
variable {X : Cx} {st : Stmt} {rest : List Stmt} {t u : TS} {e : Expr} {te : TE} {pos : Pos}
def zmm : TS := fun D σ H => D.nx σ H
def zoI (t u : TS) : TS := fun D σ H => t { D with nx := u D } σ H
theorem zm6 : PSs X [] zmm := fun _ _ σ H _ I h => fS ⟨σ, H, I, h⟩
theorem zkB (h1 : PS X st t) (h2 : PSs X rest u) : PSs X (st :: rest) (zoI t u) := by
 intro pins s σ H D I h
 refine wpAny_execs_cons (zP (h1 pins s σ H { D with nx := u D } I h) fun f s1 q => ?_)
 cases f with
 | next =>
  obtain ⟨σ', H', I', q⟩ := q
  exact h2 pins s1 σ' H' D I' q
 | ret v => exact q
 | brk => exact q
 | cont => exact q
theorem zm7 (h1 : PS X st t) : PSs X [st] t := by
 intro pins s σ H D I h
 refine wpAny_execs_cons (zP (h1 pins s σ H D I h) fun f s1 q => ?_)
 cases f with
 | next => exact fS q
 | ret v => exact q
 | brk => exact q
 | cont => exact q
theorem Inv.quiet (I : Inv X pins σ H s) : interactive X.env = false := by simp [interactive, I.ok.kind]
def zmn (te : TE) : TS := fun D σ H => te σ H fun _ H1 => D.nx σ H1
theorem zm8 (he : PE X e te) (hs : di e none pos.line X.env = pure false := by rfl) : PS X (.Expr e pos) (zmn te) := by
 intro pins s σ H D I h
 exact wpAny_Expr_any (zP (he pins s σ H _ I h) fun v s1 ⟨x, H1, I1, r1, q1⟩ => ⟨σ, H1, I1, q1⟩) I.quiet hs
def zkC (te : TE) : TS := fun D σ H => te σ H D.rt
theorem ziN (he : PE X e te) : PS X (.Return (some e) pos) (zkC te) := by
 intro pins s σ H D I h
 exact wpAny_Return_some (zP (he pins s σ H _ I h) fun v s1 ⟨x, H1, I1, r1, q1⟩ => ⟨x, σ, H1, I1, r1, q1⟩)
def zoJ (c : TT) (t u : TS) : TS := fun D σ H => c σ H fun b H1 => if b = true then t D σ H1 else u D σ H1
theorem zqx {c : Expr} {a b : List Stmt} {tc : TT} (hc : PT X c tc) (ha : PSs X a t) (hb : PSs X b u) : PS X (.If c a b pos) (zoJ tc t u) := by
 intro pins s σ H D I h
 refine wpAny_If (zP (hc pins s σ H _ I h) fun d s1 ⟨H1, I1, q1⟩ => ?_)
 cases d with
 | true => exact ha pins s1 σ H1 D I1 q1
 | false => exact hb pins s1 σ H1 D I1 q1
def zoK : TS := fun _ _ _ => False
theorem zkD : PS X st zoK := fun _ _ _ _ _ _ h => h.elim
end
abbrev TG := V -> St -> Hp -> (St -> Hp -> Prop) -> Prop
abbrev TGs := List V -> St -> Hp -> (St -> Hp -> Prop) -> Prop
def PG (X : Cx) (target : Expr) (t : TG) : Prop :=
 ∀ (pins : List (Addr × Obj)) (s : Shared) (σ : St) (H : Hp) (v : V) (u : Value) (Q : St -> Hp -> Prop), Inv X pins σ H s -> RelV v u -> t v σ H Q ->
  wpAny (model X.prog X.w) X.A (assign target X.env u) (fun _ s' => ∃ σ' H', Inv X pins σ' H' s' /\ Q σ' H') X.xe s
def PGs (X : Cx) (ts : List Expr) (t : TGs) : Prop :=
 ∀ (pins : List (Addr × Obj)) (s : Shared) (σ : St) (H : Hp) (vs : List V) (us : List Value) (Q : St -> Hp -> Prop), Inv X pins σ H s -> Vals vs us -> t vs σ H Q ->
  wpAny (model X.prog X.w) X.A (assignInOrder ((cF ts X.env).map (·.2)) us) (fun _ s' => ∃ σ' H', Inv X pins σ' H' s' /\ Q σ' H') X.xe s
abbrev zkE := V -> V -> V -> Hp -> (Hp -> Prop) -> Prop
def zoL (X : Cx) (t : zkE) : Prop :=
 ∀ (pins : List (Addr × Obj)) (s : Shared) (σ : St) (H : Hp) (o i v : V) (ov iv u : Value) (Q : Hp -> Prop), Inv X pins σ H s -> RelV o ov -> RelV i iv -> RelV v u -> t o i v H Q ->
  wpAny (model X.prog X.w) X.A (setItem ov iv u) (fun _ s' => ∃ H', Inv X pins σ H' s' /\ Q H') X.xe s
section
variable {X : Cx} {pos : Pos}
def WE (i : Nat) : TG := fun v σ H Q => Q (σ.set i (some v)) H
theorem zm9 (hN : X.N.Nodup) (hi : X.N[i]? = some x) (hx : Loc X.env.scope x) (hf : X.fn x = true \/ X.env.scope.names.lookup x = some .local := by first | exact .inl rfl | exact .inr rfl | assumption) : PG X (.Name x pos) (WE i) := by
 intro pins s σ H v u Q I r h
 exact wpAny_assign_Name (zd2 I hN hi hx r (fun s' I' => ⟨_, H, I', h⟩) hf)
def gNil : TGs := fun vs σ H Q => vs = [] /\ Q σ H
def gCons (t : TG) (u : TGs) : TGs := fun vs σ H Q => ∃ v r, vs = v :: r /\ t v σ H fun σ' H' => u r σ' H' Q
theorem zm_ : PGs X [] gNil := by
 intro pins s σ H vs us Q I r h
 obtain ⟨e, h⟩ := h
 subst e
 cases r
 exact assignInOrder_nil ⟨σ, H, I, h⟩
theorem zkF {e : Expr} {es : List Expr} {t : TG} {u : TGs} (h1 : PG X e t) (h2 : PGs X es u)
 (hs : (cF (e :: es) X.env).map (·.2) = assign e X.env :: (cF es X.env).map (·.2) := by rfl) : PGs X (e :: es) (gCons t u) := by
 intro pins s σ H vs us Q I r h
 obtain ⟨v, vr, e1, h⟩ := h
 subst e1
 cases r with
 | cons r rr =>
  rw [hs]
  refine assignInOrder_cons (zP (h1 pins s σ H _ _ _ I r h) fun _ s1 ⟨σ1, H1, I1, q1⟩ => ?_)
  exact h2 pins s1 σ1 H1 _ _ Q I1 rr q1
def gTup (K : ai) (n : Nat) (t : TGs) : TG := fun v σ H Q => ∃ a xs, v = .ref a /\ SqT K H a xs /\ xs.length = n /\ t xs σ H Q
theorem zoM (hc : X.calm = true) (h : PGs X es t)
 (hn : (cF es X.env).length = n := by rfl) (hst : (cF es X.env).findIdx? (·.1) = none := by rfl) : PG X (.Tuple es k pos) (gTup X.K n t) := by
 intro pins s σ H v u Q I r hw
 obtain ⟨a, xs, e1, hq, hl, hw⟩ := hw
 subst e1
 cases r
 obtain ⟨its, rv, ht, hz⟩ := I.tuple hq
 refine assign_Tuple_tuple (I.ok.hd hc) ht (by simp [hn, ← hl, rv.length]) hst fun h' hx => ?_
 have I1 : Inv X pins σ H { s with heap := h' } := I.kept (t' := s.toks) fun b o e => hx b o (az (aw e)) e
 exact h pins _ σ H xs _ Q I1 (by simpa using rv) hw
def zoN (to ti : TE) (t : zkE) : TG := fun v σ H Q => to σ H fun o H1 => ti σ H1 fun i H2 => t o i v H2 fun H3 => Q σ H3
theorem zoO {o i : Expr} {to ti : TE} {t : zkE} (ho : PE X o to) (hi : PE X i ti) (hs : zoL X t)
 (ha : ∀ v, assign (.Subscript o i pos) X.env v = (do
  let ov ← cH [v] (eval o X.env)
  let iv ← cH [v, ov] (eval i X.env)
  eN pos
  cH [v, ov, iv] (setItem ov iv v)
  release [v, ov, iv] []) := by intro _; rfl) : PG X (.Subscript o i pos) (zoN to ti t) := by
 intro pins s σ H v u Q I r h
 rw [ha]
 refine ab (bA (zP (ho pins s σ H _ I h) fun ov s1 ⟨x, H1, I1, r1, q1⟩ => ?_))
 refine ab (bA (zP (hi pins s1 σ H1 _ I1 q1) fun iv s2 ⟨y, H2, I2, r2, q2⟩ => ?_))
 refine ab (gP (ab (bA (zP (hs pins s2 σ H2 x y v ov iv u _ I2 r1 r2 r q2) fun _ s3 ⟨H3, I3, q3⟩ => ?_))))
 exact wpAny_release ⟨σ, H3, I3, q3⟩
def zbS (te : TE) (g : TG) : TS := fun D σ H => te σ H fun x H1 => g x σ H1 D.nx
theorem zoP {tg e : Expr} {te : TE} {g : TG} (he : PE X e te) (hg : PG X tg g) (hs : swapsWithSole [tg] e pos.line X.env = pure false := by rfl) (hw : swappedStores [tg] e X.env = pure none := by rfl)
 (h1 : (cF [tg] X.env).map (·.2) = [assign tg X.env] := by rfl) : PS X (.Assign [tg] e pos) (zbS te g) := by
 intro pins s σ H D I h
 refine wpAny_Assign_stores (zP (he pins s σ H _ I h) fun v s1 ⟨x, H1, I1, r1, q1⟩ => ?_) hs hw
 rw [h1]
 exact zP (hg pins s1 σ H1 x v _ I1 r1 q1) fun _ s2 q => q
theorem ziP {i : Nat} {x : Str} {e : Expr} {te : TE} {pos' : Pos} (hN : X.N.Nodup) (hi : X.N[i]? = some x) (hx : Loc X.env.scope x) (he : PE X e te) (hs : di e (some (.Name x pos')) pos.line X.env = pure false := by rfl) (hf : X.fn x = true \/ X.env.scope.names.lookup x = some .local := by first | exact .inl rfl | exact .inr rfl | assumption) :
 PS X (.Assign [.Name x pos'] e pos) (zbS te (WE i)) := by
 intro pins s σ H D I h
 refine wpAny_Assign_Name (zP (he pins s σ H _ I h) fun v s1 ⟨y, H1, I1, r1, q1⟩ => ?_) hs
 exact zd2 I1 hN hi hx r1 (fun s2 I2 => ⟨_, H1, I2, q1⟩) hf
end
structure It where
 go : Nat -> Hp -> Prop
 yld : Nat -> Hp -> V -> Hp -> Prop
 stop : Nat -> Hp -> Prop
def FpOk (X : Cx) (pins : List (Addr × Obj)) (H : Hp) (b : Addr) : Prop :=
 H b = none /\ b ≠ X.env.locals /\ b ∉ X.fs /\ (b ∈ X.ex \/ X.s₀.heap.objs.size <= b) /\ (∀ x c, X.env.cells.lookup x = some c -> c ≠ b) /\ ∀ p ∈ X.pn ++ pins, p.1 ≠ b
theorem Inv.fpOk {s : Shared} (I : Inv X pins σ H s) (hb : s.heap.objs.size <= b) (hn : H' b = none) : FpOk X pins H' b := by
 refine ⟨hn, fE (aH I.lt hb), I.nofs hb, .inr (aV I.sz hb), fun x c e z => ?_, fun p hp z => ?_⟩
 · obtain ⟨v, q⟩ := I.cell x c e
   exact absurd (aH q.lt (by rw [z]; exact hb)) (cn _)
 · exact absurd (aH (aw (I.pin p hp).1) (by rw [z]; exact hb)) (cn _)
structure zd5 (P : Program) (w : World) (K : ai) (tg : Expr) (J : It) (fp : List Addr) (it : Addr) (tn : Nat -> Heap -> Prop) : Prop where
 mem : it ∈ fp
 obj : ∀ i h, tn i h -> ∀ b ∈ fp, ∃ o, h.get? b = some o /\ ∀ v, o.data ≠ .cell v
 keep : ∀ i h h', tn i h -> (∀ b ∈ fp, ∀ o, h.get? b = some o -> h'.get? b = some o) -> tn i h'
 item : ∀ (X : Cx), X.prog = P -> X.w = w -> X.K = K -> X.calm = true -> ∀ (i : Nat) (pins : List (Addr × Obj)) (s : Shared) (σ : St) (H : Hp) (E : Value -> Shared -> Prop), Inv X pins σ H s -> (∀ b ∈ fp, FpOk X pins H b) -> tn i s.heap -> J.go i H ->
  wpAny (model P w) X.A (pyNext (.ref it)) (fun r s1 => ∃ u, r = some u /\
   wpAny (model P w) X.A (dD tg (.ref it) u) (fun _ s2 => ∃ x H', Inv X pins σ H' s2 /\ RelV x u /\ J.yld i H x H' /\ tn (i + 1) s2.heap /\ ∀ b ∈ fp, H' b = none) E s1) E s
 done : ∀ (X : Cx), X.prog = P -> X.w = w -> X.K = K -> X.calm = true -> ∀ (i : Nat) (pins : List (Addr × Obj)) (s : Shared) (σ : St) (H : Hp) (E : Value -> Shared -> Prop), Inv X pins σ H s -> (∀ b ∈ fp, FpOk X pins H b) -> tn i s.heap -> J.stop i H ->
  wpAny (model P w) X.A (pyNext (.ref it)) (fun r s1 => r = none /\ Inv X pins σ H s1) E s
 self : ∀ (A : Around) (i : Nat) (s : Shared) (Q : Value -> Shared -> Prop) (E : Value -> Shared -> Prop), tn i s.heap -> Q (.ref it) s -> wpAny (model P w) A (pyIter (.ref it)) Q E s
abbrev TI := St -> Hp -> (It -> Hp -> Prop) -> Prop
def PIE (X : Cx) (pins : List (Addr × Obj)) (σ : St) (tg : Expr) (R : It -> Hp -> Prop) (itv : Value) (s2 : Shared) : Prop :=
 ∃ (it : Addr) (fp : List Addr) (tn : Nat -> Heap -> Prop) (J : It) (H' : Hp), itv = .ref it /\ Inv X pins σ H' s2 /\ zd5 X.prog X.w X.K tg J fp it tn /\ tn 0 s2.heap /\ (∀ b ∈ fp, FpOk X pins H' b) /\ R J H'
def PI (X : Cx) (tg iter : Expr) (wi : TI) : Prop :=
 ∀ (pins : List (Addr × Obj)) (s : Shared) (σ : St) (H : Hp) (R : It -> Hp -> Prop), Inv X pins σ H s -> wi σ H R ->
  wpAny (model X.prog X.w) X.A (eval iter X.env) (fun v s1 => wpAny (model X.prog X.w) X.A (pyIter v) (PIE X pins σ tg R) X.xe s1) X.xe s
theorem zhk {E : Value -> Shared -> Prop} {s : Shared} {o : Obj} {Q : Unit -> Shared -> Prop} (ho : s.heap.get? it = some o) (hc : o.cls = .type n) (hd : o.data = .fields vs)
 (hn : ["enumerate", "zip", "dict_itemiterator", "dict_reverseitemiterator", "odict_iterator", "itertools.zip_longest", "itertools.pairwise"].contains n = false) (hQ : Q () s) : wpAny M A (dD tg (.ref it) u) Q E s := by
 unfold dD
 cases tg <;> first
  | exact aj hQ
  | (cases u <;> first
   | exact aj hQ
   | (refine ab (wpAny_load ho ?_)
      rw [hc, hd]
      show wpAny M A (if (["enumerate", "zip", "dict_itemiterator", "dict_reverseitemiterator", "odict_iterator", "itertools.zip_longest", "itertools.pairwise"].contains n && vs[0]? == some (rawInt _)) = true then _ else _) Q E s
      rw [if_neg (by intro h; rw [hn, dL] at h; cases h)]
      exact aj hQ))
def Itl (K : ai) (a : Addr) : It :=
 ⟨fun i H => ∃ xs x, y8 K H a xs /\ xs[i]? = some x, fun i H x H' => H' = H /\ ∀ xs, y8 K H a xs -> xs[i]? = some x, fun i H => ∃ xs, y8 K H a xs /\ xs.length <= i⟩
def Itr (lo : Int) (n : Nat) : It := ⟨fun i _ => i < n, fun i H x H' => H' = H /\ x = .int (lo + i), fun i _ => n <= i⟩
theorem ziR {P : Program} {w : World} {K : ai} {tg : Expr} (a it : Addr) : zd5 P w K tg (Itl K a) [it] it (fun i h => h.IsListIter it a i) where
 mem := by simp
 obj := fun i h st b hb => by
  have e : b = it := by simpa using hb
  subst e
  obtain ⟨o, e, c, d⟩ := st
  exact ⟨o, e, fun v z => by rw [d] at z; cases z⟩
 keep := fun i h h' st k => st.at fun o e => k it (by simp) o e
 item := by
  intro X hP hw hK hc i pins s σ H E I hf st hg
  subst hP hw hK
  obtain ⟨xs, x, hq, hx⟩ := hg
  obtain ⟨its, rv, p, hz⟩ := I.list hq
  obtain ⟨u, hu, ru⟩ := rv.get hx
  obtain ⟨f0, f1, f2, f3, f4, f5⟩ := hf it (by simp)
  refine wpAny_pyNext_list_item st p.isList (x := u) (by simpa using hu) fun h' st' sb => ?_
  have I1 : Inv X pins σ H { s with heap := h' } := I.turned (t' := s.toks) (fun b o hb e => (sb.2 b hb).trans e) f0 f1 f3 f4 f5
  obtain ⟨o, e, c, d⟩ := id st'
  exact ⟨u, rfl, zhk (s := { s with heap := h' }) e c d (by decide) ⟨x, H, I1, ru, ⟨rfl, fun ys hy => by rw [I.list_inj hy hq]; exact hx⟩, st', fun b hb => (hf b hb).1⟩⟩
 done := by
  intro X hP hw hK hc i pins s σ H E I hf st hg
  subst hP hw hK
  obtain ⟨xs, hq, hx⟩ := hg
  obtain ⟨its, rv, p, hz⟩ := I.list hq
  obtain ⟨f0, f1, f2, f3, f4, f5⟩ := hf it (by simp)
  have hl := rv.length
  exact wpAny_pyNext_list_end (I.ok.hd hc) st p.isList (by simp; omega) fun h' eb => ⟨rfl, I.turned (t' := s.toks) (fun b o hb e => eb b o hb e) f0 f1 f3 f4 f5⟩
 self := fun _ _ _ _ _ st h => wpAny_pyIter_listiter st h
theorem zhl {P : Program} {w : World} {K : ai} {tg : Expr} (it : Addr) (lo : Int) (n : Nat) : zd5 P w K tg (Itr lo n) [it] it (fun i h => IsRangeIter h it (lo + (i : Nat) * 1) ((n : Int) - (i : Nat)) 1) where
 mem := by simp
 obj := fun i h st b hb => by
  have e : b = it := by simpa using hb
  subst e
  exact ⟨_, st, fun v z => by
   have z' : Data.fields _ = Data.cell v := z
   cases z'⟩
 keep := fun i h h' st k => k it (by simp) _ st
 item := by
  intro X hP hw hK hc i pins s σ H E I hf st hg
  subst hP hw hK
  obtain ⟨f0, f1, f2, f3, f4, f5⟩ := hf it (by simp)
  have W := Walks.range (prog := X.prog) (w := X.w) (I.ok.hd hc) it lo 1 n
  refine W.item i s _ _ hg st fun v h' tk hv st' kk => ?_
  obtain ⟨t, rfl⟩ := hv
  have I1 : Inv X pins σ H { s with heap := h', toks := tk } := I.turned (fun b o hb e => kk b o (by simpa using hb) e) f0 f1 f3 f4 f5
  refine ⟨_, rfl, zhk (s := { s with heap := h', toks := tk }) (n := "range_iterator") st' rfl rfl (by decide) ⟨.int (lo + i), H, I1, ⟨t, ?_⟩, ⟨rfl, rfl⟩, st', fun b hb => (hf b hb).1⟩⟩
  rw [Int.mul_one]
 done := by
  intro X hP hw hK hc i pins s σ H E I hf st hg
  subst hP hw hK
  obtain ⟨f0, f1, f2, f3, f4, f5⟩ := hf it (by simp)
  exact wpAny_pyNext_range_end (I.ok.hd hc) st (by have : n <= i := hg; omega) fun h' eb => ⟨rfl, I.turned (t' := s.toks) (fun b o hb e => eb b o hb e) f0 f1 f3 f4 f5⟩
 self := fun _ _ _ _ _ st h => wpAny_pyIter_rangeiter st h
section
variable {X : Cx} {tg : Expr}
def zmo (K : ai) (tl : TE) : TI := fun σ H R => tl σ H fun x H1 => ∃ a, x = .ref a /\ (∃ xs, y8 K H1 a xs) /\ R (Itl K a) H1
theorem zna {l : Expr} {tl : TE} (hl : PE X l tl) : PI X tg l (zmo X.K tl) := by
 intro pins s σ H R I h
 refine zP (hl pins s σ H _ I h) fun v s1 ⟨x, H1, I1, r1, q1⟩ => ?_
 obtain ⟨a, e, ⟨xs, hq⟩, q⟩ := q1
 subst e
 cases r1
 obtain ⟨its, rv, p, hz⟩ := I1.list hq
 refine bJ p.isList ?_
 refine ⟨s1.heap.objs.size, [s1.heap.objs.size], _, _, H1, rfl, I1.kept (t' := s1.toks) fun b o e => ae _ e, ziR a _, ⟨_, ay _ rfl, rfl, rfl⟩, fun b hb => ?_, q⟩
 have e : b = s1.heap.objs.size := by simpa using hb
 subst e
 exact I1.fpOk (ax _) (I1.hok.fresh (ax _))
theorem zd6 {pins : List (Addr × Obj)} {σ : St} {H : Hp} {s : Shared} {R : It -> Hp -> Prop} {E : Value -> Shared -> Prop} {lo hi : Int} {t u v : Tok} {tk : Nat} (I : Inv X pins σ H s) (h1 : -(2 ^ 62) <= lo) (h2 : lo < 2 ^ 62) (h3 : -(2 ^ 62) <= hi) (h4 : hi < 2 ^ 62)
 (q : R (Itr lo (hi - lo).toNat) H) : wpAny (model X.prog X.w) X.A (pyIter (.ref s.heap.objs.size)) (PIE X pins σ tg R) E { s with heap := s.heap.push { cls := .type "range", data := .fields #[.int lo t, .int hi u, .int 1 v] }, toks := tk } := by
 refine wpAny_pyIter_range (IsRange.new ..) (small_one h1 h2 h3 h4) ?_
 have I1 : Inv X pins σ H { s with heap := s.heap.push { cls := .type "range", data := .fields #[.int lo t, .int hi u, .int 1 v] }, toks := tk } := I.kept fun b o e => ae _ e
 refine ⟨(s.heap.push { cls := .type "range", data := .fields #[.int lo t, .int hi u, .int 1 v] }).objs.size, [(s.heap.push { cls := .type "range", data := .fields #[.int lo t, .int hi u, .int 1 v] }).objs.size], _, _, H, rfl,
  I1.kept (t' := tk) fun b o e => ae _ e, zhl _ lo (hi - lo).toNat, ?_, fun b hb => ?_, q⟩
 · have e1 : lo + ((0 : Nat) : Int) * 1 = lo := by simp
   have e2 : (((hi - lo).toNat : Nat) : Int) - ((0 : Nat) : Int) = Builtin.Range.rangeSize lo hi 1 := by rw [rangeSize_one]; split <;> omega
   show IsRangeIter _ _ (lo + ((0 : Nat) : Int) * 1) ((((hi - lo).toNat : Nat) : Int) - ((0 : Nat) : Int)) 1
   rw [e1, e2]
   exact ay _ rfl
 · have e : b = (s.heap.push { cls := .type "range", data := .fields #[.int lo t, .int hi u, .int 1 v] }).objs.size := by simpa using hb
   subst e
   exact I1.fpOk (ax _) (I1.hok.fresh (ax _))
def zmp (ta : TA) : TI := fun σ H R => ta σ H fun vs H1 => ∃ j : Int, vs = [.int j] /\ -(2 ^ 62) <= j /\ j < 2 ^ 62 /\ R (Itr 0 j.toNat) H1
def zmq (ta : TA) : TI := fun σ H R => ta σ H fun vs H1 => ∃ i j : Int, vs = [.int i, .int j] /\ (-(2 ^ 62) <= i /\ i < 2 ^ 62 /\ -(2 ^ 62) <= j /\ j < 2 ^ 62) /\ R (Itr i (j - i).toNat) H1
theorem ziS (hg : Gl X "range") (hm : X.mg "range" = none) (ha : PA X [a] ta) (hs : am [a] X.env = [(false, eval a X.env)] := by rfl) : PI X tg (.Call (.Name "range" p) [a] [] pos) (zmp ta) := by
 intro pins s σ H R I h
 refine Call_ (Yt I hg hm boot_range (db (zP (ha pos pins s σ H _ I h) fun us s1 ⟨vs, H1, I1, r1, q1⟩ => ?_) hs rfl))
 obtain ⟨j, e, q1, q2, q⟩ := q1
 subst e
 cases r1 with
 | cons r rr =>
  cases rr
  obtain ⟨t, rfl⟩ := r
  exact call_range_1 (zd6 I1 (by omega) (by omega) q1 q2 (by simpa using q))
theorem ziT (hg : Gl X "range") (hm : X.mg "range" = none) (ha : PA X [a, b] ta) (hs : am [a, b] X.env = [(false, eval a X.env), (false, eval b X.env)] := by rfl) (hs2 : am [b] X.env = [(false, eval b X.env)] := by rfl) :
 PI X tg (.Call (.Name "range" p) [a, b] [] pos) (zmq ta) := by
 intro pins s σ H R I h
 refine Call_ (Yt I hg hm boot_range (db (zP (ha pos pins s σ H _ I h) fun us s1 ⟨vs, H1, I1, r1, q1⟩ => ?_) (by rw [hs, hs2]) (by rw [hs2]; rfl)))
 obtain ⟨i, j, e, ⟨q1, q2, q3, q4⟩, q⟩ := q1
 subst e
 cases r1 with
 | cons r rr =>
  cases rr with
  | cons r' rr =>
   cases rr
   obtain ⟨t, rfl⟩ := r
   obtain ⟨t', rfl⟩ := r'
   exact call_range_2 (zd6 I1 q1 q2 q3 q4 q)
def zoR (wi : TI) (g : TG) (tb : TS) : TS := fun D σ H => wi σ H fun J H1 => ∃ W : Nat -> Nat -> St -> Hp -> Prop, (∃ m, W 0 m σ H1) /\ ∀ i m σ H, W i m σ H ->
 (J.stop i H /\ D.nx σ H) \/ (J.go i H /\ ∃ N : St -> Hp -> Prop, (∀ σ' H', N σ' H' -> ∃ m', m' < m /\ W (i + 1) m' σ' H') /\ ∀ x H', J.yld i H x H' -> g x σ H' fun σ2 H2 => tb { D with nx := N, ct := N, bk := D.nx } σ2 H2)
def VQ (fp : List Addr) (h : Heap) : List (Addr × Obj) := fp.filterMap fun b => (h.get? b).map fun o => (b, o)
theorem Z8 {h : Heap} (hb : b ∈ fp) (e : h.get? b = some o) : (b, o) ∈ VQ fp h := gX.mpr ⟨b, hb, by rw [e]; rfl⟩
theorem ziU {h : Heap} (hp : p ∈ VQ fp h) : p.1 ∈ fp /\ h.get? p.1 = some p.2 := by
 obtain ⟨b, hb, e⟩ := gX.mp hp
 cases q : h.get? b with
 | none => rw [q] at e; cases e
 | some o =>
  rw [q] at e
  have e' : (b, o) = p := bc e
  subst e'
  exact ⟨hb, q⟩
theorem Inv.pinned {s : Shared} (I : Inv X pins σ H s) (hf : ∀ b ∈ fp, FpOk X pins H b) (ho : ∀ b ∈ fp, ∃ o, s.heap.get? b = some o /\ ∀ v, o.data ≠ .cell v) : Inv X (pins ++ VQ fp s.heap) σ H s :=
 I.pins_of fun p hp => (a8.mp hp).elim (fun z => I.pin p (aA _ z)) fun z => by
  obtain ⟨hb, e⟩ := ziU z
  obtain ⟨f0, f1, f2, _⟩ := hf p.1 hb
  obtain ⟨o, e', d⟩ := ho p.1 hb
  rw [e] at e'; cases e'
  exact ⟨e, f0, f1, f2, d⟩
theorem Inv.unpinned (I : Inv X (pins ++ pl) σ H s) : Inv X pins σ H s := I.pins_of fun p hp => I.pin p (aA _ (aL _ hp))
theorem zoS (hp : PassesOwn (model X.prog X.w) X.A X.env X.xe) (hc : X.calm = true) (hi : PI X tg iter wi) (hg : PG X tg g) (hb : PSs X body tb)
 (hs : ∀ x, bV iter X.env x = pure x := by intro _; rfl) : PS X (.For tg iter body [] pos) (zoR wi g tb) := by
 intro pins s σ H D I h
 refine wpAny_For (zP (hi pins s σ H _ I h) fun v s1 h1 => zP h1 fun itv s2 h2 => ?_) hs
 obtain ⟨it, fp, tn, J, H2, e, I2, T, st2, f2, W, ⟨m0, w0⟩, turn⟩ := h2
 subst e
 have stat : ∀ {H' : Hp}, (∀ b ∈ fp, H' b = none) -> ∀ b ∈ fp, FpOk X pins H' b := fun hn b hb => ⟨hn b hb, (f2 b hb).2⟩
 refine codeAny_forLoop_any (fun n s' => ∃ i σ' H', Inv X pins σ' H' s' /\ tn i s'.heap /\ (∀ b ∈ fp, H' b = none) /\ W i n σ' H') ?_ m0 ⟨0, σ, H2, I2, st2, fun b hb => (f2 b hb).1, w0⟩
 rintro n s3 ⟨i, σ3, H3, I3, st3, fr3, w3⟩
 rcases turn i n σ3 H3 w3 with ⟨stop, qn⟩ | ⟨go, N, hN, step⟩
 · refine dE hp (zP (T.done X rfl rfl rfl hc i pins s3 σ3 H3 X.xe I3 (stat fr3) st3 stop) fun r s4 ⟨hr, I4⟩ => ?_)
   subst hr
   exact fS ⟨σ3, H3, I4, qn⟩
 · refine dE hp (zP (T.item X rfl rfl rfl hc i pins s3 σ3 H3 X.xe I3 (stat fr3) st3 go) fun r s4 ⟨u, hr, h4⟩ => ?_)
   subst hr
   refine dE hp (zP h4 fun _ s5 ⟨x, H5, I5, r5, y5, st5, fr5⟩ => ?_)
   have I5' := I5.pinned (stat fr5) (T.obj _ _ st5)
   refine dE hp (zP (hg _ s5 σ3 H5 x u _ I5' r5 (step x H5 y5)) fun _ s6 ⟨σ6, H6, I6, q6⟩ => ?_)
   refine dE hp (zP (hb _ s6 σ6 H6 _ I6 q6) fun f s7 q7 => ?_)
   have again : ∀ {σ7 : St} {H7 : Hp}, Inv X (pins ++ VQ fp s5.heap) σ7 H7 s7 -> N σ7 H7 -> ∃ m, m < n /\ ∃ i σ' H', Inv X pins σ' H' s7 /\ tn i s7.heap /\ (∀ b ∈ fp, H' b = none) /\ W i m σ' H' := fun {σ7 H7} I7 n7 => by
    obtain ⟨m', hm, w7⟩ := hN σ7 H7 n7
    refine ⟨m', hm, i + 1, σ7, H7, I7.unpinned, T.keep _ _ _ st5 fun b hb o e => (I7.pin (b, o) (aA _ (aA _ (Z8 hb e)))).1, fun b hb => ?_, w7⟩
    obtain ⟨o, e, d⟩ := T.obj _ _ st5 b hb
    exact (I7.pin (b, o) (aA _ (aA _ (Z8 hb e)))).2.1
   cases f with
   | next => obtain ⟨σ7, H7, I7, n7⟩ := q7; exact again I7 n7
   | cont => obtain ⟨σ7, H7, I7, n7⟩ := q7; exact again I7 n7
   | brk => obtain ⟨σ7, H7, I7, q7⟩ := q7; exact ⟨σ7, H7, I7.unpinned, q7⟩
   | ret v => obtain ⟨x7, σ7, H7, I7, r7, q7⟩ := q7; exact ⟨x7, σ7, H7, I7.unpinned, r7, q7⟩
end
abbrev R2 := V -> V -> Hp -> VK -> Prop
def jz (X : Cx) (f : Value -> Value -> Sem Value) (r : R2) : Prop :=
 ∀ (pins : List (Addr × Obj)) (s : Shared) (σ : St) (H : Hp) (x y : V) (v u : Value) (Q : VK), Inv X pins σ H s -> RelV x v -> RelV y u -> r x y H Q ->
  wpAny (model X.prog X.w) X.A (f v u) (EP X pins σ Q) X.xe s
def UnR (X : Cx) (f : Value -> Sem Value) (r : V -> Hp -> VK -> Prop) : Prop :=
 ∀ (pins : List (Addr × Obj)) (s : Shared) (σ : St) (H : Hp) (x : V) (v : Value) (Q : VK), Inv X pins σ H s -> RelV x v -> r x H Q ->
  wpAny (model X.prog X.w) X.A (f v) (EP X pins σ Q) X.xe s
def jB (X : Cx) (f : Value) (r : List V -> Hp -> VK -> Prop) : Prop :=
 ∀ (pins : List (Addr × Obj)) (s : Shared) (σ : St) (H : Hp) (xs : List V) (us : List Value) (Q : VK), Inv X pins σ H s -> Vals xs us -> r xs H Q ->
  wpAny (model X.prog X.w) X.A (call f us) (EP X pins σ Q) X.xe s
def zrE (X : Cx) (r : V -> Hp -> (Bool -> Hp -> Prop) -> Prop) : Prop :=
 ∀ (pins : List (Addr × Obj)) (s : Shared) (σ : St) (H : Hp) (x : V) (v : Value) (Q : Bool -> Hp -> Prop), Inv X pins σ H s -> RelV x v -> r x H Q ->
  wpAny (model X.prog X.w) X.A (truthy v) (TP X pins σ Q) X.xe s
def tOp (r : R2) (ta tb : TE) : TE := fun σ H Q => ta σ H fun x H1 => tb σ H1 fun y H2 => r x y H2 Q
def tUn (r : V -> Hp -> VK -> Prop) (ta : TE) : TE := fun σ H Q => ta σ H fun x H1 => r x H1 Q
def rI (C : Int -> Int -> Prop) (g : Int -> Int -> V) : R2 := fun x y H Q => ∃ i j, x = .int i /\ y = .int j /\ C i j /\ Q (g i j) H
def Ux (g : Int -> Int -> V) : R2 := fun x y H Q => ∃ i j, x = .int i /\ y = .int j /\ Q (g i j) H
def rU (g : Int -> V) : V -> Hp -> VK -> Prop := fun x H Q => ∃ i, x = .int i /\ Q (g i) H
section
variable {X : Cx} {a b c : Expr} {ta tb tc : TE} {pos : Pos}
theorem zkG (ha : PE X a ta) (hb : PE X b tb) {R : V -> V -> Hp -> Prop} (I : Inv X pins σ H s)
 (h : ta σ H fun x H1 => tb σ H1 fun y H2 => R x y H2) {Q : Value -> Shared -> Prop} {f : Value -> Value -> Sem Value}
 (hf : ∀ v u s2 x y H2, Inv X pins σ H2 s2 -> RelV x v -> RelV y u -> R x y H2 -> wpAny (model X.prog X.w) X.A (f v u) Q X.xe s2) :
 wpAny (model X.prog X.w) X.A (eval a X.env) (fun v s₁ => wpAny (model X.prog X.w) X.A (eval b X.env) (fun u s₂ => wpAny (model X.prog X.w) X.A (f v u) Q X.xe s₂) X.xe s₁) X.xe s := by
 refine zP (ha pins s σ H _ I h) fun v s1 ⟨x, H1, I1, r1, q1⟩ => ?_
 refine zP (hb pins s1 σ H1 _ I1 q1) fun u s2 ⟨y, H2, I2, r2, q2⟩ => ?_
 exact hf v u s2 x y H2 I2 r1 r2 q2
theorem zmr (ho : jz X (dw op) r) (ha : PE X a ta) (hb : PE X b tb) : PE X (.BinOp a op b pos) (tOp r ta tb) := by
 intro pins s σ H Q I h
 exact wpAny_BinOp (zkG ha hb I h fun v u s2 x y H2 I2 rx ry q => ho pins s2 σ H2 x y v u Q I2 rx ry q)
theorem zms {r : V -> Hp -> VK -> Prop} (ho : UnR X (unaryOp op) r) (ha : PE X a ta) : PE X (.UnaryOp op a pos) (tUn r ta) := by
 intro pins s σ H Q I h
 exact UnaryOp_ (zP (ha pins s σ H _ I h) fun v s1 ⟨x, H1, I1, r1, q1⟩ => ho pins s1 σ H1 x v Q I1 r1 q1)
theorem opI {f : Value -> Value -> Sem Value} {C : Int -> Int -> Prop} {g : Int -> Int -> Int}
 (rule : ∀ (i j : Int) (t u : Tok) (s : Shared) (Q : Value -> Shared -> Prop) (E : Value -> Shared -> Prop), C i j -> Q (.int (g i j) s.toks) { s with toks := s.toks + 1 } -> wpAny (model X.prog X.w) X.A (f (.int i t) (.int j u)) Q E s) :
 jz X f (rI C fun i j => .int (g i j)) := by
 intro pins s σ H x y v u Q I rx ry h
 obtain ⟨i, j, rfl, rfl, hc, q⟩ := h
 obtain ⟨t, rfl⟩ := rx
 obtain ⟨t', rfl⟩ := ry
 exact rule i j t t' s _ _ hc ⟨.int (g i j), H, I.tok _, ⟨_, rfl⟩, q⟩
theorem zoU {f : Value -> Value -> Sem Value} {g : Int -> Int -> Int}
 (rule : ∀ (i j : Int) (t u : Tok) (s : Shared) (Q : Value -> Shared -> Prop) (E : Value -> Shared -> Prop), Q (.int (g i j) s.toks) { s with toks := s.toks + 1 } -> wpAny (model X.prog X.w) X.A (f (.int i t) (.int j u)) Q E s) :
 jz X f (Ux fun i j => .int (g i j)) := by
 intro pins s σ H x y v u Q I rx ry h
 obtain ⟨i, j, rfl, rfl, q⟩ := h
 obtain ⟨t, rfl⟩ := rx
 obtain ⟨t', rfl⟩ := ry
 exact rule i j t t' s _ _ ⟨.int (g i j), H, I.tok _, ⟨_, rfl⟩, q⟩
theorem zhm {f : Value -> Value -> Sem Value} {g : Int -> Int -> Bool}
 (rule : ∀ (i j : Int) (t u : Tok) (s : Shared) (Q : Value -> Shared -> Prop) (E : Value -> Shared -> Prop), Q (.bool (g i j)) s -> wpAny (model X.prog X.w) X.A (f (.int i t) (.int j u)) Q E s) :
 jz X f (Ux fun i j => .bl (g i j)) := by
 intro pins s σ H x y v u Q I rx ry h
 obtain ⟨i, j, rfl, rfl, q⟩ := h
 obtain ⟨t, rfl⟩ := rx
 obtain ⟨t', rfl⟩ := ry
 exact rule i j t t' s _ _ ⟨.bl (g i j), H, I, rfl, q⟩
def zbT (i j : Int) : Prop := 0 <= j /\ j <= 1000000 /\ i.natAbs < 2 ^ 64
def CMul (i j : Int) : Prop := (-(2 ^ 64) < i /\ i < 2 ^ 64) \/ (-(2 ^ 64) < j /\ j < 2 ^ 64)
theorem CMul.ok (h : CMul i j) : IntMulOk i j := by
 rcases h with ⟨h1, h2⟩ | ⟨h1, h2⟩
 · exact .of_left (intBits_le_64 h1 h2)
 · exact .of_right (intBits_le_64 h1 h2)
theorem zoV : jz X (dw .Add) (Ux fun i j => .int (i + j)) := zoU fun _ _ _ _ _ _ _ q => add_int q
theorem zoW : jz X (dw .Sub) (Ux fun i j => .int (i - j)) := zoU fun _ _ _ _ _ _ _ q => sub_int q
theorem zoX : jz X (dw .Mult) (rI CMul fun i j => .int (i * j)) := opI fun _ _ _ _ _ _ _ hc q => mul_int q hc.ok
theorem zoY : jz X (dw .Mod) (rI (fun _ j => 0 < j) fun i j => .int (i % j)) := opI fun i j _ _ _ _ _ hc q => by
 have h1 : (0 : Int) < j := hc
 exact mod_int' (by omega) (by rw [Int.fmod_eq_emod_of_nonneg i (by omega)]; exact q)
theorem zoZ : jz X (dw .Pow) (rI zbT fun i j => .int (i ^ j.toNat)) := opI fun _ _ _ _ _ _ _ hc q => pow_int_small hc.1 hc.2.1 hc.2.2 q
theorem unI {f : Value -> Sem Value} {g : Int -> Int}
 (rule : ∀ (i : Int) (t : Tok) (s : Shared) (Q : Value -> Shared -> Prop) (E : Value -> Shared -> Prop), Q (.int (g i) s.toks) { s with toks := s.toks + 1 } -> wpAny (model X.prog X.w) X.A (f (.int i t)) Q E s) :
 UnR X f (rU fun i => .int (g i)) := by
 intro pins s σ H x v Q I rx h
 obtain ⟨i, rfl, q⟩ := h
 obtain ⟨t, rfl⟩ := rx
 exact rule i t s _ _ ⟨.int (g i), H, I.tok _, ⟨_, rfl⟩, q⟩
theorem ziV : UnR X (unaryOp .USub) (rU fun i => .int (-i)) := unI fun _ _ _ _ _ q => neg_int q
end
def zkH : V -> V -> Bool
 | .non, .non => true | .non, .int _ => true | .int _, .non => true | .non, .bl _ => true | .bl _, .non => true | .non, .str _ => true | .str _, .non => true
 | .int _, .int _ => true | .bl _, .bl _ => true | .str _, .str _ => true | .byt _, .byt _ => true
 | .int _, .str _ => true | .str _, .int _ => true | .bl _, .str _ => true | .str _, .bl _ => true
 | _, _ => false
def rEq : R2 := fun x y H Q => zkH x y = true /\ Q (.bl (decide (x = y))) H
def rNe : R2 := fun x y H Q => zkH x y = true /\ Q (.bl (!decide (x = y))) H
theorem zf6 : decide (V.int i = V.int j) = (i == j) := by
 rw [cV]
 simp
theorem ziW : decide (V.bl i = V.bl j) = (i == j) := by
 rw [cV]
 simp
theorem zf7 : decide (V.str i = V.str j) = (i == j) := by
 rw [cV]
 simp
theorem zf8 {i j : Array UInt8} : decide (V.byt i = V.byt j) = (i.toList == j.toList) := by
 rw [cV]
 cases i
 cases j
 simp
section
variable {X : Cx} {a b c : Expr} {ta tb tc : TE} {pos : Pos}
theorem zS (I : Inv X pins σ H s) (q : Q (.bl k) H) (e : k = k') : EP X pins σ Q (.bool k') s := by
 subst e
 exact ⟨.bl k, H, I, rfl, q⟩
theorem J6 : jz X (a9 .Eq) rEq := by
 intro pins s σ H x y v u Q I rx ry h
 obtain ⟨hs, q⟩ := h
 cases x with
 | non =>
  cases rx
  cases y with
  | non => cases ry; exact PySem.EqNone.eq_none_none (zS I q (by simp))
  | bl j => cases ry; exact PySem.EqNone.eq_none_bool (zS I q (by simp))
  | int j => obtain ⟨t', rfl⟩ := ry; exact PySem.EqNone.eq_none_int (zS I q (by simp))
  | str j => obtain ⟨t', rfl⟩ := ry; exact PySem.EqNone.eq_none_str (zS I q (by simp))
  | _ => exact absurd (show false = true from hs) ah
 | bl i =>
  cases rx
  cases y with
  | non => cases ry; exact PySem.EqNone.eq_bool_none (zS I q (by simp))
  | bl j => cases ry; exact eq_bool (zS I q ziW)
  | str j => obtain ⟨t', rfl⟩ := ry; exact PySem.EqMixed.eq_bool_str (zS I q (by simp))
  | _ => exact absurd (show false = true from hs) ah
 | int i =>
  obtain ⟨t, rfl⟩ := rx
  cases y with
  | non => cases ry; exact PySem.EqNone.eq_int_none (zS I q (by simp))
  | int j => obtain ⟨t', rfl⟩ := ry; exact eq_int (zS I q zf6)
  | str j => obtain ⟨t', rfl⟩ := ry; exact PySem.EqMixed.eq_int_str (zS I q (by simp))
  | _ => exact absurd (show false = true from hs) ah
 | str i =>
  obtain ⟨t, rfl⟩ := rx
  cases y with
  | non => cases ry; exact PySem.EqNone.eq_str_none (zS I q (by simp))
  | bl j => cases ry; exact PySem.EqMixed.eq_str_bool (zS I q (by simp))
  | int j => obtain ⟨t', rfl⟩ := ry; exact PySem.EqMixed.eq_str_int (zS I q (by simp))
  | str j => obtain ⟨t', rfl⟩ := ry; exact eq_str (zS I q zf7)
  | _ => exact absurd (show false = true from hs) ah
 | byt i =>
  obtain ⟨t, rfl⟩ := rx
  cases y with
  | byt j => obtain ⟨t', rfl⟩ := ry; exact PySem.W.eq_bytes (zS I q zf8)
  | _ => exact absurd (show false = true from hs) ah
 | _ => cases y <;> exact absurd (show false = true from hs) ah
theorem zas : jz X (a9 .NotEq) rNe := by
 intro pins s σ H x y v u Q I rx ry h
 obtain ⟨hs, q⟩ := h
 cases x with
 | non =>
  cases rx
  cases y with
  | non => cases ry; exact PySem.EqNone.ne_none_none (zS I q (by simp))
  | bl j => cases ry; exact PySem.EqNone.ne_none_bool (zS I q (by simp))
  | int j => obtain ⟨t', rfl⟩ := ry; exact PySem.EqNone.ne_none_int (zS I q (by simp))
  | str j => obtain ⟨t', rfl⟩ := ry; exact PySem.EqNone.ne_none_str (zS I q (by simp))
  | _ => exact absurd (show false = true from hs) ah
 | bl i =>
  cases rx
  cases y with
  | non => cases ry; exact PySem.EqNone.ne_bool_none (zS I q (by simp))
  | bl j => cases ry; exact ne_bool (zS I q (congrArg not ziW))
  | str j => obtain ⟨t', rfl⟩ := ry; exact PySem.EqMixed.ne_bool_str (zS I q (by simp))
  | _ => exact absurd (show false = true from hs) ah
 | int i =>
  obtain ⟨t, rfl⟩ := rx
  cases y with
  | non => cases ry; exact PySem.EqNone.ne_int_none (zS I q (by simp))
  | int j => obtain ⟨t', rfl⟩ := ry; exact ne_int (zS I q (congrArg not zf6))
  | str j => obtain ⟨t', rfl⟩ := ry; exact PySem.EqMixed.ne_int_str (zS I q (by simp))
  | _ => exact absurd (show false = true from hs) ah
 | str i =>
  obtain ⟨t, rfl⟩ := rx
  cases y with
  | non => cases ry; exact PySem.EqNone.ne_str_none (zS I q (by simp))
  | bl j => cases ry; exact PySem.EqMixed.ne_str_bool (zS I q (by simp))
  | int j => obtain ⟨t', rfl⟩ := ry; exact PySem.EqMixed.ne_str_int (zS I q (by simp))
  | str j => obtain ⟨t', rfl⟩ := ry; exact ne_str (zS I q (congrArg not zf7))
  | _ => exact absurd (show false = true from hs) ah
 | byt i =>
  obtain ⟨t, rfl⟩ := rx
  cases y with
  | byt j => obtain ⟨t', rfl⟩ := ry; exact PySem.W.ne_bytes (zS I q (congrArg not zf8))
  | _ => exact absurd (show false = true from hs) ah
 | _ => cases y <;> exact absurd (show false = true from hs) ah
theorem zdB : jz X (a9 .Lt) (Ux fun i j => .bl (decide (i < j))) := zhm fun _ _ _ _ _ _ _ q => lt_int q
theorem Z9 : jz X (a9 .LtE) (Ux fun i j => .bl (decide (i <= j))) := zhm fun _ _ _ _ _ _ _ q => le_int q
theorem zhn : jz X (a9 .Gt) (Ux fun i j => .bl (decide (j < i))) := zhm fun _ _ _ _ _ _ _ q => gt_int q
theorem zdC : jz X (a9 .GtE) (Ux fun i j => .bl (decide (j <= i))) := zhm fun _ _ _ _ _ _ _ q => ge_int q
theorem zd7 : jz X (a9 .Is) (fun x y H Q => y = .non /\ Q (.bl (decide (x = .non))) H) := by
 intro pins s σ H x y v u Q I rx ry h
 obtain ⟨rfl, q⟩ := h
 cases ry
 refine is_none_gen (zS I q ?_)
 cases x <;> first
  | (cases rx; rfl)
  | (obtain ⟨t, rfl⟩ := rx; rfl)
theorem zbU : jz X (a9 .IsNot) (fun x y H Q => y = .non /\ Q (.bl (!decide (x = .non))) H) := by
 intro pins s σ H x y v u Q I rx ry h
 obtain ⟨rfl, q⟩ := h
 cases ry
 refine isnot_none_gen (zS I q ?_)
 cases x <;> first
  | (cases rx; rfl)
  | (obtain ⟨t, rfl⟩ := rx; rfl)
theorem zQ (b : Expr) (h : op ≠ .In := by decide) (h2 : op ≠ .NotIn := by decide) : dA op b = false := by
 have e1 : (op == CmpOp.In) = false := by cases op <;> first | rfl | exact absurd rfl h
 have e2 : (op == CmpOp.NotIn) = false := by cases op <;> first | rfl | exact absurd rfl h2
 cases b <;> simp [dA, e1, e2]
theorem znb (ho : jz X (a9 op) r) (ha : PE X a ta) (hb : PE X b tb) (hm : dA op b = false) : PE X (.Compare a [op] [b] pos) (tOp r ta tb) := by
 intro pins s σ H Q I h
 exact wpAny_Compare1 (zkG ha hb I h fun v u s2 x y H2 I2 rx ry q => ho pins s2 σ H2 x y v u Q I2 rx ry q) hm
def zho (t : TE) : TT := fun σ H Q => t σ H fun x H' => ∃ k, x = .bl k /\ Q k H'
theorem znc (ho : jz X (a9 op) r) (ha : PE X a ta) (hb : PE X b tb) (hm : dA op b = false) : PT X (.Compare a [op] [b] pos) (zho (tOp r ta tb)) := by
 intro pins s σ H Q I h
 refine wpAny_isTrue_Compare1 (zP (ha pins s σ H _ I h) fun v s1 ⟨x, H1, I1, r1, q1⟩ => zP (hb pins s1 σ H1 _ I1 q1) fun u s2 ⟨y, H2, I2, r2, q2⟩ =>
  zP (ho pins s2 σ H2 x y v u _ I2 r1 r2 q2) fun c s3 ⟨z, H3, I3, r3, k, e, q3⟩ => ?_) hm
 subst e
 cases r3
 exact aX ⟨H3, I3, q3⟩
def zd8 (r r' : R2) (ta tb tc : TE) : TE := fun σ H Q => ta σ H fun x H1 => tb σ H1 fun y H2 => r x y H2 fun z H3 => ∃ k, z = .bl k /\
 (if k = true then tc σ H3 fun w' H4 => r' y w' H4 Q else Q (.bl false) H3)
theorem zkI (ho : jz X (a9 op) r) (ho' : jz X (a9 op') r') (ha : PE X a ta) (hb : PE X b tb) (hc : PE X c tc)
 (hm : iD [op, op'] [b, c] = false := by with_unfolding_all rfl) : PE X (.Compare a [op, op'] [b, c] pos) (zd8 r r' ta tb tc) := by
 intro pins s σ H Q I h
 refine Compare_chain (zP (ha pins s σ H _ I h) fun v s1 ⟨x, H1, I1, r1, q1⟩ => chain_link (zP (hb pins s1 σ H1 _ I1 q1) fun u s2 ⟨y, H2, I2, r2, q2⟩ =>
  zP (ho pins s2 σ H2 x y v u _ I2 r1 r2 q2) fun d s3 ⟨z, H3, I3, r3, k, e, q3⟩ => ?_)) hm
 subst e
 cases r3
 refine aX ?_
 cases k with
 | false => exact ite_ff ⟨.bl false, H3, I3, rfl, q3⟩
 | true => exact ite_tt (chain_last (zP (hc pins s3 σ H3 _ I3 q3) fun w' s4 ⟨z', H4, I4, r4, q4⟩ => ho' pins s4 σ H4 y z' u w' Q I4 r2 r4 q4))
theorem zkJ (ho : jz X (a9 op) r) (ho' : jz X (a9 op') r') (ha : PE X a ta) (hb : PE X b tb) (hc : PE X c tc)
 (hm : iD [op, op'] [b, c] = false := by with_unfolding_all rfl) : PT X (.Compare a [op, op'] [b, c] pos) (zho (zd8 r r' ta tb tc)) := by
 intro pins s σ H Q I h
 refine isTrue_chain (zP (ha pins s σ H _ I h) fun v s1 ⟨x, H1, I1, r1, q1⟩ => test_link (zP (hb pins s1 σ H1 _ I1 q1) fun u s2 ⟨y, H2, I2, r2, q2⟩ =>
  zP (ho pins s2 σ H2 x y v u _ I2 r1 r2 q2) fun d s3 ⟨z, H3, I3, r3, k, e, q3⟩ => ?_)) hm
 subst e
 cases r3
 refine aX ?_
 cases k with
 | false =>
  obtain ⟨k', e', q'⟩ := q3
  cases e'
  exact ite_ff ⟨H3, I3, q'⟩
 | true =>
  refine ite_tt (test_last (zP (hc pins s3 σ H3 _ I3 q3) fun w' s4 ⟨z', H4, I4, r4, q4⟩ => zP (ho' pins s4 σ H4 y z' u w' _ I4 r2 r4 q4) fun d' s5 ⟨z2, H5, I5, r5, k2, e2, q5⟩ => ?_))
  subst e2
  cases r5
  exact aX ⟨H5, I5, q5⟩
def zkK (K : ai) (x : V) (H : Hp) (k : Bool) : Prop :=
 match x with
 | .non => k = false
 | .bl b => k = b
 | .int i => k = (i != 0)
 | .str y => y.length <= aF /\ k = ((y.length : Int) != 0)
 | .byt y => y.size <= aF /\ k = ((y.size : Int) != 0)
 | .ref p => (∃ xs, y8 K H p xs /\ k = !xs.isEmpty) \/ (∃ xs, SqT K H p xs /\ k = !xs.isEmpty) \/ ∃ kvs, H p = some (.dK kvs) /\ k = !kvs.isEmpty
 | _ => False
theorem zhp {κ : Type} {kvs : List (κ × V)} {vs : List (κ × Value)} (r : KV kvs vs) : (!vs.isEmpty) = !kvs.isEmpty := by
 cases r <;> rfl
theorem zat {xs : List V} {its : List Value} (r : Vals xs its) : (!its.toArray.isEmpty) = !xs.isEmpty := by
 cases r <;> simp
theorem Uy : (aF : Nat) < 2 ^ 63 := by rw [dG]; decide
theorem zo0 : zrE X (fun x H Q => ∃ k, zkK X.K x H k /\ Q k H) := by
 intro pins s σ H x v Q I rx h
 obtain ⟨k, e, q⟩ := h
 have hl := Uy
 have hs : aF = 16777216 := dG
 cases x with
 | non =>
  cases rx
  have e' : k = false := e
  subst e'
  exact truthy_none ⟨H, I, q⟩
 | bl b =>
  cases rx
  have e' : k = b := e
  subst e'
  exact aX ⟨H, I, q⟩
 | int i =>
  obtain ⟨t, rfl⟩ := rx
  have e' : k = (i != 0) := e
  subst e'
  exact PySem.P.truthy_int ⟨H, I, q⟩
 | str y =>
  obtain ⟨t, rfl⟩ := rx
  obtain ⟨hy, e'⟩ : y.length <= aF /\ k = ((y.length : Int) != 0) := e
  subst e'
  exact PySem.P.truthy_str (by omega) ⟨H, I.tok _, q⟩
 | byt y =>
  obtain ⟨t, rfl⟩ := rx
  obtain ⟨hy, e'⟩ : y.size <= aF /\ k = ((y.size : Int) != 0) := e
  subst e'
  exact PySem.W.truthy_bytes (by omega) ⟨H, I.tok _, q⟩
 | ref p =>
  cases rx
  have e' : (∃ xs, y8 X.K H p xs /\ k = !xs.isEmpty) \/ (∃ xs, SqT X.K H p xs /\ k = !xs.isEmpty) \/ ∃ kvs, H p = some (.dK kvs) /\ k = !kvs.isEmpty := e
  rcases e' with ⟨xs, hx, e'⟩ | ⟨xs, hx, e'⟩ | ⟨kvs, hx, e'⟩
  · subst e'
    obtain ⟨its, r, pl, hz⟩ := I.list hx
    have hlen := r.length
    exact wpAny_truthy_list pl.isList (by simp only [ak]; omega) ⟨H, I.tok _, by rw [zat r]; exact q⟩
  · subst e'
    obtain ⟨its, r, pl, hz⟩ := I.tuple hx
    have hlen := r.length
    exact truthy_tuple pl (by simp only [ak]; omega) ⟨H, I.tok _, by rw [zat r]; exact q⟩
  · subst e'
    obtain ⟨hz, hS, vs, r, m⟩ : kvs.length <= aF /\ (p == g6) = false /\ ∃ vs, KV kvs vs /\ s.heap.DictOf (yw X.prog X.w) p vs := I.hok p _ hx
    have hlen : kvs.length = vs.length := ka r
    exact wpAny_truthy_dict hS m (by omega) ⟨H, I.tok _, by rw [zhp r]; exact q⟩
 | _ => exact (show False from e).elim
theorem zkL (ha : PE X a ta) (he : ∀ whole, isTrue a X.env whole = (do let v ← whole; eN a.pos; cH [v] (truthy v))) :
 PT X a (fun σ H Q => ta σ H fun x H' => ∃ k, zkK X.K x H' k /\ Q k H') := by
 intro pins s σ H Q I h
 exact isTrue_plain (zP (ha pins s σ H _ I h) fun v s1 ⟨x, H1, I1, r1, q1⟩ => zo0 pins s1 σ H1 x v Q I1 r1 q1) (he _)
theorem zhq : jz X (dw .Add) (fun x y H Q => ∃ i j, x = .str i /\ y = .str j /\ i.length + j.length <= aF /\ Q (.str (i ++ j)) H) := by
 intro pins s σ H x y v u Q I rx ry h
 obtain ⟨i, j, rfl, rfl, hz, q⟩ := h
 obtain ⟨t, rfl⟩ := rx
 obtain ⟨t', rfl⟩ := ry
 exact add_str (fun t' tk => ⟨.str (i ++ j), H, I.tok _, ⟨_, rfl⟩, q⟩) hz
theorem zdD (r : Vals [x] us) : ∃ u, us = [u] /\ RelV x u := by
 cases r with
 | cons r1 r2 => cases r2; exact ⟨_, rfl, r1⟩
theorem zqy (r : Vals [x, y] us) : ∃ u w', us = [u, w'] /\ RelV x u /\ RelV y w' := by
 cases r with
 | cons r1 r2 =>
  cases r2 with
  | cons r3 r4 => cases r4; exact ⟨_, _, rfl, r1, r3⟩
theorem ziX (hc : X.calm = true) : jB X (.builtin "max") (fun xs H Q => ∃ i j, xs = [.int i, .int j] /\ Q (.int (if j > i then j else i)) H) := by
 intro pins s σ H xs us Q I r h
 obtain ⟨i, j, rfl, q⟩ := h
 obtain ⟨u, w', rfl, ⟨t, rfl⟩, ⟨t', rfl⟩⟩ := zqy r
 refine max_two_ints (I.ok.hd hc) fun h' tk k => ⟨_, H, I.kept k, ?_, q⟩
 by_cases hj : j > i
 · rw [if_pos hj, if_pos hj]; exact ⟨_, rfl⟩
 · rw [if_neg hj, if_neg hj]; exact ⟨_, rfl⟩
theorem ziY : jB X (.type "int") (fun xs H Q => (∃ i, xs = [.int i] /\ Q (.int i) H) \/ ∃ k, xs = [.bl k] /\ Q (.int (if k then 1 else 0)) H) := by
 intro pins s σ H xs us Q I r h
 rcases h with ⟨i, rfl, q⟩ | ⟨k, rfl, q⟩
 · obtain ⟨u, rfl, t, rfl⟩ := zdD r
   exact call_int_int ⟨.int i, H, I, ⟨_, rfl⟩, q⟩
 · obtain ⟨u, rfl, r1⟩ := zdD r
   cases r1
   exact call_int_bool ⟨.int (if k then 1 else 0), H, I.tok _, ⟨_, rfl⟩, q⟩
def zo1 (K : ai) (x : V) (H : Hp) (n : Nat) : Prop :=
 match x with
 | .str y => y.length <= aF /\ n = y.length
 | .byt y => y.size <= aF /\ n = y.size
 | .ref p => (∃ xs, y8 K H p xs /\ n = xs.length) \/ ∃ xs, SqT K H p xs /\ n = xs.length
 | _ => False
theorem zkM : jB X (.builtin "len") (fun xs H Q => ∃ x n, xs = [x] /\ zo1 X.K x H n /\ Q (.int n) H) := by
 intro pins s σ H xs us Q I r h
 obtain ⟨x, n, rfl, e, q⟩ := h
 obtain ⟨u, rfl, rx⟩ := zdD r
 have hl := Uy
 have hs : aF = 16777216 := dG
 cases x with
 | str y =>
  obtain ⟨t, rfl⟩ := rx
  obtain ⟨hy, e'⟩ : y.length <= aF /\ n = y.length := e
  subst e'
  exact len_str (by omega) ⟨.int _, H, I.tok _, ⟨_, rfl⟩, q⟩
 | byt y =>
  obtain ⟨t, rfl⟩ := rx
  obtain ⟨hy, e'⟩ : y.size <= aF /\ n = y.size := e
  subst e'
  exact PySem.W.len_bytes (by omega) ⟨.int _, H, I.tok _, ⟨_, rfl⟩, q⟩
 | ref p =>
  cases rx
  have e' : (∃ xs, y8 X.K H p xs /\ n = xs.length) \/ ∃ xs, SqT X.K H p xs /\ n = xs.length := e
  rcases e' with ⟨xs, hx, e'⟩ | ⟨xs, hx, e'⟩
  · subst e'
    obtain ⟨its, r', pl, hz⟩ := I.list hx
    have hlen := r'.length
    exact Calls.call_len_list pl.isList (by simp only [ak]; omega) ⟨.int xs.length, H, I.tok _, ⟨_, by simp only [ak]; rw [hlen]⟩, q⟩
  · subst e'
    obtain ⟨its, r', pl, hz⟩ := I.tuple hx
    have hlen := r'.length
    exact len_tuple pl (by simp only [ak]; omega) ⟨.int xs.length, H, I.tok _, ⟨_, by simp only [ak]; rw [hlen]⟩, q⟩
 | _ => exact (show False from e).elim
end
structure ObjM (h : Heap) (x dx C : Addr) (mA : Str -> Option Value) : Prop where
 obj : h.get? x = some (bZ C dx)
 ns : h.Ns1 dx mA
 ne : dx ≠ x
theorem ziZ {h : Heap} {mA : Str -> Option Value} (n : h.Ns1 dx mA) : ∃ od, h.get? dx = some od /\ ∀ name, eP name od = some (mA name) := by
 obtain ⟨o, es, ep, ho, hd, hk, _, hm⟩ := n
 refine ⟨o, ho, fun name => ?_⟩
 have e := hm name
 unfold nsFind findBy at e
 rw [← Array.find?_toList] at e
 unfold eP
 rw [hd]
 dsimp only
 split
 · rename_i y q
   rw [q] at e
   exact congrArg some e
 · rename_i q
   rw [q] at e
   have a : es.toList.any (·.refKey) = false := by
    rw [fb]
    intro y hy
    obtain ⟨z, t, hkey⟩ := hk y (Array.mem_toList_iff.mp hy)
    simp [DictEntry.refKey, hkey]
   have a' : ¬ es.toList.any (·.refKey) = true := by rw [a]; exact ah
   rw [if_neg a']
   exact congrArg some e
theorem ObjM.look {mA : Str -> Option Value} (I : ObjM h x dx C mA) : ∃ od, PySem.W.InstAt h x (bZ C dx) C (some od) /\ ∀ name, eP name od = some (mA name) :=
 let ⟨od, ho, hl⟩ := ziZ I.ns
 ⟨od, ⟨I.obj, rfl, rfl, ho⟩, hl⟩
section
variable {prog : Program} {w : World} {A : Around} {E : Value -> Shared -> Prop} {s : Shared} {K : ai} {x dx C f : Addr} {mA : Str -> Option Value} {name : Str} {v : Value}
theorem znd {Q : Value -> Shared -> Prop} (X : K.In s.heap) (I : ObjM s.heap x dx C mA) (hg : br K C name = true) (hh : bw K C = true)
 (ha : aJ K (.ref C) name = some none) (hv : mA name = some v) (hv' : io v = true) (h : Q v { s with toks := s.toks + 1 }) :
 wpAny (model prog w) A (getAttr (.ref x) name expr) Q E s := by
 obtain ⟨od, J, hl⟩ := I.look
 exact PySem.W.get_value X J (eK hg).1 (PySem.W.findObj_own hh ha rfl (by rw [hl, hv])) hv' h
theorem zkN {Q : Value × List Value -> Shared -> Prop} (X : K.In s.heap) (I : ObjM s.heap x dx C mA) (hg : br K C name = true)
 (hf : aJ K (.ref C) name = some (some (.ref f))) (ht : aI K (.ref f) = true) (hv : mA name = none) (h : Q (.ref f, [.ref x]) s) :
 wpAny (model prog w) A (fA (.ref x) name pl) Q E s := by
 obtain ⟨od, J, hl⟩ := I.look
 exact PySem.W.method_fn X J (eK hg).1 (eK hg).2 hf (beq_iff_eq.mp ht) (by show (eP name od).map (·.isSome) = some false; rw [hl, hv]; rfl) h
theorem zne {ns : List Str} {Q : Unit -> Shared -> Prop} (X : K.In s.heap) (I : ObjM s.heap x dx C mA)
 (hs : aJ K (.ref C) "__setattr__" = some (some (.builtin "object.__setattr__"))) (hp : bF K C = true) (ht : fO K C name = some none) (hh : bw K C = true)
 (hw : g8 mA ns) (hsz : ns.length <= aF)
 (h : ∀ h', ObjM h' x dx C (fun y => if y = name then some v else mA y) -> cN dx s.heap h' -> Q () { s with heap := h', toks := s.toks + 2 }) :
 wpAny (model prog w) A (setAttr (.ref x) name v) Q E s := by
 obtain ⟨od, J, hl⟩ := I.look
 refine PySem.W.set_plain X J hs (PySem.W.osa_open (s := { s with toks := s.toks + 1 }) (r := none) X J hp ht fun b => ?_)
 obtain ⟨cd, hc, hd'⟩ := PySem.W.any_some hh
 have hx : s.heap.get? x = some ⟨.ref C, some dx, .plain, #[]⟩ := I.obj
 refine ab (aj (ab (ab (wpAny_loadPart hx (ab (PySem.W.Looks.here (s := { s with toks := s.toks + 1 }) (PySem.W.looks_clsIn X hc) ?_))))))
 rw [hd']
 refine aj (a := some dx) (ab (aj (ab ?_)))
 refine wpAny_nsSet1 (s := { s with toks := s.toks + 1 }) I.ns fun h' hn2 hs2 => ?_
 obtain ⟨oD, esD, epD, hoD, hdD, hcD⟩ := hn2.count (g8.cons name v hw)
 refine ab (wpAny_lookBehind hoD (by rw [hdD]; exact pastItsLine_dict (aV hcD (by rw [au]; omega))) ?_)
 exact aj (h _ ⟨(hs2.2 _ (bn I.ne)).trans I.obj, hn2, I.ne⟩ hs2)
theorem zkO {R : Result -> Shared -> Prop} (X : K.In s.heap) (hm : ce K C = true)
 (hi : aJ K (.ref C) "__init__" = some (some (.ref f))) (hf : PySem.W.typeIn K (.ref f) = some (.type "function"))
 (h : cz (model prog w) (A.under (.builtin "type.__call__" ⟨.ref C :: vs, kw⟩)) (.call (.ref f) ⟨.ref (s.heap.objs.size + 1) :: vs, kw⟩) (PySem.W.InitBack (s.heap.objs.size + 1) R)
  { s with heap := (s.heap.push bx).push (bZ C s.heap.objs.size) }) :
 cz (model prog w) A (.call (.ref C) ⟨vs, kw⟩) R s := by
 obtain ⟨hh, g, d, t, os⟩ := s
 exact PySem.W.make_core (PySem.W.makes_of X hm) (PySem.W.looks_findIn X hi) (fun self => PySem.W.bind_fn X self hf) (.inl rfl) h
end
def Je (f : Str) (v : V) : List (Str × V) -> List (Str × V)
 | [] => [(f, v)]
 | (g, x) :: r => if g = f then (g, v) :: r else (g, x) :: Je f v r
theorem Rb (f g : Str) (v : V) : ∀ fs : List (Str × V), (Je f v fs).lookup g = if g = f then some v else fs.lookup g
 | [] => by
  show cK g [(f, v)] = _
  by_cases h : g = f
  · have hb : (g == f) = true := beq_iff_eq.mpr h
    simp only [cK, hb, if_pos h]
  · have hb : (g == f) = false := beq_eq_false_iff_ne.mpr h
    simp only [cK, hb, if_neg h]
 | (k, x) :: r => by
  have ih := Rb f g v r
  rw [show Je f v ((k, x) :: r) = (if k = f then (k, v) :: r else (k, x) :: Je f v r) from rfl]
  by_cases hk : k = f
  · rw [if_pos hk]
    by_cases h : g = k
    · have hb : (g == k) = true := beq_iff_eq.mpr h
      simp only [cK, hb, if_pos (h.trans hk)]
    · have hb : (g == k) = false := beq_eq_false_iff_ne.mpr h
      simp only [cK, hb, if_neg (fun e : g = f => h (e.trans hk.symm))]
  · rw [if_neg hk]
    by_cases h : g = k
    · have hb : (g == k) = true := beq_iff_eq.mpr h
      simp only [cK, hb, if_neg (fun e : g = f => hk (h.symm.trans e))]
    · have hb : (g == k) = false := beq_eq_false_iff_ne.mpr h
      simp only [cK, hb]
      exact ih
theorem VR (f : Str) (v : V) : ∀ fs : List (Str × V), f ∈ (Je f v fs).map (·.1) /\ ∀ g, g ∈ fs.map (·.1) -> g ∈ (Je f v fs).map (·.1)
 | [] => ⟨by simp [Je], fun g h => by simp at h⟩
 | (k, x) :: r => by
  obtain ⟨i1, i2⟩ := VR f v r
  rw [show Je f v ((k, x) :: r) = (if k = f then (k, v) :: r else (k, x) :: Je f v r) from rfl]
  by_cases hk : k = f
  · rw [if_pos hk]
    subst hk
    exact ⟨by simp, fun g h => by simpa using h⟩
  · rw [if_neg hk]
    refine ⟨?_, fun g h => ?_⟩
    · rw [aq]
      exact af _ i1
    · rw [aq] at h ⊢
      rcases aB.mp h with e | e
      · exact aB.mpr (.inl e)
      · exact af _ (i2 g e)
theorem Rc (f : Str) (v : V) : ∀ fs : List (Str × V), (Je f v fs).length <= fs.length + 1
 | [] => by simp [Je]
 | (k, x) :: r => by
  have ih := Rc f v r
  rw [show Je f v ((k, x) :: r) = (if k = f then (k, v) :: r else (k, x) :: Je f v r) from rfl]
  by_cases hk : k = f
  · rw [if_pos hk, au, au]; omega
  · rw [if_neg hk, au, au]; omega
theorem RelO.some_of (r : RelO (some v) o) : ∃ u, o = some u /\ RelV v u := by
 cases o with
 | none => exact (show False from r).elim
 | some u => exact ⟨u, rfl, r⟩
theorem RelO.none_of (r : RelO none o) : o = none := by
 cases o with
 | none => rfl
 | some u => exact (show False from r).elim
theorem zi0 (r : RelV v u) : io u = true := by
 cases v with
 | non => cases (show u = Value.none from r); rfl
 | bl b => cases (show u = Value.bool b from r); rfl
 | int i => obtain ⟨t, e⟩ := (show ∃ t, u = Value.int i t from r); cases e; rfl
 | str x => obtain ⟨t, e⟩ := (show ∃ t, u = Value.str x t from r); cases e; rfl
 | byt b => obtain ⟨t, e⟩ := (show ∃ t, u = Value.bytes b t from r); cases e; rfl
 | flt b => obtain ⟨t, e⟩ := (show ∃ t, u = Value.float b t from r); cases e; rfl
 | ref a => cases (show u = Value.ref a from r); rfl
 | ty n => cases (show u = Value.type n from r); rfl
section
variable {P : Program} {w : World} {H H' : Hp} {h h' : Heap} {a C dx : Addr} {fs fs' : List (Str × V)}
theorem Uz (hok : HOk P w H h) (e : H a = some (.ins C dx fs)) : ∃ mA, ObjM h a dx C mA /\ (∀ f, RelO (fs.lookup f) (mA f)) /\ g8 mA (fs.map (·.1)) /\ fs.length <= 1000 /\ H dx = some (.own a) := by
 obtain ⟨d, z, ne, ob, mA, n, r, q⟩ := (show ObjOk P w H h a (.ins C dx fs) from hok a _ e)
 exact ⟨mA, ⟨ob, n, ne⟩, r, q, z, d⟩
end
structure Cls (K : ai) (C : Addr) : Prop where
 pg : br K C eO = true
 hd : bw K C = true
 po : bF K C = true
 sa : aJ K (.ref C) "__setattr__" = some (some (.builtin "object.__setattr__"))
theorem Cls.get {K : ai} {C : Addr} (c : Cls K C) (f : Str) : br K C f = true := c.pg
def NoAttr (K : ai) (C : Addr) (f : Str) : Prop := aJ K (.ref C) f = some none
theorem NoAttr.taker {K : ai} {C : Addr} {f : Str} (n : NoAttr K C f) : fO K C f = some none := by
 unfold fO
 rw [show aJ K (.ref C) f = some none from n]
 rfl
structure zkP (K : ai) (C : Addr) (m : Str) (f : Addr) : Prop where
 at_ : aJ K (.ref C) m = some (some (.ref f))
 fn : aI K (.ref f) = true
 kp : ba K (.ref f) = true
section
variable {X : Cx} {pins : List (Addr × Obj)} {σ : St} {H : Hp} {s : Shared} {a C dx : Addr} {fs : List (Str × V)} {f : Str} {v : V} {A : Around} {E : Value -> Shared -> Prop}
theorem zhr {Q : Value -> Shared -> Prop} (I : Inv X pins σ H s) (e : H a = some (.ins C dx fs)) (c : Cls X.K C) (n : NoAttr X.K C f) (l : fs.lookup f = some v)
 (h : ∀ u s', Inv X pins σ H s' -> RelV v u -> Q u s') : wpAny (model X.prog X.w) A (getAttr (.ref a) f b) Q E s := by
 obtain ⟨mA, O, r, _, _, _⟩ := Uz I.hok e
 obtain ⟨u, hu, ru⟩ := RelO.some_of (v := v) (o := mA f) (by rw [← l]; exact r f)
 exact znd I.kIn O (c.get f) c.hd n hu (zi0 ru) (h u _ (I.tok _) ru)
theorem zau {Q : Value × List Value -> Shared -> Prop} (I : Inv X pins σ H s) (e : H a = some (.ins C dx fs)) (c : Cls X.K C) (k : zkP X.K C m g) (l : fs.lookup m = none)
 (h : Q (.ref g, [.ref a]) s) : wpAny (model X.prog X.w) A (fA (.ref a) m pl) Q E s := by
 obtain ⟨mA, O, r, _, _, _⟩ := Uz I.hok e
 have hn : mA m = none := RelO.none_of (by rw [← l]; exact r m)
 exact zkN I.kIn O (c.get m) k.at_ k.fn hn h
theorem zhs {Q : Unit -> Shared -> Prop} (I : Inv X pins σ H s) (e : H a = some (.ins C dx fs)) (c : Cls X.K C) (n : NoAttr X.K C f) (hl : fs.length < 1000) (ry : RelV y u)
 (h : ∀ s', Inv X pins σ (yc H a (.ins C dx (Je f y fs))) s' -> Q () s') : wpAny (model X.prog X.w) A (setAttr (.ref a) f u) Q E s := by
 obtain ⟨mA, O, r, wi, _, ho⟩ := Uz I.hok e
 have hz : (fs.map (·.1)).length <= aF := by rw [ap, dG]; omega
 refine zne I.kIn O c.sa c.po n.taker c.hd wi hz fun h' O' sb => h _ ?_
 have hd : ∃ o, h'.get? dx = some o := let ⟨o, _, _, e', _⟩ := O'.ns; ⟨o, e'⟩
 refine I.write (x := a) (e := dx) (by rw [e]; exact True.intro) (.inr ho) (fun b q hb z => (sb.2 b hb).trans z) hd ?_
 refine ⟨by rw [z8 O.ne]; exact ho, ?_, O.ne, O'.obj, _, O'.ns, fun g => ?_, fun g hg => ?_⟩
 · have := Rc f y fs; omega
 · show RelO ((Je f y fs).lookup g) (if g = f then some u else mA g)
   rw [Rb]
   by_cases q : g = f
   · rw [if_pos q, if_pos q]; exact ry
   · rw [if_neg q, if_neg q]; exact r g
 · by_cases q : g = f
   · rw [q]; exact (VR f y fs).1
   · refine (VR f y fs).2 g (wi g fun z => hg ?_)
     show (if g = f then some u else mA g) = none
     rw [if_neg q]; exact z
theorem Inv.made (I : Inv X pins σ H s) : Inv X pins σ (yc (yc H s.heap.objs.size (.own (s.heap.objs.size + 1))) (s.heap.objs.size + 1) (.ins C s.heap.objs.size []))
 { s with heap := (s.heap.push bx).push (bZ C s.heap.objs.size) } := by
 have e1 : (s.heap.push bx).get? s.heap.objs.size = some bx := ay s.heap rfl
 have e2 : ((s.heap.push bx).push (bZ C s.heap.objs.size)).get? (s.heap.objs.size + 1) = some (bZ C s.heap.objs.size) := by
  have := ay (s.heap.push bx) (o := bZ C s.heap.objs.size) rfl
  rwa [bj] at this
 have e3 : (s.heap.push bx).Ns s.heap.objs.size (fun _ => none) := ⟨bx, #[], _, e1, rfl, (fun e he => absurd he (by simp)), fun _ => rfl⟩
 have I1 := I.laid (a := s.heap.objs.size) (o := .own (s.heap.objs.size + 1)) (h' := s.heap.push bx) (t' := s.toks) (fun b u q => ae _ q) (ax _) ⟨_, e1⟩
 refine I1.laid (a := s.heap.objs.size + 1) (o := .ins C s.heap.objs.size []) (t' := s.toks) (fun b u q => ae _ q) (g9 (bj _ _)) ?_
 have ne : s.heap.objs.size ≠ s.heap.objs.size + 1 := az (bM _)
 refine ⟨by rw [z8 ne, jD], ck _, ne, e2, fun _ => none, (Heap.Ns1.of_empty e3).at fun o q => ae _ q, fun _ => True.intro, fun y hy => absurd rfl hy⟩
theorem znf {Q : Value -> Shared -> Prop} (hb : bQ e f env (eval e env) = eval e env)
 (h : wpAny (model prog w) A (eval e env) (fun o s₁ => wpAny (model prog w) A (getAttr o f true) Q E s₁) E s) : wpAny (model prog w) A (eval (.Attribute e f pos) env) Q E s :=
 Attribute_any_ h (by rw [arm_eval_Attribute, hb])
end
def zo2 (K : ai) (ta : TE) (f : Str) : TE := fun σ H Q => ta σ H fun x H1 => ∃ a C dx fs v, x = .ref a /\ H1 a = some (.ins C dx fs) /\ Cls K C /\ NoAttr K C f /\ fs.lookup f = some v /\ Q v H1
def zo3 (K : ai) (ta tv : TE) (f : Str) : TS := fun D σ H => tv σ H fun y H1 => ta σ H1 fun x H2 => ∃ a C dx fs, x = .ref a /\ H2 a = some (.ins C dx fs) /\ Cls K C /\ NoAttr K C f /\ fs.length < 1000 /\
 D.nx σ (yc H2 a (.ins C dx (Je f y fs)))
section
variable {X : Cx} {o e value : Expr} {f : Str} {pos pos' tpos : Pos} {ta tv : TE}
theorem zo4 (he : PE X e ta) (hb : bQ e f X.env (eval e X.env) = eval e X.env) : PE X (.Attribute e f pos) (zo2 X.K ta f) := by
 intro pins s σ H Q I h
 refine znf hb (zP (he pins s σ H _ I h) fun u s1 ⟨x, H1, I1, rx, a, C, dx, fs, v, ex, ea, c, n, l, q⟩ => ?_)
 subst ex
 obtain rfl : u = Value.ref a := rx
 exact zhr I1 ea c n l fun u' s2 I2 ru => ⟨v, H1, I2, ru, q⟩
theorem zo5 (ha : PE X o ta) (hv : PE X value tv) (hs : di value (some (.Attribute o f pos')) pos.line X.env = pure false) : PS X (.Assign [.Attribute o f pos'] value pos) (zo3 X.K ta tv f) := by
 intro pins s σ H D I h
 refine plainObj_wpAny_Assign_Attribute (zP (hv pins s σ H _ I h) fun u s1 ⟨y, H1, I1, ry, q⟩ => zP (ha pins s1 σ H1 _ I1 q) fun ov s2 ⟨x, H2, I2, rx, a, C, dx, fs, ex, ea, c, n, l, q2⟩ => ?_) hs
 subst ex
 obtain rfl : ov = Value.ref a := rx
 exact zhs I2 ea c n l ry fun s3 I3 => ⟨σ, _, I3, q2⟩
end
section
variable {X : Cx} {pins : List (Addr × Obj)} {σ : St} {H : Hp} {s : Shared} {A : Around} {E : Value -> Shared -> Prop} {Q : Value -> Shared -> Prop} {c : Value} {b : Bool}
inductive Q9 (K : ai) (H : Hp) : V -> Value -> Prop where
 | non : Q9 K H .non (.type "NoneType")
 | bl (x : Bool) : Q9 K H (.bl x) (.type "bool")
 | int (i : Int) : Q9 K H (.int i) (.type "int")
 | str (x : Str) : Q9 K H (.str x) (.type "str")
 | flt (x : UInt64) : Q9 K H (.flt x) (.type "float")
 | lst {a : Addr} {xs : List V} (e : H a = some (.lst xs)) : Q9 K H (.ref a) (.type "list")
 | frz {a : Addr} {o : Obj} {xs : List V} (e : H a = some (.frz o (.lst xs))) : Q9 K H (.ref a) (.type "list")
 | tup {a : Addr} {xs : List V} (e : H a = some (.tup xs)) : Q9 K H (.ref a) (.type "tuple")
 | dK {a : Addr} {kvs : List (y4 × V)} (e : H a = some (.dK kvs)) : Q9 K H (.ref a) (.type "dict")
 | dT {a : Addr} {kvs : List (List y4 × V)} (e : H a = some (.dT kvs)) : Q9 K H (.ref a) (.type "dict")
 | ins {a C dx : Addr} {fs : List (Str × V)} (e : H a = some (.ins C dx fs)) (cl : Cls K C) (ha : aJ K (.ref C) "__class__" = some (some (.builtin "object.__class__")))
  (hn : fc K (.builtin "object.__class__") "__get__" = some (some (.builtin "getset_descriptor.__get__"))) (htk : fP K (.builtin "object.__class__") = some true)
  (hm : cE K C (.type "object") = some true) : Q9 K H (.ref a) (.ref C)
theorem zi1 (I : Inv X pins σ H s) (rx : RelV x u) (ty : Q9 X.K H x t) (e : eQ X.K t c = some b) (h : ∀ tk, Q (.bool b) { s with toks := tk }) :
 wpAny (model X.prog X.w) A (call (.builtin "isinstance") [u, c]) Q E s := by
 cases ty with
 | non => cases (show u = Value.none from rx); exact bd hW I.kIn True.intro e (fun z => nomatch z) h
 | bl y => cases (show u = Value.bool y from rx); exact bd hZ I.kIn True.intro e (fun z => nomatch z) h
 | int i => obtain ⟨t, q⟩ := (show ∃ t, u = Value.int i t from rx); cases q; exact bd ip I.kIn True.intro e (fun z => nomatch z) h
 | str y => obtain ⟨t, q⟩ := (show ∃ t, u = Value.str y t from rx); cases q; exact bd iq I.kIn True.intro e (fun z => nomatch z) h
 | flt y => obtain ⟨t, q⟩ := (show ∃ t, u = Value.float y t from rx); cases q; exact bd gY I.kIn True.intro e (fun z => nomatch z) h
 | @lst a xs ea =>
  cases (show u = Value.ref a from rx)
  obtain ⟨_, _, n, _, h1⟩ := (show ObjOk X.prog X.w H s.heap a (.lst xs) from I.hok a _ ea)
  exact bd dM I.kIn ⟨_, h1, rfl⟩ e (fun z => nomatch z) h
 | @frz a ob xs ea =>
  cases (show u = Value.ref a from rx)
  obtain ⟨_, _, _, n, _, h1⟩ := (show ObjOk X.prog X.w H s.heap a (.frz ob (.lst xs)) from I.hok a _ ea)
  exact bd dM I.kIn ⟨_, h1, rfl⟩ e (fun z => nomatch z) h
 | @tup a xs ea =>
  cases (show u = Value.ref a from rx)
  obtain ⟨_, _, _, p⟩ := (show ObjOk X.prog X.w H s.heap a (.tup xs) from I.hok a _ ea)
  obtain ⟨o, h1, h2, _⟩ := p
  exact bd gZ I.kIn ⟨o, h1, h2⟩ e (fun z => nomatch z) h
 | @dK a kvs ea =>
  cases (show u = Value.ref a from rx)
  obtain ⟨_, _, vs, _, p⟩ := (show ObjOk X.prog X.w H s.heap a (.dK kvs) from I.hok a _ ea)
  obtain ⟨o, es, ep, h1, h2, _⟩ := p
  exact bd cD I.kIn ⟨o, h1, h2.1⟩ e (fun z => nomatch z) h
 | @dT a kvs ea =>
  cases (show u = Value.ref a from rx)
  obtain ⟨_, _, xs, _, o, es, ep, h1, h2, _⟩ := (show ObjOk X.prog X.w H s.heap a (.dT kvs) from I.hok a _ ea)
  exact bd cD I.kIn ⟨o, h1, h2.1⟩ e (fun z => nomatch z) h
 | @ins a C dx fs ea cl ha hn htk hm =>
  cases (show u = Value.ref a from rx)
  obtain ⟨mA, O, _⟩ := Uz I.hok ea
  obtain ⟨od, J, _⟩ := O.look
  exact bd (ir (cl.get _) cl.hd ha hn htk hm) I.kIn J e (fun z => nomatch z) h
end
structure Room (k : Nat) (A : Around) : Prop where
 hd : A.handled = none
 dp : A.depth + 3 * k + 5 < recursionLimit
 un : A.units + 16 * k + 200 < cLine
theorem Room.mono (r : Room k A) (h : j <= k) : Room j A := ⟨r.hd, by have := r.dp; omega, by have := r.un; omega⟩
theorem Room.deeper {A : Around} (r : Room (k + 1) A) (env : Env) : Room k (A.deeper env) :=
 ⟨r.hd, by have := r.dp; show A.depth + 1 + 3 * k + 5 < _; omega, by have := r.un; show A.units + 3 + 16 * k + 200 < _; omega⟩
theorem zht {A : Around} : (A.under (.builtin "type.__call__" ⟨.ref C :: us, kw⟩)).depth = A.depth + 1 := by
 first | rfl | simp [hJ, Code.weight, Code.isCreation, Code.isGuard, Code.isCaller, kB, hU, guardIds]
theorem zhu {A : Around} : (A.under (.builtin "type.__call__" ⟨.ref C :: us, kw⟩)).units = A.units + 1 := by
 first | rfl | simp [hJ, Code.cUnits, kB, hU]
theorem Room.make {A : Around} (r : Room (k + 1) A) (C : Addr) (us : List Value) (kw : List (Str × Value)) : Room k (A.under (.builtin "type.__call__" ⟨.ref C :: us, kw⟩)) :=
 ⟨r.hd, by have := r.dp; rw [zht]; omega, by have := r.un; rw [zhu]; omega⟩
theorem Room.depth {A : Around} (r : Room k A) : A.depth < recursionLimit := by have := r.dp; omega
def ZU : TA := fun _ H Q => Q [] H
def Qg (ta : TE) (tr : TA) : TA := fun σ H Q => ta σ H fun x H1 => tr σ H1 fun xs H2 => Q (x :: xs) H2
section
variable {X : Cx} {e : Expr} {es : List Expr} {te : TE} {t : TA} {pos : Pos}
theorem jt : PA X [] ZU := fun _ _ _ _ H Q I h => Calls.spliced_nil ⟨[], H, I, .nil, h⟩
theorem yK (ha : PE X e te) (hr : PA X es t) (hs : am (e :: es) X.env = (false, eval e X.env) :: am es X.env := by rfl) : PA X (e :: es) (Qg te t) := by
 intro pos pins s σ H Q I h
 rw [hs]
 show wpAny _ _ (spliced ((false, eval e X.env) :: backTo pos (am es X.env))) _ _ s
 refine Calls.spliced_cons (zP (ha pins s σ H _ I h) fun u s1 ⟨x, H1, I1, r1, q1⟩ => ?_)
 exact zP (hr pos pins s1 σ H1 _ I1 q1) fun us s2 ⟨xs, H2, I2, r2, q2⟩ => ⟨x :: xs, H2, I2, .cons r1 r2, q2⟩
def zo6 (t : TA) : TE := fun σ H Q => t σ H fun xs H1 => xs.length <= aF /\ ∀ p, H1 p = none -> Q (.ref p) (yc H1 p (.tup xs))
def zo7 (t : TA) : TE := fun σ H Q => t σ H fun xs H1 => xs.length <= aF /\ ∀ p, H1 p = none -> Q (.ref p) (yc H1 p (.lst xs))
theorem zi2 (h : PA X es t) : PE X (.Tuple es x1 pos) (zo6 t) := by
 intro pins s σ H Q I hq
 refine wpAny_Tuple_spliced (zP (h pos pins s σ H _ I hq) fun us s1 ⟨xs, H1, I1, r, z, q⟩ => ⟨by rw [← r.length]; exact z, ?_⟩)
 have hf : H1 s1.heap.objs.size = none := I1.hok.fresh (ax _)
 refine ⟨.ref s1.heap.objs.size, yc H1 s1.heap.objs.size (.tup xs), I1.laid (t' := s1.toks) (fun b u e => ae _ e) (ax _) ?_, rfl, q _ hf⟩
 exact ⟨z, us, r, ⟨_, ay _ rfl, rfl, _, rfl⟩⟩
theorem zo8 (h : PA X es t) : PE X (.List es pos) (zo7 t) := by
 intro pins s σ H Q I hq
 refine wpAny_List_spliced (zP (h pos pins s σ H _ I hq) fun us s1 ⟨xs, H1, I1, r, z, q⟩ => ⟨by rw [← r.length]; exact z, ?_⟩)
 have hf : H1 s1.heap.objs.size = none := I1.hok.fresh (ax _)
 refine ⟨.ref s1.heap.objs.size, yc H1 s1.heap.objs.size (.lst xs), I1.laid (t' := s1.toks) (fun b u e => ae _ e) (ax _) ?_, rfl, q _ hf⟩
 exact ⟨z, us, 0, r, ay _ rfl⟩
end
abbrev Sp := List V -> Hp -> VK -> XK -> Prop
abbrev UA := List Env -> Hp -> Shared -> XK -> Value -> Shared -> Prop
structure Env0 (P : Program) (w : World) (K : ai) (mg : Str -> Option Value) (base : Heap) (A : Around) (outer : List Env) (s : Shared) (H : Hp) : Prop where
 frames : A.frames = some outer
 mod : Mod K mg base
 bs : ∀ b o, base.get? b = some o -> s.heap.get? b = some o /\ H b = none
 bsz : base.objs.size <= s.heap.objs.size
 funs : s.heap.FunFrames base outer
 frf : ∀ b ∈ VP outer, H b = none
 hok : HOk P w H s.heap
 bare : AllBare s.gens
def CE (outer : List Env) (P : Program) (w : World) (H : Hp) (s : Shared) (Q : VK) (u : Value) (s' : Shared) : Prop :=
 ∃ v H', s'.os = s.os /\ AllBare s'.gens /\ Un (VP outer) [] H H' s.heap s'.heap /\ HOk P w H' s'.heap /\ RelV v u /\ Q v H'
def CR (CX : UA) (outer : List Env) (P : Program) (w : World) (H : Hp) (s : Shared) (Q : VK) (E : XK) (r : Result) (s' : Shared) : Prop :=
 match r with
 | .ok (.ret u) => CE outer P w H s Q u s'
 | .ok _ => False
 | .error e => CX outer H s E e s'
structure FnOk (P : Program) (w : World) (K : ai) (mg : Str -> Option Value) (base : Heap) (CX : UA) (k : Nat) (f : Addr) (fd : FuncData) (ps : List Str) (sp : Sp) : Prop where
 len : ∀ vs H Q E, sp vs H Q E -> vs.length = ps.length
 run : ∀ (A : Around) (outer : List Env) (s : Shared) (H : Hp) (args : Args) (us : List Value) (vs : List V) (Q : VK) (E : XK), Room k A -> Env0 P w K mg base A outer s H -> BindsTo s fd args (ps.zip us) -> Vals vs us -> sp vs H Q E ->
  cz (model P w) A (.call (.ref f) args) (CR CX outer P w H s Q E) s
theorem FnOk.mono {P : Program} {w : World} {K : ai} {mg : Str -> Option Value} {base : Heap} {CX : UA} {j k : Nat} {f : Addr} {fd : FuncData} {ps : List Str} {sp : Sp} (F : FnOk P w K mg base CX j f fd ps sp) (h : j <= k) :
 FnOk P w K mg base CX k f fd ps sp := ⟨F.len, fun A outer s H args us vs Q E hr => F.run A outer s H args us vs Q E (hr.mono h)⟩
theorem FnOk.imp {P : Program} {w : World} {K : ai} {mg : Str -> Option Value} {base : Heap} {CX : UA} {k : Nat} {f : Addr} {fd : FuncData} {ps : List Str} {sp sp' : Sp} (F : FnOk P w K mg base CX k f fd ps sp)
 (h : ∀ vs H Q E, sp' vs H Q E -> sp vs H Q E) : FnOk P w K mg base CX k f fd ps sp' :=
 ⟨fun vs H Q E q => F.len vs H Q E (h _ _ _ _ q), fun A outer s H args us vs Q E hr he hb hv hs => F.run A outer s H args us vs Q E hr he hb hv (h _ _ _ _ hs)⟩
theorem Env0.make {P : Program} {w : World} {K : ai} {mg : Str -> Option Value} {base : Heap} {A : Around} {outer : List Env} {s : Shared} {H : Hp} (e : Env0 P w K mg base A outer s H) (C : Addr) (us : List Value) (kw : List (Str × Value)) :
 Env0 P w K mg base (A.under (.builtin "type.__call__" ⟨.ref C :: us, kw⟩)) outer s H := ⟨by first | exact e.frames | (simpa [hJ, Code.envs, hU, pushEnvs] using e.frames), e.mod, e.bs, e.bsz, e.funs, e.frf, e.hok, e.bare⟩
section
variable {X : Cx} {pins : List (Addr × Obj)} {σ : St} {H : Hp} {s s' : Shared}
theorem Inv.env0 (I : Inv X pins σ H s) : Env0 X.prog X.w X.K X.mg X.base X.A X.stack s H :=
 ⟨I.ok.frames, I.ok.mod, I.bs, aV I.ok.bsz I.sz, I.stack, I.stkFree, I.hok, I.bare⟩
theorem Inv.after (I : Inv X pins σ H s) (h : CE X.stack X.prog X.w H s Q u s') : EP X pins σ Q u s' := by
 obtain ⟨v, H', os, bare, un, hok, r, q⟩ := h
 obtain ⟨hh, g, d, t, os'⟩ := s'
 obtain rfl : os' = s.os := os
 exact ⟨v, H', I.call (h' := hh) (g' := g) (d' := d) (t' := t) (ch := []) un hok bare (fun b z => absurd z (by simp)), r, q⟩
end
def WF (sp : Sp) (dvs : List V) (E : XK) (t : TA) : TE := fun σ H Q => t σ H fun vs H1 => sp (vs ++ dvs) H1 Q E
def zmu (C : Addr) (sp : Sp) (dvs : List V) (E : XK) (t : TA) : TE := fun σ H Q => t σ H fun vs H1 => ∀ x dx, H1 x = none -> H1 dx = none -> dx ≠ x ->
 sp (.ref x :: (vs ++ dvs)) (yc (yc H1 dx (.own x)) x (.ins C dx [])) (fun v H2 => v = .non /\ Q (.ref x) H2) E
def Binds (K : ai) (fd : FuncData) (ps : List Str) (ds : List Value) : Prop :=
 ∀ (s : Shared) (us : List Value), K.In s.heap -> (us ++ ds).length = ps.length -> BindsTo s fd ⟨us, []⟩ (ps.zip (us ++ ds))
theorem Binds.all {K : ai} {fd : FuncData} {ps : List Str} (h : ∀ us : List Value, us.length = ps.length -> bindArgs fd ⟨us, []⟩ = pure (ps.zip us)) : Binds K fd ps [] := fun s us _ hl => by
 rw [aW] at hl ⊢
 exact .of_eq (h us hl)
def VS (CX : UA) (X : Cx) (E : XK) : Prop := ∀ (pins : List (Addr × Obj)) (σ : St) (H : Hp) (s : Shared) (e : Value) (s' : Shared), Inv X pins σ H s -> CX X.stack H s E e s' -> X.xe e s'
section
variable {X : Cx} {CX : UA} {k : Nat} {f C : Addr} {fd : FuncData} {ps : List Str} {sp : Sp} {dvs : List V} {ds : List Value} {E : XK} {x m : Str} {p pos apos : Pos} {e o : Expr} {es : List Expr} {ta : TE} {t : TA}
theorem zd9 (F : FnOk X.prog X.w X.K X.mg X.base CX k f fd ps sp) (hr : Room k X.A) (hb : Binds X.K fd ps ds) (hd : Vals dvs ds) (hx : VS CX X E)
 (I : Inv X pins σ H s) (r : Vals vs us) (h : sp (vs ++ dvs) H Q E) : wpAny (model X.prog X.w) X.A (call (.ref f) us) (EP X pins σ Q) X.xe s := by
 have r2 : Vals (vs ++ dvs) (us ++ ds) := r.append hd
 have hl : (us ++ ds).length = ps.length := by rw [← r2.length]; exact F.len _ _ _ _ h
 refine fM (dS (F.run X.A X.stack s H ⟨us, []⟩ (us ++ ds) (vs ++ dvs) Q E hr I.env0 (hb s us I.kIn hl) r2 h) fun r s' hq => ?_)
 cases r with
 | error e => exact hx pins σ H s e s' I hq
 | ok fl =>
  cases fl with
  | ret u => exact I.after hq
  | next => exact aa hq
  | brk => exact aa hq
  | cont => exact aa hq
theorem zng (F : FnOk X.prog X.w X.K X.mg X.base CX k f fd ps sp) (hr : Room k X.A) (hg : Gl X x) (hm : X.mg x = some (.ref f)) (hk : ba X.K (.ref f) = true) (hb : Binds X.K fd ps ds) (hd : Vals dvs ds) (hx : VS CX X E)
 (ha : PA X (e :: es) t) (hdb : (x == ("__debug__" : Str)) = false := by decide) (he : am (e :: es) X.env = (false, eval e X.env) :: am es X.env := by rfl) (hpl : (backTo pos (am es X.env)).any (·.1) = false := by rfl) :
 PE X (.Call (.Name x p) (e :: es) [] pos) (WF sp dvs E t) := by
 intro pins s σ H Q I h
 refine cw (zbR I hg hm ?_ hdb)
 refine eU (h₀ := X.base) I.ok.mod.kin hk (zP (ha pos pins s σ H _ I h) fun us s1 ⟨vs, H1, I1, r, q⟩ => ⟨I1.kIn, ?_⟩) he hpl
 exact zd9 F hr hb hd hx I1 r q
structure Mk (K : ai) (C f : Addr) : Prop where
 makes : ce K C = true
 init : aJ K (.ref C) "__init__" = some (some (.ref f))
 fn : aI K (.ref f) = true
 kp : ba K (.ref C) = true
theorem zkQ (M : Mk X.K C f) (F : FnOk X.prog X.w X.K X.mg X.base CX k f fd ps sp) (hr : Room (k + 1) X.A) (hb : Binds X.K fd ps ds) (hd : Vals dvs ds)
 (hx : VS CX X E) (I : Inv X pins σ H s) (r : Vals vs us)
 (h : ∀ x dx, H x = none -> H dx = none -> dx ≠ x -> sp (.ref x :: (vs ++ dvs)) (yc (yc H dx (.own x)) x (.ins C dx [])) (fun v H2 => v = .non /\ Q (.ref x) H2) E) :
 wpAny (model X.prog X.w) X.A (call (.ref C) us) (EP X pins σ Q) X.xe s := by
 have hq := h (s.heap.objs.size + 1) s.heap.objs.size (I.hok.fresh (cL _)) (I.hok.fresh (ax _)) (az (bM _))
 have I2 := Inv.made (C := C) I
 have r2 : Vals (V.ref (s.heap.objs.size + 1) :: (vs ++ dvs)) (Value.ref (s.heap.objs.size + 1) :: (us ++ ds)) := .cons rfl (r.append hd)
 have hl : (Value.ref (s.heap.objs.size + 1) :: us ++ ds).length = ps.length := by
  have e := r2.length
  rw [F.len _ _ _ _ hq] at e
  exact e.symm
 refine fM (zkO (f := f) I.kIn M.makes M.init (beq_iff_eq.mp M.fn) (dS (F.run _ X.stack _ _ ⟨Value.ref (s.heap.objs.size + 1) :: us, []⟩ (Value.ref (s.heap.objs.size + 1) :: (us ++ ds)) _ _ E (hr.make C us [])
  (I2.env0.make C us []) (hb _ (Value.ref (s.heap.objs.size + 1) :: us) I2.kIn hl) r2 hq) fun r s' hq' => ?_))
 cases r with
 | error e => exact hx pins σ _ _ e s' I2 hq'
 | ok fl =>
  cases fl with
  | ret u =>
   obtain ⟨v, H', I3, rv, ev, q3⟩ := I2.after hq'
   subst ev
   exact ⟨rv, ⟨V.ref (s.heap.objs.size + 1), H', I3, rfl, q3⟩⟩
  | next => exact aa hq'
  | brk => exact aa hq'
  | cont => exact aa hq'
theorem znh (M : Mk X.K C f) (F : FnOk X.prog X.w X.K X.mg X.base CX k f fd ps sp) (hr : Room (k + 1) X.A) (hg : Gl X x) (hm : X.mg x = some (.ref C)) (hb : Binds X.K fd ps ds) (hd : Vals dvs ds) (hx : VS CX X E)
 (ha : PA X (e :: es) t) (hdb : (x == ("__debug__" : Str)) = false := by decide) (he : am (e :: es) X.env = (false, eval e X.env) :: am es X.env := by rfl) (hpl : (backTo pos (am es X.env)).any (·.1) = false := by rfl) :
 PE X (.Call (.Name x p) (e :: es) [] pos) (zmu C sp dvs E t) := by
 intro pins s σ H Q I h
 refine cw (zbR I hg hm ?_ hdb)
 refine eU (h₀ := X.base) I.ok.mod.kin M.kp (zP (ha pos pins s σ H _ I h) fun us s1 ⟨vs, H1, I1, r, q⟩ => ⟨I1.kIn, ?_⟩) he hpl
 exact zkQ M F hr hb hd hx I1 r q
end
section
variable {X : Cx} {CX : UA} {k : Nat} {f C : Addr} {fd : FuncData} {ps ks : List Str} {sp : Sp} {E : XK} {x m : Str} {p pos apos kpos : Pos} {e o : Expr} {es : List Expr} {kws : List Keyword} {te ta : TE} {t tk : TA} {nm : Option Str}
variable {g : List Value -> List Value -> List Value} {gV : List V -> List V -> List V}
end
structure zy (N P : List Str) (sc : Scope) : Prop where
 kind : sc.kind = .function
 co : sc.isCoroutine = false
 gen : sc.isGenerator = false
 nd : N.Nodup
 pre : N.take P.length = P
 par : ∀ x ∈ P, sc.names.lookup x = some .local \/ sc.names.lookup x = some .cell
 nofree : ∀ y ∈ sc.names, y.2 ≠ .free
theorem zcD {kindOf : Str -> Option NameKind} : ∀ {binds : List (Str × Value)} {m : Str -> Option Value}, (∀ v, (x, v) ∉ binds) -> bindL kindOf binds m x = m x
 | [], _, _ => rfl
 | (n, v) :: r, m, h => by
  unfold bindL
  rw [zcD fun w hw => h w (af _ hw)]
  split
  · have : x ≠ n := by rintro rfl; exact h v ao
    simp [this]
  · rfl
theorem zcE {kindOf : Str -> Option NameKind} : ∀ {binds : List (Str × Value)} {m : Str -> Option Value}, (∀ v, (x, v) ∉ binds) -> bindC kindOf binds m x = m x
 | [], _, _ => rfl
 | (n, v) :: r, m, h => by
  unfold bindC
  rw [zcE fun w hw => h w (af _ hw)]
  split
  · rfl
  · have : x ≠ n := by rintro rfl; exact h v ao
    simp [this]
theorem zcF {kindOf : Str -> Option NameKind} : ∀ {P : List Str} {vs : List Value} {i : Nat} {m : Str -> Option Value}, P.Nodup -> P[i]? = some x -> vs[i]? = some v -> kindOf x = some .local ->
 bindL kindOf (P.zip vs) m x = some v
 | [], _, _, _, _, h, _, _ => by simp at h
 | _ :: _, [], _, _, _, _, h, _ => by simp at h
 | p :: P, w :: vs, 0, m, nd, h1, h2, hk => by
  simp at h1 h2; subst h1; subst h2
  show bindL kindOf ((p, w) :: P.zip vs) m p = _
  unfold bindL
  rw [zcD fun v hv => (bK.mp nd).1 (eE hv).1, if_pos hk]
  simp
 | p :: P, w :: vs, i + 1, m, nd, h1, h2, hk => by
  show bindL kindOf ((p, w) :: P.zip vs) m x = _
  unfold bindL
  exact zcF (i := i) (bK.mp nd).2 (by simpa using h1) (by simpa using h2) hk
theorem zcG {kindOf : Str -> Option NameKind} : ∀ {P : List Str} {vs : List Value} {i : Nat} {m : Str -> Option Value}, P.Nodup -> P[i]? = some x -> vs[i]? = some v -> kindOf x ≠ some .local ->
 bindC kindOf (P.zip vs) m x = some v
 | [], _, _, _, _, h, _, _ => by simp at h
 | _ :: _, [], _, _, _, _, h, _ => by simp at h
 | p :: P, w :: vs, 0, m, nd, h1, h2, hk => by
  simp at h1 h2; subst h1; subst h2
  show bindC kindOf ((p, w) :: P.zip vs) m p = _
  unfold bindC
  rw [zcE fun v hv => (bK.mp nd).1 (eE hv).1, if_neg hk]
  simp
 | p :: P, w :: vs, i + 1, m, nd, h1, h2, hk => by
  show bindC kindOf ((p, w) :: P.zip vs) m x = _
  unfold bindC
  exact zcG (i := i) (bK.mp nd).2 (by simpa using h1) (by simpa using h2) hk
def start (N : List Str) (vs : List V) : St := vs.map some ++ aY (N.length - vs.length) none
def RJ (CX : UA) (P : Program) (w : World) (K : ai) (mg : Str -> Option Value) (base : Heap) (N : List Str) (qual : Str) (scope : Scope) (f : Addr) (cd : Value) (A : Around) (outer : List Env) (s : Shared) (H : Hp) (E : XK) : Cx where
 prog := P
 w := w
 K := K
 mg := mg
 base := base
 A := A.deeper (envOfC qual scope s.heap.objs.size f cd)
 N := N
 s₀ := s
 H₀ := H
 env := envOfC qual scope s.heap.objs.size f cd
 outer := outer
 stack := envOfC qual scope s.heap.objs.size f cd :: outer
 ex := []
 calm := true
 fn := fun _ => true
 pn := []
 xe := fun e s' => wpAny (model P w) (A.deeper (envOfC qual scope s.heap.objs.size f cd)) (leaving (envOfC qual scope s.heap.objs.size f cd) e) (fun _ s'' => CX outer H s E e s'') (fun e' s'' => CX outer H s E e' s'') s'
theorem zd_ {sc : Scope} (h : sc.names.lookup x = some .cell) : ∃ c, (kq n sc.names []).lookup x = some c := by
 have q := fJ sc.names n [] (.inl h)
 exact fk.mp q
theorem zi3 {CX : UA} {P : Program} {w : World} {K : ai} {mg : Str -> Option Value} {base : Heap} {N ps : List Str} {qual : Str} {scope : Scope} {f : Addr} {cd : Value} {A : Around} {outer : List Env} {s s1 : Shared} {H : Hp} {E : XK} {us : List Value} {vs : List V}
 (S : zy N ps scope) (hd : A.handled = none) (e0 : Env0 P w K mg base A outer s H) (hl : vs.length = ps.length) (r : Vals vs us)
 (x : InCallC s s.heap.objs.size (bindL (envOfC qual scope s.heap.objs.size f cd).kindOf (ps.zip us) fun _ => none) (kq (s.heap.objs.size + 1) scope.names []) (bindC (envOfC qual scope s.heap.objs.size f cd).kindOf (ps.zip us) fun _ => none) s1) :
 Inv (RJ CX P w K mg base N qual scope f cd A outer s H E) [] (start N vs) H s1 := by
 have hpl : ps.length <= N.length := by have := congrArg bR S.pre; rw [bu] at this; omega
 obtain ⟨h1, tk, rfl, hk⟩ := x.done
 have noA : ∀ b : Addr, b ∉ (RJ CX P w K mg base N qual scope f cd A outer s H E).ex := fun b z => absurd (show b ∈ ([] : List Addr) from z) (by simp)
 refine ⟨⟨e0.mod, S.kind, rfl, rfl, ax _, fun y z c h1 h2 => ?_, fun y hy => ?_, fun y c _ h => ?_, fun _ => hd, Around.frames_deeper e0.frames, .inr ⟨rfl, rfl⟩, fun b z => absurd z (noA b), e0.bs, e0.bsz, fun b _ _ => noA b, fun b z => absurd z (noA b), e0.funs, e0.frf⟩,
  rfl, e0.bare, Un.kept hk, ⟨_, x.toInCall.ns, fun i y v h1 h2 h3 => ?_⟩, fun y c h => ⟨_, x.cell y c h⟩, e0.hok.fresh (ax _), fun y c h => ?_, fun p hp => absurd (show p ∈ ([] : List (Addr × Obj)) from hp) (by simp), e0.hok.kept hk, ?_⟩
 · exact name_of_addr x.apart (cG h1) (cG h2)
 · have hy : scope.names.lookup y = some .cell \/ scope.names.lookup y = some .free := hy
   rcases hy with hy | hy
   · exact zd_ hy
   · exact absurd rfl (S.nofree _ (cG hy))
 · exact cM (x.above y c (cG h))
 · have hi : i < vs.length := by
    unfold start at h2
    by_cases hi : i < vs.length
    · exact hi
    · rw [eZ (by simpa using hi)] at h2
      rw [ft] at h2
      split at h2 <;> cases h2
   have ha : vs[i]? = some v := by
    unfold start at h2
    rw [dj (by simpa using hi), ar] at h2
    cases e : vs[i]? with
    | none => rw [e] at h2; cases h2
    | some a => rw [e] at h2; cases h2; rfl
   obtain ⟨u, hu, rv⟩ := r.get ha
   have hp : ps[i]? = some y := by
    rw [← S.pre, List.getElem?_take_of_lt (by omega)]; exact h1
   have ndP : ps.Nodup := by rw [← S.pre]; exact S.nd.sublist (fe _ _)
   refine ⟨u, rv, ?_⟩
   rcases S.par y (eA hp) with k | k
   · exact .inl ⟨k, zcF ndP hp hu k⟩
   · obtain ⟨c, e⟩ := zd_ (n := s.heap.objs.size + 1) k
     refine .inr ⟨.inl k, c, e, ?_⟩
     have q := x.cell y c e
     rw [zcG ndP hp hu (by show scope.names.lookup y ≠ _; rw [k]; decide)] at q
     exact q
 · exact e0.hok.fresh (cM (x.above y c (cG h)))
 · unfold start
   show _ = N.length
   rw [aP, ap, List.length_replicate]
   omega
theorem zqz {CX : UA} {P : Program} {w : World} {K : ai} {mg : Str -> Option Value} {base : Heap} {k : Nat} {f : Addr} {name qual : Str} {params : Arguments} {body : List Stmt} {scope : Scope} {dV kV doc pm cdv ct oc : Value} {an od : Option Addr}
 {osl : Array (Option Value)} {N ps : List Str} {sp : Sp} (lk : K.lookup f = some ⟨oc, od, .func (cO name qual params body scope dV kV doc pm an cdv ct), osl⟩) (hcd : eR K cdv qual = true) (S : zy N ps scope)
 (len : ∀ vs H Q E, sp vs H Q E -> vs.length = ps.length)
 (hbody : ∀ (A : Around) (outer : List Env) (s : Shared) (H : Hp) (vs : List V) (Q : VK) (E : XK), Room k (A.deeper (envOfC qual scope s.heap.objs.size f cdv)) -> sp vs H Q E ->
  ∃ t, PSs (RJ CX P w K mg base N qual scope f cdv A outer s H E) body t /\ t { nx := fun _ H' => Q .non H', rt := Q } (start N vs) H) :
 FnOk P w K mg base CX (k + 1) f (cO name qual params body scope dV kV doc pm an cdv ct) ps sp := by
 refine ⟨len, fun A outer s H args us vs Q E hr e0 hb r hsp => ?_⟩
 have hl := len _ _ _ _ hsp
 have KX : K.In s.heap := e0.mod.kin.keeps fun b o e => (e0.bs b o e).1
 have lim : s.heap.NoLimit := e0.mod.nolimit.keeps fun b o e => (e0.bs b o e).1
 have hkind : ∀ y ∈ ps.zip us, scope.names.lookup y.1 = some .local \/ (scope.names.lookup y.1 = some .cell /\ ((kq (s.heap.objs.size + 1) scope.names []).lookup y.1).isSome = true) := fun ⟨n, v⟩ hy => by
  rcases S.par n (eE hy).1 with q | q
  · exact .inl q
  · exact .inr ⟨q, fJ _ _ _ (.inl q)⟩
 refine codeAny_call_function hr.depth (KX _ _ lk) rfl S.co S.gen rfl (PySem.W.codeRec_of KX hcd) (hb _ _ _ _ ?_)
 refine wpAny_newFunctionEnv_cells S.kind hkind fun env he s1 x => ?_
 subst he
 refine ⟨lim.keeps x.toInCall.keep, codeAny_func ?_⟩
 obtain ⟨t, ht, hq⟩ := hbody A outer s H vs Q E (hr.deeper _) hsp
 have I : Inv (RJ CX P w K mg base N qual scope f cdv A outer s H E) [] (start N vs) H s1 := zi3 S hr.hd e0 hl r x
 refine cU (ht [] s1 (start N vs) H _ I hq) (fun fl s' hs => ?_) fun e s' hs => hs
 have fin : ∀ {σ' : St} {H' : Hp} {v : V} {u : Value}, Inv (RJ CX P w K mg base N qual scope f cdv A outer s H E) [] σ' H' s' -> RelV v u -> Q v H' -> CE outer P w H s Q u s' :=
  fun {σ' H' v u} J rv q => ⟨v, H', J.os, J.bare, J.base, J.hok, rv, q⟩
 cases fl with
 | ret u =>
  obtain ⟨v, σ', H', J, rv, q⟩ := hs
  exact fin J rv q
 | next =>
  obtain ⟨σ', H', J, q⟩ := hs
  exact fin (v := V.non) (u := Value.none) J rfl q
 | brk =>
  obtain ⟨_, _, _, q⟩ := hs
  exact aa q
 | cont =>
  obtain ⟨_, _, _, q⟩ := hs
  exact aa q
section
variable {X : Cx} {x : Str} {p pos : Pos} {e : Expr} {es : List Expr} {t : TA} {id T : String} {r : List V -> Hp -> VK -> Prop}
def tCB (r : List V -> Hp -> VK -> Prop) (t : TA) : TE := fun σ H Q => t σ H fun vs H1 => r vs H1 Q
theorem Za (hc : jB X (.builtin id) r) (hg : Gl X x) (hm : X.mg x = none) (hv : bG x = some (.builtin id)) (ha : PA X (e :: es) t) (hn : x ≠ "__name__" := by decide) (hdb : (x == ("__debug__" : Str)) = false := by decide)
 (he : am (e :: es) X.env = (false, eval e X.env) :: am es X.env := by rfl) (hpl : (backTo pos (am es X.env)).any (·.1) = false := by rfl) : PE X (.Call (.Name x p) (e :: es) [] pos) (tCB r t) := by
 intro pins s σ H Q I h
 refine cw (Yt I hg hm hv ?_ hn hdb)
 exact PyProof.Rows.callWith_builtin1 (zP (ha pos pins s σ H _ I h) fun us s1 ⟨vs, H1, I1, r1, q1⟩ => hc pins s1 σ H1 vs us Q I1 r1 q1) he hpl
theorem YQ (hc : jB X (.type T) r) (hg : Gl X x) (hm : X.mg x = none) (hv : bG x = some (.type T)) (ha : PA X (e :: es) t) (hn : x ≠ "__name__" := by decide) (hdb : (x == ("__debug__" : Str)) = false := by decide)
 (he : am (e :: es) X.env = (false, eval e X.env) :: am es X.env := by rfl) (hpl : (backTo pos (am es X.env)).any (·.1) = false := by rfl) : PE X (.Call (.Name x p) (e :: es) [] pos) (tCB r t) := by
 intro pins s σ H Q I h
 refine cw (Yt I hg hm hv ?_ hn hdb)
 exact db (zP (ha pos pins s σ H _ I h) fun us s1 ⟨vs, H1, I1, r1, q1⟩ => hc pins s1 σ H1 vs us Q I1 r1 q1) he hpl
end
end L2
namespace HT
open PySem PyProof.Rows
section
open PySem.SeqAt
open PySem.AutoSeq1 (wpAny_loadPart')
open PySem.MeetsSeq PySem.MeetsSeq2 PySem.MeetsSeq3
end
section
variable {prog : Program} {w : World} {A : Around} {E : Value -> Shared -> Prop} {s : Shared}
def sIx (n d : Nat) : Option Int -> Nat
 | none => d
 | some v => if v < 0 then (v + (n : Int)).toNat else min v.toNat n
theorem sIx_none (n d : Nat) : sIx n d none = d := rfl
theorem sIx_nat (n d k : Nat) : sIx n d (some (k : Int)) = min k n := by
 show (if (k : Int) < 0 then ((k : Int) + (n : Int)).toNat else min (k : Int).toNat n) = min k n
 rw [if_neg (by omega), bf]
end
end HT
namespace L2
open PySem PySem.Spec PyProof.Rows
abbrev TO := St -> Hp -> (Option Int -> Hp -> Prop) -> Prop
def PO (X : Cx) (e : Option Expr) (t : TO) : Prop :=
 ∀ (pins : List (Addr × Obj)) (s : Shared) (σ : St) (H : Hp) (Q : Option Int -> Hp -> Prop), Inv X pins σ H s -> t σ H Q ->
  wpAny (model X.prog X.w) X.A (evalPart e X.env) (fun u s' => ∃ o H', Inv X pins σ H' s' /\ IsPart u o /\ Q o H') X.xe s
def zf9 : TO := fun _ H Q => Q none H
def zmv (t : TE) : TO := fun σ H Q => t σ H fun x H1 => ∃ i, x = .int i /\ Q (some i) H1
section
variable {X : Cx} {e : Expr} {te : TE} {lo hi : Option Expr} {tl th : TO} {pos p2 : Pos}
theorem zni : PO X none zf9 := by
 intro pins s σ H Q I h
 rw [gQ]
 exact aj ⟨none, H, I, .none, h⟩
theorem znj (h : PE X e te) : PO X (some e) (zmv te) := by
 intro pins s σ H Q I hw
 rw [evalPart_some]
 refine zP (h pins s σ H _ I hw) fun u s1 ⟨x, H1, I1, r1, q1⟩ => ?_
 obtain ⟨i, rfl, q⟩ := q1
 obtain ⟨t, rfl⟩ := r1
 exact ⟨some i, H1, I1, .int i t, q⟩
def SlR (X : Cx) (r : V -> Option Int -> Option Int -> Hp -> VK -> Prop) : Prop :=
 ∀ (pins : List (Addr × Obj)) (s : Shared) (σ : St) (H : Hp) (x : V) (v vl vu : Value) (lo hi : Option Int) (sl : Addr) (Q : VK), Inv X pins σ H s -> RelV x v -> s.heap.IsSliceOf sl vl vu .none -> IsPart vl lo -> IsPart vu hi -> r x lo hi H Q ->
  ∃ T id, iY (.type T) "__getitem__" = pure (some (.builtin id)) /\ s.TypeIs v T /\ wpAny (model X.prog X.w) X.A (getItem v (.ref sl)) (EP X pins σ Q) X.xe s
def tSl (r : V -> Option Int -> Option Int -> Hp -> VK -> Prop) (te : TE) (tl th : TO) : TE := fun σ H Q => te σ H fun x H1 => tl σ H1 fun l H2 => th σ H2 fun u H3 => r x l u H3 Q
theorem zkR {r : V -> Option Int -> Option Int -> Hp -> VK -> Prop} (hr : SlR X r) (he : PE X e te) (hl : PO X lo tl) (hu : PO X hi th) : PE X (.Subscript e (.Slice lo hi none p2) pos) (tSl r te tl th) := by
 intro pins s σ H Q I h
 refine Subscript_ (zP (he pins s σ H _ I h) fun v s1 ⟨x, H1, I1, r1, q1⟩ => ?_)
 refine wpAny_Slice (zP (hl pins s1 σ H1 _ I1 q1) fun vl s2 ⟨l, H2, I2, pl, q2⟩ => zP (hu pins s2 σ H2 _ I2 q2) fun vu s3 ⟨u, H3, I3, pu, q3⟩ => ?_)
 rw [gQ]
 refine aj ?_
 have I4 : Inv X pins σ H3 { s3 with heap := s3.heap.push { cls := .type "slice", data := .fields #[vl, vu, .none] } } := I3.kept (t' := s3.toks) fun b ob q => ae _ q
 obtain ⟨T, id, hT, ht, hg⟩ := hr pins { s3 with heap := s3.heap.push { cls := .type "slice", data := .fields #[vl, vu, .none] } } σ H3 x v vl vu l u s3.heap.objs.size Q I4 r1 (g0 ..) pl pu q3
 show wpAny (model X.prog X.w) X.A (gR e (.Slice lo hi none p2) v (.ref s3.heap.objs.size)) (EP X pins σ Q) X.xe { s3 with heap := s3.heap.push { cls := .type "slice", data := .fields #[vl, vu, .none] } }
 exact tail_any (ops := [.ref s3.heap.objs.size, v]) ht hT hg (by with_unfolding_all rfl)
def zbV (xs : List V) (lo hi : Option Int) : List V := (xs.drop (HT.sIx xs.length 0 lo)).take (HT.sIx xs.length xs.length hi - HT.sIx xs.length 0 lo)
theorem zfM (xs : List V) (lo hi : Option Int) : (zbV xs lo hi).length <= xs.length := by
 unfold zbV
 rw [bu, dY]
 omega
end
def J7 (n : Nat) (i : Int) : Option Nat := if 0 <= i then (if i < n then some i.toNat else none) else if -(n : Int) <= i then some (i + n).toNat else none
def atI {α : Type} (xs : List α) (i : Int) : Option α := (J7 xs.length i).bind fun j => xs[j]?
theorem zf_ (h : J7 n i = some j) : gD i n = some j /\ j < n /\ -(n : Int) <= i /\ i < n := by
 unfold J7 at h
 by_cases h0 : 0 <= i
 · rw [if_pos h0] at h
   by_cases h1 : i < n
   · rw [if_pos h1] at h
     have e : i.toNat = j := bc h
     exact ⟨by rw [iF h0 h1, e], by omega, by omega, h1⟩
   · rw [if_neg h1] at h; cases h
 · rw [if_neg h0] at h
   by_cases h1 : -(n : Int) <= i
   · rw [if_pos h1] at h
     have e : (i + n).toNat = j := bc h
     exact ⟨by rw [im (by omega) h1, e], by omega, h1, by omega⟩
   · rw [if_neg h1] at h; cases h
theorem zbW {α : Type} {xs : List α} {i : Int} {v : α} (h : atI xs i = some v) : ∃ j, gD i xs.length = some j /\ xs[j]? = some v /\ j < xs.length /\ -(xs.length : Int) <= i /\ i < xs.length := by
 unfold atI at h
 cases e : J7 xs.length i with
 | none => rw [e] at h; cases h
 | some j =>
  rw [e] at h
  obtain ⟨h1, h2, h3, h4⟩ := zf_ e
  exact ⟨j, h1, h, h2, h3, h4⟩
def zga (b : Expr) : Prop := ∀ o i, subscripted b false o i = operate [o, i] (getItem o i)
def IxR (X : Cx) (r : R2) : Prop :=
 ∀ (value slice : Expr) (pins : List (Addr × Obj)) (s : Shared) (σ : St) (H : Hp) (x y : V) (v u : Value) (Q : VK), Inv X pins σ H s -> RelV x v -> RelV y u -> r x y H Q ->
  subscripted slice false v u = operate [v, u] (getItem v u) -> wpAny (model X.prog X.w) X.A (gR value slice v u) (EP X pins σ Q) X.xe s
def MtR (X : Cx) (id : String) (r : V -> List V -> Hp -> VK -> Prop) : Prop :=
 ∀ (pins : List (Addr × Obj)) (s : Shared) (σ : St) (H : Hp) (x : V) (xs : List V) (v : Value) (us : List Value) (Q : VK), Inv X pins σ H s -> RelV x v -> Vals xs us -> r x xs H Q ->
  wpAny (model X.prog X.w) X.A (call (.builtin id) (v :: us)) (EP X pins σ Q) X.xe s
section
variable {X : Cx} {a b : Expr} {ta tb : TE} {pos : Pos}
theorem IxR.or (h : IxR X r) (h' : IxR X r') : IxR X (fun x y H Q => r x y H Q \/ r' x y H Q) := by
 intro value slice pins s σ H x y v u Q I rx ry q hs
 rcases q with q | q
 · exact h value slice pins s σ H x y v u Q I rx ry q hs
 · exact h' value slice pins s σ H x y v u Q I rx ry q hs
theorem zqA (hr : IxR X r) (ha : PE X a ta) (hb : PE X b tb) (hs : zga b) : PE X (.Subscript a b pos) (tOp r ta tb) := by
 intro pins s σ H Q I h
 exact Subscript_ (zkG ha hb I h fun v u s2 x y H2 I2 rx ry q => hr a b pins s2 σ H2 x y v u Q I2 rx ry q (hs _ _))
def zkS (K : ai) : R2 := fun x y H Q => ∃ p xs i v, x = .ref p /\ y = .int i /\ y8 K H p xs /\ atI xs i = some v /\ Q v H
def zkT (K : ai) : R2 := fun x y H Q => ∃ p xs i v, x = .ref p /\ y = .int i /\ SqT K H p xs /\ atI xs i = some v /\ Q v H
def zkU : R2 := fun x y H Q => ∃ z i c, x = .str z /\ y = .int i /\ z.length <= aF /\ atI z.cps.toList i = some c /\ Q (.str ⟨#[c]⟩) H
theorem ix_list : IxR X (zkS X.K) := by
 intro value slice pins s σ H x y v u Q I rx ry h hs
 obtain ⟨p, xs, i, z, rfl, rfl, hq, he, q⟩ := h
 cases rx
 obtain ⟨t, rfl⟩ := ry
 obtain ⟨its, r, pl, hz⟩ := I.list hq
 obtain ⟨j, h1, h2, h3, h4, h5⟩ := zbW he
 obtain ⟨w, ew, rw'⟩ := r.get h2
 have hl := r.length
 have hn := Uy
 have fin : EP X pins σ Q w s := ⟨z, H, I, rw', q⟩
 by_cases h0 : 0 <= i
 · have hj : i.toNat = j := by
    rw [iF h0 h5] at h1
    exact bc h1
   exact item_listR pl.isList h0 (by omega) (by rw [hj]; simpa using ew) fin hs
 · have hj : (i + (its.toArray.size : Int)).toNat = j := by
    rw [im (by omega) h4] at h1
    rw [ak, ← hl]
    exact bc h1
   exact subscriptTail_builtinR (x := w) pl.isList.typeIs fh.lookup
    (wpAny_getItem_list_neg (Q := fun r s' => r = w /\ EP X pins σ Q r s') pl.isList (by omega) (by rw [ak] <;> omega) (by omega) (by rw [hj]; simpa using ew) ⟨rfl, fin⟩) hs
theorem ix_tup : IxR X (zkT X.K) := by
 intro value slice pins s σ H x y v u Q I rx ry h hs
 obtain ⟨p, xs, i, z, rfl, rfl, hq, he, q⟩ := h
 cases rx
 obtain ⟨t, rfl⟩ := ry
 obtain ⟨its, r, pl, hz⟩ := I.tuple hq
 obtain ⟨j, h1, h2, h3, h4, h5⟩ := zbW he
 obtain ⟨w, ew, rw'⟩ := r.get h2
 have hl := r.length
 have hn := Uy
 have fin : EP X pins σ Q w s := ⟨z, H, I, rw', q⟩
 exact subscriptTail_builtinR (x := w) pl.typeIs slot_tuple_getitem.lookup
  (getItem_tuple (j := j) (Q := fun r s' => r = w /\ EP X pins σ Q r s') pl (by omega) (by omega) (by rw [ak, ← hl]; exact h1) (by simpa using ew) ⟨rfl, fin⟩) hs
theorem zo9 : IxR X zkU := by
 intro value slice pins s σ H x y v u Q I rx ry h hs
 obtain ⟨z, i, c, rfl, rfl, hz, he, q⟩ := h
 obtain ⟨t, rfl⟩ := rx
 obtain ⟨t', rfl⟩ := ry
 obtain ⟨j, h1, h2, h3, h4, h5⟩ := zbW he
 have hl : z.cps.toList.length = z.length := by simp [Str.length]
 rw [hl] at h1 h4 h5
 have hn := Uy
 exact tail_any (typeIs_str s z t) slot_str_getitem.lookup (getItem_str (c := c) (by
  have e1 : decide (i < -(2 ^ 63 : Int)) = false := decide_eq_false (by omega)
  have e2 : decide (i ≥ 2 ^ 63) = false := decide_eq_false (by omega)
  rw [e1, e2, d9]) (by rw [h1]; simpa using h2) ⟨.str ⟨#[c]⟩, H, I.tok _, ⟨_, rfl⟩, q⟩) hs
def rIx (K : ai) : R2 := fun x y H Q => zkS K x y H Q \/ zkT K x y H Q \/ zkU x y H Q
theorem zo_ : IxR X (rIx X.K) := ix_list.or (ix_tup.or zo9)
theorem zhv (its : List Value) (n j : Nat) (u : Value) : bY (·.setIfInBounds j u) { cls := .type "list", data := .seq its.toArray n } = { cls := .type "list", data := .seq (its.set j u).toArray n } := by
 simp [bY]
theorem Inv.lst {s : Shared} {xs : List V} (I : Inv X pins σ H s) (h : H p = some (.lst xs)) :
 ∃ (its : List Value) (n : Nat), Vals xs its /\ s.heap.get? p = some { cls := .type "list", data := .seq its.toArray n } /\ xs.length <= aF := by
 obtain ⟨z, its, n, r, e⟩ := I.hok p _ h
 exact ⟨its, n, r, e, z⟩
theorem Inv.lstUpd {s : Shared} {xs ys : List V} {its its' : List Value} {f : Obj -> Obj} (I : Inv X pins σ H s) (h : H p = some (.lst xs))
 (ho : s.heap.get? p = some { cls := .type "list", data := .seq its.toArray n }) (hf : f { cls := .type "list", data := .seq its.toArray n } = { cls := .type "list", data := .seq its'.toArray n' }) (r : Vals ys its') (hz : ys.length <= aF) (t : Nat) :
 Inv X pins σ (yc H p (.lst ys)) { s with heap := s.heap.update p f, toks := t } := by
 have e : (s.heap.update p f).get? p = some { cls := .type "list", data := .seq its'.toArray n' } := by
  rw [cy f ho (by rw [hf] <;> rfl), hf]
 refine I.write (x := p) (e := p) (by rw [h]; trivial) (.inl rfl) (fun b u hb q => (aK _ _ (bn hb)).trans q) ⟨_, e⟩ ?_
 exact ⟨hz, its', n', r, e⟩
def zmx : V -> V -> V -> Hp -> (Hp -> Prop) -> Prop := fun o i v H Q => ∃ p xs k j, o = .ref p /\ i = .int k /\ H p = some (.lst xs) /\ J7 xs.length k = some j /\ Q (yc H p (.lst (xs.set j v)))
theorem zkV : zoL X zmx := by
 intro pins s σ H o i v ov iv u Q I ro ri rv h
 obtain ⟨p, xs, k, j, rfl, rfl, hp, hj, q⟩ := h
 cases ro
 obtain ⟨t, rfl⟩ := ri
 obtain ⟨its, n, r, ho, hz⟩ := I.lst hp
 obtain ⟨h1, h2, h3, h4⟩ := zf_ hj
 have hl := r.length
 have hn := Uy
 have I' : Inv X pins σ (yc H p (.lst (xs.set j v))) { s with heap := s.heap.update p (bY (·.setIfInBounds j u)) } :=
  I.lstUpd hp ho (zhv its n j u) (r.set rv j) (by rw [List.length_set]; exact hz) s.toks
 by_cases h0 : 0 <= k
 · have hk : k.toNat = j := by
    rw [iF h0 h4] at h1
    exact bc h1
   exact PySem.W.ki_setAt ho h0 (by omega) (by rw [ak, ← hl]; exact h4) (by rw [hk]; exact ⟨_, I', q⟩)
 · have hk : (k + (its.toArray.size : Int)).toNat = j := by
    rw [im (by omega) h3] at h1
    rw [ak, ← hl]
    exact bc h1
   exact PySem.W.ki_setBack ho (by omega) (by rw [ak, ← hl]; exact h3) (by omega) (by rw [hk]; exact ⟨_, I', q⟩)
theorem zea (lo hi : Option Int) (n : Nat) : (dH lo hi none n).1 = ((HT.sIx n 0 lo : Nat) : Int) /\ (dH lo hi none n).2.1 = ((HT.sIx n n hi : Nat) : Int) /\ (dH lo hi none n).2.2 = 1 := by
 refine ⟨?_, ?_, rfl⟩
 · cases lo with
   | none => simp [dH, HT.sIx]
   | some i =>
    simp only [dH, HT.sIx, iu, show (1 : Int) > 0 by decide, if_true]
    by_cases h : i < 0
    · simp only [h, if_true] <;> omega
    · simp only [h, if_false] <;> omega
 · cases hi with
   | none => simp [dH, HT.sIx]
   | some i =>
    simp only [dH, HT.sIx, iu, show (1 : Int) > 0 by decide, if_true]
    by_cases h : i < 0
    · simp only [h, if_true] <;> omega
    · simp only [h, if_false] <;> omega
theorem zdv (its : List Value) (lo hi : Option Int) : slicePick its.toArray lo hi none = ((its.drop (HT.sIx its.length 0 lo)).take (HT.sIx its.length its.length hi - HT.sIx its.length 0 lo)).toArray := by
 obtain ⟨h1, h2, h3⟩ := zea lo hi its.toArray.size
 unfold slicePick
 rw [h1, h2, h3]
 simp only [sliceRange_one, pick_run, ak] <;> rfl
def zpa (K : ai) : V -> Option Int -> Option Int -> Hp -> VK -> Prop := fun x lo hi H Q => ∃ a xs, x = .ref a /\ y8 K H a xs /\ ∀ p, H p = none -> Q (.ref p) (yc H p (.lst (zbV xs lo hi)))
theorem znk : SlR X (zpa X.K) := by
 intro pins s σ H x v vl vu lo hi sl Q I rx hs pl pu h
 obtain ⟨a, xs, rfl, hx, q⟩ := h
 cases rx
 obtain ⟨its, r, ht, hz⟩ := I.list hx
 have hlen := r.length
 refine ⟨"list", _, fh.lookup, ht.isList.typeIs, ?_⟩
 refine wpAny_getItem_list_slice ht.isList hs pl pu .none (by simp) ?_ (by rw [ak] <;> omega)
 rw [zdv, ← hlen]
 refine ⟨.ref s.heap.objs.size, _, I.laid (t' := s.toks) (o := .lst (zbV xs lo hi)) (fun b ob q => ae _ q) (ax _) ?_, rfl, q _ (I.hok.fresh (ax _))⟩
 exact ⟨aV (zfM xs lo hi) hz, _, 0, (r.drop (HT.sIx xs.length 0 lo)).take (HT.sIx xs.length xs.length hi - HT.sIx xs.length 0 lo), ay _ rfl⟩
def J8 : V -> Bool
 | .non => true
 | .bl _ => true
 | .int _ => true
 | .str _ => true
 | _ => false
def QN : V -> V -> Bool
 | .non, .non => true
 | .bl a, .bl b => a == b
 | .bl a, .int b => (if a then 1 else 0) == b
 | .int a, .bl b => a == (if b then 1 else 0)
 | .int a, .int b => a == b
 | .str a, .str b => a == b
 | _, _ => false
theorem zi5 (ry : RelV y u) (rx : RelV x v) (fy : J8 y = true) (fx : J8 x = true) : fD A s u v (QN y x) := by
 cases y with
 | non =>
  cases ry
  cases x with
  | non => cases rx; exact fQ _
  | bl b => cases rx; exact fD.none_bool b
  | int b => obtain ⟨t, rfl⟩ := rx; exact fD.none_int b t
  | str b => obtain ⟨t, rfl⟩ := rx; exact fD.none_str b t
  | _ => exact absurd (show false = true from fx) ah
 | bl a =>
  cases ry
  cases x with
  | non => cases rx; exact fD.bool_none a
  | bl b => cases rx; exact fD.bool_bool a b
  | int b => obtain ⟨t, rfl⟩ := rx; exact fD.bool_int a b t
  | str b => obtain ⟨t, rfl⟩ := rx; exact fD.bool_str a b t
  | _ => exact absurd (show false = true from fx) ah
 | int a =>
  obtain ⟨t', rfl⟩ := ry
  cases x with
  | non => cases rx; exact fD.int_none a t'
  | bl b => cases rx; exact fD.int_bool a t' b
  | int b => obtain ⟨t, rfl⟩ := rx; exact fD.int_int a t' b t
  | str b => obtain ⟨t, rfl⟩ := rx; exact gU a t' b t
  | _ => exact absurd (show false = true from fx) ah
 | str a =>
  obtain ⟨t', rfl⟩ := ry
  cases x with
  | non => cases rx; exact fD.str_none a t'
  | bl b => cases rx; exact fD.str_bool a t' b
  | int b => obtain ⟨t, rfl⟩ := rx; exact gW a t' b t
  | str b => obtain ⟨t, rfl⟩ := rx; exact fD.str_str a t' b t
  | _ => exact absurd (show false = true from fx) ah
 | _ => exact absurd (show false = true from fy) ah
def ZH (x : V) (u : Value) : Bool := match u with
 | .none => QN .non x
 | .bool b => QN (.bl b) x
 | .int i _ => QN (.int i) x
 | .str z _ => QN (.str z) x
 | _ => false
theorem zi6 (r : RelV y u) (f : J8 y = true) : ZH x u = QN y x := by
 cases y with
 | non => cases r; rfl
 | bl b => cases r; rfl
 | int i => obtain ⟨t, rfl⟩ := r; rfl
 | str z => obtain ⟨t, rfl⟩ := r; rfl
 | _ => exact absurd (show false = true from f) ah
theorem UB : ∀ {xs : List V} {us : List Value}, Vals xs us -> xs.all J8 = true -> us.any (ZH x) = xs.any fun y => QN y x
 | _, _, .nil, _ => rfl
 | y :: xs, u :: us, .cons r t, f => by
  rw [bP, aN] at f
  rw [fi, fi, zi6 r f.1, UB t f.2]
theorem Zb (rx : RelV x v) (fx : J8 x = true) : ∀ {xs : List V} {us : List Value}, Vals xs us -> xs.all J8 = true -> ∀ u ∈ us, fD A s u v (ZH x u)
 | _, _, .nil, _ => fun u hu => by cases hu
 | y :: xs, u :: us, .cons r t, f => fun u' hu => by
  rw [bP, aN] at f
  rcases aB.mp hu with rfl | hu
  · rw [zi6 r f.1]; exact zi5 r rx f.1 fx
  · exact Zb rx fx t f.2 u' hu
def inV (x : V) (xs : List V) : Bool := xs.any fun y => QN y x
def rIn (K : ai) (neg : Bool) : R2 := fun x y H Q => ∃ p xs, y = .ref p /\ (y8 K H p xs \/ SqT K H p xs) /\ J8 x = true /\ xs.all J8 = true /\ Q (.bl (if neg then !inV x xs else inV x xs)) H
theorem ZI : jz X (a9 .In) (rIn X.K false) := by
 intro pins s σ H x y v u Q I rx ry h
 obtain ⟨p, xs, rfl, hq, fx, fs, q⟩ := h
 cases ry
 rcases hq with hq | hq
 · obtain ⟨its, r, pl, hz⟩ := I.list hq
   refine SeqAt.in_listAt (ZH x) pl.isList (fun w hw => Zb rx fx r fs w (by simpa using hw)) ⟨.bl _, H, I, rfl, ?_⟩
   rw [show its.toArray.any (ZH x) = its.any (ZH x) by simp, UB r fs]
   exact q
 · obtain ⟨its, r, pl, hz⟩ := I.tuple hq
   refine SeqAt.in_tupleAt (ZH x) pl (fun w hw => Zb rx fx r fs w (by simpa using hw)) ⟨.bl _, H, I, rfl, ?_⟩
   rw [show its.toArray.any (ZH x) = its.any (ZH x) by simp, UB r fs]
   exact q
theorem zeb : jz X (a9 .NotIn) (rIn X.K true) := by
 intro pins s σ H x y v u Q I rx ry h
 obtain ⟨p, xs, rfl, hq, fx, fs, q⟩ := h
 cases ry
 rcases hq with hq | hq
 · obtain ⟨its, r, pl, hz⟩ := I.list hq
   refine SeqAt.notIn_listAt (ZH x) pl.isList (fun w hw => Zb rx fx r fs w (by simpa using hw)) ⟨.bl _, H, I, rfl, ?_⟩
   rw [show its.toArray.any (ZH x) = its.any (ZH x) by simp, UB r fs]
   exact q
 · obtain ⟨its, r, pl, hz⟩ := I.tuple hq
   refine SeqAt.notIn_tupleAt (ZH x) pl (fun w hw => Zb rx fx r fs w (by simpa using hw)) ⟨.bl _, H, I, rfl, ?_⟩
   rw [show its.toArray.any (ZH x) = its.any (ZH x) by simp, UB r fs]
   exact q
theorem zec : jB X (.type "list") (fun xs H Q => ∃ p ys, xs = [.ref p] /\ (y8 X.K H p ys \/ SqT X.K H p ys) /\ ∀ l, H l = none -> Q (.ref l) (yc H l (.lst ys))) := by
 intro pins s σ H xs us Q I r h
 obtain ⟨p, ys, rfl, hq, q⟩ := h
 obtain ⟨u, rfl, rx⟩ := zdD r
 cases rx
 have fin : ∀ (its : List Value), Vals ys its -> ys.length <= aF -> ∀ (h' : Heap) (c' : Nat), (∀ b o', s.heap.get? b = some o' -> h'.get? b = some o') ->
  h'.get? s.heap.objs.size = some { cls := .type "list", dict := none, data := .seq its.toArray c', slots := #[] } -> EP X pins σ Q (.ref s.heap.objs.size) { s with heap := h' } := fun its r' hz h' c' kp e =>
  ⟨.ref s.heap.objs.size, _, I.laid (t' := s.toks) kp (ax _) (show ObjOk X.prog X.w _ h' _ (.lst ys) from ⟨hz, its, c', r', e⟩), rfl, q _ (I.hok.fresh (ax _))⟩
 rcases hq with hq | hq
 · obtain ⟨its, r', pl, hz⟩ := I.list hq
   have hlen := r'.length
   obtain ⟨o, ho, hc, n, hd⟩ := pl.isList
   exact call_list_seq p (.inl rfl) ho hc hd (fun h' c' kp e => fin its r' hz h' c' kp e) (by simp only [ak] <;> omega)
 · obtain ⟨its, r', pl, hz⟩ := I.tuple hq
   have hlen := r'.length
   obtain ⟨o, ho, hc, n, hd⟩ := pl
   exact call_list_seq p (.inr rfl) ho hc hd (fun h' c' kp e => fin its r' hz h' c' kp e) (by simp only [ak] <;> omega)
def tyV (K : ai) (T : String) (x : V) (H : Hp) : Prop := match x with
 | .str _ => T = "str"
 | .int _ => T = "int"
 | .ref p => (T = "list" /\ ∃ xs, y8 K H p xs) \/ (T = "tuple" /\ ∃ o, K.lookup p = some o /\ o.cls = .type "tuple" /\ o.dict = none) \/
  (T = "dict" /\ ((∃ kvs, H p = some (.dK kvs)) \/ ∃ kvs, H p = some (.dT kvs))) \/ (T = "set" /\ ∃ S n, H p = some (.set S n))
 | _ => False
theorem zpc {s : Shared} (I : Inv X pins σ H s) (r : RelV x v) (ty : tyV X.K T x H) :
 s.TypeIs v T /\ ∀ a, v = .ref a -> ∃ ob, s.heap.get? a = some ob /\ ob.dict = none := by
 cases x with
 | str z =>
  obtain ⟨t, rfl⟩ := r
  cases (show T = "str" from ty)
  exact ⟨typeIs_str s z t, fun _ e => nomatch e⟩
 | int i =>
  obtain ⟨t, rfl⟩ := r
  cases (show T = "int" from ty)
  exact ⟨typeIs_int s i t, fun _ e => nomatch e⟩
 | ref p =>
  cases r
  rcases ty with ⟨rfl, xs, hq⟩ | ⟨rfl, o, hk, hc, hd⟩ | ⟨rfl, hk⟩ | ⟨rfl, S, n, hk⟩
  · obtain ⟨its, _, pl, _⟩ := I.list hq
    refine ⟨pl.isList.typeIs, fun a e => ?_⟩
    cases e
    obtain ⟨o, n, e, c, hd, _⟩ := pl
    exact ⟨o, e, hd⟩
  · refine ⟨⟨o, I.kIn p o hk, hc⟩, fun a e => ?_⟩
    cases e
    exact ⟨o, I.kIn _ o hk, hd⟩
  · have z : ∃ o, s.heap.get? p = some o /\ o.ExactDict := by
     rcases hk with ⟨kvs, hk⟩ | ⟨kvs, hk⟩
     · obtain ⟨_, _, _, _, o, _, _, e, ex, _⟩ := I.hok p _ hk
       exact ⟨o, e, ex⟩
     · obtain ⟨_, _, _, _, o, _, _, e, ex, _⟩ := I.hok p _ hk
       exact ⟨o, e, ex⟩
    obtain ⟨o, e, ex⟩ := z
    refine ⟨⟨o, e, ex.1⟩, fun a e2 => ?_⟩
    cases e2
    exact ⟨o, e, ex.2.1⟩
  · obtain ⟨o, _, _, _, e, ex, _⟩ := I.hok p _ hk
    refine ⟨⟨o, e, ex.1⟩, fun a e2 => ?_⟩
    cases e2
    exact ⟨o, e, ex.2.1⟩
 | _ => exact aa ty
def tBM (K : ai) (T : String) (r : V -> List V -> Hp -> VK -> Prop) (to : TE) (t : TA) : TE := fun σ H Q => to σ H fun x H1 => tyV K T x H1 /\ t σ H1 fun xs H2 => r x xs H2 Q
variable {o e : Expr} {es : List Expr} {to : TE} {t : TA} {name : Str} {apos cpos : Pos} {T id : String} {r : V -> List V -> Hp -> VK -> Prop}
theorem zhw (pa : PlainAttrs T) (slot : Slot T name id) (hty : typeOf (.builtin id) = pure (.type "method_descriptor")) (hm : MtR X id r) (ho : PE X o to) (ha : PA X (e :: es) t)
 (hbase : bQ o name X.env (eval o X.env) = eval o X.env := by rfl)
 (hfew : ((backTo cpos (am (e :: es) X.env)).all (fun x => !x.1) && (dz cpos (cp [] X.env)).all (fun x => x.1.isSome)
  && decide ((e :: es).length + ([] : List Keyword).length + (if ([] : List Keyword).isEmpty then 0 else 1) < 30)) = true := by rfl)
 (hline : (apos.endLine == cpos.line) = true := by rfl) (hs : am (e :: es) X.env = (false, eval e X.env) :: am es X.env := by rfl) (hplain : (backTo cpos (am es X.env)).any (·.1) = false := by rfl) :
 PE X (.Call (.Attribute o name apos) (e :: es) [] cpos) (tBM X.K T r to t) := by
 intro pins s σ H Q I h
 refine wpAny_Call_method_late hbase hfew hline rfl (zP (ho pins s σ H _ I h) fun v s1 ⟨x, H1, I1, r1, ty, q1⟩ => ?_)
 obtain ⟨h1, h2⟩ := zpc I1 r1 ty
 refine ⟨T, id, pa, slot, hty, h1, h2, ?_⟩
 have hA := ha cpos pins s1 σ H1 _ I1 q1
 rw [hs] at hA ⊢
 refine Calls.callWith_builtin (by show (false || (backTo cpos (am es X.env)).any (·.1)) = false; rw [hplain] <;> rfl) (Calls.evalArgs_plain ?_)
 exact zP hA fun us s2 ⟨vs, H2, I2, r2, q2⟩ => hm pins s2 σ H2 x vs v us Q I2 r1 r2 q2
end
def MtM (X : Cx) (id : String) (r : V -> List V -> Hp -> VK -> Prop) : Prop :=
 ∀ (pins : List (Addr × Obj)) (s : Shared) (σ : St) (H : Hp) (x : V) (xs : List V) (v : Value) (us : List Value) (Q : VK), Inv X pins σ H s -> RelV x v -> Vals xs us -> r x xs H Q ->
  wpAny (model X.prog X.w) X.A (call (.builtin id) (v :: us)) (EP X pins σ Q) X.xe s
theorem Vals.one : ∀ {x : V} {us : List Value}, Vals [x] us -> ∃ u, us = [u] /\ RelV x u
 | _, _, .cons r .nil => ⟨_, rfl, r⟩
theorem Vals.two : ∀ {x y : V} {us : List Value}, Vals [x, y] us -> ∃ u v, us = [u, v] /\ RelV x u /\ RelV y v
 | _, _, _, .cons r (.cons q .nil) => ⟨_, _, rfl, r, q⟩
theorem Vals.eraseIdx : ∀ {xs : List V} {us : List Value} (i : Nat), Vals xs us -> Vals (xs.eraseIdx i) (us.eraseIdx i)
 | _, _, _, .nil => .nil
 | _, _, 0, .cons _ t => t
 | _, _, i + 1, .cons r t => .cons r (Vals.eraseIdx i t)
theorem Vals.reverse {xs : List V} {us : List Value} (h : Vals xs us) : Vals xs.reverse us.reverse := by
 induction h with
 | nil => exact .nil
 | cons r t ih => rw [dN, dN]; exact Vals.append ih (.cons r .nil)
theorem zcH {α : Type} : ∀ (l : List α) (i : Nat), (l.eraseIdx i).length <= l.length
 | [], _ => ax _
 | _ :: _, 0 => cL _
 | _ :: r, i + 1 => Nat.succ_le_succ (zcH r i)
section
variable {X : Cx} {pins : List (Addr × Obj)} {σ : St} {H : Hp} {s : Shared} {l b : Addr} {xs ys zs : List V}
theorem Inv.lset {its its' : List Value} {f : Array Value -> Array Value} (I : Inv X pins σ H s) (hH : H l = some (.lst xs))
 (e : s.heap.get? l = some { cls := .type "list", data := .seq its.toArray n }) (hf : f its.toArray = its'.toArray) (hv : Vals ys its') (hz : ys.length <= aF) :
 Inv X pins σ (yc H l (.lst ys)) { s with heap := s.heap.update l (bY f), toks := t' } := by
 have q := PySem.IsL.update e f
 rw [hf] at q
 refine I.write (x := l) (e := l) (by rw [hH]; exact trivial) (.inl rfl) (fun b' u hb hu => (aK s.heap (bY f) (bn hb)).trans hu) ⟨_, q⟩ ?_
 exact ⟨hz, its', _, hv, q⟩
theorem Inv.lnew {its : List Value} (I : Inv X pins σ H s) (hv : Vals ys its) (hz : ys.length <= aF) :
 Inv X pins σ (yc H s.heap.objs.size (.lst ys)) { s with heap := s.heap.push { cls := .type "list", data := .seq its.toArray }, toks := t' } :=
 I.laid (fun _ _ q => ae _ q) (ax _) ⟨hz, its, 0, hv, ay _ rfl⟩
theorem Inv.fresh (I : Inv X pins σ H s) : H s.heap.objs.size = none := I.hok.fresh (ax _)
theorem Inv.lstM (I : Inv X pins σ H s) (hH : H l = some (.lst xs)) : xs.length <= aF /\ ∃ (its : List Value) (n : Nat), Vals xs its /\ xs.length = its.length /\ s.heap.get? l = some { cls := .type "list", data := .seq its.toArray n } := by
 obtain ⟨z, its, n, r, e⟩ := I.hok l _ hH
 exact ⟨z, its, n, r, r.length, e⟩
theorem zkW (h : n <= aF) : du n = false := by
 unfold du
 exact decide_eq_false (by omega)
end
section
variable {X : Cx}
def zgc : V -> List V -> Hp -> VK -> Prop := fun x vs H Q => ∃ l xs y, x = .ref l /\ vs = [y] /\ H l = some (.lst xs) /\ xs.length < aF /\ Q .non (yc H l (.lst (xs ++ [y])))
theorem zi7 : MtM X "list.append" zgc := by
 intro pins s σ H x vs v us Q I rx rv h
 obtain ⟨l, xs, y, rfl, rfl, hH, hz, q⟩ := h
 cases rx
 obtain ⟨u, rfl, ru⟩ := rv.one
 obtain ⟨z, its, n, r, hl, e⟩ := I.lstM hH
 refine g7 F.slot_list_append ⟨_, e, rfl⟩ F.entry_list_append (F.args_list_append_2 _ _) (PySem.list_append l its.toArray n u (by rw [ak]; omega)) ⟨e, ?_⟩
 refine ⟨.non, _, I.lset (its' := its ++ [u]) hH e (by simp) (r.append (.cons ru .nil)) ?_, rfl, q⟩
 rw [aP, cZ]
 omega
def zgd : V -> List V -> Hp -> VK -> Prop := fun x vs H Q => ∃ l b xs zs, x = .ref l /\ vs = [.ref b] /\ H l = some (.lst xs) /\ H b = some (.lst zs) /\ xs.length + zs.length <= aF /\ Q .non (yc H l (.lst (xs ++ zs)))
theorem zi8 : MtM X "list.extend" zgd := by
 intro pins s σ H x vs v us Q I rx rv h
 obtain ⟨l, b, xs, zs, rfl, rfl, hH, hB, hz, q⟩ := h
 cases rx
 obtain ⟨u, rfl, ru⟩ := rv.one
 cases ru
 obtain ⟨z, its, n, r, hl, e⟩ := I.lstM hH
 obtain ⟨z2, its2, n2, r2, hl2, e2⟩ := I.lstM hB
 have hsz : its.toArray.size + its2.toArray.size <= aF := by rw [ak, ak]; omega
 have hlong : ¬ (!its.toArray.isEmpty && du (its.toArray.size + its2.toArray.size)) = true := by
  rw [zkW hsz, eS]
  exact ah
 refine g7 F.slot_list_extend ⟨_, e, rfl⟩ F.entry_list_extend (F.args_list_extend_2 _ _)
  (AutoSeq1.list_extend_list_list_0 l its.toArray n b its2.toArray n2 hlong (by rw [ak]; omega) (by omega)) ⟨e, e2, ?_⟩
 refine ⟨.non, _, I.lset (its' := its ++ its2) hH e (by simp) (r.append r2) ?_, rfl, q⟩
 rw [aP]
 omega
def zi9 : V -> List V -> Hp -> VK -> Prop := fun x vs H Q => ∃ l xs i k y, x = .ref l /\ vs = [.int i] /\ H l = some (.lst xs) /\ -(2 ^ 63) <= i /\ i < 2 ^ 63 /\ gD i xs.length = some k /\ xs[k]? = some y /\ Q y (yc H l (.lst (xs.eraseIdx k)))
theorem zkX : MtM X "list.pop" zi9 := by
 intro pins s σ H x vs v us Q I rx rv h
 obtain ⟨l, xs, i, k, y, rfl, rfl, hH, h1, h2, hk, hy, q⟩ := h
 cases rx
 obtain ⟨u, rfl, ru⟩ := rv.one
 obtain ⟨t, rfl⟩ := ru
 obtain ⟨z, its, n, r, hl, e⟩ := I.lstM hH
 obtain ⟨w, hw, rw'⟩ := r.get hy
 refine g7 F.slot_list_pop ⟨_, e, rfl⟩ F.entry_list_pop (F.args_list_pop_2 _ _)
  (MeetsSeq.list_pop_at l its.toArray n i t k w (fitsIndex_both h1 h2) (by rw [ak, ← hl]; exact hk) (by rw [← fU]; exact hw) (by rw [ak]; omega)) ⟨e, ?_⟩
 refine ⟨y, _, I.lset (its' := its.eraseIdx k) hH e ?_ (r.eraseIdx k) ?_, rw', q⟩
 · show its.toArray.eraseIdxIfInBounds k = (its.eraseIdx k).toArray
   rw [List.eraseIdxIfInBounds_toArray]
 · have := zcH xs k
   omega
def zpe : R2 := fun x y H Q => ∃ l b xs zs, x = .ref l /\ y = .ref b /\ H l = some (.lst xs) /\ H b = some (.lst zs) /\ xs.length + zs.length <= aF /\ ∀ p, H p = none -> Q (.ref p) (yc H p (.lst (xs ++ zs)))
theorem zpf : jz X (dw .Add) zpe := by
 intro pins s σ H x y v u Q I rx ry h
 obtain ⟨l, b, xs, zs, rfl, rfl, hH, hB, hz, q⟩ := h
 cases rx
 cases ry
 obtain ⟨z, its, n, r, hl, e⟩ := I.lstM hH
 obtain ⟨z2, its2, n2, r2, hl2, e2⟩ := I.lstM hB
 refine PySem.P.add_list e e2 ?_ (by rw [ak, ak]; omega)
 have ea : its.toArray ++ its2.toArray = (its ++ its2).toArray := by simp
 rw [ea]
 exact ⟨.ref _, _, I.lnew (t' := s.toks) (r.append r2) (by rw [aP]; omega), rfl, q _ I.fresh⟩
end
section
variable {prog : Program} {w : World} {A : Around} {E : Value -> Shared -> Prop} {s : Shared}
end
section
variable {X : Cx}
end
end L2
namespace Att
open PySem PySem.W PySem.Calls PyProof.Rows
theorem zaw : ∀ (ns : List Int) (vs : List Value), WellAll P h vs (ns.map WData.int) -> IntsAre vs ns := by
 intro ns
 induction ns with
 | nil =>
  intro vs w
  rw [cC] at w
  cases w
  exact .nil
 | cons n ns ih =>
  intro vs w
  rw [aq] at w
  cases w with
  | cons a b =>
   cases a
   exact .cons _ _ (ih _ b)
theorem zi_ {l : OpenLaw} (hn : l.most = some n) {h : Heap} 
 (hpre : l.row.toRowW.claim.pre args = true) (hwl : WellAll P h vals args) :
 ∃ a vs ns, vals = [Value.ref a] /\ args = [WData.list (ns.map WData.int)] /\ h.get? a = some { cls := .type "list", data := .seq vs.toArray } /\ IntsAre vs ns /\ ns.length <= n := by
 have hsh : WShape.hasAll [] args [.list .int] = true := (pre_splitW hpre).1
 have hc : l.pre.holds [] { args := args } = true := (pre_splitW hpre).2
 obtain ⟨d, r, rfl, h1, h2⟩ := hasAllW_cons hsh
 obtain rfl := hasAllW_nil h2
 obtain ⟨xs, rfl, h3⟩ := hasW_list h1
 obtain ⟨ns, rfl⟩ := items_int h3
 have hlen : ns.length <= n := by
  unfold OpenLaw.pre at hc
  have h4 : (WTm.not (.lt (.lit (.int (n : Int))) (.len (.arg 0)))).holds [] { args := [.list (ns.map .int)] } = true := by
   have h4 := (holds_andW hc).1
   rw [hn] at h4
   exact h4
  have h5 := condW_of h4 (w_not (w_lt w_lit (w_len_list (w_arg rfl))))
  rw [ap] at h5
  refine Nat.le_of_not_lt fun q => ?_
  have q' : (n : Int) < ((ns.length : Nat) : Int) := by omega
  first
   | (rw [decide_eq_true q'] at h5; exact absurd h5 (by decide))
   | (simp at h5; omega)
 cases hwl with
 | cons w1 w2 =>
  cases w2
  cases w1 with
  | list ho hall => exact ⟨_, _, ns, rfl, rfl, ho, zaw ns _ hall, hlen⟩
theorem zja (l : OpenLaw) (args : List WData) : l.row.toRowW.claim.post args (.bool true) args = true :=
 postW_of (r := l.row.toRowW) (X := (true == true))
  (show kC [] (.bool true) .bool = true by first | rfl | decide | simp [kC, WShape.arms, WShape.armsAll])
  (show (WTm.eq .res (.lit (.bool true))).value [] { args := args, res := some (.bool true), after := args } = some (.bool (true == true)) from w_eq_bool (w_res rfl) w_lit) rfl
theorem attach_call {l : OpenLaw} {XP : (Str -> Option Value) -> Heap -> Prop} {YP : World -> Heap -> Prop} {d : DefRec}
 (hn : l.most = some n) (hdf : d.params.defaults = [])
 (call : ∀ (w : World) (s₀ s₁ : Shared) (mg mb : Str -> Option Value) (fa : Addr) (o : Obj) (pm cd doc : Value) (a : Addr) (vs : List Value) (ns : List Int),
  Ground q loose [] XP w s₀ mg mb s₁.heap -> YP w s₁.heap ->
  s₁.heap.get? fa = some o -> o.data = .func (docDef d.name d.params d.body d.scope pm cd doc) -> s₁.heap.CodeRec cd d.name -> mg d.name = some (.ref fa) ->
  s₁.heap.get? a = some { cls := .type "list", data := .seq vs.toArray } -> IntsAre vs ns -> ns.length <= n -> s₁.gens = #[] ->
  cz (model l.prog w) gA (.call (.ref fa) ⟨[.ref a], []⟩) (fun r s' => r = .ok (.ret (.bool true)) /\ OldK s₁.heap s'.heap /\ s'.os = s₁.os /\ AllBare s'.gens) s₁) :
 WalkO q loose XP YP l.row.toRowW d [] (fun f vs => iL f vs) := by
 intro w s₀ s₁ mg mb G Y fa o pm cd doc dV kV ho hd hcd hD hmg hg args vals as hpre hlay hrd hwl hlo
 obtain rfl : dV = .none := Dflts.none hD hdf
 obtain rfl : kV = .none := Dflts.noKw hD
 obtain ⟨a, vs, ns, rfl, rfl, hobj, hints, hlen⟩ := zi_ hn hpre hwl
 refine enter_call (dS (call w s₀ s₁ mg mb fa o pm cd doc a vs ns G Y ho (fd_plain hd) hcd hmg hobj hints hlen hg) fun r s' hq => ?_)
 obtain ⟨rfl, h2, h3, h4⟩ := hq
 exact ⟨.inl ⟨.bool true, .bool true, [], rfl, fun _ => rfl, .bool true, zja l _, fun _ => ⟨List.Pairwise.nil, fun _ hm => (nomatch hm)⟩⟩, h2, h3, h4⟩
section
variable {prog : Program} {w : World} {A : Around} {E : Value -> Shared -> Prop} {s : Shared} {K : Frag}
end
end Att
namespace L2
open PySem PySem.Spec PyProof.Rows
theorem zcI : ∀ {vs : List Value} {ns : List Int}, IntsAre vs ns -> Vals (ns.map V.int) vs
 | _, _, .nil => .nil
 | _, _, .cons n t h => .cons ⟨t, rfl⟩ (zcI h)
def zkY (H : Hp) : Prop := ∀ b, H b = none \/ ∃ o xs, H b = some (.frz o (.lst xs))
theorem zkZ {K : ai} {mg mb : Str -> Option Value} {s₁ : Shared} {vs : List Value} {ns : List Int}
 (KX : K.In s₁.heap) (hns : s₁.heap.Ns aS mg) (hb : s₁.heap.Ns iW mb) (hbb : ∀ x : Str, x ≠ "__name__" -> mb x = bG x) (hlim : s₁.heap.NoLimit) (hg : s₁.gens = #[])
 (ha : s₁.heap.get? a = some { cls := .type "list", data := .seq vs.toArray }) (hi : IntsAre vs ns) (hl : ns.length <= aF) (hr : Room k gA)
 (F : ∀ base : Heap, K.In base -> base.Ns aS mg -> FnOk P w K mg base CX k fa fd [x] sp) (hbind : ∀ (s : Shared) (u : Value), BindsTo s fd ⟨[u], []⟩ [(x, u)])
 (hsp : ∀ H : Hp, zkY H -> y8 K H a (ns.map V.int) -> sp [.ref a] H (fun v _ => v = .bl true) fun _ _ _ => False)
 (hCX : ∀ H e s', CX [] H s₁ (fun _ _ _ => False) e s' -> False) :
 cz (model P w) gA (.call (.ref fa) ⟨[.ref a], []⟩) (fun r s' => r = .ok (.ret (.bool true)) /\ OldK s₁.heap s'.heap /\ s'.os = s₁.os /\ AllBare s'.gens) s₁ := by
 have rv := zcI hi
 have lenV := hi.length
 have core : ∀ H : Hp, zkY H -> y8 K H a (ns.map V.int) -> HOk P w H s₁.heap -> (∀ b, H b ≠ none -> b = a) -> (H a ≠ none -> K.lookup a = none) ->
  cz (model P w) gA (.call (.ref fa) ⟨[.ref a], []⟩) (fun r s' => r = .ok (.ret (.bool true)) /\ OldK s₁.heap s'.heap /\ s'.os = s₁.os /\ AllBare s'.gens) s₁ := by
  intro H hO hS hok hA hK
  have base_of : ∀ {b : Addr} {o : Obj}, s₁.heap.get? b = some o -> H b = none -> (UW s₁.heap H).get? b = some o := fun e n => zkz e n
  have noA : ∀ {b : Addr} {o : Obj} {es : Array DictEntry} {ep : Nat}, s₁.heap.get? b = some o -> o.data = .dict es ep -> H b = none := fun {b o es ep} e d => by
   cases q : H b with
   | none => rfl
   | some u =>
    have e' : b = a := hA b (by rw [q]; simp)
    subst e'
    rw [ha] at e; cases e
    have d' : Data.seq vs.toArray _ = Data.dict es ep := d
    cases d'
  have nsK : ∀ {b : Addr} {m : Str -> Option Value}, s₁.heap.Ns b m -> (UW s₁.heap H).Ns b m := fun {b m} ⟨o, es, ep, e, d, r⟩ => ⟨o, es, ep, base_of e (noA e d), d, r⟩
  have hKb : K.In (UW s₁.heap H) := fun b o e => base_of (KX b o e) (by
   cases q : H b with
   | none => rfl
   | some u =>
    have e' : b = a := hA b (by rw [q]; simp)
    subst e'
    rw [hK (by rw [q]; simp)] at e; cases e)
  have hM : Mod K mg (UW s₁.heap H) := ⟨hKb, nsK hns, ⟨mb, nsK hb, hbb⟩, let ⟨mc, h1, h2⟩ := hlim; ⟨mc, nsK h1, h2⟩⟩
  have e0 : Env0 P w K mg (UW s₁.heap H) gA [] s₁ H := ⟨rfl, hM, fun b o e => zm2 e, g9 (ziK _ _), trivial, fun b hb => absurd (show b ∈ ([] : List Addr) from hb) (by simp), hok, .of_eq hg⟩
  refine dS ((F _ hKb (nsK hns)).run gA [] s₁ H ⟨[.ref a], []⟩ [.ref a] [.ref a] _ _ hr e0 (hbind s₁ (.ref a)) (.cons rfl .nil) (hsp H hO hS)) fun r s' h => ?_
  cases r with
  | error e => exact (hCX H e s' h).elim
  | ok fl =>
   cases fl with
   | next => exact aa h
   | brk => exact aa h
   | cont => exact aa h
   | ret u =>
    obtain ⟨v, H', os, bare, un, hok', r', q⟩ := h
    have q' : v = .bl true := q
    subst q'
    obtain rfl : u = Value.bool true := r'
    refine ⟨rfl, OldK.of_keep fun b o e => ?_, os, bare⟩
    cases q : H b with
    | none => exact un.keep b o e q (by intro z; exact absurd (show b ∈ ([] : List Addr) from z) (by simp)) (by simp)
    | some u =>
     rcases hO b with z | ⟨ob, xs, z⟩
     · rw [q] at z; cases z
     · have z2 := un.frzs b ob _ z
       obtain ⟨e1, _⟩ := hok b _ z
       obtain ⟨e2, _⟩ := hok' b _ z2
       rw [e] at e1; cases e1
       exact e2
 cases hk : K.lookup a with
 | some o =>
  have e := KX a o hk
  rw [ha] at e
  cases e
  refine core (fun _ => none) (fun _ => .inl rfl) (.inr ⟨_, vs.toArray, _, hk, rfl, rfl, rfl, by rw [ak, lenV]; exact hl, by simpa using rv⟩) (fun b u z => by have z' : (none : Option HO) = some u := z; cases z') (fun b z => absurd rfl z) fun z => absurd rfl z
 | none =>
  refine core (fun b => if b = a then some (.frz { cls := .type "list", data := .seq vs.toArray } (.lst (ns.map V.int))) else none) (fun b => ?_) (.inl (.inr ⟨{ cls := .type "list", data := .seq vs.toArray }, if_pos rfl⟩)) (fun b u z => ?_) (fun b z => ?_) fun _ => hk
  · by_cases hb : b = a
    · exact .inr ⟨_, _, if_pos hb⟩
    · exact .inl (if_neg hb)
  · by_cases hb : b = a
    · have z' := (if_pos hb).symm.trans z
      cases z'
      subst hb
      exact ⟨ha, by rw [ap]; exact hl, vs, _, rv, ha⟩
    · have z' := (if_neg hb).symm.trans z
      cases z'
  · by_cases hb : b = a
    · exact hb
    · exact absurd (if_neg hb) z
theorem walk_of {l : PySem.W.OpenLaw} {XP : (Str -> Option Value) -> Heap -> Prop} {YP : World -> Heap -> Prop} {d : DefRec} {K : Params -> ai} {CX : World -> UA} {sp : World -> Sp} 
 (hn : l.most = some n) (hn2 : n <= aF) (hdf : d.params.defaults = []) (hr : Room k gA)
 (hY : ∀ (w : World) (h : Heap), YP w h -> (K w.params).In h)
 (F : ∀ (w : World) (mg : Str -> Option Value) (fa : Addr) (h : Heap), (K w.params).In h -> h.Ns aS mg -> mg d.name = some (.ref fa) ->
  ∃ fd : FuncData, (∀ (s : Shared) (u : Value), BindsTo s fd ⟨[u], []⟩ [(x, u)]) /\
   ∀ base : Heap, (K w.params).In base -> base.Ns aS mg -> FnOk l.prog w (K w.params) mg base (CX w) k fa fd [x] (sp w))
 (hsp : ∀ (w : World) (H : Hp) (a : Addr) (ns : List Int), ns.length <= n -> zkY H -> y8 (K w.params) H a (ns.map V.int) -> sp w [.ref a] H (fun v _ => v = .bl true) fun _ _ _ => False)
 (hCX : ∀ (w : World) (H : Hp) (s : Shared) (e : Value) (s' : Shared), CX w [] H s (fun _ _ _ => False) e s' -> False) :
 kb q loose XP YP l.row.toRowW d [] (fun f vs => iL f vs) := by
 refine Att.attach_call hn hdf fun w s₀ s₁ mg mb fa o pm cd doc a vs ns G Y ho hd hcd hmg hobj hints hlen hg => ?_
 have KX := hY w _ Y
 obtain ⟨fd, hb, hF⟩ := F w mg fa _ KX G.T.g hmg
 exact zkZ KX G.T.g G.T.b G.T.builtins G.T.nolimit hg hobj hints (aV hlen hn2) hr hF hb (fun H hO hS => hsp w H a ns hlen hO hS) fun H e s' => hCX w H s₁ e s'
def zi (s : Stmt) (j : Nat) : Stmt := match s with
 | .ClassDef _ _ _ body _ _ _ _ _ _ _ => body.getD j (.Pass ⟨0, 0, 0, 0⟩)
 | _ => .Pass ⟨0, 0, 0, 0⟩
def Yg (s : Stmt) : Arguments := match s with
 | .FunctionDef _ a _ _ _ _ _ _ _ _ => a
 | _ => { posonlyargs := [], args := [], vararg := none, kwonlyargs := [], kw_defaults := [], kwarg := none, defaults := [] }
def QE (s : Stmt) : List Stmt := match s with
 | .FunctionDef _ _ b _ _ _ _ _ _ _ => b
 | _ => []
def zq (s : Stmt) : Scope := match s with
 | .FunctionDef _ _ _ _ _ _ sc _ _ _ => sc
 | _ => { kind := .function, names := [], isGenerator := false, isCoroutine := false }
abbrev yd : UA := fun _ _ _ _ _ _ => False
abbrev E0 : XK := fun _ _ _ => False
theorem zdE : VS yd X E0 := fun _ _ _ _ _ _ _ h => h.elim
structure Fun (K : ai) (x qual : Str) (st : Stmt) (f : Addr) (fd : FuncData) : Prop where
 ex : ∃ (oc : Value) (od : Option Addr) (kV doc pm : Value) (an : Option Addr) (cdv ct : Value) (osl : Array (Option Value)),
  fd = cO x qual (Yg st) (QE st) (zq st) .none kV doc pm an cdv ct /\ K.lookup f = some ⟨oc, od, .func fd, osl⟩ /\ eR K cdv qual = true
 kp : ba K (.ref f) = true
section
variable {P : Program} {w : World} {K : ai} {mg : Str -> Option Value} {base : Heap}
theorem Fun.ok {x qual : Str} {st : Stmt} {f : Addr} {fd : FuncData} {N ps : List Str} {k : Nat} {sp : Sp} (F : Fun K x qual st f fd) (S : zy N ps (zq st)) (len : ∀ vs H Q E, sp vs H Q E -> vs.length = ps.length)
 (hbody : ∀ (cdv : Value) (A : Around) (outer : List Env) (s : Shared) (H : Hp) (vs : List V) (Q : VK) (E : XK), Room k (A.deeper (envOfC qual (zq st) s.heap.objs.size f cdv)) -> sp vs H Q E ->
  ∃ t, PSs (RJ yd P w K mg base N qual (zq st) f cdv A outer s H E).nox (QE st) t /\ t { nx := fun _ H' => Q .non H', rt := Q } (start N vs) H) : FnOk P w K mg base yd (k + 1) f fd ps sp := by
 obtain ⟨oc, od, kV, doc, pm, an, cdv, ct, osl, rfl, lk, hcd⟩ := F.ex
 refine zqz lk hcd S len fun A outer s H vs Q E hr hsp => ?_
 obtain ⟨t, h, q⟩ := hbody cdv A outer s H vs Q E hr hsp
 exact ⟨t, h.nox, q⟩
theorem Fun.binds {x qual : Str} {st : Stmt} {f : Addr} {fd : FuncData} {ps : List Str} (F : Fun K x qual st f fd)
 (h : ∀ (kV doc pm : Value) (an : Option Addr) (cdv ct : Value) (us : List Value), us.length = ps.length -> bindArgs (cO x qual (Yg st) (QE st) (zq st) .none kV doc pm an cdv ct) ⟨us, []⟩ = pure (ps.zip us)) : Binds K fd ps [] := by
 obtain ⟨oc, od, kV, doc, pm, an, cdv, ct, osl, rfl, lk, hcd⟩ := F.ex
 exact .all (h kV doc pm an cdv ct)
theorem zE {x qual : Str} {st : Stmt} {f : Addr} {oc : Value} {od an : Option Addr} {osl : Array (Option Value)} {kV doc pm cdv ct : Value} (l : K.lookup f = some ⟨oc, od, .func (cO x qual (Yg st) (QE st) (zq st) .none kV doc pm an cdv ct), osl⟩)
 (c : eR K cdv qual = true) (k : ba K (.ref f) = true) : Fun K x qual st f (cO x qual (Yg st) (QE st) (zq st) .none kV doc pm an cdv ct) := ⟨⟨oc, od, kV, doc, pm, an, cdv, ct, osl, rfl, l, c⟩, k⟩
end
theorem zjb (h : n <= 1000) : n < aF := Nat.lt_of_le_of_lt h (by decide)
section
variable {X : Cx}
theorem pv (i : Nat) (hN : X.N[i]? = some x := by rfl) (hv : Ys X.env.scope x := by first | exact Or.inl rfl | exact Or.inr (Or.inl rfl) | exact Or.inr (Or.inr rfl)) (hd : (x == ("__debug__" : Str)) = false := by decide)
 (hcd : (x == ("__classdict__" : Str)) = false := by decide) : PE X (.Name x pos) (QL i) := QM hN hv hd hcd
end
def Same (H H' : Hp) : Prop := ∀ b o, H b = some o -> H' b = some o
theorem Same.refl (H : Hp) : Same H H := fun _ _ h => h
section
variable {κ : Type} [DecidableEq κ]
end
section
variable {P : Program} {w : World} {H : Hp} {h : Heap} {a : Addr}
end
section
variable {X : Cx} {pins : List (Addr × Obj)} {σ : St} {H : Hp} {s : Shared} {a : Addr} {y v : V} {u r : Value} {o : Option V} {A : Around} {E : Value -> Shared -> Prop}
end
section
variable {X : Cx} {pins : List (Addr × Obj)} {σ : St} {H : Hp} {s : Shared} {a : Addr} {kvs : List (y4 × V)} {k : y4} {u : Value} {A : Around} {E : Value -> Shared -> Prop}
end
section
variable {X : Cx} {o i e value : Expr} {pos pos' tpos : Pos} {td ty tv : TE}
end
section
variable {X : Cx} {pos : Pos}
end
section
variable {X : Cx} {pins : List (Addr × Obj)} {σ : St} {H : Hp} {s : Shared} {a : Addr} {y d : V} {u r : Value} {o : Option V} {A : Around} {E : Value -> Shared -> Prop}
end
section
variable {X : Cx} {o e f : Expr} {apos cpos : Pos} {td ty tx : TE}
end
section
variable {X : Cx} {pins : List (Addr × Obj)} {σ : St} {H : Hp} {s : Shared} {a : Addr} {kvs : List (y4 × V)} {A : Around} {E : Value -> Shared -> Prop}
end
section
variable {X : Cx} {pins : List (Addr × Obj)} {σ : St} {H : Hp} {s : Shared} {a : Addr} {y : V} {u : Value} {A : Around} {E : Value -> Shared -> Prop}
end
section
variable {X : Cx}
end
section
variable {κ : Type} [DecidableEq κ]
end
def yM (env : Env) : List (Str × NameKind) -> List (Str × Addr) -> List (Str × Addr)
 | [], cs => cs
 | (n, k) :: r, cs => yM env r (if k == .free then (match env.cells.lookup n with | some a => (n, a) :: cs | none => cs) else cs)
theorem zge {env : Env} {scope : Scope} (h : ∀ p ∈ scope.names, p.2 = .free -> ∃ a, env.cells.lookup p.1 = some a) : closureFor scope env = pure (yM env scope.names []) := by
 have go : ∀ (l : List (Str × NameKind)) (cs : List (Str × Addr)), (∀ p ∈ l, p.2 = .free -> ∃ a, env.cells.lookup p.1 = some a) ->
  (forIn l cs fun (x : Str × NameKind) (r : List (Str × Addr)) => if (x.2 == .free) = true then (do let a ← cellOf env x.1; pure (ForInStep.yield ((x.1, a) :: r))) else (pure (ForInStep.yield r) : Sem _)) = (pure (yM env l cs) : Sem _) := by
  intro l
  induction l with
  | nil => intro cs _; rfl
  | cons p r ih =>
   intro cs hp
   obtain ⟨n, k⟩ := p
   rw [List.forIn_cons]
   cases hk : k == NameKind.free with
   | false =>
    simp only [hk, aM, if_false]
    have e : yM env ((n, k) :: r) cs = yM env r cs := by simp only [yM, hk, aM, if_false]
    rw [e, ← ih cs fun q hq => hp q (af _ hq)]
    rfl
   | true =>
    obtain ⟨a, ha⟩ := hp (n, k) ao (by simpa using hk)
    have ha' : env.cells.lookup n = some a := ha
    have e : yM env ((n, k) :: r) cs = yM env r ((n, a) :: cs) := by simp only [yM, hk, ha', if_true]
    have ec : cellOf env n = pure a := by unfold cellOf; rw [ha']
    simp only [hk, if_true, ec]
    rw [e, ← ih ((n, a) :: cs) fun q hq => hp q (af _ hq)]
    rfl
 have q := go scope.names [] h
 simp only [closureFor]
 refine Eq.trans (congrArg (fun z => z >>= fun s => pure s) q) ?_
 rfl
theorem Yu {env : Env} : ∀ (l : List (Str × NameKind)) (cs : List (Str × Addr)), (cs.lookup x = some c -> env.cells.lookup x = some c) -> (yM env l cs).lookup x = some c -> env.cells.lookup x = some c
 | [], _, h, e => h e
 | (n, k) :: r, cs, h, e => by
  unfold yM at e
  refine Yu r _ ?_ e
  intro q
  split at q
  · split at q
    · rename_i a ha
      rw [bD] at q
      split at q
      · rename_i hx
        have : x = n := by simpa using hx
        cases q
        rw [this]; exact ha
      · exact h q
    · exact h q
  · exact h q
theorem RK {env : Env} : ∀ (l : List (Str × NameKind)) (cs : List (Str × Addr)), (∀ p ∈ l, p.2 = .free -> ∃ a, env.cells.lookup p.1 = some a) ->
 ((∃ c, cs.lookup x = some c) \/ (x, NameKind.free) ∈ l) -> ∃ c, (yM env l cs).lookup x = some c
 | [], _, _, h => h.elim id (fun z => nomatch z)
 | (n, k) :: r, cs, hf, h => by
  unfold yM
  refine RK r _ (fun p hp => hf p (af _ hp)) ?_
  rcases h with ⟨c, h⟩ | h
  · left
    split
    · split
      · rw [bD]
        split
        · exact ⟨_, rfl⟩
        · exact ⟨c, h⟩
      · exact ⟨c, h⟩
    · exact ⟨c, h⟩
  · rcases aB.mp h with e | h
    · cases e
      left
      obtain ⟨a, ha⟩ := hf (x, .free) ao rfl
      have ha' : env.cells.lookup x = some a := ha
      simp only [ha']
      refine ⟨a, ?_⟩
      show cK x (if (NameKind.free == NameKind.free) = true then (x, a) :: cs else cs) = some a
      rw [if_pos (by decide), bD]
      simp
    · exact .inr h
def yE (X : Cx) (N' : List Str) (scope : Scope) (cl : List (Str × Addr)) (C : Addr) (s2 : Shared) (H2 : Hp) (fp : List Addr) : Cx where
 prog := X.prog
 w := X.w
 K := X.K
 mg := X.mg
 base := X.base
 A := X.A
 N := N'
 s₀ := s2
 H₀ := H2
 env := iT scope cl C X.env
 outer := X.stack
 stack := X.stack
 ex := fp
 fn := fun _ => false
 calm := X.calm
 pn := []
 xe := fun _ _ => False
def blk (js : List (Option Nat)) (σ : St) : St := js.map fun j => match j with | some j => (σ[j]?).join | none => none
def PTs (X : Cx) (ifs : List Expr) (tc : TT) : Prop :=
 ∀ (pins : List (Addr × Obj)) (s : Shared) (σ : St) (H : Hp) (Q : Bool -> Hp -> Prop), Inv X pins σ H s -> tc σ H Q ->
  wpAny (model X.prog X.w) X.A (forIn ifs true fun c r => if r = true then do let ok ← isTrue c X.env (eval c X.env); pure (ForInStep.yield ok) else pure (ForInStep.yield r)) (TP X pins σ Q) X.xe s
def tTT : TT := fun _ H Q => Q true H
theorem znl : PTs X [] tTT := fun _ _ _ H _ I h => wpAny_tests_nil ⟨H, I, h⟩
theorem znm (h : PT X c t) : PTs X [c] t := fun pins s σ H Q I hq => wpAny_tests_one (h pins s σ H Q I hq)
def zmz (J : It) (g : TG) (tc : TT) (te : TE) (σ : St) (H : Hp) (Q : List V -> Hp -> Prop) : Prop :=
 ∃ W : Nat -> Nat -> List V -> St -> Hp -> Prop, (∃ m, W 0 m [] σ H) /\ ∀ i m ys σ H, W i m ys σ H ->
  (J.stop i H /\ ys.length <= aF /\ Q ys H) \/
  (J.go i H /\ ys.length < aF /\ ∃ N : List V -> St -> Hp -> Prop, (∀ ys' σ' H', N ys' σ' H' -> ∃ m', m' < m /\ W (i + 1) m' ys' σ' H') /\
   ∀ x H', J.yld i H x H' -> g x σ H' fun σ2 H2 => tc σ2 H2 fun b H3 => if b = true then te σ2 H3 fun y H4 => N (ys ++ [y]) σ2 H4 else N ys σ2 H3)
def zhx (wi : TI) (js : List (Option Nat)) (g : TG) (tc : TT) (te : TE) : TE := fun σ H Q => wi σ H fun J H1 => zmz J g tc te (blk js σ) H1 fun ys H2 => ∀ p, H2 p = none -> Q (.ref p) (yc H2 p (.lst ys))
theorem zjc {R : Result -> Shared -> Prop} (I : Nat -> Shared -> Prop)
 (turn : ∀ n s, I n s -> wpAny (model prog w) A (pyNext it) (fun r s₁ => match r with
  | none => R (.ok .next) s₁
  | some v => wpAny (model prog w) A (dD target it v) (fun _ s₁ => wpAny (model prog w) A (assign target env v) (fun _ s₂ =>
   wpAny (model prog w) A (forIn ifs true fun c r => if r = true then do let ok ← isTrue c env (eval c env); pure (ForInStep.yield ok) else pure (ForInStep.yield r)) (fun ok s₃ =>
    if ok = true then wpAny (model prog w) A (eval elt env) (fun x s₄ =>
     wpAny (model prog w) A (call (.builtin "list.append") [acc, x]) (fun _ s₅ => ∃ m, m < n /\ I m s₅) (fun _ _ => False) s₄) (fun _ _ => False) s₃
    else ∃ m, m < n /\ I m s₃) (fun _ _ => False) s₂) (fun _ _ => False) s₁) (fun _ _ => False) s₁) (fun _ _ => False) s)
 (n : Nat) (h : I n s) : cz (model prog w) A (.compLoop (.ListComp elt [⟨target, iter, ifs, 0⟩] scope pos) 0 it acc env) R s := by
 refine codeAny_loop rfl I (fun n s hI => ?_) n h
 show wpAny _ A ((compTurn (.ListComp elt [⟨target, iter, ifs, 0⟩] scope pos) 0 it acc env).onRaise (fun x => do noteFrame x env; theTreesLotGoes x)) _ _ s
 refine wpAny_noted ?_
 rw [compTurn_list]
 refine ab (gP (ab (cU (turn n s hI) (fun r s₁ h₁ => ?_) fun _ _ h' => h'.elim)))
 cases r with
 | none => exact aj h₁
 | some v =>
  refine ab (cU h₁ (fun _ s₁ h₁ => ?_) fun _ _ h' => h'.elim)
  refine ab (cU h₁ (fun _ s₂ h₂ => ab (cU h₂ (fun ok s₃ h₃ => ?_) fun _ _ h' => h'.elim)) fun _ _ h' => h'.elim)
  cases ok with
  | false => exact aj ⟨rfl, h₃⟩
  | true =>
   exact ab (ab (cU h₃ (fun x s₄ h₄ => ab (cU h₄ (fun _ s₅ h₅ => aj (aj ⟨rfl, h₅⟩)) fun _ _ h' => h'.elim)) fun _ _ h' => h'.elim))
section
variable {X : Cx} {pins : List (Addr × Obj)} {σ : St} {H H2 : Hp} {s2 : Shared}
theorem mem_of_lookup {α : Type} {x : Str} {k : α} : ∀ {l : List (Str × α)}, l.lookup x = some k -> (x, k) ∈ l
 | [], h => by simp at h
 | (n, k') :: r, h => by
  rw [bD] at h
  split at h
  · rename_i hx
    have : x = n := by simpa using hx
    cases h; rw [this]; exact ao
  · exact af _ (mem_of_lookup h)
theorem Zc {env : Env} {x : Str} {k : NameKind} : ∀ {l : List (Str × NameKind)},
 (l.map fun (n, k) => if (k == NameKind.free && env.scope.kind == .function && env.kindOf n == some .cell) then (n, NameKind.cell) else (n, k)).lookup x = some k ->
 l.lookup x = some k \/ (k = .cell /\ l.lookup x = some .free)
 | [], h => by simp at h
 | (n, k') :: r, h => by
  have ih := @Zc env x k r
  rw [aq, bD] at h
  rw [bD]
  by_cases hc : (k' == NameKind.free && env.scope.kind == .function && env.kindOf n == some .cell) = true
  · simp only [hc, if_true] at h
    have hk : k' = .free := by
     simp only [aN] at hc
     simpa using hc.1.1
    cases hx : x == n with
    | true => rw [hx] at h; cases h; exact .inr ⟨rfl, by rw [hk]⟩
    | false => rw [hx] at h; exact ih h
  · simp only [hc, if_false, aM] at h
    cases hx : x == n with
    | true => rw [hx] at h; exact .inl h
    | false => rw [hx] at h; exact ih h
structure CompOk (X : Cx) (N' : List Str) (js : List (Option Nat)) (scope : Scope) : Prop where
 kind : scope.kind = .function
 cell : ∀ y ∈ scope.names, y.2 ≠ .cell
 names : ∀ y ∈ scope.names, y.2 = .local -> scope.names.lookup y.1 = some .local
 free : ∀ y ∈ scope.names, y.2 = .free -> X.env.kindOf y.1 = some .cell \/ X.env.kindOf y.1 = some .free
 len : js.length = N'.length
 ix : ∀ (i j : Nat) (x : Str), js[i]? = some (some j) -> N'[i]? = some x -> X.N[j]? = some x /\ scope.names.lookup x = some .free
variable {N' : List Str} {js : List (Option Nat)} {scope : Scope} {fp : List Addr}
theorem CompOk.clos (K : CompOk X N' js scope) (I : Inv X pins σ H s2) : ∀ p ∈ scope.names, p.2 = .free -> ∃ a, X.env.cells.lookup p.1 = some a := fun p hp hf => I.ok.has p.1 (K.free p hp hf)
theorem zqB : (iT scope cl C X.env).kindOf x = (scope.names.map fun (n, k) => if (k == NameKind.free && X.env.scope.kind == .function && X.env.kindOf n == some .cell) then (n, NameKind.cell) else (n, k)).lookup x := rfl
theorem CompOk.ok (K : CompOk X N' js scope) (I : Inv X pins σ H2 s2) (hf : ∀ b ∈ fp, FpOk X pins H2 b) (hfp : ∀ b ∈ fp, b < s2.heap.objs.size) (hC : s2.heap.objs.size <= C) :
 (yE X N' scope (yM X.env scope.names []) C s2 H2 fp).Ok := by
 have sub : ∀ x c, (yM X.env scope.names []).lookup x = some c -> X.env.cells.lookup x = some c := fun x c e => Yu scope.names [] (fun z => by simp at z) e
 refine ⟨I.mod, K.kind, I.ok.glob, I.ok.blt, hC, fun x y c a b => I.ok.inj x y c (sub x c a) (sub y c b), fun x hk => ?_, fun x c h => (nomatch h), I.ok.hd, I.ok.frames, .inl rfl, fun b hb => ⟨?_, fun x c e => ?_⟩, I.bs, ?_, fun b o e hb => ?_, fun b hb => ?_, I.stack, I.stkFree⟩
 · refine RK scope.names [] (K.clos I) (.inr ?_)
   have z : ∀ k, (iT scope (yM X.env scope.names []) C X.env).kindOf x = some k -> k = .cell \/ k = .free -> (x, NameKind.free) ∈ scope.names := fun k e hk => by
    rw [zqB] at e
    rcases Zc e with e | ⟨_, e⟩
    · rcases hk with rfl | rfl
      · exact absurd rfl (K.cell _ (mem_of_lookup e))
      · exact mem_of_lookup e
    · exact mem_of_lookup e
   rcases hk with e | e
   · exact z _ e (.inl rfl)
   · exact z _ e (.inr rfl)
 · exact az (aH (hfp b hb) hC)
 · exact (hf b hb).2.2.2.2.1 x c (sub x c e)
 · exact aV I.ok.bsz I.sz
 · rcases (hf b hb).2.2.2.1 with z | z
   · exact I.ok.noex b o e z
   · exact absurd (aH (aH (aw e) I.ok.bsz) z) (cn _)
 · intro hs
   rcases aB.mp (I.stkSub b hs) with e | e
   · exact (hf b hb).2.1 e
   · exact (hf b hb).2.2.1 e
theorem CompOk.inv (K : CompOk X N' js scope) (I : Inv X pins σ H2 s2) (hf : ∀ b ∈ fp, FpOk X pins H2 b) (hfp : ∀ b ∈ fp, b < s2.heap.objs.size) {o : Obj} {h1 : Heap} {m : Str -> Option Value}
 (hD : s2.heap.objs.size <= D) (hC : s2.heap.objs.size <= C) (hDC : D ≠ C) (up : ∀ b u, s2.heap.get? b = some u -> h1.get? b = some u) (hn : h1.Ns C m) (ho : h1.get? D = some o) (hcell : ∀ v, o.data ≠ .cell v) :
 Inv (yE X N' scope (yM X.env scope.names []) C s2 H2 fp) [(D, o)] (blk js σ) H2 { s2 with heap := h1, toks := tk } := by
 have ok := K.ok I hf hfp hC
 have sub : ∀ x c, (yM X.env scope.names []).lookup x = some c -> X.env.cells.lookup x = some c := fun x c e => Yu scope.names [] (fun z => by simp at z) e
 refine ⟨ok, rfl, I.bare, Un.kept up, ⟨m, hn, fun i x v e1 e2 e3 => ?_⟩, fun x c e => ?_, I.hok.fresh hC, fun x c e => I.freeC x c (sub x c e), fun p hp => ?_, I.hok.kept up, ?_⟩
 · have e2' : (js.map fun j => match j with | some j => (σ[j]?).join | none => none)[i]? = some (some v) := e2
   rw [ar] at e2'
   cases hj : js[i]? with
   | none => rw [hj] at e2'; cases e2'
   | some j =>
    rw [hj] at e2'
    cases j with
    | none => cases e2'
    | some j =>
     have e4 : (σ[j]?).join = some v := bc e2'
     have e5 : σ[j]? = some (some v) := by
      cases q : σ[j]? with
      | none => rw [q] at e4; cases e4
      | some z => rw [q] at e4; cases z with
       | none => cases e4
       | some z => cases e4; rfl
     obtain ⟨hX, hfr⟩ := K.ix i j x hj e1
     obtain ⟨mX, hnX, hl⟩ := I.loc
     have hm := mem_of_lookup hfr
     have hk := K.free _ hm rfl
     have hv : Ys X.env.scope x := hk.elim (fun z => .inr (.inl z)) fun z => .inr (.inr z)
     obtain ⟨u, r, q⟩ := hl j x v hX e5 hv
     refine ⟨u, r, ?_⟩
     rcases q with ⟨q, _⟩ | ⟨_, c, ec, z⟩
     · rcases hk with hk | hk
       · have hk' : X.env.kindOf x = some .cell := hk
         rw [q] at hk'; cases hk'
       · have hk' : X.env.kindOf x = some .free := hk
         rw [q] at hk'; cases hk'
     · obtain ⟨c', ec'⟩ := RK (x := x) scope.names [] (K.clos I) (.inr hm)
       have e6 := sub x c' ec'
       rw [ec] at e6; cases e6
       obtain ⟨oz, hoz, hdz⟩ := z
       refine .inr ⟨?_, c, ec', ⟨oz, up _ _ hoz, hdz⟩⟩
       rcases e3 with e3 | e3 | e3
       · rcases Zc e3 with e | ⟨z, _⟩
         · rw [hfr] at e; cases e
         · cases z
       · exact .inl e3
       · exact .inr e3
 · obtain ⟨v, oz, hoz, hdz⟩ := I.cell x c (sub x c e)
   exact ⟨v, oz, up _ _ hoz, hdz⟩
 · have e : p = (D, o) := by
    have : p ∈ ([] : List (Addr × Obj)) ++ [(D, o)] := hp
    simpa using this
   subst e
   refine ⟨ho, I.hok.fresh hD, hDC, fun z => ?_, hcell⟩
   rcases aB.mp (I.stkSub D z) with e | e
   · exact absurd (aH I.lt hD) (by rw [show D = X.env.locals from e]; exact cn _)
   · exact I.nofs hD e
 · show (js.map _).length = N'.length
   rw [ap]; exact K.len
theorem zjd (I : Inv X pins σ H2 s2) (hf : ∀ b ∈ fp, FpOk X pins H2 b) {ys : List V} {us : List Value} 
 (hD : s2.heap.objs.size <= D) (I4 : Inv (yE X N' scope cl C s2 H2 fp) pl σ' H4 s4) (hp : (D, o) ∈ pl) (ho : o = { cls := .type "list", data := .seq us.toArray k }) (r : Vals ys us) (hz : ys.length <= aF) :
 Inv X pins σ (yc H4 D (.lst ys)) s4 := by
 have pD := I4.pin (D, o) (aA _ hp)
 have nD : H4 D = none := pD.2.1
 have eD : s4.heap.get? D = some o := pD.1
 have neD : ∀ b u, s2.heap.get? b = some u -> b ≠ D := fun b u e => az (aH (aw e) hD)
 have n2 : H2 D = none := I.hok.fresh hD
 have U := I4.base
 refine I.call' (ch := fp) I4.os ⟨fun b u e n hb hx => U.keep b u e n hb hx, fun b u e n hb hx => U.slot b u e n hb hx, fun b u e n hx => ?_, fun b u e hx => U.there b u e hx, fun b xs e => ?_, fun b u xs e => ?_, fun b ps e => ?_⟩ (fun b u e => ?_) I4.bare fun b hb => ⟨(hf b hb).2.2.2.1, (hf b hb).2.1, (hf b hb).2.2.2.2.1, (hf b hb).2.2.2.2.2⟩
 · rw [z8 (neD b u e)]; exact U.free b u e n hx
 · have q := U.tups b xs e
   rw [z8 (yD q nD)]; exact q
 · have q := U.frzs b u xs e
   rw [z8 (yD q nD)]; exact q
 · obtain ⟨more, q⟩ := U.tbls b ps e
   exact ⟨more, by rw [z8 (yD q nD)]; exact q⟩
 · by_cases hb : b = D
   · subst hb
     rw [jD] at e
     cases e
     exact ⟨hz, us, k, r, by rw [eD, ho]⟩
   · rw [z8 hb] at e
     exact (I4.hok b u e).stay (fun c v _ q => q) (fun c q => by rw [z8 (yD q nD)]; exact q) fun c xs q => by rw [z8 (yD q nD)]; exact q
end
section
variable {X : Cx} {pins : List (Addr × Obj)} {σ : St} {H H2 : Hp} {s2 : Shared} {N' : List Str} {js : List (Option Nat)} {scope : Scope} {fp : List Addr}
abbrev Yv (us : List Value) : Obj := { cls := .type "list", data := .seq us.toArray us.length }
theorem zcJ {tn : Nat -> Heap -> Prop} {Qy : List V -> Hp -> Prop} {RR : Value -> Addr -> Result -> Shared -> Prop} {E : Value -> Shared -> Prop}
 (hc : X.calm = true) (K : CompOk X N' js scope) (I : Inv X pins σ H2 s2) (T : zd5 X.prog X.w X.K tg J fp it tn) (st2 : tn 0 s2.heap) (f2 : ∀ b ∈ fp, FpOk X pins H2 b)
 (hb : ∀ C cl, PG (yE X N' scope cl C s2 H2 fp) tg g /\ PTs (yE X N' scope cl C s2 H2 fp) ifs tc /\ PE (yE X N' scope cl C s2 H2 fp) elt te)
 (hw : zmz J g tc te (blk js σ) H2 Qy)
 (hR : ∀ D C s4 H4 ys m, Inv X pins σ (yc H4 D (.lst ys)) s4 -> s4.heap.Ns C m -> s2.heap.objs.size <= C -> D ≠ C -> H4 C = none -> H4 D = none -> Qy ys H4 -> RR (.ref D) C (.ok .next) s4) :
 wpAny (model X.prog X.w) X.A (newList []) (fun acc s₃ => wpAny (model X.prog X.w) X.A (newFunctionEnv scope X.env.globals (yM X.env scope.names []) [] X.env.qual none .none (some X.env)) (fun cenv s₄ =>
  cz (model X.prog X.w) X.A (.compStart (.ListComp elt [⟨tg, iter, ifs, 0⟩] scope pos) 0 (.ref it) acc { cenv with scope := relabel scope X.env }) (RR acc cenv.locals) s₄) E s₃) E s2 := by
 refine bW (wpAny_newFunctionEnv K.cell (by intro y hy; simp at hy) (fun h₁ hns₁ hsb₁ => ?_) K.kind)
 dsimp only at hns₁ hsb₁ ⊢
 generalize hH2 : s2.heap.push { cls := .type "list", dict := none, data := .seq ([] : List Value).toArray } = HH at hns₁ hsb₁ ⊢
 have hC : HH.objs.size = s2.heap.objs.size + 1 := by rw [← hH2, bj]
 have hDC : s2.heap.objs.size ≠ HH.objs.size := by rw [hC]; exact az (bM _)
 have below : ∀ b, b < s2.heap.objs.size -> b ≠ HH.objs.size /\ b ≠ s2.heap.objs.size := fun b hb => ⟨by rw [hC]; exact az (a5 hb), az hb⟩
 have old : ∀ b o, s2.heap.get? b = some o -> h₁.get? b = some o := fun b o e => hsb₁.extBut b o (below b (aw e)).1 (ae _ (hH2 ▸ ae _ e))
 have hacc : h₁.get? s2.heap.objs.size = some (Yv []) := hsb₁.extBut _ _ hDC (ae _ (hH2 ▸ ay _ rfl))
 have hfp : ∀ b ∈ fp, b < s2.heap.objs.size := fun b hb => by obtain ⟨o, e, _⟩ := T.obj 0 _ st2 b hb; exact aw e
 have hCle : s2.heap.objs.size <= HH.objs.size := by rw [hC]; exact cL _
 generalize hCC : HH.objs.size = C at *
 generalize hDD : s2.heap.objs.size = D at *
 obtain ⟨W, ⟨m0, w0⟩, turn⟩ := hw
 obtain ⟨hG, hT, hE⟩ := hb C (yM X.env scope.names [])
 have st1 : tn 0 h₁ := T.keep 0 _ _ st2 fun b _ o e => old b o e
 have loop : ∀ s₃ : Shared, s₃ = { s2 with heap := h₁, toks := s2.toks + ([] : List (Str × Value)).length } ->
  cz (model X.prog X.w) X.A (.compLoop (.ListComp elt [⟨tg, iter, ifs, 0⟩] scope pos) 0 (.ref it) (.ref D) (iT scope (yM X.env scope.names []) C X.env)) (RR (.ref D) C) s₃ := by
  rintro s₃ rfl
  have I0 : Inv (yE X N' scope (yM X.env scope.names []) C s2 H2 fp) [(D, Yv [])] (blk js σ) H2 { s2 with heap := h₁, toks := s2.toks + ([] : List (Str × Value)).length } :=
   K.inv I f2 (fun b hb => by rw [hDD]; exact hfp b hb) (by rw [hDD]; exact ax _) (by rw [hDD]; exact hCle) hDC old hns₁ hacc (fun v z => by cases z)
  have cfree : ∀ {σ' : St} {H' : Hp} {s' : Shared} {pl : List (Addr × Obj)}, Inv (yE X N' scope (yM X.env scope.names []) C s2 H2 fp) pl σ' H' s' -> H' C = none := fun I' => I'.free
  have stat : ∀ {H' : Hp} {us : List Value}, (∀ b ∈ fp, H' b = none) -> ∀ b ∈ fp, FpOk (yE X N' scope (yM X.env scope.names []) C s2 H2 fp) [(D, Yv us)] H' b := fun {H' us} hn b hb => by
   refine ⟨hn b hb, (below b (hfp b hb)).1, fun z => ?_, .inl hb, fun x c e => ?_, fun p hp => ?_⟩
   · rcases aB.mp (I.stkSub b z) with e | e
     · exact (f2 b hb).2.1 e
     · exact (f2 b hb).2.2.1 e
   · exact (f2 b hb).2.2.2.2.1 x c (Yu scope.names [] (fun z => by simp at z) e)
   · have e : p = (D, Yv us) := by
      have hp' : p ∈ ([] : List (Addr × Obj)) ++ [(D, Yv us)] := hp
      simpa using hp'
     subst e
     exact bn (below b (hfp b hb)).2
  refine zjc (fun n s' => ∃ i ys us σ' H', Inv (yE X N' scope (yM X.env scope.names []) C s2 H2 fp) [(D, Yv us)] σ' H' s' /\ tn i s'.heap /\ (∀ b ∈ fp, H' b = none) /\ Vals ys us /\ W i n ys σ' H') ?_ m0
   ⟨0, [], [], blk js σ, H2, I0, st1, fun b hb => (f2 b hb).1, .nil, w0⟩
  rintro n s3 ⟨i, ys, us, σ3, H3, I3, st3, fr3, rv, w3⟩
  rcases turn i n ys σ3 H3 w3 with ⟨stop, hz, q⟩ | ⟨go, hz, N, hN, step⟩
  · refine zP (T.done (yE X N' scope (yM X.env scope.names []) C s2 H2 fp) rfl rfl rfl hc i _ s3 σ3 H3 _ I3 (stat fr3) st3 stop) fun r s4 ⟨hr, I4⟩ => ?_
    subst hr
    obtain ⟨mC, hnC, _⟩ := I4.loc
    exact hR D C s4 H3 ys mC (zjd I f2 (by rw [hDD]; exact ax _) I4 ao rfl rv hz) hnC (by first | exact hCle | (rw [hDD]; exact hCle)) hDC (cfree I4) (I4.pin (D, Yv us) (aA _ ao)).2.1 q
  · refine zP (T.item (yE X N' scope (yM X.env scope.names []) C s2 H2 fp) rfl rfl rfl hc i _ s3 σ3 H3 _ I3 (stat fr3) st3 go) fun r s4 ⟨u, hr, h4⟩ => ?_
    subst hr
    refine zP h4 fun _ s5 ⟨x, H5, I5, r5, y5, st5, fr5⟩ => ?_
    have I5' := I5.pinned (stat fr5) (T.obj _ _ st5)
    refine zP (hG _ s5 σ3 H5 x u _ I5' r5 (step x H5 y5)) fun _ s6 ⟨σ6, H6, I6, q6⟩ => ?_
    refine zP (hT _ s6 σ6 H6 _ I6 q6) fun ok s7 ⟨H7, I7, q7⟩ => ?_
    have again : ∀ {H8 : Hp} {s8 : Shared}, Inv (yE X N' scope (yM X.env scope.names []) C s2 H2 fp) ([(D, Yv us)] ++ VQ fp s5.heap) σ6 H8 s8 -> tn (i + 1) s8.heap /\ ∀ b ∈ fp, H8 b = none := fun {H8 s8} I8 =>
     ⟨T.keep _ _ _ st5 fun b hb o e => (I8.pin (b, o) (aA _ (aA _ (Z8 hb e)))).1, fun b hb => by
      obtain ⟨o, e, d⟩ := T.obj _ _ st5 b hb
      exact (I8.pin (b, o) (aA _ (aA _ (Z8 hb e)))).2.1⟩
    cases ok with
    | false =>
     have q7' : N ys σ6 H7 := by simpa using q7
     obtain ⟨m', hm, w7⟩ := hN _ _ _ q7'
     obtain ⟨t7, fr7⟩ := again I7
     exact ⟨m', hm, i + 1, ys, us, σ6, H7, I7.unpinned, t7, fr7, rv, w7⟩
    | true =>
     have q7' : te σ6 H7 fun y H4 => N (ys ++ [y]) σ6 H4 := by simpa using q7
     refine zP (hE _ s7 σ6 H7 _ I7 q7') fun z s8 ⟨y, H8, I8, r8, q8⟩ => ?_
     obtain ⟨t8, fr8⟩ := again I8
     obtain ⟨eD, nD, neL, nf, _⟩ := I8.pin (D, Yv us) (aA _ (aL _ ao))
     have hul : us.length < aF := by rw [← rv.length]; exact hz
     refine append_at (hsz := by show us.toArray.size <= aF; rw [ak]; exact cM hul) eD fun h₉ hs₉ hD₉ => ?_
     obtain ⟨m', hm, w8⟩ := hN _ _ _ q8
     have I8' : Inv (yE X N' scope (yM X.env scope.names []) C s2 H2 fp) [] σ6 H8 s8 := I8.pins_of fun p hp => (nomatch hp)
     have I9 : Inv (yE X N' scope (yM X.env scope.names []) C s2 H2 fp) [] σ6 H8 { s8 with heap := h₉ } := I8'.turned (t' := s8.toks) (it := D) (fun b o hb e => (hs₉.2 b hb).trans e) nD neL (.inr (by show s2.heap.objs.size <= D; rw [hDD]; exact ax _)) (fun x c e z => by
      have e' : (yM X.env scope.names []).lookup x = some c := e
      obtain ⟨v, q⟩ := I.cell x c (Yu scope.names [] (fun z => by simp at z) e')
      have l := q.lt
      rw [hDD, z] at l; exact cn _ l) (fun p hp => (nomatch hp))
     have eq9 : h₉.get? D = some (Yv (us ++ [z])) := hD₉.trans (congrArg some (by
      show ({ cls := .type "list", data := .seq (us.toArray.push z) (us.length + 1) } : Obj) = { cls := .type "list", data := .seq (us ++ [z]).toArray (us ++ [z]).length }
      rw [aP, cZ, List.push_toArray]))
     refine ⟨m', hm, i + 1, ys ++ [y], us ++ [z], σ6, H8, I9.pins_of fun p hp => ?_, T.keep _ _ _ t8 fun b hb o e => (hs₉.2 b ((below b (hfp b hb)).2)).trans e, fr8, rv.append (.cons r8 .nil), w8⟩
     have e : p = (D, Yv (us ++ [z])) := by simpa using hp
     subst e
     exact ⟨eq9, nD, neL, nf, fun v z => by cases z⟩
 exact codeAny_compStart_list (loop _ rfl) (T.self X.A 0 _ _ _ st1 (loop _ rfl))
end
section
variable {X : Cx} {N' : List Str} {js : List (Option Nat)} {scope : Scope} {tg elt iter : Expr} {ifs : List Expr} {pos : Pos} {wi : TI} {g : TG} {tc : TT} {te : TE}
def PB (X : Cx) (N' : List Str) (scope : Scope) (tg : Expr) (ifs : List Expr) (elt : Expr) (g : TG) (tc : TT) (te : TE) : Prop :=
 ∀ s2 H2 fp C cl, PG (yE X N' scope cl C s2 H2 fp) tg g /\ PTs (yE X N' scope cl C s2 H2 fp) ifs tc /\ PE (yE X N' scope cl C s2 H2 fp) elt te
theorem znn (hc : X.calm = true) (K : CompOk X N' js scope) (hi : PI X tg iter wi) (hb : PB X N' scope tg ifs elt g tc te) (hs : ∀ x, bV iter X.env x = pure x := by intro _; rfl) :
 PE X (.ListComp elt [⟨tg, iter, ifs, 0⟩] scope pos) (zhx wi js g tc te) := by
 intro pins s σ H Q I h
 rw [eval_ListComp]
 refine wpAny_comprehension_free (use := none) rfl hs (zge (K.clos I)) K.kind K.names (zP (hi pins s σ H _ I h) fun v s1 h1 => zP h1 fun itv s2 h2 => ?_)
 obtain ⟨it, fp, tn, J, H2, e, I2, T, st2, f2, hw⟩ := h2
 subst e
 refine zcJ hc K I2 T st2 f2 (fun C cl => hb s2 H2 fp C cl) hw fun D C s4 H4 ys m I4 hn hC hDC nC nD q => ?_
 have nC' : yc H4 D (.lst ys) C = none := by rw [z8 (bn hDC)]; exact nC
 obtain ⟨f0, f1, f2', f3, f4, f5⟩ := I2.fpOk (H' := yc H4 D (.lst ys)) hC nC'
 refine ⟨m, hn, fun h' hs' => ⟨.ref D, _, I4.turned (t' := s4.toks) (it := C) (fun b o hb e => (hs'.2 b hb).trans e) nC' f1 f3 f4 f5, rfl, q D nD⟩⟩
theorem zgg {py spos : Pos} (hc : X.calm = true) (hN : X.N.Nodup) (hi' : X.N[i]? = some y) (hy : X.env.scope.names.lookup y = some .local) (K : CompOk X N' js scope) (hi : PI X tg iter wi) (hb : PB X N' scope tg ifs elt g tc te)
 (hsw : di (.ListComp elt [⟨tg, iter, ifs, 0⟩] scope pos) (some (.Name y py)) spos.line X.env = pure true) (hs : ∀ x, bV iter X.env x = pure x := by intro _; rfl) :
 PS X (.Assign [.Name y py] (.ListComp elt [⟨tg, iter, ifs, 0⟩] scope pos) spos) (zbS (zhx wi js g tc te) (WE i)) := by
 intro pins s σ H Dn I h
 rw [exec_Assign_Name_used _ _ _ _ hsw]
 refine ab (gP (ab ?_))
 show wpAny _ _ (do let _ ← comprehension (.ListComp elt [⟨tg, iter, ifs, 0⟩] scope pos) scope X.env _ (newList []) false (eval iter X.env) (some (assign (.Name y py) X.env))) _ _ s
 refine ab (cU (wpAny_comprehension_free (use := some (assign (.Name y py) X.env)) (Q := fun _ s' => SP X pins Dn .next s') rfl hs (zge (K.clos I)) K.kind K.names
  (zP (hi pins s σ H _ I h) fun v s1 h1 => zP h1 fun itv s2 h2 => ?_)) (fun _ s' hq => aj (aj hq)) fun _ _ e => e)
 obtain ⟨it, fp, tn, J, H2, e, I2, T, st2, f2, hw⟩ := h2
 subst e
 refine zcJ hc K I2 T st2 f2 (fun C cl => hb s2 H2 fp C cl) hw fun D C s4 H4 ys m I4 hn hC hDC nC nD q => ?_
 have nC' : yc H4 D (.lst ys) C = none := by rw [z8 (bn hDC)]; exact nC
 obtain ⟨f0, f1, f2', f3, f4, f5⟩ := I2.fpOk (H' := yc H4 D (.lst ys)) hC nC'
 show wpAny _ _ (assign (.Name y py) X.env (.ref D)) _ _ _
 refine wpAny_assign_Name (zcC (v := .ref D) I4 hN hi' (.inl hy) rfl (fun s5 I5 ⟨a, sb, ha⟩ => ?_) (.inr hy))
 have nCa : C ≠ a := by
  rcases ha with e | e
  · rw [e]; exact f1
  · exact fun z => f4 y a e z.symm
 exact ⟨m, hn.sameBut sb nCa, fun h' hs' => ⟨_, _, I5.turned (t' := s5.toks) (it := C) (fun b o hb e => (hs'.2 b hb).trans e) nC' f1 f3 f4 f5, q D nD⟩⟩
end
section
variable {g : TG} {tc : TT} {te : TE} {σ : St} {H : Hp} {Q : List V -> Hp -> Prop}
end
section
variable {X : Cx}
theorem zcK : jz X (a9 .LtE) (fun x y H Q => ∃ i j, x = .str i /\ y = .str j /\ Q (.bl (!(decide (j.cps.toList < i.cps.toList)))) H) := by
 intro pins s σ H x y v u Q I rx ry h
 obtain ⟨i, j, rfl, rfl, q⟩ := h
 obtain ⟨t, rfl⟩ := rx
 obtain ⟨t', rfl⟩ := ry
 exact PySem.P.le_str (zS I q rfl)
theorem Vals.texts : ∀ {ys : List Str} {us : List Value}, Vals (ys.map V.str) us -> StrsAre us ys
 | [], _, r => by cases r; exact .nil
 | y :: ys, _, r => by
  cases r with
  | cons r1 r2 =>
   obtain ⟨t, rfl⟩ := r1
   exact .cons y t (Vals.texts r2)
def zqC (K : ai) : V -> List V -> Hp -> VK -> Prop := fun x vs H Q => ∃ z a ys, x = .str z /\ vs = [.ref a] /\ y8 K H a (ys.map V.str) /\ (ys.map (·.length)).sum + ys.length * z.length <= 16777216 /\ Q (.str (ey z ys)) H
theorem zno : MtR X "str.join" (zqC X.K) := by
 intro pins s σ H x vs v us Q I rx rv h
 obtain ⟨z, a, ys, rfl, rfl, hq, hz, q⟩ := h
 obtain ⟨t, rfl⟩ := rx
 obtain ⟨u, rfl, ru⟩ := rv.one
 cases ru
 obtain ⟨its, r, pl, _⟩ := I.list hq
 exact join_list pl.isList (by simpa using Vals.texts r) hz fun t' k => ⟨.str _, H, I.tok k, ⟨t', rfl⟩, q⟩
def Its (x : Str) : It := ⟨fun i _ => i < x.cps.size, fun i H v H' => H' = H /\ ∃ c, x.cps[i]? = some c /\ v = .str ⟨#[c]⟩, fun i _ => i = x.cps.size⟩
theorem zk0 {P : Program} {w : World} {K : ai} {tg : Expr} (it : Addr) (x : Str) (t : Tok) (T : String) (hT : T = "str_ascii_iterator" \/ T = "str_iterator") : zd5 P w K tg (Its x) [it] it (fun i h => h.IsStrIter it T x t i) where
 mem := by simp
 obj := fun i h st b hb => by
  have e : b = it := by simpa using hb
  subst e
  obtain ⟨o, e, c, d⟩ := st
  exact ⟨o, e, fun v z => by rw [d] at z; cases z⟩
 keep := fun i h h' st k => by obtain ⟨o, e, r⟩ := st; exact ⟨o, k it (by simp) o e, r⟩
 item := by
  intro X hP hw hK hc i pins s σ H E I hf st hg
  subst hP hw hK
  obtain ⟨f0, f1, f2, f3, f4, f5⟩ := hf it (by simp)
  have fin : ∀ v h' tk, SignAt x i v -> h'.IsStrIter it T x t (i + 1) -> (∀ b o, b ∉ [it] -> s.heap.get? b = some o -> h'.get? b = some o) -> ∃ u, some v = some u /\
   wpAny (model X.prog X.w) X.A (dD tg (.ref it) u) (fun _ s2 => ∃ y H', Inv X pins σ H' s2 /\ RelV y u /\ (Its x).yld i H y H' /\ s2.heap.IsStrIter it T x t (i + 1) /\ ∀ b ∈ [it], H' b = none) E { s with heap := h', toks := tk } := by
   intro v h' tk hv st' kk
   obtain ⟨c, u, hcu, rfl⟩ := hv
   have I1 : Inv X pins σ H { s with heap := h', toks := tk } := I.turned (fun b o hb e => kk b o (by simpa using hb) e) f0 f1 f3 f4 f5
   obtain ⟨o, e, cc, d⟩ := id st'
   refine ⟨_, rfl, zhk (s := { s with heap := h', toks := tk }) e cc d ?_ ⟨.str ⟨#[c]⟩, H, I1, ⟨u, rfl⟩, ⟨rfl, c, hcu, rfl⟩, st', fun b hb => (hf b hb).1⟩⟩
   rcases hT with rfl | rfl <;> decide
  rcases hT with rfl | rfl
  · exact (iO (prog := X.prog) (w := X.w) (I.ok.hd hc) it x t).item i s _ _ hg st fin
  · exact (kc (prog := X.prog) (w := X.w) (I.ok.hd hc) it x t).item i s _ _ hg st fin
 done := by
  intro X hP hw hK hc i pins s σ H E I hf st hg
  subst hP hw hK
  obtain ⟨f0, f1, f2, f3, f4, f5⟩ := hf it (by simp)
  have hg' : i = x.cps.size := hg
  subst hg'
  have fin : ∀ (h' : Heap) (tk : Nat), (∀ b o, b ∉ [it] -> s.heap.get? b = some o -> h'.get? b = some o) -> (none : Option Value) = none /\ Inv X pins σ H { s with heap := h', toks := tk } := fun h' tk kk =>
   ⟨rfl, I.turned (fun b o hb e => kk b o (by simpa using hb) e) f0 f1 f3 f4 f5⟩
  rcases hT with rfl | rfl
  · exact (iO (prog := X.prog) (w := X.w) (I.ok.hd hc) it x t).done s _ _ st fin
  · exact (kc (prog := X.prog) (w := X.w) (I.ok.hd hc) it x t).done s _ _ st fin
 self := fun A i s Q E st h => by
  rcases hT with rfl | rfl
  · exact wpAny_pyIter_striter_ascii st h
  · exact wpAny_pyIter_striter_wide st h
def zph (tl : TE) : TI := fun σ H R => tl σ H fun x H1 => ∃ z, x = .str z /\ R (Its z) H1
theorem zpi (hl : PE X l tl) : PI X tg l (zph tl) := by
 intro pins s σ H R I h
 refine zP (hl pins s σ H _ I h) fun v s1 ⟨x, H1, I1, r1, q1⟩ => ?_
 obtain ⟨z, e, q⟩ := q1
 subst e
 obtain ⟨t, rfl⟩ := r1
 have fin : ∀ (o : Obj) (T : String), T = "str_ascii_iterator" \/ T = "str_iterator" -> o.cls = .type T -> o.data = .fields #[.str z t, .int 0 0] -> PIE X pins σ tg R (.ref s1.heap.objs.size) { s1 with heap := s1.heap.push o } := fun o T hT hc hd => by
  refine ⟨s1.heap.objs.size, [s1.heap.objs.size], _, _, H1, rfl, I1.kept (t' := s1.toks) fun b o e => ae _ e, zk0 _ z t T hT, ⟨o, ay _ (by obtain ⟨c0, d0, dt0, sl0⟩ := o; cases hd; rfl), hc, hd⟩, fun b hb => ?_, q⟩
  have e : b = s1.heap.objs.size := by simpa using hb
  subst e
  exact I1.fpOk (ax _) (I1.hok.fresh (ax _))
 cases ha : z.cps.all (· < 128)
 · exact wpAny_pyIter_wide ha (fin _ "str_iterator" (.inr rfl) rfl rfl)
 · exact wpAny_pyIter_ascii ha (fin _ "str_ascii_iterator" (.inl rfl) rfl rfl)
theorem zk1 (hc : X.calm = true) : jB X (.builtin "all") (fun xs H Q => ∃ (a : Addr) (bs : List Bool), xs = [.ref a] /\ y8 X.K H a (bs.map V.bl) /\ Q (.bl (bs.all id)) H) := by
 intro pins s σ H xs us Q I rv h
 obtain ⟨a, bs, rfl, hq, q⟩ := h
 obtain ⟨u, rfl, ru⟩ := rv.one
 cases ru
 obtain ⟨its, r, pl, hz⟩ := I.list hq
 have hlt : a < s.heap.objs.size := by obtain ⟨o, n, e, _⟩ := pl; exact aw e
 refine call_all_walk (bJ pl.isList ⟨_, _, _, _, _, _, fun i => bs.getD i true, rfl, dX (by simpa using I.ok.hd hc) s.heap.objs.size a (az hlt) its.toArray, ⟨⟨_, ay _ rfl, rfl, rfl⟩, pl.isList.push _⟩, ?_, ?_⟩)
 · intro i v s' Q' E' hP hQ
   have hv : its[i]? = some v := by simpa using hP
   have hi : i < its.length := (aD.mp hv).1
   have hl := r.length
   rw [ap] at hl
   obtain ⟨u, hu, ru⟩ := r.get (i := i) (x := .bl (bs.getD i true)) (by
    rw [ar, ac (by omega), aC, ac (by omega)]; rfl)
   rw [hv] at hu; cases hu; cases ru
   exact aX hQ
 · intro h' tk kk
   have hl := r.length
   rw [ap] at hl
   have e : (aT its.toArray.size).all (fun i => bs.getD i true) = bs.all id := by
    rw [ak, ← hl]
    rw [cV, aR, aR]
    constructor
    · intro z b hb
      obtain ⟨i, hi, e⟩ := List.mem_iff_getElem.mp hb
      have z' := z i (bm.mpr hi)
      rw [aC, ac hi, e] at z'
      exact z'
    · intro z i hi
      have hi' := bm.mp hi
      rw [aC, ac hi']
      exact z _ (fq hi')
   have I1 : Inv X pins σ H { s with heap := h', toks := tk } := I.kept fun b o e => kk b o (by simp only [cQ]; exact az (aw e)) (ae _ e)
   refine ⟨.bl (bs.all id), H, I1, ?_, q⟩
   rw [e]; rfl
end
def QO (xs : List y4) (k : y4) : Bool := xs.any fun y => decide (y = k)
theorem isIn_iff : QO xs k = true ↔ k ∈ xs := by
 unfold QO
 rw [dZ]
 constructor
 · rintro ⟨y, hy, e⟩; have := of_decide_eq_true e; subst this; exact hy
 · intro h; exact ⟨k, h, decide_eq_true rfl⟩
def jI : List y4 -> List y4 -> Nat
 | _, [] => 0
 | pre, x :: r => (if QO pre x then 0 else 1) + jI (pre ++ [x]) r
theorem VT : ∀ (r pre : List y4), jI pre r <= r.length
 | [], _ => ax _
 | x :: r, pre => by
  have := VT r (pre ++ [x])
  simp only [jI, au]
  split <;> omega
section
variable {prog : Program} {w : World} {A : Around} {R : Result -> Shared -> Prop}
end
section
variable {prog : Program} {w : World} {A : Around} {E : Value -> Shared -> Prop} {s : Shared}
abbrev J3 (led : Bool) : Obj := { cls := .type "set", dict := none, data := .set #[] 0 (.fresh 0 0 led) }
end
def zpj (P : Program) (w : World) (a : Addr) (ks : List y4) : HO := .ext fun h => h.SetOf (yw P w) a (QO ks) (jI [] ks)
section
variable {X : Cx}
theorem call_len_set : jB X (.builtin "len") (fun xs H Q => ∃ (a : Addr) (ks : List y4), xs = [.ref a] /\ H a = some (zpj X.prog X.w a ks) /\ Q (.int (jI [] ks)) H) := by
 intro pins s σ H xs us Q I rv h
 obtain ⟨a, ks, rfl, hq, q⟩ := h
 obtain ⟨u, rfl, ru⟩ := rv.one
 cases ru
 obtain ⟨hS, _, _⟩ := (show ObjOk X.prog X.w H s.heap a (zpj X.prog X.w a ks) from I.hok a _ hq)
 obtain ⟨o, es, ep, t, ho, hex, hd, hel, hmem, hb, hf, hn⟩ := hS
 have hb' : (es.size : Int) < 2 ^ 63 := by unfold cY at hb; omega
 have q' : Q (.int es.size) H := by rw [hn]; exact q
 exact g3 ho hex hd hf hb' ⟨.int es.size, H, I.tok _, ⟨_, rfl⟩, q'⟩
def zhy (a : Addr) : HO := .ext fun h => ∃ o, h.get? a = some o /\ o.cls = .type "dict"
inductive Ya (K : ai) (H : Hp) : V -> Value -> Prop where
 | of {x : V} {t : Value} (h : Q9 K H x t) : Ya K H x t
 | dict {a : Addr} (e : H a = some (zhy a)) : Ya K H (.ref a) (.type "dict")
theorem zed : jB X (.builtin "isinstance") (fun xs H Q => ∃ x t c b, xs = [x, .ty c] /\ Ya X.K H x t /\ eQ X.K t (.type c) = some b /\ Q (.bl b) H) := by
 intro pins s σ H xs us Q I rv h
 obtain ⟨x, t, c, b, rfl, ht, hk, q⟩ := h
 obtain ⟨u, u', rfl, ru, ru'⟩ := rv.two
 cases ru'
 cases ht with
 | of ht => exact zi1 I ru ht hk fun tk => ⟨.bl b, H, I.tok tk, rfl, q⟩
 | @dict a e =>
  cases (show u = Value.ref a from ru)
  obtain ⟨⟨o, ho, hc⟩, _, _⟩ := (show ObjOk X.prog X.w H s.heap a (zhy a) from I.hok a _ e)
  exact bd cD I.kIn ⟨o, ho, hc⟩ hk (fun z => nomatch z) fun tk => ⟨.bl b, H, I.tok tk, rfl, q⟩
end
def zgh (names outer : List (Str × NameKind)) (N' N : List Str) (js : List (Option Nat)) : Bool :=
 names.all (fun y => decide (y.2 ≠ .cell) && (decide (y.2 ≠ .local) || decide (names.lookup y.1 = some .local)) && (decide (y.2 ≠ .free) || (decide (outer.lookup y.1 = some .cell) || decide (outer.lookup y.1 = some .free))))
 && decide (js.length = N'.length) && (js.zip N').all fun p => match p.1 with | none => true | some j => decide (N[j]? = some p.2) && decide (names.lookup p.2 = some .free)
theorem CompOk.of_b {X : Cx} {scope : Scope} (hk : scope.kind = .function) (h : zgh scope.names X.env.scope.names N' X.N js = true) : CompOk X N' js scope := by
 unfold zgh at h
 simp only [aN, aR, iH, decide_eq_true_eq] at h
 obtain ⟨⟨h1, h2⟩, h3⟩ := h
 refine ⟨hk, fun y hy => (h1 y hy).1.1, fun y hy e => (h1 y hy).1.2.elim (fun z => absurd e z) id, fun y hy e => (h1 y hy).2.elim (fun z => absurd e z) id, h2, fun i j x e1 e2 => ?_⟩
 have hm : (some j, x) ∈ js.zip N' := by
  refine fV.mpr ⟨i, ?_⟩
  rw [e7]
  exact ⟨e1, e2⟩
 have q := h3 _ hm
 simp only [aN, decide_eq_true_eq] at q
 exact q
def Has (P : Program) (w : World) (K : ai) (mg : Str -> Option Value) (base : Heap) (x : Str) (k : Nat) (ps : List Str) (sp : Sp) : Prop :=
 ∃ f fd, FnOk P w K mg base yd k f fd ps sp /\ Binds K fd ps [] /\ ba K (.ref f) = true /\ mg x = some (.ref f)
section
variable {X : Cx} {x : Str} {k : Nat} {ps : List Str} {sp : Sp} {p pos : Pos} {e : Expr} {es : List Expr} {t : TA}
theorem UX (h : Has X.prog X.w X.K X.mg X.base x k ps sp) (hr : Room k X.A) (hg : Gl X x) (ha : PA X (e :: es) t) (hd : (x == ("__debug__" : Str)) = false := by decide)
 (hs : am (e :: es) X.env = (false, eval e X.env) :: am es X.env := by rfl) (hp : (backTo pos (am es X.env)).any (·.1) = false := by rfl) :
 PE X (.Call (.Name x p) (e :: es) [] pos) (WF sp [] E0 t) := by
 obtain ⟨f, fd, G, b, kp, m⟩ := h
 exact zng G hr hg m kp b .nil zdE ha hd hs hp
end
def ZJ : List Expr -> Option (List Str)
 | [] => some []
 | .Constant (.str x) _ _ :: r => (ZJ r).map (x :: ·)
 | _ => none
def zmA (ss : List Str) : TA := fun _ H Q => Q (ss.map V.str) H
theorem zgi : ∀ {es : List Expr} {ss : List Str}, ZJ es = some ss -> PA X es (zmA ss)
 | [], ss, h => by
  cases h
  intro pos pins s σ H Q I hq
  exact jt pos pins s σ H Q I hq
 | e :: es, ss, h => by
  cases e with
  | Constant c j p =>
   cases c with
   | str x =>
    have h' : (ZJ es).map (x :: ·) = some ss := h
    cases hr : ZJ es with
    | none => rw [hr] at h'; cases h'
    | some r =>
     rw [hr] at h'
     cases h'
     exact fun pos pins s σ H Q I hq => yK ziM (zgi hr) rfl pos pins s σ H Q I hq
   | _ => exact nomatch h
  | _ => exact nomatch h
section
variable {X : Cx} {N' : List Str} {js : List (Option Nat)} {scope : Scope} {tg elt iter : Expr} {ifs : List Expr} {pos : Pos} {wi : TI} {g : TG} {tc : TT} {te : TE}
end
section
variable {prog : Program} {w : World} {A : Around} {E : Value -> Shared -> Prop}
end
section
variable {X : Cx}
end
section
variable {X : Cx} {pins : List (Addr × Obj)} {σ : St} {H : Hp} {s : Shared}
end
section
variable {P : Program} {w : World} {K : ai} {mg : Str -> Option Value} {base : Heap} {N : List Str} {qual : Str} {scope : Scope} {f : Addr} {cd : Value} {A : Around} {outer : List Env} {s₀ : Shared} {H₀ : Hp} {E E₀ : XK}
end
def zrF (e : Addr) (cls : Value) (h : Heap) : Prop := ∃ oe vs, h.get? e = some oe /\ oe.cls = cls /\ oe.data = .fields vs
section
variable {X : Cx} {pins : List (Addr × Obj)} {σ : St} {H : Hp} {s : Shared}
end
section
variable {X : Cx} {CX : UA} {k : Nat} {f C : Addr} {fd : FuncData} {ps : List Str} {sp : Sp} {dvs : List V} {ds : List Value} {E : St -> XK} {x m : Str} {p pos apos : Pos} {e o : Expr} {es : List Expr} {ta : TE} {t : TA}
end
theorem zcL : ∀ {ds : List Addr} {its : List Value}, Vals (ds.map V.ref) its -> its = ds.map Value.ref
 | [], _, .nil => rfl
 | d :: ds, _, .cons r t => by rw [zcL t]; cases r; rfl
section
variable {X : Cx}
end
inductive DQ (H : Hp) : Nat -> V -> V -> Bool -> Prop where
 | fl {n : Nat} {x y : V} (fx : J8 x = true) (fy : J8 y = true) : DQ H n x y (QN x y)
 | ll {n : Nat} {a b : Addr} {xs ys : List V} (e : Nat -> Bool) (ha : H a = some (.lst xs)) (hb : H b = some (.lst ys)) (hl : xs.length = ys.length) (h : ∀ (j : Nat) x y, xs[j]? = some x -> ys[j]? = some y -> DQ H n x y (e j)) : DQ H (n + 1) (.ref a) (.ref b) ((aT xs.length).all e)
 | ln {n : Nat} {a b : Addr} {xs ys : List V} (ha : H a = some (.lst xs)) (hb : H b = some (.lst ys)) (hl : xs.length ≠ ys.length) : DQ H (n + 1) (.ref a) (.ref b) false
 | tt {n : Nat} {a b : Addr} {xs ys : List V} (e : Nat -> Bool) (ha : H a = some (.tup xs)) (hb : H b = some (.tup ys)) (h : ∀ (j : Nat) x y, xs[j]? = some x -> ys[j]? = some y -> DQ H n x y (e j)) : DQ H (n + 1) (.ref a) (.ref b) ((aT (min xs.length ys.length)).all e && xs.length == ys.length)
 | lt {n : Nat} {a b : Addr} {xs ys : List V} (ha : H a = some (.lst xs)) (hb : H b = some (.tup ys)) : DQ H (n + 1) (.ref a) (.ref b) false
 | tl {n : Nat} {a b : Addr} {xs ys : List V} (ha : H a = some (.tup xs)) (hb : H b = some (.lst ys)) : DQ H (n + 1) (.ref a) (.ref b) false
theorem zk2 (h : J8 x = true) : QN x x = true := by
 cases x with
 | non => rfl
 | bl b => simp [QN]
 | int b => simp [QN]
 | str b => simp [QN]
 | _ => cases h
theorem zgj (h : DQ H n x y b) : x = y -> b = true := by
 induction h with
 | fl fx fy => intro e; subst e; exact zk2 fx
 | ll e ha hb hl h ih =>
  intro z; cases z
  rw [ha] at hb; cases hb
  rw [aR]
  intro j hj
  have hj := bm.mp hj
  exact ih j _ _ (ac hj) (ac hj) rfl
 | ln ha hb hl => intro z; cases z; rw [ha] at hb; cases hb; exact absurd rfl hl
 | tt e ha hb h ih =>
  intro z; cases z
  rw [ha] at hb; cases hb
  rw [ku, aN]
  refine ⟨?_, by simp⟩
  rw [aR]
  intro j hj
  have hj := bm.mp hj
  exact ih j _ _ (ac hj) (ac hj) rfl
 | lt ha hb => intro z; cases z; rw [ha] at hb; cases hb
 | tl ha hb => intro z; cases z; rw [ha] at hb; cases hb
section
variable {X : Cx} {pins : List (Addr × Obj)} {σ : St} {H : Hp} {s : Shared}
theorem UY {us ws : List Value} {e : Nat -> Bool} (rx : Vals xs us) (ry : Vals ys ws) (h : ∀ (j : Nat) x y u v, xs[j]? = some x -> ys[j]? = some y -> RelV x u -> RelV y v -> fD A s u v (e j)) (j : Nat) (h1 : j < us.toArray.size) (h2 : j < ws.toArray.size) :
 fD A s us.toArray[j] ws.toArray[j] (e j) := by
 have l1 : j < us.length := by simpa using h1
 have l2 : j < ws.length := by simpa using h2
 have e1 := rx.length
 have e2 := ry.length
 obtain ⟨u, hu, ru⟩ := rx.get (i := j) (x := xs[j]'(by omega)) (ac _)
 obtain ⟨v, hv, rv⟩ := ry.get (i := j) (x := ys[j]'(by omega)) (ac _)
 have q1 : us.toArray[j] = u := by
  have : us[j]? = some us[j] := ac l1
  rw [hu] at this; cases this; simp
 have q2 : ws.toArray[j] = v := by
  have : ws[j]? = some ws[j] := ac l2
  rw [hv] at this; cases this; simp
 rw [q1, q2]
 exact h j _ _ u v (ac (by omega)) (ac (by omega)) ru rv
theorem zmB (I : Inv X pins σ H s) (h : DQ H n x y b) : ∀ (A : Around) (u v : Value), A.units + n < cLine -> RelV x u -> RelV y v -> fD A s u v b := by
 induction h with
 | fl fx fy => intro A u v _ ru rv; exact zi5 ru rv fx fy
 | @ll n a c xs ys e ha hb hl h ih =>
  intro A u v hu ru rv
  have self := zgj (DQ.ll e ha hb hl h)
  cases ru; cases rv
  by_cases z : a = c
  · subst z
    rw [self rfl]; exact fQ _
  · obtain ⟨us, ra, pa, za⟩ := I.list (.inl (.inl ha))
    obtain ⟨ws, rb, pb, zb⟩ := I.list (.inl (.inl hb))
    have e1 := ra.length
    have e2 := rb.length
    have := SeqAt.RcAt.lists (A := A) pa.isList pb.isList (by simp; omega) (by omega) (UY ra rb fun j x y u v h1 h2 r1 r2 => ih j x y h1 h2 A.in1 u v (by rw [d4]; omega) r1 r2)
    rw [ak, ← e1] at this
    exact eV z this
 | @ln n a c xs ys ha hb hl =>
  intro A u v hu ru rv
  cases ru; cases rv
  have z : a ≠ c := fun z => by subst z; rw [ha] at hb; cases hb; exact hl rfl
  obtain ⟨us, ra, pa, za⟩ := I.list (.inl (.inl ha))
  obtain ⟨ws, rb, pb, zb⟩ := I.list (.inl (.inl hb))
  have e1 := ra.length
  have e2 := rb.length
  exact eV z (SeqAt.RcAt.lists_lengths pa.isList pb.isList (by simp; omega) (by omega))
 | @tt n a c xs ys e ha hb h ih =>
  intro A u v hu ru rv
  have self := zgj (DQ.tt e ha hb h)
  cases ru; cases rv
  by_cases z : a = c
  · subst z
    rw [self rfl]; exact fQ _
  · obtain ⟨us, ra, pa, za⟩ := I.tuple (.inl (.inl ha))
    obtain ⟨ws, rb, pb, zb⟩ := I.tuple (.inl (.inl hb))
    have e1 := ra.length
    have e2 := rb.length
    have := SeqAt.RcAt.tuples (A := A) pa pb (by omega) (UY ra rb fun j x y u v h1 h2 r1 r2 => ih j x y h1 h2 A.in1 u v (by rw [d4]; omega) r1 r2)
    rw [ak, ak, ← e1, ← e2] at this
    exact eV z this
 | @lt n a c xs ys ha hb =>
  intro A u v hu ru rv
  cases ru; cases rv
  obtain ⟨us, ra, pa, za⟩ := I.list (.inl (.inl ha))
  obtain ⟨ws, rb, pb, zb⟩ := I.tuple (.inl (.inl hb))
  exact fD.list_tuple pa.isList pb (by omega)
 | @tl n a c xs ys ha hb =>
  intro A u v hu ru rv
  cases ru; cases rv
  obtain ⟨us, ra, pa, za⟩ := I.tuple (.inl (.inl ha))
  obtain ⟨ws, rb, pb, zb⟩ := I.list (.inl (.inl hb))
  exact fD.tuple_list pa pb.isList (by omega)
def zhz : V -> Bool | .ref _ => true | _ => false
def zpk (neg : Bool) : R2 := fun x y H Q => ∃ b, DQ H 40 x y b /\ zhz x = true /\ zhz y = true /\ Q (.bl (if neg then !b else b)) H
theorem zpl (hu : X.A.units + 41 < cLine) : jz X (a9 .NotEq) (zpk true) := by
 intro pins s σ H x y v u Q I rx ry h
 obtain ⟨b, hd, i1, i2, q⟩ := h
 cases hd with
 | fl fx fy =>
  cases x with
  | ref a => cases fx
  | _ => cases i1
 | @ll n a c xs ys e ha hb hl h =>
  cases rx; cases ry
  obtain ⟨us, ra, pa, za⟩ := I.list (.inl (.inl ha))
  obtain ⟨ws, rb, pb, zb⟩ := I.list (.inl (.inl hb))
  have e1 := ra.length
  have e2 := rb.length
  have := SeqAt.RcNeAt.lists (A := X.A) pa.isList pb.isList (by simp; omega) (by omega) (UY ra rb fun j x y u v h1 h2 r1 r2 => zmB I (h j x y h1 h2) X.A.in1 u v (by rw [d4]; omega) r1 r2)
  exact this X.prog X.w X.xe _ (zS I q (by rw [ak, ← e1]; rfl))
 | @ln n a c xs ys ha hb hl =>
  cases rx; cases ry
  obtain ⟨us, ra, pa, za⟩ := I.list (.inl (.inl ha))
  obtain ⟨ws, rb, pb, zb⟩ := I.list (.inl (.inl hb))
  have e1 := ra.length
  have e2 := rb.length
  exact SeqAt.RcNeAt.lists_lengths pa.isList pb.isList (by simp; omega) (by omega) X.prog X.w X.xe _ (zS I q rfl)
 | @tt n a c xs ys e ha hb h =>
  cases rx; cases ry
  obtain ⟨us, ra, pa, za⟩ := I.tuple (.inl (.inl ha))
  obtain ⟨ws, rb, pb, zb⟩ := I.tuple (.inl (.inl hb))
  have e1 := ra.length
  have e2 := rb.length
  have := SeqAt.RcNeAt.tuples (A := X.A) pa pb (by omega) (UY ra rb fun j x y u v h1 h2 r1 r2 => zmB I (h j x y h1 h2) X.A.in1 u v (by rw [d4]; omega) r1 r2)
  exact this X.prog X.w X.xe _ (zS I q (by rw [ak, ak, ← e1, ← e2]; rfl))
 | @lt n a c xs ys ha hb =>
  cases rx; cases ry
  obtain ⟨us, ra, pa, za⟩ := I.list (.inl (.inl ha))
  obtain ⟨ws, rb, pb, zb⟩ := I.tuple (.inl (.inl hb))
  exact SeqAt.RcNeAt.list_tuple pa.isList pb (by omega) X.prog X.w X.xe _ (zS I q rfl)
 | @tl n a c xs ys ha hb =>
  cases rx; cases ry
  obtain ⟨us, ra, pa, za⟩ := I.tuple (.inl (.inl ha))
  obtain ⟨ws, rb, pb, zb⟩ := I.list (.inl (.inl hb))
  exact SeqAt.RcNeAt.tuple_list pa pb.isList (by omega) X.prog X.w X.xe _ (zS I q rfl)
end
end L2
namespace M
open PySem L2
inductive D where
 | non | bl (b : Bool) | int (i : Int) | str (x : Str) | ty (n : String)
 | lst (xs : List D) | tup (xs : List D) | fz (ns : List Int)
 | dK (kvs : List (y4 × D)) | dT (kvs : List (List y4 × D))
 | obj (c : Nat) (fs : List (Nat × D))
 | exc (k : Nat)
 | kt (xs : List Str)
 | kd (kvs : List (Str × List Str))
inductive Slot where
 | no | val (d : D) | own (o : D)
abbrev Env := List Slot
def fNames : List Str := ["many", "names", "least", "pairs", "each", "houses", "wishes", "one", "other", "name", "ask", "value", "stamp", "seal", "at"]
def yS (n : Nat) : Str := fNames.getD n ""
theorem zgk (a f : Nat) (hf : f < fNames.length) (h : yS a = yS f) : a = f := by
 by_cases ha : a < fNames.length
 · have : ∀ a, a < 15 -> ∀ f, f < 15 -> yS a = yS f -> a = f := by decide +kernel
   exact this a ha f hf h
 · have e : yS a = "" := by
    unfold yS
    rw [aC, bz (by omega)]; rfl
   have : ∀ f, f < 15 -> yS f ≠ "" := by decide +kernel
   exact absurd (h.symm.trans e) (this f hf)
structure Cn where
 K : ai
 cls : Nat -> Option Addr
def KnL (K : ai) (a : Addr) (xs : List V) : Prop :=
 ∃ (o : Obj) (its : Array Value) (n : Nat), K.lookup a = some o /\ o.cls = .type "list" /\ o.dict = none /\ o.data = .seq its n /\ its.size <= aF /\ Vals xs its.toList
def KnT (K : ai) (a : Addr) (xs : List V) : Prop :=
 ∃ (o : Obj) (its : Array Value) (n : Nat), K.lookup a = some o /\ o.cls = .type "tuple" /\ o.data = .seq its n /\ its.size <= aF /\ Vals xs its.toList
def KnD (K : ai) (a : Addr) (kvs : List (Str × List Str)) : Prop :=
 (a == g6) = false /\ ∃ (o : Obj) (es : Array DictEntry) (n : Nat), K.lookup a = some o /\ o.ExactDict /\ o.data = .dict es n /\ PyProof.Rows.KTD.Rows (fun (ss : List Str) v => ∃ t, v = .ref t /\ KnT K t (ss.map V.str)) es.toList kvs
inductive Rep (Γ : Cn) (E : Addr -> Prop) (H : Hp) : V -> D -> Prop where
 | non : Rep Γ E H .non .non
 | bl (b : Bool) : Rep Γ E H (.bl b) (.bl b)
 | int (i : Int) : Rep Γ E H (.int i) (.int i)
 | str (x : Str) : Rep Γ E H (.str x) (.str x)
 | ty (n : String) : Rep Γ E H (.ty n) (.ty n)
 | lst {a : Addr} {xs : List V} {ds : List D} (ne : ¬ E a) (h : H a = some (.lst xs)) (l : xs.length = ds.length) (r : ∀ (i : Nat) v d, xs[i]? = some v -> ds[i]? = some d -> Rep Γ E H v d) : Rep Γ E H (.ref a) (.lst ds)
 | fz {a : Addr} {ns : List Int} (h : (¬ E a /\ Rd H a (.lst (ns.map V.int))) \/ KnL Γ.K a (ns.map V.int)) : Rep Γ E H (.ref a) (.fz ns)
 | tup {a : Addr} {xs : List V} {ds : List D} (ne : ¬ E a) (h : H a = some (.tup xs)) (l : xs.length = ds.length) (r : ∀ (i : Nat) v d, xs[i]? = some v -> ds[i]? = some d -> Rep Γ E H v d) : Rep Γ E H (.ref a) (.tup ds)
 | dK {a : Addr} {ks : List (y4 × V)} {ds : List (y4 × D)} (ne : ¬ E a) (h : H a = some (.dK ks)) (l : ks.map (·.1) = ds.map (·.1)) (r : ∀ (i : Nat) v d, (ks.map (·.2))[i]? = some v -> (ds.map (·.2))[i]? = some d -> Rep Γ E H v d) : Rep Γ E H (.ref a) (.dK ds)
 | dT {a : Addr} {ks : List (List y4 × V)} {ds : List (List y4 × D)} (ne : ¬ E a) (h : H a = some (.dT ks)) (l : ks.map (·.1) = ds.map (·.1)) (r : ∀ (i : Nat) v d, (ks.map (·.2))[i]? = some v -> (ds.map (·.2))[i]? = some d -> Rep Γ E H v d) : Rep Γ E H (.ref a) (.dT ds)
 | obj {a C dx : Addr} {c : Nat} {gs : List (Str × V)} {fs : List (Nat × D)} (ne : ¬ E a) (hc : Γ.cls c = some C) (h : H a = some (.ins C dx gs)) (l : gs.map (·.1) = fs.map fun x => yS x.1) (r : ∀ (i : Nat) v d, (gs.map (·.2))[i]? = some v -> (fs.map (·.2))[i]? = some d -> Rep Γ E H v d) : Rep Γ E H (.ref a) (.obj c fs)
 | exc {a C : Addr} {k : Nat} (ne : ¬ E a) (hc : Γ.cls k = some C) (h : H a = some (.ext (zrF a (.ref C)))) : Rep Γ E H (.ref a) (.exc k)
 | kt {a : Addr} {xs : List Str} (h : KnT Γ.K a (xs.map V.str)) : Rep Γ E H (.ref a) (.kt xs)
 | kd {a : Addr} {kvs : List (Str × List Str)} (h : KnD Γ.K a kvs) : Rep Γ E H (.ref a) (.kd kvs)
def Reps (Γ : Cn) (E : Addr -> Prop) (H : Hp) (xs : List V) (ds : List D) : Prop := xs.length = ds.length /\ ∀ (i : Nat) v d, xs[i]? = some v -> ds[i]? = some d -> Rep Γ E H v d
section
variable {Γ : Cn} {E E' : Addr -> Prop} {H H' : Hp}
theorem zqD (h : Rd H a u) : H a ≠ none := by
 rcases h with h | ⟨o, h⟩ <;> rw [h] <;> simp
theorem znp (h : Rd H a u) (k : ∀ o, H a = some o -> H' a = some o) : Rd H' a u := by
 rcases h with h | ⟨o, h⟩
 · exact .inl (k _ h)
 · exact .inr ⟨o, k _ h⟩
theorem Rep.up (r : Rep Γ E H v d) (he : ∀ b, H b ≠ none -> E' b -> E b) (k : ∀ b o, ¬ E b -> H b = some o -> H' b = some o) : Rep Γ E' H' v d := by
 induction r with
 | non => exact .non
 | bl b => exact .bl b
 | int i => exact .int i
 | str x => exact .str x
 | ty n => exact .ty n
 | lst ne h l _ ih => exact .lst (fun z => ne (he _ (by rw [h]; simp) z)) (k _ _ ne h) l ih
 | fz h => exact .fz (h.imp (fun ⟨ne, h⟩ => ⟨fun z => ne (he _ (zqD h) z), znp h fun o => k _ o ne⟩) id)
 | tup ne h l _ ih => exact .tup (fun z => ne (he _ (by rw [h]; simp) z)) (k _ _ ne h) l ih
 | dK ne h l _ ih => exact .dK (fun z => ne (he _ (by rw [h]; simp) z)) (k _ _ ne h) l ih
 | dT ne h l _ ih => exact .dT (fun z => ne (he _ (by rw [h]; simp) z)) (k _ _ ne h) l ih
 | obj ne hc h l _ ih => exact .obj (fun z => ne (he _ (by rw [h]; simp) z)) hc (k _ _ ne h) l ih
 | exc ne hc h => exact .exc (fun z => ne (he _ (by rw [h]; simp) z)) hc (k _ _ ne h)
 | kt h => exact .kt h
 | kd h => exact .kd h
theorem Reps.up (r : Reps Γ E H xs ds) (he : ∀ b, H b ≠ none -> E' b -> E b) (k : ∀ b o, ¬ E b -> H b = some o -> H' b = some o) : Reps Γ E' H' xs ds := ⟨r.1, fun i v d h1 h2 => (r.2 i v d h1 h2).up he k⟩
theorem Reps.nil : Reps Γ E H [] [] := ⟨rfl, fun i v d h => by simp at h⟩
theorem Reps.cons (h : Rep Γ E H v d) (r : Reps Γ E H xs ds) : Reps Γ E H (v :: xs) (d :: ds) := by
 refine ⟨by simp [r.1], fun i v' d' h1 h2 => ?_⟩
 cases i with
 | zero => simp at h1 h2; subst h1 h2; exact h
 | succ i => simp at h1 h2; exact r.2 i v' d' h1 h2
theorem Reps.head (r : Reps Γ E H (v :: xs) (d :: ds)) : Rep Γ E H v d := r.2 0 v d rfl rfl
theorem Reps.tail (r : Reps Γ E H (v :: xs) (d :: ds)) : Reps Γ E H xs ds := ⟨by simpa using r.1, fun i v' d' h1 h2 => r.2 (i + 1) v' d' (by simpa using h1) (by simpa using h2)⟩
theorem Reps.append (a : Reps Γ E H xs ds) (b : Reps Γ E H ys es) : Reps Γ E H (xs ++ ys) (ds ++ es) := by
 induction xs generalizing ds with
 | nil => have h := a.1; cases ds with | nil => exact b | cons _ _ => simp at h
 | cons x xs ih => cases ds with | nil => have h := a.1; simp at h | cons d ds => exact .cons a.head (ih a.tail)
theorem Reps.get {xs : List V} {ds : List D} {i : Nat} {d : D} (r : Reps Γ E H xs ds) (h : ds[i]? = some d) : ∃ v, xs[i]? = some v /\ Rep Γ E H v d := by
 have hl := r.1
 have hi : i < xs.length := by rw [hl]; exact (aD.mp h).1
 exact ⟨xs[i], ac hi, r.2 i _ d (ac hi) h⟩
theorem Reps.sub {xs' : List V} {ds' : List D} (r : Reps Γ E H xs ds) (hl : xs'.length = ds'.length) (h : ∀ (i : Nat) v d, xs'[i]? = some v -> ds'[i]? = some d -> ∃ (j : Nat), xs[j]? = some v /\ ds[j]? = some d) : Reps Γ E H xs' ds' :=
 ⟨hl, fun i v d h1 h2 => let ⟨j, a, b⟩ := h i v d h1 h2; r.2 j v d a b⟩
theorem Reps.drop {xs : List V} {ds : List D} (r : Reps Γ E H xs ds) (n : Nat) : Reps Γ E H (xs.drop n) (ds.drop n) :=
 r.sub (by simp [r.1]) fun i v d h1 h2 => ⟨n + i, by simpa using h1, by simpa using h2⟩
theorem Reps.take {xs : List V} {ds : List D} (r : Reps Γ E H xs ds) (n : Nat) : Reps Γ E H (xs.take n) (ds.take n) :=
 r.sub (by simp [r.1]) fun i v d h1 h2 => by
  rw [List.getElem?_take] at h1 h2
  split at h1
  · rename_i hi; rw [if_pos hi] at h2; exact ⟨i, h1, h2⟩
  · cases h1
theorem Reps.set {xs : List V} {ds : List D} (r : Reps Γ E H xs ds) (j : Nat) (h : Rep Γ E H v d) : Reps Γ E H (xs.set j v) (ds.set j d) := by
 refine ⟨by simp [r.1], fun i v' d' h1 h2 => ?_⟩
 rw [bg] at h1 h2
 by_cases e : j = i
 · subst e
   rw [if_pos rfl] at h1 h2
   split at h1
   · split at h2
     · cases h1; cases h2; exact h
     · cases h2
   · cases h1
 · rw [if_neg e] at h1 h2
   exact r.2 i v' d' h1 h2
theorem Reps.eraseIdx {xs : List V} {ds : List D} (r : Reps Γ E H xs ds) (j : Nat) : Reps Γ E H (xs.eraseIdx j) (ds.eraseIdx j) := by
 rw [bi, bi]
 exact (r.take j).append (r.drop (j + 1))
theorem Reps.reverse {xs : List V} {ds : List D} (r : Reps Γ E H xs ds) : Reps Γ E H xs.reverse ds.reverse := by
 induction xs generalizing ds with
 | nil => have h := r.1; cases ds with | nil => exact r | cons _ _ => simp at h
 | cons x xs ih => cases ds with
  | nil => have h := r.1; simp at h
  | cons d ds => rw [dN, dN]; exact (ih r.tail).append (.cons r.head .nil)
theorem Rep.list (r : Rep Γ E H v (.lst ds)) : ∃ a xs, v = .ref a /\ H a = some (.lst xs) /\ Reps Γ E H xs ds := by
 cases r with
 | lst ne h l r => exact ⟨_, _, rfl, h, l, r⟩
theorem Rep.script {ns : List Int} (r : Rep Γ E H v (.fz ns)) : ∃ a, v = .ref a /\ y8 Γ.K H a (ns.map V.int) := by
 cases r with
 | fz h => exact ⟨_, rfl, h.imp (fun z => z.2) id⟩
theorem Rep.kept {xs : List Str} (r : Rep Γ E H v (.kt xs)) : ∃ a, v = .ref a /\ SqT Γ.K H a (xs.map V.str) := by
 cases r with
 | kt h => exact ⟨_, rfl, .inr h⟩
theorem Rep.table (r : Rep Γ E H v (.kd kvs)) : ∃ a, v = .ref a /\ KnD Γ.K a kvs := by
 cases r with
 | kd h => exact ⟨_, rfl, h⟩
theorem Rep.tuple (r : Rep Γ E H v (.tup ds)) : ∃ a xs, v = .ref a /\ H a = some (.tup xs) /\ Reps Γ E H xs ds := by
 cases r with
 | tup ne h l r => exact ⟨_, _, rfl, h, l, r⟩
end
def OwnAt (Γ : Cn) (E : Addr -> Prop) (H : Hp) (p : Addr) : D -> Prop
 | .lst ds => ∃ xs, H p = some (.lst xs) /\ Reps Γ E H xs ds
 | .dK ds => ∃ ks, H p = some (.dK ks) /\ ks.map (·.1) = ds.map (·.1) /\ Reps Γ E H (ks.map (·.2)) (ds.map (·.2))
 | .dT ds => ∃ ks, H p = some (.dT ks) /\ ks.map (·.1) = ds.map (·.1) /\ Reps Γ E H (ks.map (·.2)) (ds.map (·.2))
 | .obj c fs => ∃ C dx gs, Γ.cls c = some C /\ H p = some (.ins C dx gs) /\ (gs.map (·.1) = fs.map fun x => yS x.1) /\ Reps Γ E H (gs.map (·.2)) (fs.map (·.2))
 | _ => False
section
variable {Γ : Cn} {E E' : Addr -> Prop} {H H' : Hp} {p : Addr} {o : D}
theorem OwnAt.ne0 (h : OwnAt Γ E H p o) : H p ≠ none := by
 cases o with
 | lst ds => obtain ⟨_, e, _⟩ := h; rw [e]; simp
 | dK ds => obtain ⟨_, e, _⟩ := h; rw [e]; simp
 | dT ds => obtain ⟨_, e, _⟩ := h; rw [e]; simp
 | obj c fs => obtain ⟨_, _, _, _, e, _⟩ := h; rw [e]; simp
 | _ => exact aa h
theorem OwnAt.up (h : OwnAt Γ E H p o) (hp : ∀ u, H p = some u -> H' p = some u) (he : ∀ b, H b ≠ none -> E' b -> E b) (k : ∀ b o, ¬ E b -> H b = some o -> H' b = some o) : OwnAt Γ E' H' p o := by
 cases o with
 | lst ds => obtain ⟨xs, e, r⟩ := h; exact ⟨xs, hp _ e, r.up he k⟩
 | dK ds => obtain ⟨xs, e, l, r⟩ := h; exact ⟨xs, hp _ e, l, r.up he k⟩
 | dT ds => obtain ⟨xs, e, l, r⟩ := h; exact ⟨xs, hp _ e, l, r.up he k⟩
 | obj c fs => obtain ⟨C, dx, gs, hc, e, l, r⟩ := h; exact ⟨C, dx, gs, hc, hp _ e, l, r.up he k⟩
 | _ => exact aa h
theorem OwnAt.rep (h : OwnAt Γ E H p o) (ne : ¬ E p) : Rep Γ E H (.ref p) o := by
 cases o with
 | lst ds => obtain ⟨xs, e, r⟩ := h; exact .lst ne e r.1 r.2
 | dK ds => obtain ⟨xs, e, l, r⟩ := h; exact .dK ne e l r.2
 | dT ds => obtain ⟨xs, e, l, r⟩ := h; exact .dT ne e l r.2
 | obj c fs => obtain ⟨C, dx, gs, hc, e, l, r⟩ := h; exact .obj ne hc e l r.2
 | _ => exact aa h
end
structure Fs where
 C : Addr -> Prop
 H0 : Hp
 pin : Nat -> Option Addr
def Fs.add (S : Fs) (p : Addr) : Fs := { S with C := fun a => S.C a \/ a = p }
def yZ (ρ : Env) (i : Nat) : Prop := ∃ o, ρ[i]? = some (.own o)
def zI (S : Fs) (σ : St) (ρ : Env) (a : Addr) : Prop := S.C a \/ ∃ i, yZ ρ i /\ σ[i]? = some (some (.ref a))
structure Rel (Γ : Cn) (S : Fs) (H : Hp) (σ : St) (ρ : Env) (τ : List (V × D)) : Prop where
 len : σ.length = ρ.length
 val : ∀ (i : Nat) d, ρ[i]? = some (.val d) -> ∃ v, σ[i]? = some (some v) /\ Rep Γ (zI S σ ρ) H v d
 own : ∀ (i : Nat) o, ρ[i]? = some (.own o) -> ∃ p, σ[i]? = some (some (.ref p)) /\ OwnAt Γ (zI S σ ρ) H p o /\ ¬ S.C p /\ (S.pin i = some p \/ (S.pin i = none /\ S.H0 p = none))
 pin : ∀ i p, S.pin i = some p -> σ[i]? = some (some (.ref p)) /\ yZ ρ i
 inj : ∀ i j p, yZ ρ i -> yZ ρ j -> σ[i]? = some (some (.ref p)) -> σ[j]? = some (some (.ref p)) -> i = j
 dom : ∀ a, S.C a -> H a ≠ none
 fr : ∀ b o, S.H0 b = some o -> (∀ i, S.pin i ≠ some b) -> H b = some o
 tmp : ∀ x ∈ τ, Rep Γ (zI S σ ρ) H x.1 x.2
section
variable {Γ : Cn} {S : Fs} {H H' : Hp} {σ : St} {ρ : Env} {τ : List (V × D)}
theorem Rel.grow (R : Rel Γ S H σ ρ τ) (g : Same H H') : Rel Γ S H' σ ρ τ where
 len := R.len
 val := fun i d h => let ⟨v, e, r⟩ := R.val i d h; ⟨v, e, r.up (fun _ _ z => z) fun b o _ q => g b o q⟩
 own := fun i o h => let ⟨p, e, r, q⟩ := R.own i o h; ⟨p, e, r.up (fun u => g p u) (fun _ _ z => z) fun b o _ q => g b o q, q⟩
 pin := R.pin
 inj := R.inj
 dom := fun a h z => by
  cases e : H a with
  | none => exact R.dom a h e
  | some o => rw [g a o e] at z; cases z
 fr := fun b o h n => g b o (R.fr b o h n)
 tmp := fun x hx => (R.tmp x hx).up (fun _ _ z => z) fun b o _ q => g b o q
theorem Rel.push (R : Rel Γ S H σ ρ τ) (h : Rep Γ (zI S σ ρ) H v d) : Rel Γ S H σ ρ ((v, d) :: τ) :=
 { R with tmp := fun x hx => (aB.mp hx).elim (fun e => by subst e; exact h) (R.tmp x) }
theorem Rel.pop (R : Rel Γ S H σ ρ (x :: τ)) : Rel Γ S H σ ρ τ /\ Rep Γ (zI S σ ρ) H x.1 x.2 :=
 ⟨{ R with tmp := fun y hy => R.tmp y (af _ hy) }, R.tmp x ao⟩
theorem y9 (R : Rel Γ S H σ ρ τ) (h : zI S σ ρ a) : H a ≠ none := by
 rcases h with h | ⟨i, ⟨o, ho⟩, e⟩
 · exact R.dom a h
 · obtain ⟨p, e', r, _⟩ := R.own i o ho
   rw [e] at e'; cases e'
   exact r.ne0
theorem Rel.add (R : Rel Γ S H σ ρ τ) (hp : H p = none) (h0 : S.H0 p = none) : Rel Γ (S.add p) (yc H p u) σ ρ τ := by
 have g : Same H (yc H p u) := fun b o q => by rw [z8 (yD q hp)]; exact q
 have he : ∀ b, H b ≠ none -> zI (S.add p) σ ρ b -> zI S σ ρ b := fun b hb h => by
  rcases h with (h | h) | h
  · exact .inl h
  · subst h; exact absurd hp hb
  · exact .inr h
 exact {
  len := R.len
  val := fun i d h => let ⟨v, e, r⟩ := R.val i d h; ⟨v, e, r.up he fun b o _ q => g b o q⟩
  own := fun i o h => by
   obtain ⟨q, e, r, n, pn⟩ := R.own i o h
   refine ⟨q, e, r.up (fun u => g q u) he fun b o _ q => g b o q, ?_, pn⟩
   rintro (z | z)
   · exact n z
   · subst z; exact r.ne0 hp
  pin := R.pin
  inj := R.inj
  dom := fun a h => by
   rcases h with h | h
   · have := R.dom a h
     have hne : a ≠ p := fun z => by subst z; exact this hp
     rw [z8 hne]; exact this
   · subst h; rw [jD]; simp
  fr := fun b o h n => g b o (R.fr b o h n)
  tmp := fun x hx => (R.tmp x hx).up he fun b o _ q => g b o q }
theorem Rel.unadd (R : Rel Γ (S.add p) H σ ρ τ) : Rel Γ S H σ ρ τ := by
 have he : ∀ b, H b ≠ none -> zI S σ ρ b -> zI (S.add p) σ ρ b := fun b _ h => h.elim (fun z => .inl (.inl z)) .inr
 exact {
  len := R.len
  val := fun i d h => let ⟨v, e, r⟩ := R.val i d h; ⟨v, e, r.up he fun _ _ _ q => q⟩
  own := fun i o h => let ⟨q, e, r, n, pn⟩ := R.own i o h; ⟨q, e, r.up (fun _ q => q) he fun _ _ _ q => q, fun z => n (.inl z), pn⟩
  pin := R.pin
  inj := R.inj
  dom := fun a h => R.dom a (.inl h)
  fr := R.fr
  tmp := fun x hx => (R.tmp x hx).up he fun _ _ _ q => q }
theorem Rel.new (R : Rel Γ S H σ ρ τ) (hp : H p = none) : S.H0 p = none := by
 cases e : S.H0 p with
 | none => rfl
 | some o =>
  by_cases h : ∃ i, S.pin i = some p
  · obtain ⟨i, hi⟩ := h
    obtain ⟨e1, o', ho⟩ := R.pin i p hi
    obtain ⟨q, e2, r, _⟩ := R.own i o' ho
    rw [e1] at e2; cases e2
    exact absurd hp r.ne0
  · have := R.fr p o e fun i z => h ⟨i, z⟩
    rw [hp] at this; cases this
theorem getElem?_set_ne {α : Type} {l : List α} {i j : Nat} {x : α} (h : i ≠ j) : (l.set i x)[j]? = l[j]? := by rw [bg, if_neg h]
theorem getElem?_set_here {α : Type} {l : List α} {i : Nat} {x y : α} (h : (l.set i x)[i]? = some y) : y = x := by
 rw [bg, if_pos rfl] at h
 split at h
 · cases h; rfl
 · cases h
theorem Rel.asg (R : Rel Γ S H σ ρ τ) {i : Nat} {v : V} {d : D} (hi : S.pin i = none) (h : Rep Γ (zI S σ ρ) H v d) : Rel Γ S H (σ.set i (some v)) (ρ.set i (.val d)) τ := by
 have own_ne : ∀ j, yZ (ρ.set i (.val d)) j -> j ≠ i /\ yZ ρ j := fun j ⟨o, ho⟩ => by
  by_cases e : i = j
  · subst e; cases getElem?_set_here ho
  · rw [getElem?_set_ne e] at ho; exact ⟨bn e, o, ho⟩
 have he : ∀ b, H b ≠ none -> zI S (σ.set i (some v)) (ρ.set i (.val d)) b -> zI S σ ρ b := fun b _ h => by
  rcases h with h | ⟨j, hj, e⟩
  · exact .inl h
  · obtain ⟨ne, oj⟩ := own_ne j hj
    rw [getElem?_set_ne (bn ne)] at e
    exact .inr ⟨j, oj, e⟩
 have keep : ∀ b o, ¬ zI S σ ρ b -> H b = some o -> H b = some o := fun _ _ _ q => q
 exact {
  len := by simp [R.len]
  val := fun j e hj => by
   by_cases eq : i = j
   · subst eq
     have e1 := getElem?_set_here hj
     cases e1
     have hl : i < σ.length := by
      rw [R.len]
      have := (aD.mp hj).1
      simpa using this
     exact ⟨v, by rw [bg, if_pos rfl, if_pos hl], h.up he keep⟩
   · rw [getElem?_set_ne eq] at hj
     obtain ⟨w, e1, r⟩ := R.val j e hj
     exact ⟨w, by rw [getElem?_set_ne eq]; exact e1, r.up he keep⟩
  own := fun j o hj => by
   have ne := (own_ne j ⟨o, hj⟩).1
   rw [getElem?_set_ne (bn ne)] at hj
   obtain ⟨p, e1, r, n, pn⟩ := R.own j o hj
   exact ⟨p, by rw [getElem?_set_ne (bn ne)]; exact e1, r.up (fun _ q => q) he keep, n, pn⟩
  pin := fun j p hj => by
   have ne : i ≠ j := fun z => by subst z; rw [hi] at hj; cases hj
   obtain ⟨a, o, b⟩ := R.pin j p hj
   exact ⟨by rw [getElem?_set_ne ne]; exact a, o, by rw [getElem?_set_ne ne]; exact b⟩
  inj := fun j k p hj hk e1 e2 => by
   obtain ⟨nj, oj⟩ := own_ne j hj
   obtain ⟨nk, ok⟩ := own_ne k hk
   rw [getElem?_set_ne (bn nj)] at e1
   rw [getElem?_set_ne (bn nk)] at e2
   exact R.inj j k p oj ok e1 e2
  dom := R.dom
  fr := R.fr
  tmp := fun x hx => (R.tmp x hx).up he keep }
theorem Rel.asgOwn {p : Addr} (R : Rel Γ (S.add p) H σ ρ τ) {i : Nat} {o : D} (hi : S.pin i = none) (h : OwnAt Γ (zI (S.add p) σ ρ) H p o) (h0 : S.H0 p = none) (hp : ¬ S.C p) : Rel Γ S H (σ.set i (some (.ref p))) (ρ.set i (.own o)) τ := by
 have own_ne : ∀ j, j ≠ i -> yZ (ρ.set i (.own o)) j -> yZ ρ j := fun j hj ⟨o', ho⟩ => by
  rw [getElem?_set_ne (bn hj)] at ho; exact ⟨o', ho⟩
 have notp : ∀ j q, yZ ρ j -> σ[j]? = some (some (.ref q)) -> q ≠ p := fun j q ⟨o', ho⟩ e z => by
  obtain ⟨q', e1, _, n, _⟩ := R.own j o' ho
  rw [e] at e1; cases e1
  exact n (.inr z)
 have he : ∀ b, H b ≠ none -> zI S (σ.set i (some (.ref p))) (ρ.set i (.own o)) b -> zI (S.add p) σ ρ b := fun b _ h => by
  rcases h with h | ⟨j, hj, e⟩
  · exact .inl (.inl h)
  · by_cases ne : j = i
    · subst ne
      rw [bg, if_pos rfl] at e
      split at e
      · cases e; exact .inl (.inr rfl)
      · cases e
    · rw [getElem?_set_ne (bn ne)] at e
      exact .inr ⟨j, own_ne j ne hj, e⟩
 have keep : ∀ b o, ¬ zI (S.add p) σ ρ b -> H b = some o -> H b = some o := fun _ _ _ q => q
 exact {
  len := by simp [R.len]
  val := fun j e hj => by
   by_cases eq : i = j
   · subst eq; cases getElem?_set_here hj
   · rw [getElem?_set_ne eq] at hj
     obtain ⟨w, e1, r⟩ := R.val j e hj
     exact ⟨w, by rw [getElem?_set_ne eq]; exact e1, r.up he keep⟩
  own := fun j o' hj => by
   by_cases eq : i = j
   · subst eq
     have e1 := getElem?_set_here hj
     cases e1
     have hl : i < σ.length := by
      rw [R.len]
      have := (aD.mp hj).1
      simpa using this
     exact ⟨p, by rw [bg, if_pos rfl, if_pos hl], h.up (fun _ q => q) he keep, hp, .inr ⟨hi, h0⟩⟩
   · rw [getElem?_set_ne eq] at hj
     obtain ⟨q, e1, r, n, pn⟩ := R.own j o' hj
     exact ⟨q, by rw [getElem?_set_ne eq]; exact e1, r.up (fun _ q => q) he keep, fun z => n (.inl z), pn⟩
  pin := fun j q hj => by
   have ne : i ≠ j := fun z => by subst z; rw [hi] at hj; cases hj
   obtain ⟨a, o', b⟩ := R.pin j q hj
   exact ⟨by rw [getElem?_set_ne ne]; exact a, o', by rw [getElem?_set_ne ne]; exact b⟩
  inj := fun j k q hj hk e1 e2 => by
   by_cases ej : j = i
   · by_cases ek : k = i
     · rw [ej, ek]
     · subst ej
       rw [bg, if_pos rfl] at e1
       split at e1
       · cases e1
         rw [getElem?_set_ne (bn ek)] at e2
         exact absurd rfl (notp k _ (own_ne k ek hk) e2)
       · cases e1
   · by_cases ek : k = i
     · subst ek
       rw [bg, if_pos rfl] at e2
       split at e2
       · cases e2
         rw [getElem?_set_ne (bn ej)] at e1
         exact absurd rfl (notp j _ (own_ne j ej hj) e1)
       · cases e2
     · rw [getElem?_set_ne (bn ej)] at e1
       rw [getElem?_set_ne (bn ek)] at e2
       exact R.inj j k q (own_ne j ej hj) (own_ne k ek hk) e1 e2
  dom := fun a h => R.dom a (.inl h)
  fr := R.fr
  tmp := fun x hx => (R.tmp x hx).up he keep }
theorem Rel.freeze (R : Rel Γ S H σ ρ τ) {i : Nat} {o : D} (hi : S.pin i = none) (h : ρ[i]? = some (.own o)) : ∃ v, σ[i]? = some (some v) /\ Rep Γ (zI S σ (ρ.set i (.val o))) H v o /\ Rel Γ S H σ (ρ.set i (.val o)) τ := by
 obtain ⟨p, e, r, n, _⟩ := R.own i o h
 have own_ne : ∀ j, yZ (ρ.set i (.val o)) j -> j ≠ i /\ yZ ρ j := fun j ⟨o, ho⟩ => by
  by_cases e : i = j
  · subst e; cases getElem?_set_here ho
  · rw [getElem?_set_ne e] at ho; exact ⟨bn e, o, ho⟩
 have he : ∀ b, H b ≠ none -> zI S σ (ρ.set i (.val o)) b -> zI S σ ρ b := fun b _ h => by
  rcases h with h | ⟨j, hj, e⟩
  · exact .inl h
  · exact .inr ⟨j, (own_ne j hj).2, e⟩
 have keep : ∀ b o, ¬ zI S σ ρ b -> H b = some o -> H b = some o := fun _ _ _ q => q
 have hp : ¬ zI S σ (ρ.set i (.val o)) p := by
  rintro (z | ⟨j, hj, ej⟩)
  · exact n z
  · obtain ⟨ne, oj⟩ := own_ne j hj
    exact ne (R.inj j i p oj ⟨o, h⟩ ej e)
 have rep := (r.up (fun _ q => q) he keep).rep hp
 refine ⟨_, e, rep, ?_⟩
 exact {
  len := by simp [R.len]
  val := fun j d hj => by
   by_cases eq : i = j
   · subst eq
     have e1 := getElem?_set_here hj
     cases e1
     exact ⟨_, e, rep⟩
   · rw [getElem?_set_ne eq] at hj
     obtain ⟨w, e1, r⟩ := R.val j d hj
     exact ⟨w, e1, r.up he keep⟩
  own := fun j o' hj => by
   have ne := (own_ne j ⟨o', hj⟩).1
   rw [getElem?_set_ne (bn ne)] at hj
   obtain ⟨q, e1, r, n, pn⟩ := R.own j o' hj
   exact ⟨q, e1, r.up (fun _ q => q) he keep, n, pn⟩
  pin := fun j p hj => by
   have ne : i ≠ j := fun z => by subst z; rw [hi] at hj; cases hj
   obtain ⟨a, o', b⟩ := R.pin j p hj
   exact ⟨a, o', by rw [getElem?_set_ne ne]; exact b⟩
  inj := fun j k p hj hk e1 e2 => R.inj j k p (own_ne j hj).2 (own_ne k hk).2 e1 e2
  dom := R.dom
  fr := R.fr
  tmp := fun x hx => (R.tmp x hx).up he keep }
theorem Rel.write (R : Rel Γ S H σ ρ τ) {i : Nat} {p : Addr} {o o' : D} (h : ρ[i]? = some (.own o)) (e : σ[i]? = some (some (.ref p))) (hk : ∀ b u, b ≠ p -> H b = some u -> H' b = some u)
 (hn : OwnAt Γ (zI S σ ρ) H' p o') : Rel Γ S H' σ (ρ.set i (.own o')) τ := by
 have iff : ∀ j, yZ (ρ.set i (.own o')) j -> yZ ρ j := fun j ⟨q, hq⟩ => by
  by_cases z : i = j
  · subst z; exact ⟨o, h⟩
  · rw [getElem?_set_ne z] at hq; exact ⟨q, hq⟩
 have he : ∀ b, H b ≠ none -> zI S σ (ρ.set i (.own o')) b -> zI S σ ρ b := fun b _ h => by
  rcases h with h | ⟨j, hj, e⟩
  · exact .inl h
  · exact .inr ⟨j, iff j hj, e⟩
 have pex : zI S σ ρ p := .inr ⟨i, ⟨o, h⟩, e⟩
 have keep : ∀ b u, ¬ zI S σ ρ b -> H b = some u -> H' b = some u := fun b u n q => hk b u (fun z => n (by rw [z]; exact pex)) q
 obtain ⟨p', e', _, n0, pn0⟩ := R.own i o h
 rw [e] at e'; cases e'
 exact {
  len := by simp [R.len]
  val := fun j d hj => by
   by_cases eq : i = j
   · subst eq; cases getElem?_set_here hj
   · rw [getElem?_set_ne eq] at hj
     obtain ⟨w, e1, r⟩ := R.val j d hj
     exact ⟨w, e1, r.up he keep⟩
  own := fun j q hj => by
   by_cases eq : i = j
   · subst eq
     have e1 := getElem?_set_here hj
     cases e1
     refine ⟨p, e, hn.up (fun _ q => q) (fun b _ z => ?_) (fun _ _ _ q => q), n0, pn0⟩
     rcases z with z | ⟨k, hk, ek⟩
     · exact .inl z
     · exact .inr ⟨k, iff k hk, ek⟩
   · rw [getElem?_set_ne eq] at hj
     obtain ⟨q', e1, r, n, pn⟩ := R.own j q hj
     refine ⟨q', e1, r.up (fun u hu => hk _ u (fun z => ?_) hu) he keep, n, pn⟩
     subst z
     exact eq (R.inj i j _ ⟨o, h⟩ ⟨q, hj⟩ e e1)
  pin := fun j q hj => by
   obtain ⟨a, o', b⟩ := R.pin j q hj
   refine ⟨a, ?_⟩
   by_cases eq : i = j
   · subst eq
     have hl : i < ρ.length := (aD.mp h).1
     exact ⟨_, by rw [bg, if_pos rfl, if_pos hl]⟩
   · exact ⟨o', by rw [getElem?_set_ne eq]; exact b⟩
  inj := fun j k p hj hk e1 e2 => R.inj j k p (iff j hj) (iff k hk) e1 e2
  dom := fun a ha => by
   have := R.dom a ha
   by_cases z : a = p
   · subst z; exact absurd ha n0
   · cases q : H a with
     | none => exact absurd q this
     | some u => rw [hk a u z q]; simp
  fr := fun b u h0 n => by
   refine hk b u (fun z => ?_) (R.fr b u h0 n)
   subst z
   rcases pn0 with q | ⟨_, q⟩
   · exact n i q
   · rw [q] at h0; cases h0
  tmp := fun x hx => (R.tmp x hx).up he keep }
end
abbrev EK := D -> Env -> Prop
abbrev ME := Env -> EK -> Prop
abbrev MT := Env -> (Bool -> Env -> Prop) -> Prop
abbrev MA := Env -> (List D -> Env -> Prop) -> Prop
structure UZ where
 nx : Env -> Prop
 rt : EK
 bk : Env -> Prop
 ct : Env -> Prop
abbrev MS := UZ -> Env -> Prop
def JK (pn : List Nat) (S : Fs) : Prop := ∀ i, i ∉ pn -> S.pin i = none
def JE (Γ : Cn) (pn : List Nat) (t : TE) (m : ME) : Prop :=
 ∀ (S : Fs) (σ : St) (ρ : Env) (H : Hp) (τ : List (V × D)) (Q : VK) (q : EK), JK pn S -> Rel Γ S H σ ρ τ -> m ρ q -> (∀ v d H' ρ', Rel Γ S H' σ ρ' τ -> Rep Γ (zI S σ ρ') H' v d -> q d ρ' -> Q v H') -> t σ H Q
def JT (Γ : Cn) (pn : List Nat) (t : TT) (m : MT) : Prop :=
 ∀ (S : Fs) (σ : St) (ρ : Env) (H : Hp) (τ : List (V × D)) (Q : Bool -> Hp -> Prop) (q : Bool -> Env -> Prop), JK pn S -> Rel Γ S H σ ρ τ -> m ρ q -> (∀ b H' ρ', Rel Γ S H' σ ρ' τ -> q b ρ' -> Q b H') -> t σ H Q
def JA (Γ : Cn) (pn : List Nat) (t : TA) (m : MA) : Prop :=
 ∀ (S : Fs) (σ : St) (ρ : Env) (H : Hp) (τ : List (V × D)) (Q : List V -> Hp -> Prop) (q : List D -> Env -> Prop), JK pn S -> Rel Γ S H σ ρ τ -> m ρ q -> (∀ vs ds H' ρ', Rel Γ S H' σ ρ' τ -> Reps Γ (zI S σ ρ') H' vs ds -> q ds ρ' -> Q vs H') -> t σ H Q
def JF (Γ : Cn) (pn : List Nat) (t : TE) (m : ME) : Prop :=
 ∀ (S : Fs) (σ : St) (ρ : Env) (H : Hp) (τ : List (V × D)) (Q : VK) (q : EK), JK pn S -> Rel Γ S H σ ρ τ -> m ρ q ->
  (∀ p o H' ρ', Rel Γ (S.add p) H' σ ρ' τ -> OwnAt Γ (zI (S.add p) σ ρ') H' p o -> S.H0 p = none -> ¬ zI S σ ρ' p -> q o ρ' -> Q (.ref p) H') -> t σ H Q
def RR (Γ : Cn) (fr : Bool) (S : Fs) (σ : St) (ρ : Env) (H : Hp) (τ : List (V × D)) (v : V) (d : D) : Prop := match fr with
 | false => Rel Γ S H σ ρ τ /\ Rep Γ (zI S σ ρ) H v d
 | true => ∃ p, v = .ref p /\ Rel Γ (S.add p) H σ ρ τ /\ OwnAt Γ (zI (S.add p) σ ρ) H p d /\ S.H0 p = none /\ ¬ zI S σ ρ p
def JS (Γ : Cn) (pn : List Nat) (fr : Bool) (t : TS) (m : MS) : Prop :=
 ∀ (S : Fs) (σ : St) (ρ : Env) (H : Hp) (τ : List (V × D)) (D : zd3) (N : UZ), JK pn S -> Rel Γ S H σ ρ τ -> m N ρ -> (∀ σ' H' ρ', Rel Γ S H' σ' ρ' τ -> N.nx ρ' -> D.nx σ' H') ->
  (∀ v d σ' H' ρ', RR Γ fr S σ' ρ' H' τ v d -> N.rt d ρ' -> D.rt v H') -> (∀ σ' H' ρ', Rel Γ S H' σ' ρ' τ -> N.bk ρ' -> D.bk σ' H') -> (∀ σ' H' ρ', Rel Γ S H' σ' ρ' τ -> N.ct ρ' -> D.ct σ' H') -> t D σ H
inductive Opd where
 | d (x : D) | v (i : Nat)
def WG : Option Slot -> (D -> Prop) -> Prop
 | some (.val d), k => k d
 | some (.own d), k => k d
 | _, _ => False
def Opd.on (r : Opd) (ρ : Env) (k : D -> Prop) : Prop := match r with
 | .d x => k x
 | .v i => WG ρ[i]? k
abbrev MO := Env -> (Opd -> Env -> Prop) -> Prop
def OpIn (σ : St) (τ : List (V × D)) (v : V) (r : Opd) : Prop := match r with
 | .d x => (v, x) ∈ τ
 | .v i => σ[i]? = some (some v)
def JO (Γ : Cn) (pn : List Nat) (t : TE) (m : MO) : Prop :=
 ∀ (S : Fs) (σ : St) (ρ : Env) (H : Hp) (τ : List (V × D)) (Q : VK) (q : Opd -> Env -> Prop), JK pn S -> Rel Γ S H σ ρ τ -> m ρ q -> (∀ v r H' ρ' τ', Rel Γ S H' σ ρ' (τ' ++ τ) -> OpIn σ (τ' ++ τ) v r -> q r ρ' -> Q v H') -> t σ H Q
def jV (Γ : Cn) (E : Addr -> Prop) (H : Hp) (v : V) : D -> Prop
 | .lst ds => ∃ a xs, v = .ref a /\ H a = some (.lst xs) /\ Reps Γ E H xs ds
 | .dK ds => ∃ a ks, v = .ref a /\ H a = some (.dK ks) /\ ks.map (·.1) = ds.map (·.1) /\ Reps Γ E H (ks.map (·.2)) (ds.map (·.2))
 | .dT ds => ∃ a ks, v = .ref a /\ H a = some (.dT ks) /\ ks.map (·.1) = ds.map (·.1) /\ Reps Γ E H (ks.map (·.2)) (ds.map (·.2))
 | .obj c fs => ∃ a C dx gs, v = .ref a /\ Γ.cls c = some C /\ H a = some (.ins C dx gs) /\ (gs.map (·.1) = fs.map fun x => yS x.1) /\ Reps Γ E H (gs.map (·.2)) (fs.map (·.2))
 | d => Rep Γ E H v d
section
variable {Γ : Cn} {E E' : Addr -> Prop} {H H' : Hp} {v : V} {d : D}
theorem Rep.b (r : Rep Γ E H v d) : jV Γ E H v d := by
 cases r with
 | non => exact .non
 | bl b => exact .bl b
 | int i => exact .int i
 | str x => exact .str x
 | ty n => exact .ty n
 | lst ne h l r => exact ⟨_, _, rfl, h, l, r⟩
 | fz h => exact .fz h
 | tup ne h l r => exact .tup ne h l r
 | dK ne h l r => exact ⟨_, _, rfl, h, l, by have := congrArg bR l; simpa using this, r⟩
 | dT ne h l r => exact ⟨_, _, rfl, h, l, by have := congrArg bR l; simpa using this, r⟩
 | obj ne hc h l r => exact ⟨_, _, _, _, rfl, hc, h, l, by have := congrArg bR l; simpa using this, r⟩
 | exc ne hc h => exact .exc ne hc h
 | kt h => exact .kt h
 | kd h => exact .kd h
theorem OwnAt.b (h : OwnAt Γ E H p d) : jV Γ E H (.ref p) d := by
 cases d with
 | lst ds => obtain ⟨xs, e, r⟩ := h; exact ⟨p, xs, rfl, e, r⟩
 | dK ds => obtain ⟨xs, e, l, r⟩ := h; exact ⟨p, xs, rfl, e, l, r⟩
 | dT ds => obtain ⟨xs, e, l, r⟩ := h; exact ⟨p, xs, rfl, e, l, r⟩
 | obj c fs => obtain ⟨C, dx, gs, hc, e, l, r⟩ := h; exact ⟨p, C, dx, gs, rfl, hc, e, l, r⟩
 | _ => exact aa h
theorem Rel.read {r : Opd} {k : D -> Prop} (R : Rel Γ S H σ ρ τ) (h : OpIn σ τ v r) (hk : r.on ρ k) : ∃ d, jV Γ (zI S σ ρ) H v d /\ k d := by
 cases r with
 | d x => exact ⟨x, (R.tmp _ h).b, hk⟩
 | v i =>
  have e : σ[i]? = some (some v) := h
  have hk : WG ρ[i]? k := hk
  cases q : ρ[i]? with
  | none => rw [q] at hk; exact aa hk
  | some s =>
   rw [q] at hk
   cases s with
   | no => exact aa hk
   | val d =>
    obtain ⟨w, e', r⟩ := R.val i d q
    rw [e] at e'; cases e'
    exact ⟨d, r.b, hk⟩
   | own o =>
    obtain ⟨p, e', r, _⟩ := R.own i o q
    rw [e] at e'; cases e'
    exact ⟨o, r.b, hk⟩
end
section
variable {Γ : Cn} {pn : List Nat} {fr : Bool}
def mC (d : D) : ME := fun ρ q => q d ρ
def JL : D -> Bool
 | .non => true | .bl _ => true | .int _ => true | .str _ => true | .ty _ => true | _ => false
def vD : D -> V
 | .non => .non | .bl b => .bl b | .int i => .int i | .str x => .str x | .ty n => .ty n | _ => .non
theorem Zd {E : Addr -> Prop} (h : JL d = true) : Rep Γ E H (vD d) d := by
 cases d with
 | non => exact .non
 | bl b => exact .bl b
 | int i => exact .int i
 | str x => exact .str x
 | ty n => exact .ty n
 | _ => cases h
theorem Rep.flat {E : Addr -> Prop} (r : Rep Γ E H v d) (h : JL d = true) : v = vD d := by
 cases r <;> first | rfl | cases h
theorem zbX (h : JL d = true) (e : v = vD d) : JE Γ pn (tC v) (mC d) := fun S σ ρ H τ Q q _ R hm hq => by
 subst e; exact hq _ _ _ _ R (Zd h) hm
def zee (i : Nat) : ME := fun ρ q => match ρ[i]? with
 | some (.val d) => q d ρ
 | some (.own o) => q o (ρ.set i (.val o))
 | _ => False
theorem zpm (hi : i ∉ pn) : JE Γ pn (QL i) (zee i) := fun S σ ρ H τ Q q hp R hm hq => by
 unfold zee at hm
 cases e : ρ[i]? with
 | none => rw [e] at hm; exact aa hm
 | some s =>
  rw [e] at hm
  cases s with
  | no => exact aa hm
  | val d =>
   obtain ⟨v, e1, r⟩ := R.val i d e
   exact ⟨v, e1, hq v d H ρ R r hm⟩
  | own o =>
   obtain ⟨v, e1, r, R'⟩ := R.freeze (hp i hi) e
   exact ⟨v, e1, hq v o H _ R' r hm⟩
def zax (i : Nat) : ME := fun ρ q => match ρ[i]? with
 | some (.val d) => q d ρ
 | _ => False
theorem znq : JE Γ pn (QL i) (zax i) := fun S σ ρ H τ Q q hp R hm hq => by
 unfold zax at hm
 cases e : ρ[i]? with
 | none => rw [e] at hm; exact aa hm
 | some s =>
  rw [e] at hm
  cases s with
  | no => exact aa hm
  | val d =>
   obtain ⟨v, e1, r⟩ := R.val i d e
   exact ⟨v, e1, hq v d H ρ R r hm⟩
  | own o => exact aa hm
def mOv (i : Nat) : MO := fun ρ q => match ρ[i]? with
 | some (.val _) => q (.v i) ρ
 | some (.own _) => q (.v i) ρ
 | _ => False
theorem zpn : JO Γ pn (QL i) (mOv i) := fun S σ ρ H τ Q q hp R hm hq => by
 unfold mOv at hm
 cases e : ρ[i]? with
 | none => rw [e] at hm; exact aa hm
 | some s =>
  rw [e] at hm
  cases s with
  | no => exact aa hm
  | val d =>
   obtain ⟨v, e1, r⟩ := R.val i d e
   exact ⟨v, e1, hq v (.v i) H ρ [] R e1 hm⟩
  | own o =>
   obtain ⟨p, e1, r⟩ := R.own i o e
   exact ⟨_, e1, hq _ (.v i) H ρ [] R e1 hm⟩
def mO (m : ME) : MO := fun ρ q => m ρ fun d ρ' => q (.d d) ρ'
theorem zqE (h : JE Γ pn t m) : JO Γ pn t (mO m) := fun S σ ρ H τ Q q hp R hm hq =>
 h S σ ρ H τ Q _ hp R hm fun v d H' ρ' R' r q' => hq v (.d d) H' ρ' [(v, d)] (R'.push r) (by show (v, d) ∈ _; simp) q'
theorem Re (h : JF Γ pn t m) : JE Γ pn t m := fun S σ ρ H τ Q q hp R hm hq =>
 h S σ ρ H τ Q q hp R hm fun p o H' ρ' R' ow _ ne q' => by
  have ow' : OwnAt Γ (zI S σ ρ') H' p o := ow.up (fun _ z => z) (fun b _ z => z.elim (fun z => .inl (.inl z)) .inr) fun _ _ _ z => z
  exact hq _ o H' ρ' R'.unadd (ow'.rep ne) q'
def zhA : MA := fun ρ q => q [] ρ
def zdF (a : ME) (r : MA) : MA := fun ρ q => a ρ fun d ρ1 => r ρ1 fun ds ρ2 => q (d :: ds) ρ2
theorem zjf : JA Γ pn ZU zhA := fun S σ ρ H τ Q q _ R hm hq => hq [] [] H ρ R .nil hm
theorem znr (h1 : JE Γ pn t m) (h2 : JA Γ pn u n) : JA Γ pn (Qg t u) (zdF m n) := fun S σ ρ H τ Q q hp R hm hq =>
 h1 S σ ρ H τ _ _ hp R hm fun v d H1 ρ1 R1 r1 q1 => h2 S σ ρ1 H1 ((v, d) :: τ) _ _ hp (R1.push r1) q1 fun vs ds H2 ρ2 R2 r2 q2 =>
  hq _ _ H2 ρ2 R2.pop.1 (.cons R2.pop.2 r2) q2
def zhB (ss : List Str) : MA := fun ρ q => q (ss.map D.str) ρ
theorem zns : JA Γ pn (zmA ss) (zhB ss) := fun S σ ρ H τ Q q hp R hm hq =>
 hq _ _ H ρ R ⟨by simp, fun i v d h1 h2 => by
  rw [ar] at h1 h2
  cases e : ss[i]? with
  | none => rw [e] at h1; cases h1
  | some x => rw [e] at h1 h2; cases h1; cases h2; exact .str x⟩ hm
theorem JC {S : Fs} (R : Rel Γ S H σ ρ τ) (r : Reps Γ (zI S σ ρ) H xs ds) (hp : H p = none) :
 Rel Γ (S.add p) (yc H p (.lst xs)) σ ρ τ /\ OwnAt Γ (zI (S.add p) σ ρ) (yc H p (.lst xs)) p (.lst ds) /\ S.H0 p = none /\ ¬ zI S σ ρ p := by
 have h0 := R.new hp
 refine ⟨R.add hp h0, ⟨xs, jD, r.up (fun b hb z => ?_) fun b o _ q => by rw [z8 (yD q hp)]; exact q⟩, h0, fun z => y9 R z hp⟩
 rcases z with (z | z) | z
 · exact .inl z
 · subst z; exact absurd hp hb
 · exact .inr z
def zhC (m : MA) : ME := fun ρ q => m ρ fun ds ρ' => ds.length <= 1000 /\ q (.lst ds) ρ'
theorem zgl (h : n <= 1000) : n <= aF := aV h (by decide)
theorem zpo (h : JA Γ pn t m) : JF Γ pn (zo7 t) (zhC m) := fun S σ ρ H τ Q q hp R hm hq =>
 h S σ ρ H τ _ _ hp R hm fun vs ds H1 ρ1 R1 r1 ⟨l1, q1⟩ => ⟨by rw [r1.1]; exact zgl l1, fun p hn => by
  obtain ⟨a, b, c, d⟩ := JC R1 r1 hn
  exact hq p _ _ ρ1 a b c d q1⟩
def zhD (m : MA) : ME := fun ρ q => m ρ fun ds ρ' => ds.length <= 1000 /\ q (.tup ds) ρ'
theorem U0 (h : H p = none) (o : HO) : Same H (yc H p o) := fun b u q => by rw [z8 (yD q h)]; exact q
theorem znt (R : Rel Γ S H σ ρ τ) (r : Reps Γ (zI S σ ρ) H xs ds) (hp : H p = none) :
 Rel Γ S (yc H p (.tup xs)) σ ρ τ /\ Rep Γ (zI S σ ρ) (yc H p (.tup xs)) (.ref p) (.tup ds) := by
 have g := U0 hp (.tup xs)
 have r' := r.up (E' := zI S σ ρ) (H' := yc H p (.tup xs)) (fun _ _ z => z) fun b o _ q => g b o q
 exact ⟨R.grow g, .tup (fun z => y9 R z hp) jD r'.1 r'.2⟩
theorem zpp (h : JA Γ pn t m) : JE Γ pn (zo6 t) (zhD m) := fun S σ ρ H τ Q q hp R hm hq =>
 h S σ ρ H τ _ _ hp R hm fun vs ds H1 ρ1 R1 r1 ⟨l1, q1⟩ => ⟨by rw [r1.1]; exact zgl l1, fun p hn => by
  obtain ⟨a, b⟩ := znt R1 r1 hn
  exact hq _ _ _ ρ1 a b q1⟩
abbrev F2 := D -> D -> (D -> Prop) -> Prop
def y6 (Γ : Cn) (r : R2) (f : F2) : Prop :=
 ∀ (E : Addr -> Prop) (H : Hp) (x y : V) (dx dy : D) (Q : VK) (q : D -> Prop), (∀ a, E a -> H a ≠ none) -> jV Γ E H x dx -> jV Γ E H y dy -> f dx dy q -> (∀ v d H', Same H H' -> Rep Γ E H' v d -> q d -> Q v H') -> r x y H Q
def QF (f : F2) (a b : MO) : ME := fun ρ q => a ρ fun r ρ1 => b ρ1 fun s ρ2 => r.on ρ2 fun x => s.on ρ2 fun y => f x y fun d => q d ρ2
theorem OpIn.more (h : OpIn σ τ v r) : OpIn σ (τ' ++ τ) v r := by
 cases r with
 | d x => exact aA _ h
 | v i => exact h
theorem Rel.cut (R : Rel Γ S H σ ρ (τ' ++ τ)) : Rel Γ S H σ ρ τ := { R with tmp := fun x hx => R.tmp x (aA _ hx) }
theorem U1 (ho : y6 Γ r f) (ha : JO Γ pn ta a) (hb : JO Γ pn tb b) : JE Γ pn (tOp r ta tb) (QF f a b) := fun S σ ρ H τ Q q hp R hm hq =>
 ha S σ ρ H τ _ _ hp R hm fun v r1 H1 ρ1 τ1 R1 o1 q1 => hb S σ ρ1 H1 (τ1 ++ τ) _ _ hp R1 q1 fun w r2 H2 ρ2 τ2 R2 o2 q2 => by
  obtain ⟨dx, rx, q2⟩ := R2.read o1.more q2
  obtain ⟨dy, ry, q2⟩ := R2.read o2 q2
  exact ho _ H2 v w dx dy Q _ (fun a z => y9 R2 z) rx ry q2 fun u d H3 g r3 q3 => hq u d H3 ρ2 ((R2.grow g).cut.cut) r3 q3
abbrev F1 := D -> (D -> Prop) -> Prop
def QP (Γ : Cn) (r : V -> Hp -> VK -> Prop) (f : F1) : Prop :=
 ∀ (E : Addr -> Prop) (H : Hp) (x : V) (dx : D) (Q : VK) (q : D -> Prop), (∀ a, E a -> H a ≠ none) -> jV Γ E H x dx -> f dx q -> (∀ v d H', Same H H' -> Rep Γ E H' v d -> q d -> Q v H') -> r x H Q
def J4 (f : F1) (a : MO) : ME := fun ρ q => a ρ fun r ρ1 => r.on ρ1 fun x => f x fun d => q d ρ1
theorem zqF {r : V -> Hp -> VK -> Prop} (ho : QP Γ r f) (ha : JO Γ pn ta a) : JE Γ pn (tUn r ta) (J4 f a) := fun S σ ρ H τ Q q hp R hm hq =>
 ha S σ ρ H τ _ _ hp R hm fun v r1 H1 ρ1 τ1 R1 o1 q1 => by
  obtain ⟨dx, rx, q1⟩ := R1.read o1 q1
  exact ho _ H1 v dx Q _ (fun a z => y9 R1 z) rx q1 fun u d H3 g r3 q3 => hq u d H3 ρ1 ((R1.grow g).cut) r3 q3
theorem zef {r : List V -> Hp -> VK -> Prop} (ho : QP Γ (fun x => r [x]) f) (ha : JO Γ pn ta a) : JE Γ pn (tCB r (Qg ta ZU)) (J4 f a) := fun S σ ρ H τ Q q hp R hm hq =>
 ha S σ ρ H τ _ _ hp R hm fun v r1 H1 ρ1 τ1 R1 o1 q1 => by
  obtain ⟨dx, rx, q1⟩ := R1.read o1 q1
  exact ho _ H1 v dx Q _ (fun a z => y9 R1 z) rx q1 fun u d H3 g r3 q3 => hq u d H3 ρ1 ((R1.grow g).cut) r3 q3
theorem zk3 {r : List V -> Hp -> VK -> Prop} (ho : y6 Γ (fun x y => r [x, y]) f) (ha : JO Γ pn ta a) (hb : JO Γ pn tb b) : JE Γ pn (tCB r (Qg ta (Qg tb ZU))) (QF f a b) := fun S σ ρ H τ Q q hp R hm hq =>
 U1 (r := fun x y => r [x, y]) ho ha hb S σ ρ H τ Q q hp R hm hq
abbrev FL2 := D -> D -> (List D -> Prop) -> Prop
def zhE (Γ : Cn) (r : R2) (f : FL2) : Prop :=
 ∀ (E : Addr -> Prop) (H : Hp) (x y : V) (dx dy : D) (Q : VK) (q : List D -> Prop), jV Γ E H x dx -> jV Γ E H y dy -> f dx dy q -> (∀ p xs ds H1, Same H H1 -> H1 p = none -> Reps Γ E H1 xs ds -> q ds -> Q (.ref p) (yc H1 p (.lst xs))) -> r x y H Q
def zeg (f : FL2) (a b : MO) : ME := fun ρ q => a ρ fun r ρ1 => b ρ1 fun s ρ2 => r.on ρ2 fun x => s.on ρ2 fun y => f x y fun ds => q (.lst ds) ρ2
theorem zqG (ho : zhE Γ r f) (ha : JO Γ pn ta a) (hb : JO Γ pn tb b) : JF Γ pn (tOp r ta tb) (zeg f a b) := fun S σ ρ H τ Q q hp R hm hq =>
 ha S σ ρ H τ _ _ hp R hm fun v r1 H1 ρ1 τ1 R1 o1 q1 => hb S σ ρ1 H1 (τ1 ++ τ) _ _ hp R1 q1 fun w r2 H2 ρ2 τ2 R2 o2 q2 => by
  obtain ⟨dx, rx, q2⟩ := R2.read o1.more q2
  obtain ⟨dy, ry, q2⟩ := R2.read o2 q2
  exact ho _ H2 v w dx dy Q _ rx ry q2 fun p xs ds H3 g hn r3 q3 => by
   obtain ⟨a, b, c, d⟩ := JC (R2.grow g) r3 hn
   exact hq p _ _ ρ2 a.cut.cut b c d q3
abbrev Rf := D -> (List D -> Prop) -> Prop
def VU (Γ : Cn) (r : V -> Hp -> VK -> Prop) (f : Rf) : Prop :=
 ∀ (E : Addr -> Prop) (H : Hp) (x : V) (dx : D) (Q : VK) (q : List D -> Prop), jV Γ E H x dx -> f dx q -> (∀ p xs ds H1, Same H H1 -> H1 p = none -> Reps Γ E H1 xs ds -> q ds -> Q (.ref p) (yc H1 p (.lst xs))) -> r x H Q
def Yb (f : Rf) (a : MO) : ME := fun ρ q => a ρ fun r ρ1 => r.on ρ1 fun x => f x fun ds => q (.lst ds) ρ1
theorem zeh {r : List V -> Hp -> VK -> Prop} (ho : VU Γ (fun x => r [x]) f) (ha : JO Γ pn ta a) : JF Γ pn (tCB r (Qg ta ZU)) (Yb f a) := fun S σ ρ H τ Q q hp R hm hq =>
 ha S σ ρ H τ _ _ hp R hm fun v r1 H1 ρ1 τ1 R1 o1 q1 => by
  obtain ⟨dx, rx, q1⟩ := R1.read o1 q1
  exact ho _ H1 v dx Q _ rx q1 fun p xs ds H3 g hn r3 q3 => by
   obtain ⟨a, b, c, d⟩ := JC (R1.grow g) r3 hn
   exact hq p _ _ ρ1 a.cut b c d q3
def mB (m : ME) : MT := fun ρ q => m ρ fun d ρ' => match d with | .bl b => q b ρ' | _ => False
theorem ZK {E : Addr -> Prop} (r : Rep Γ E H v (.bl b)) : v = .bl b := by cases r; rfl
theorem UC {E : Addr -> Prop} (r : Rep Γ E H v (.int b)) : v = .int b := by cases r; rfl
theorem zgm {E : Addr -> Prop} (r : Rep Γ E H v (.str b)) : v = .str b := by cases r; rfl
theorem zrG (h : JE Γ pn t m) : JT Γ pn (tB t) (mB m) := fun S σ ρ H τ Q q hp R hm hq =>
 h S σ ρ H τ _ _ hp R hm fun v d H1 ρ1 R1 r1 q1 => by
  cases d with
  | bl b => exact ⟨b, ZK r1, hq b H1 ρ1 R1 q1⟩
  | _ => exact aa q1
theorem zgn (h : JE Γ pn t m) : JT Γ pn (zho t) (mB m) := fun S σ ρ H τ Q q hp R hm hq =>
 h S σ ρ H τ _ _ hp R hm fun v d H1 ρ1 R1 r1 q1 => by
  cases d with
  | bl b => exact ⟨b, ZK r1, hq b H1 ρ1 R1 q1⟩
  | _ => exact aa q1
def zhF (a b : MT) : MT := fun ρ q => a ρ fun c ρ1 => if c = true then b ρ1 q else q false ρ1
def mOr (a b : MT) : MT := fun ρ q => a ρ fun c ρ1 => if c = true then q true ρ1 else b ρ1 q
def zhG (a : MT) : MT := fun ρ q => a ρ fun c ρ1 => q (!c) ρ1
theorem zpq (h1 : JT Γ pn t a) (h2 : JT Γ pn u b) : JT Γ pn (zoz t u) (zhF a b) := fun S σ ρ H τ Q q hp R hm hq =>
 h1 S σ ρ H τ _ _ hp R hm fun c H1 ρ1 R1 q1 => by
  cases c with
  | true => rw [if_pos rfl] at q1 ⊢; exact h2 S σ ρ1 H1 τ Q q hp R1 q1 hq
  | false => rw [if_neg ah] at q1 ⊢; exact hq false H1 ρ1 R1 q1
theorem zqH (h1 : JT Γ pn t a) (h2 : JT Γ pn u b) : JT Γ pn (tOr t u) (mOr a b) := fun S σ ρ H τ Q q hp R hm hq =>
 h1 S σ ρ H τ _ _ hp R hm fun c H1 ρ1 R1 q1 => by
  cases c with
  | true => rw [if_pos rfl] at q1 ⊢; exact hq true H1 ρ1 R1 q1
  | false => rw [if_neg ah] at q1 ⊢; exact h2 S σ ρ1 H1 τ Q q hp R1 q1 hq
theorem zpr (h1 : JT Γ pn t a) : JT Γ pn (zoA t) (zhG a) := fun S σ ρ H τ Q q hp R hm hq =>
 h1 S σ ρ H τ _ _ hp R hm fun c H1 ρ1 R1 q1 => hq (!c) H1 ρ1 R1 q1
def zdG (a b : ME) : ME := fun ρ q => a ρ fun d ρ1 => match d with | .bl c => if c = true then b ρ1 q else q (.bl false) ρ1 | _ => False
def zhH (a b : ME) : ME := fun ρ q => a ρ fun d ρ1 => match d with | .bl c => if c = true then q (.bl true) ρ1 else b ρ1 q | _ => False
def zdH (a : ME) : ME := fun ρ q => a ρ fun d ρ1 => match d with | .bl c => q (.bl (!c)) ρ1 | _ => False
theorem zps (h1 : JE Γ pn t a) (h2 : JE Γ pn u b) : JE Γ pn (zmk t u) (zdG a b) := fun S σ ρ H τ Q q hp R hm hq =>
 h1 S σ ρ H τ _ _ hp R hm fun v d H1 ρ1 R1 r1 q1 => by
  cases d with
  | bl c =>
   refine ⟨c, ZK r1, ?_⟩
   dsimp only at q1
   cases c with
   | true => rw [if_pos rfl] at q1 ⊢; exact h2 S σ ρ1 H1 τ Q q hp R1 q1 hq
   | false => rw [if_neg ah] at q1 ⊢; exact hq _ _ H1 ρ1 R1 (.bl false) q1
  | _ => exact aa q1
theorem zqI (h1 : JE Γ pn t a) (h2 : JE Γ pn u b) : JE Γ pn (zoE t u) (zhH a b) := fun S σ ρ H τ Q q hp R hm hq =>
 h1 S σ ρ H τ _ _ hp R hm fun v d H1 ρ1 R1 r1 q1 => by
  cases d with
  | bl c =>
   refine ⟨c, ZK r1, ?_⟩
   dsimp only at q1
   cases c with
   | true => rw [if_pos rfl] at q1 ⊢; exact hq _ _ H1 ρ1 R1 (.bl true) q1
   | false => rw [if_neg ah] at q1 ⊢; exact h2 S σ ρ1 H1 τ Q q hp R1 q1 hq
  | _ => exact aa q1
theorem zpt (h1 : JE Γ pn t a) : JE Γ pn (zml t) (zdH a) := fun S σ ρ H τ Q q hp R hm hq =>
 h1 S σ ρ H τ _ _ hp R hm fun v d H1 ρ1 R1 r1 q1 => by
  cases d with
  | bl c => exact ⟨c, ZK r1, hq _ _ H1 ρ1 R1 (.bl _) q1⟩
  | _ => exact aa q1
def mIf (c : MT) (a b : ME) : ME := fun ρ q => c ρ fun k ρ1 => if k = true then a ρ1 q else b ρ1 q
theorem zqJ (hc : JT Γ pn t c) (h1 : JE Γ pn ta a) (h2 : JE Γ pn tb b) : JE Γ pn (tIf t ta tb) (mIf c a b) := fun S σ ρ H τ Q q hp R hm hq =>
 hc S σ ρ H τ _ _ hp R hm fun k H1 ρ1 R1 q1 => by
  cases k with
  | true => rw [if_pos rfl] at q1 ⊢; exact h1 S σ ρ1 H1 τ Q q hp R1 q1 hq
  | false => rw [if_neg ah] at q1 ⊢; exact h2 S σ ρ1 H1 τ Q q hp R1 q1 hq
def zhI : MS := fun N ρ => N.nx ρ
def zk4 (a b : MS) : MS := fun N ρ => a { N with nx := fun ρ' => b N ρ' } ρ
def zdI (m : ME) : MS := fun N ρ => m ρ fun _ ρ' => N.nx ρ'
def zbY (m : ME) : MS := fun N ρ => m ρ N.rt
def zhJ (c : MT) (a b : MS) : MS := fun N ρ => c ρ fun k ρ1 => if k = true then a N ρ1 else b N ρ1
def zei : MS := fun _ _ => False
theorem znu : JS Γ pn fr zmm zhI := fun S σ ρ H τ D N hp R hm hn hr hb hc => hn _ _ _ R hm
theorem zk5 : JS Γ pn fr t zei := fun S σ ρ H τ D N hp R hm => aa hm
theorem zpu (h1 : JS Γ pn fr t a) (h2 : JS Γ pn fr u b) : JS Γ pn fr (zoI t u) (zk4 a b) := fun S σ ρ H τ D N hp R hm hn hr hb hc =>
 h1 S σ ρ H τ _ _ hp R hm (fun σ' H' ρ' R' m' => h2 S σ' ρ' H' τ D N hp R' m' hn hr hb hc) hr hb hc
theorem znv (h : JE Γ pn t m) : JS Γ pn fr (zmn t) (zdI m) := fun S σ ρ H τ D N hp R hm hn hr hb hc =>
 h S σ ρ H τ _ _ hp R hm fun v d H' ρ' R' r q => hn σ H' ρ' R' q
theorem zpv (h : JE Γ pn t m) : JS Γ pn false (zkC t) (zbY m) := fun S σ ρ H τ D N hp R hm hn hr hb hc =>
 h S σ ρ H τ _ _ hp R hm fun v d H' ρ' R' r q => hr v d σ H' ρ' ⟨R', r⟩ q
theorem znw (h : JF Γ pn t m) : JS Γ pn true (zkC t) (zbY m) := fun S σ ρ H τ D N hp R hm hn hr hb hc =>
 h S σ ρ H τ _ _ hp R hm fun p o H' ρ' R' ow h0 ne q => hr _ o σ H' ρ' ⟨p, rfl, R', ow, h0, ne⟩ q
theorem zqK (h0 : JT Γ pn t c) (h1 : JS Γ pn fr ta a) (h2 : JS Γ pn fr tb b) : JS Γ pn fr (zoJ t ta tb) (zhJ c a b) := fun S σ ρ H τ D N hp R hm hn hr hb hc =>
 h0 S σ ρ H τ _ _ hp R hm fun k H1 ρ1 R1 q1 => by
  cases k with
  | true => rw [if_pos rfl] at q1 ⊢; exact h1 S σ ρ1 H1 τ D N hp R1 q1 hn hr hb hc
  | false => rw [if_neg ah] at q1 ⊢; exact h2 S σ ρ1 H1 τ D N hp R1 q1 hn hr hb hc
def zej (i : Nat) (m : ME) : MS := fun N ρ => m ρ fun d ρ' => N.nx (ρ'.set i (.val d))
def UD (i : Nat) (m : ME) : MS := fun N ρ => m ρ fun d ρ' => N.nx (ρ'.set i (.own d))
theorem zjh (hi : i ∉ pn) (h : JE Γ pn t m) : JS Γ pn fr (zbS t (WE i)) (zej i m) := fun S σ ρ H τ D N hp R hm hn hr hb hc =>
 h S σ ρ H τ _ _ hp R hm fun v d H' ρ' R' r q => hn _ H' _ (R'.asg (hp i hi) r) q
theorem zcM (hi : i ∉ pn) (h : JF Γ pn t m) : JS Γ pn fr (zbS t (WE i)) (UD i m) := fun S σ ρ H τ D N hp R hm hn hr hb hc =>
 h S σ ρ H τ _ _ hp R hm fun p o H' ρ' R' ow h0 ne q => hn _ H' _ (R'.asgOwn (hp i hi) ow h0 (fun z => ne (.inl z))) q
abbrev MG := D -> Env -> (Env -> Prop) -> Prop
abbrev MGs := List D -> Env -> (Env -> Prop) -> Prop
def JG (Γ : Cn) (pn : List Nat) (g : TG) (m : MG) : Prop :=
 ∀ (S : Fs) (σ : St) (ρ : Env) (H : Hp) (τ : List (V × D)) (v : V) (d : D) (Q : St -> Hp -> Prop) (q : Env -> Prop), JK pn S -> Rel Γ S H σ ρ τ -> Rep Γ (zI S σ ρ) H v d -> m d ρ q -> (∀ σ' H' ρ', Rel Γ S H' σ' ρ' τ -> q ρ' -> Q σ' H') -> g v σ H Q
def JGs (Γ : Cn) (pn : List Nat) (g : TGs) (m : MGs) : Prop :=
 ∀ (S : Fs) (σ : St) (ρ : Env) (H : Hp) (τ : List (V × D)) (vs : List V) (ds : List D) (Q : St -> Hp -> Prop) (q : Env -> Prop), JK pn S -> Rel Γ S H σ ρ τ -> Reps Γ (zI S σ ρ) H vs ds -> m ds ρ q -> (∀ σ' H' ρ', Rel Γ S H' σ' ρ' τ -> q ρ' -> Q σ' H') -> g vs σ H Q
def zek (i : Nat) : MG := fun d ρ q => q (ρ.set i (.val d))
theorem znx (hi : i ∉ pn) : JG Γ pn (WE i) (zek i) := fun S σ ρ H τ v d Q q hp R r hm hq => hq _ _ _ (R.asg (hp i hi) r) hm
def zhK : MGs := fun ds ρ q => match ds with | [] => q ρ | _ => False
def zel (g : MG) (r : MGs) : MGs := fun ds ρ q => match ds with | d :: ds => g d ρ fun ρ1 => r ds ρ1 q | _ => False
theorem Rel.pushs : ∀ {vs : List V} {ds : List D}, Rel Γ S H σ ρ τ -> Reps Γ (zI S σ ρ) H vs ds -> Rel Γ S H σ ρ (vs.zip ds ++ τ)
 | [], _, R, _ => R
 | _ :: _, [], R, _ => R
 | v :: vs, d :: ds, R, r => (Rel.pushs R r.tail).push r.head
theorem Rel.pops {vs : List V} {ds : List D} (R : Rel Γ S H σ ρ (vs.zip ds ++ τ)) (hl : vs.length = ds.length) : Rel Γ S H σ ρ τ /\ Reps Γ (zI S σ ρ) H vs ds := by
 refine ⟨R.cut, hl, fun i v d h1 h2 => R.tmp (v, d) (aL _ (fV.mpr ⟨i, ?_⟩))⟩
 rw [e7]
 exact ⟨h1, h2⟩
theorem zny : JGs Γ pn gNil zhK := fun S σ ρ H τ vs ds Q q hp R r hm hq => by
 cases ds with
 | nil => have h := r.1; cases vs with | nil => exact ⟨rfl, hq _ _ _ R hm⟩ | cons _ _ => simp at h
 | cons _ _ => exact aa hm
theorem zk6 (h1 : JG Γ pn g m) (h2 : JGs Γ pn u n) : JGs Γ pn (gCons g u) (zel m n) := fun S σ ρ H τ vs ds Q q hp R r hm hq => by
 cases ds with
 | nil => exact aa hm
 | cons d ds =>
  cases vs with
  | nil => have h := r.1; simp at h
  | cons v vs =>
   refine ⟨v, vs, rfl, h1 S σ ρ H (vs.zip ds ++ τ) v d _ _ hp (R.pushs r.tail) r.head hm fun σ' H' ρ' R' q' => ?_⟩
   obtain ⟨R2, r2⟩ := R'.pops r.tail.1
   exact h2 S σ' ρ' H' τ vs ds Q q hp R2 r2 q' hq
def zhL (m : MGs) (n : Nat) : MG := fun d ρ q => match d with | .tup ds => ds.length = n /\ m ds ρ q | _ => False
theorem zpw (h : JGs Γ pn g m) : JG Γ pn (gTup Γ.K n g) (zhL m n) := fun S σ ρ H τ v d Q q hp R r hm hq => by
 cases d with
 | tup ds =>
  obtain ⟨a, xs, rfl, hs, rs⟩ := r.tuple
  exact ⟨a, xs, rfl, SqT.of hs, rs.1.trans hm.1, h S σ ρ H τ xs ds Q q hp R rs hm.2 hq⟩
 | _ => exact aa hm
abbrev MI := Env -> (List D -> Env -> Prop) -> Prop
def zpx (Γ : Cn) (J : It) (τ' : List (V × D)) (ds : List D) : Prop :=
 ∀ (E : Addr -> Prop) (H : Hp) (i : Nat), (∀ a, E a -> H a ≠ none) -> (∀ x ∈ τ', Rep Γ E H x.1 x.2) ->
  (i < ds.length -> J.go i H /\ ∀ x H', J.yld i H x H' -> Same H H' /\ ∃ d, ds[i]? = some d /\ Rep Γ E H' x d) /\ (i = ds.length -> J.stop i H)
def JI (Γ : Cn) (pn : List Nat) (wi : TI) (m : MI) : Prop :=
 ∀ (S : Fs) (σ : St) (ρ : Env) (H : Hp) (τ : List (V × D)) (Z : It -> Hp -> Prop) (q : List D -> Env -> Prop), JK pn S -> Rel Γ S H σ ρ τ -> m ρ q ->
  (∀ J ds H' ρ' τ', Rel Γ S H' σ ρ' (τ' ++ τ) -> zpx Γ J τ' ds -> q ds ρ' -> Z J H') -> wi σ H Z
def zaz (m : ME) : MI := fun ρ q => m ρ fun d ρ' => match d with | .lst ds => q ds ρ' | .fz ns => q (ns.map D.int) ρ' | _ => False
theorem znz (h : JE Γ pn t m) : JI Γ pn (zmo Γ.K t) (zaz m) := fun S σ ρ H τ Z q hp R hm hz =>
 h S σ ρ H τ _ _ hp R hm fun v d H1 ρ1 R1 r1 q1 => by
  cases d with
  | lst ds =>
   obtain ⟨a, xs, rfl, hs, rs⟩ := r1.list
   refine ⟨a, rfl, ⟨xs, .inl (.inl hs)⟩, hz _ ds H1 ρ1 [(.ref a, .lst ds)] (R1.push r1) ?_ q1⟩
   intro E H i hE hx
   have r := hx (.ref a, .lst ds) (by simp)
   have r' : Rep Γ E H (.ref a) (.lst ds) := r
   obtain ⟨a', xs', e, hs', rs'⟩ := r'.list
   cases e
   refine ⟨fun hi => ?_, fun hi => ⟨xs', .inl (.inl hs'), by rw [rs'.1]; omega⟩⟩
   have hi' : i < xs'.length := by rw [rs'.1]; exact hi
   refine ⟨⟨xs', xs'[i], .inl (.inl hs'), ac hi'⟩, fun x H' y => ?_⟩
   obtain ⟨e, y⟩ := y
   subst e
   exact ⟨Same.refl _, ds[i], ac hi, rs'.2 i x _ (y xs' (.inl (.inl hs'))) (ac hi)⟩
  | fz ns =>
   obtain ⟨a, rfl, hs⟩ := r1.script
   refine ⟨a, rfl, ⟨_, hs⟩, hz _ (ns.map D.int) H1 ρ1 [(.ref a, .fz ns)] (R1.push r1) ?_ q1⟩
   intro E H i hE hx
   have r : Rep Γ E H (.ref a) (.fz ns) := hx (.ref a, .fz ns) (by simp)
   obtain ⟨a', e, hs'⟩ := r.script
   cases e
   refine ⟨fun hi => ?_, fun hi => ⟨_, hs', by simpa using g9 hi.symm⟩⟩
   have hi' : i < ns.length := by simpa using hi
   refine ⟨⟨_, .int ns[i], hs', by rw [ar, ac hi']; rfl⟩, fun x H' y => ?_⟩
   obtain ⟨e, y⟩ := y
   subst e
   have y' := y _ hs'
   rw [ar, ac hi'] at y'
   cases y'
   exact ⟨Same.refl _, .int ns[i], by rw [ar, ac hi']; rfl, .int _⟩
  | _ => exact aa q1
def zdJ (m : ME) : MI := fun ρ q => m ρ fun d ρ' => match d with | .str x => q (x.cps.toList.map fun c => D.str ⟨#[c]⟩) ρ' | _ => False
theorem zpy (h : JE Γ pn t m) : JI Γ pn (zph t) (zdJ m) := fun S σ ρ H τ Z q hp R hm hz =>
 h S σ ρ H τ _ _ hp R hm fun v d H1 ρ1 R1 r1 q1 => by
  cases d with
  | str x =>
   cases zgm r1
   refine ⟨x, rfl, hz _ _ H1 ρ1 [] R1 ?_ q1⟩
   intro E H i hE hx
   refine ⟨fun hi => ?_, fun hi => by show i = x.cps.size; simpa using hi⟩
   have hi' : i < x.cps.size := by simpa using hi
   refine ⟨hi', fun v H' y => ?_⟩
   obtain ⟨e, c, hc, e2⟩ := y
   subst e e2
   refine ⟨Same.refl _, .str ⟨#[c]⟩, ?_, .str _⟩
   have hc' : x.cps.toList[i]? = some c := by simpa using hc
   rw [ar, hc']; rfl
  | _ => exact aa q1
def yB (lo : Int) (n : Nat) : List D := (aT n).map fun (i : Nat) => D.int (lo + (i : Int))
def U2 (m : MA) : MI := fun ρ q => m ρ fun ds ρ' => match ds with
 | [.int j] => (-1000000 <= j /\ j <= 1000000) /\ q (yB 0 j.toNat) ρ'
 | _ => False
def U3 (m : MA) : MI := fun ρ q => m ρ fun ds ρ' => match ds with
 | [.int i, .int j] => (-1000000 <= i /\ i <= 1000000 /\ -1000000 <= j /\ j <= 1000000) /\ q (yB i (j - i).toNat) ρ'
 | _ => False
theorem zem : zpx Γ (Itr lo n) [] (yB lo n) := fun E H i hE hx => by
 unfold yB
 refine ⟨fun hi => ?_, fun hi => by show n <= i; simp at hi; omega⟩
 have hi' : i < n := by simpa using hi
 refine ⟨hi', fun x H' y => ?_⟩
 obtain ⟨e, y⟩ := y
 subst e y
 refine ⟨Same.refl _, .int (lo + i), ?_, .int _⟩
 rw [ar, dl hi']; rfl
theorem zen {E : Addr -> Prop} (r : Reps Γ E H vs [.int i]) : vs = [.int i] := by
 match vs, r with
 | [], r => have h := r.1; simp at h
 | [v], r => rw [UC r.head]
 | _ :: _ :: _, r => have h := r.1; simp at h
theorem zk7 {E : Addr -> Prop} (r : Reps Γ E H vs [.int i, .int j]) : vs = [.int i, .int j] := by
 match vs, r with
 | [], r => have h := r.1; simp at h
 | v :: vs, r => rw [UC r.head, zen r.tail]
theorem zjj (h : JA Γ pn t m) : JI Γ pn (zmp t) (U2 m) := fun S σ ρ H τ Z q hp R hm hz =>
 h S σ ρ H τ _ _ hp R hm fun vs ds H1 ρ1 R1 r1 q1 => by
  split at q1
  · exact ⟨_, zen r1, by have := q1.1; omega, by have := q1.1; omega, hz _ _ H1 ρ1 [] R1 zem q1.2⟩
  · exact aa q1
theorem zjk (h : JA Γ pn t m) : JI Γ pn (zmq t) (U3 m) := fun S σ ρ H τ Z q hp R hm hz =>
 h S σ ρ H τ _ _ hp R hm fun vs ds H1 ρ1 R1 r1 q1 => by
  split at q1
  · exact ⟨_, _, zk7 r1, by have := q1.1; omega, hz _ _ H1 ρ1 [] R1 zem q1.2⟩
  · exact aa q1
theorem RR.cut (h : RR Γ fr S σ ρ H (τ' ++ τ) v d) : RR Γ fr S σ ρ H τ v d := by
 cases fr with
 | false => exact ⟨h.1.cut, h.2⟩
 | true => obtain ⟨p, e, R, r⟩ := h; exact ⟨p, e, R.cut, r⟩
def zbZ (g : MG) (b : MS) : List D -> UZ -> Env -> Prop
 | [], N, ρ => N.nx ρ
 | d :: ds, N, ρ => g d ρ fun ρ1 => b { nx := fun ρ2 => zbZ g b ds N ρ2, rt := N.rt, bk := N.nx, ct := fun ρ2 => zbZ g b ds N ρ2 } ρ1
def zhM (mi : MI) (g : MG) (b : MS) : MS := fun N ρ => mi ρ fun ds ρ1 => zbZ g b ds N ρ1
theorem zpz (hi : JI Γ pn wi mi) (hg : JG Γ pn g mg) (hbd : JS Γ pn fr tb mb) : JS Γ pn fr (zoR wi g tb) (zhM mi mg mb) := fun S σ ρ H τ D N hp R hm hn hr hb hc =>
 hi S σ ρ H τ _ _ hp R hm fun J ds H1 ρ1 τ' R1 ok q1 => by
  refine ⟨fun i m σ H => m = ds.length - i /\ i <= ds.length /\ ∃ ρ, Rel Γ S H σ ρ (τ' ++ τ) /\ zbZ mg mb (ds.drop i) N ρ, ⟨ds.length, by simp, ck _, ρ1, R1, by simpa using q1⟩, ?_⟩
  rintro i m σ2 H2 ⟨rfl, hle, ρ2, R2, q2⟩
  obtain ⟨go, stop⟩ := ok (zI S σ2 ρ2) H2 i (fun a z => y9 R2 z) fun x hx => R2.tmp x (aL _ hx)
  by_cases hlt : i < ds.length
  · obtain ⟨g1, g2⟩ := go hlt
    have ed : ds.drop i = ds[i] :: ds.drop (i + 1) := dk hlt
    rw [ed] at q2
    refine .inr ⟨g1, fun σ' H' => ∃ ρ', Rel Γ S H' σ' ρ' (τ' ++ τ) /\ zbZ mg mb (ds.drop (i + 1)) N ρ', fun σ' H' h => ⟨ds.length - (i + 1), by omega, rfl, hlt, h⟩, fun x H' y => ?_⟩
    obtain ⟨same, d, hd, rx⟩ := g2 x H' y
    rw [ac hlt] at hd
    cases hd
    refine hg S σ2 ρ2 H' (τ' ++ τ) x _ _ _ hp (R2.grow same) rx q2 fun σ3 H3 ρ3 R3 q3 => ?_
    exact hbd S σ3 ρ3 H3 (τ' ++ τ) _ _ hp R3 q3 (fun σ' H' ρ' R' q' => ⟨ρ', R', q'⟩) (fun v d σ' H' ρ' r' q' => hr v d σ' H' ρ' r'.cut q') (fun σ' H' ρ' R' q' => hn σ' H' ρ' R'.cut q') (fun σ' H' ρ' R' q' => ⟨ρ', R', q'⟩)
  · have e : i = ds.length := by omega
    subst e
    rw [iw] at q2
    exact .inl ⟨stop rfl, hn _ _ _ R2.cut q2⟩
def Qj (js : List (Option Nat)) (ρ : Env) : Env := js.map fun j => match j with | some j => (ρ[j]?).getD .no | none => .no
def Qb (ρ : Env) (j : Nat) (o : D) : Env := match ρ[j]? with | some (.own _) => ρ.set j (.own o) | _ => ρ
def Ji (ρ : Env) (x : Option Nat) (s : Slot) : Env := match x, s with
 | some j, .own o => Qb ρ j o
 | _, _ => ρ
def ye : List (Option Nat) -> Env -> Env -> Env
 | x :: js, s :: ρb, ρ => ye js ρb (Ji ρ x s)
 | _, _, ρ => ρ
def WH (g : MG) (c : MT) (e : ME) : List D -> List D -> Env -> (List D -> Env -> Prop) -> Prop
 | [], acc, ρ, q => q acc ρ
 | d :: ds, acc, ρ, q => g d ρ fun ρ1 => c ρ1 fun b ρ2 => if b = true then e ρ2 fun y ρ3 => WH g c e ds (acc ++ [y]) ρ3 q else WH g c e ds acc ρ2 q
def WI (mi : MI) (js : List (Option Nat)) (g : MG) (c : MT) (e : ME) : ME := fun ρ q => mi ρ fun ds ρ1 => ds.length <= 100000 /\ WH g c e ds [] (Qj js ρ1) fun ys ρb => q (.lst ys) (ye js ρb ρ1)
def UE (js : List (Option Nat)) : List Nat := (aT js.length).filter fun k => ((js[k]?).join).isSome
def mTT : MT := fun ρ q => q true ρ
theorem zqL : JT Γ pn tTT mTT := fun S σ ρ H τ Q q hp R hm hq => hq true H ρ R hm
def ZV (js : List (Option Nat)) (σ : St) (ρ : Env) (k : Nat) : Option Addr := match (js[k]?).join with
 | some j => match ρ[j]?, σ[j]? with
  | some (.own _), some (some (.ref p)) => some p
  | _, _ => none
 | none => none
theorem ZL (h : ZV js σ ρ k = some p) : ∃ j o, js[k]? = some (some j) /\ ρ[j]? = some (.own o) /\ σ[j]? = some (some (.ref p)) := by
 unfold ZV at h
 cases e : js[k]? with
 | none => rw [e] at h; cases h
 | some x =>
  rw [e] at h
  cases x with
  | none => cases h
  | some j =>
   dsimp only [Option.join] at h
   refine ⟨j, ?_⟩
   have h : (match ρ[j]?, σ[j]? with
    | some (.own _), some (some (.ref p)) => some p
    | _, _ => none) = some p := h
   split at h
   · rename_i o q e1 e2
     cases h
     exact ⟨o, rfl, e1, e2⟩
   · cases h
theorem zb0 (h1 : js[k]? = some (some j)) (h2 : ρ[j]? = some (.own o)) (h3 : σ[j]? = some (some (.ref p))) : ZV js σ ρ k = some p := by
  unfold ZV
  rw [h1]
  show (match ρ[j]?, σ[j]? with
        | some (.own _), some (some (.ref p)) => some p
        | _, _ => none) = some p
  rw [h2, h3]
def Fs.blk (S : Fs) (js : List (Option Nat)) (σ : St) (ρ : Env) (H : Hp) : Fs where
 C := fun a => zI S σ ρ a /\ ∀ k, ZV js σ ρ k ≠ some a
 H0 := H
 pin := ZV js σ ρ
theorem Yh {js : List (Option Nat)} {σ : St} {k j : Nat} (h : js[k]? = some (some j)) : (blk js σ)[k]? = some ((σ[j]?).join) := by
 unfold blk; rw [ar, h]; rfl
theorem zk8 {js : List (Option Nat)} {ρ : Env} {k j : Nat} (h : js[k]? = some (some j)) : (Qj js ρ)[k]? = some ((ρ[j]?).getD .no) := by
 unfold Qj; rw [ar, h]; rfl
theorem UF {js : List (Option Nat)} {ρ : Env} {k : Nat} {s : Slot} (h : (Qj js ρ)[k]? = some s) (hs : s ≠ .no) : ∃ j, js[k]? = some (some j) /\ ρ[j]? = some s := by
 unfold Qj at h
 rw [ar] at h
 cases e : js[k]? with
 | none => rw [e] at h; cases h
 | some x =>
  rw [e] at h
  cases x with
  | none => cases h; exact absurd rfl hs
  | some j =>
   refine ⟨j, rfl, ?_⟩
   simp only [cB, ff] at h
   cases q : ρ[j]? with
   | none => rw [q] at h; exact absurd h.symm hs
   | some u => rw [q] at h; cases h; rfl
def Once (js : List (Option Nat)) : Prop := ∀ (k k' j : Nat), js[k]? = some (some j) -> js[k']? = some (some j) -> k = k'
section
variable {S : Fs} {H : Hp} {σ : St} {ρ : Env} {τ : List (V × D)} {js : List (Option Nat)}
theorem Rel.blkEx (R : Rel Γ S H σ ρ τ) : ∀ a, zI (S.blk js σ ρ H) (blk js σ) (Qj js ρ) a -> zI S σ ρ a := fun a h => by
 rcases h with h | ⟨k, ⟨o, ho⟩, e⟩
 · exact h.1
 · obtain ⟨j, hj, hr⟩ := UF ho (by simp)
   obtain ⟨p, e1, _⟩ := R.own j o hr
   rw [Yh hj, e1] at e
   cases e
   exact .inr ⟨j, ⟨o, hr⟩, e1⟩
theorem Rel.toBlk (R : Rel Γ S H σ ρ τ) (h1 : Once js) : Rel Γ (S.blk js σ ρ H) H (blk js σ) (Qj js ρ) τ where
 len := by simp [blk, Qj]
 val := fun k d h => by
  obtain ⟨j, hj, hr⟩ := UF h (by simp)
  obtain ⟨v, e, r⟩ := R.val j d hr
  exact ⟨v, by rw [Yh hj, e]; rfl, r.up (fun b _ => R.blkEx b) fun _ _ _ q => q⟩
 own := fun k o h => by
  obtain ⟨j, hj, hr⟩ := UF h (by simp)
  obtain ⟨p, e, r, n, pn⟩ := R.own j o hr
  have hc := zb0 hj hr e
  exact ⟨p, by rw [Yh hj, e]; rfl, r.up (fun _ q => q) (fun b _ => R.blkEx b) fun _ _ _ q => q, fun z => z.2 k hc, .inl hc⟩
 pin := fun k p h => by
  obtain ⟨j, o, hj, hr, e⟩ := ZL h
  exact ⟨by rw [Yh hj, e]; rfl, o, by rw [zk8 hj, hr]; rfl⟩
 inj := fun k k' p hk hk' e1 e2 => by
  obtain ⟨o, ho⟩ := hk
  obtain ⟨o', ho'⟩ := hk'
  obtain ⟨j, hj, hr⟩ := UF ho (by simp)
  obtain ⟨j', hj', hr'⟩ := UF ho' (by simp)
  obtain ⟨p1, q1, _⟩ := R.own j o hr
  obtain ⟨p2, q2, _⟩ := R.own j' o' hr'
  rw [Yh hj, q1] at e1
  rw [Yh hj', q2] at e2
  cases e1; cases e2
  have := R.inj j j' _ ⟨o, hr⟩ ⟨o', hr'⟩ q1 q2
  subst this
  exact h1 k k' j hj hj'
 dom := fun a h => y9 R h.1
 fr := fun b o h _ => h
 tmp := fun x hx => (R.tmp x hx).up (fun b _ => R.blkEx b) fun _ _ _ q => q
theorem zhN {ρ : Env} : (Qb ρ j o).length = ρ.length := by
 unfold Qb; split <;> simp
theorem zcN (h : i ≠ j) : (Qb ρ i o)[j]? = ρ[j]? := by
 unfold Qb; split
 · exact getElem?_set_ne h
 · rfl
theorem zcO (h : yZ ρ j) : (Qb ρ j o)[j]? = some (.own o) := by
 obtain ⟨u, hu⟩ := h
 unfold Qb
 rw [hu]
 dsimp only
 rw [bg, if_pos rfl, if_pos (aD.mp hu).1]
theorem zhO {ρ : Env} : (Ji ρ x s).length = ρ.length := by
 unfold Ji; split
 · exact zhN
 · rfl
theorem zjl (h : x = some j -> ∀ o, s ≠ .own o) : (Ji ρ x s)[j]? = ρ[j]? := by
 unfold Ji; split
 · rename_i i o
   exact zcN fun z => h (by rw [z]) o rfl
 · rfl
theorem VV : (Ji ρ x s)[j]? = ρ[j]? \/ (yZ ρ j /\ yZ (Ji ρ x s) j) := by
 unfold Ji; split
 · rename_i i o
   by_cases e : i = j
   · subst e
     by_cases h : yZ ρ i
     · exact .inr ⟨h, o, zcO h⟩
     · refine .inl ?_
       unfold Qb
       split
       · rename_i u hu; exact absurd ⟨u, hu⟩ h
       · rfl
   · exact .inl (zcN e)
 · exact .inl rfl
theorem zaA : ∀ {js : List (Option Nat)} {ρb ρ : Env}, (ye js ρb ρ).length = ρ.length
 | [], _, _ => by simp [ye]
 | x :: js, [], _ => by simp [ye]
 | x :: js, s :: ρb, ρ => by rw [ye, zaA, zhO]
theorem VW : ∀ {js : List (Option Nat)} {ρb ρ : Env} {j : Nat}, (ye js ρb ρ)[j]? = ρ[j]? \/ (yZ ρ j /\ yZ (ye js ρb ρ) j)
 | [], _, _, _ => .inl (by simp [ye])
 | x :: js, [], _, _ => .inl (by simp [ye])
 | x :: js, s :: ρb, ρ, j => by
  rw [ye]
  rcases VW (js := js) (ρb := ρb) (ρ := Ji ρ x s) (j := j) with h | ⟨h1, h2⟩
  · rcases VV (ρ := ρ) (x := x) (s := s) (j := j) with g | ⟨g1, g2⟩
    · exact .inl (h.trans g)
    · obtain ⟨o, ho⟩ := g2
      exact .inr ⟨g1, o, h.trans ho⟩
  · refine .inr ⟨?_, h2⟩
    rcases VV (ρ := ρ) (x := x) (s := s) (j := j) with g | ⟨g1, g2⟩
    · obtain ⟨o, ho⟩ := h1
      exact ⟨o, g.symm.trans ho⟩
    · exact g1
theorem Yw : ∀ {js : List (Option Nat)} {ρb ρ : Env} {j : Nat}, (∀ (k : Nat), js[k]? = some (some j) -> ∀ o, ρb[k]? ≠ some (Slot.own o)) -> (ye js ρb ρ)[j]? = ρ[j]?
 | [], _, _, _, _ => by simp [ye]
 | x :: js, [], ρ, j, _ => by simp [ye]
 | x :: js, s :: ρb, ρ, j, h => by
  have h' : ∀ (k : Nat), js[k]? = some (some j) -> ∀ o, ρb[k]? ≠ some (Slot.own o) := fun k hk o => by
   have := h (k + 1) (by simpa using hk) o
   simpa using this
  rw [ye, Yw h']
  exact zjl fun e o z => h 0 (by simp [e]) o (by simp [z])
theorem zcP : ∀ {js : List (Option Nat)} {ρb ρ : Env} {j k : Nat} {o : D}, Once js -> js[k]? = some (some j) -> ρb[k]? = some (Slot.own o) -> yZ ρ j -> (ye js ρb ρ)[j]? = some (Slot.own o)
 | [], _, _, _, _, _, _, h, _, _ => by simp at h
 | x :: js, [], _, _, _, _, _, _, h, _ => by simp at h
 | x :: js, s :: ρb, ρ, j, k, o, on, h1, h2, hl => by
  have on' : Once js := fun a b i ha hb => by
   have := on (a + 1) (b + 1) i (by simpa using ha) (by simpa using hb)
   omega
  rw [ye]
  cases k with
  | zero =>
   simp at h1 h2
   subst h1 h2
   rw [Yw (fun k hk => ?_)]
   · exact zcO hl
   · have := on 0 (k + 1) j rfl (by simpa using hk)
     omega
  | succ k =>
   have h1' : js[k]? = some (some j) := by simpa using h1
   have h2' : ρb[k]? = some (Slot.own o) := by simpa using h2
   refine zcP on' h1' h2' ?_
   rcases VV (ρ := ρ) (x := x) (s := s) (j := j) with g | ⟨_, g2⟩
   · obtain ⟨u, hu⟩ := hl
     exact ⟨u, g.trans hu⟩
   · exact g2
theorem Rel.ofBlk (R : Rel Γ S H σ ρ τ) (h1 : Once js) (B : Rel Γ (S.blk js σ ρ H) H2 σb ρb τb) :
 Rel Γ S H2 σ (ye js ρb ρ) τ /\ ∀ a, zI S σ (ye js ρb ρ) a -> zI (S.blk js σ ρ H) σb ρb a := by
 have at_ : ∀ (j : Nat) (o : D), ρ[j]? = some (Slot.own o) -> (∃ (k : Nat) (o' : D), js[k]? = some (some j) /\ ρb[k]? = some (Slot.own o') /\ (ye js ρb ρ)[j]? = some (Slot.own o')) \/ ((∀ (k : Nat), js[k]? ≠ some (some j)) /\ (ye js ρb ρ)[j]? = some (Slot.own o)) := fun j o ho => by
  by_cases h : ∃ (k : Nat), js[k]? = some (some j)
  · obtain ⟨k, hk⟩ := h
    obtain ⟨p, e, _⟩ := R.own j o ho
    obtain ⟨_, o', ho'⟩ := B.pin k p (zb0 hk ho e)
    exact .inl ⟨k, o', hk, ho', zcP h1 hk ho' ⟨o, ho⟩⟩
  · have h' : ∀ (k : Nat), js[k]? ≠ some (some j) := fun k hk => h ⟨k, hk⟩
    exact .inr ⟨h', by rw [Yw fun k hk => absurd hk (h' k)]; exact ho⟩
 have own_iff : ∀ j, yZ (ye js ρb ρ) j -> yZ ρ j := fun j ⟨o, ho⟩ => by
  rcases VW (js := js) (ρb := ρb) (ρ := ρ) (j := j) with g | ⟨g, _⟩
  · exact ⟨o, g.symm.trans ho⟩
  · exact g
 have exE : ∀ a, zI S σ (ye js ρb ρ) a -> zI S σ ρ a := fun a h => by
  rcases h with h | ⟨j, hj, e⟩
  · exact .inl h
  · exact .inr ⟨j, own_iff j hj, e⟩
 have exB : ∀ a, zI S σ ρ a -> zI (S.blk js σ ρ H) σb ρb a := fun a h => by
  by_cases hc : ∃ k, ZV js σ ρ k = some a
  · obtain ⟨k, hk⟩ := hc
    obtain ⟨e, ow⟩ := B.pin k a hk
    exact .inr ⟨k, ow, e⟩
  · exact .inl ⟨h, fun k z => hc ⟨k, z⟩⟩
 have keepc : ∀ b u, (∀ k, ZV js σ ρ k ≠ some b) -> H b = some u -> H2 b = some u := fun b u n q => B.fr b u q n
 have captEx : ∀ k b, ZV js σ ρ k = some b -> zI S σ ρ b := fun k b h => by
  obtain ⟨j, o, _, hr, e⟩ := ZL h
  exact .inr ⟨j, ⟨o, hr⟩, e⟩
 have keep : ∀ b u, ¬ zI S σ ρ b -> H b = some u -> H2 b = some u := fun b u n q => keepc b u (fun k z => n (captEx k b z)) q
 refine ⟨?_, fun a h => exB a (exE a h)⟩
 exact {
  len := by rw [zaA]; exact R.len
  val := fun j d hj => by
   have hr : ρ[j]? = some (.val d) := by
    rcases VW (js := js) (ρb := ρb) (ρ := ρ) (j := j) with g | ⟨_, o, g⟩
    · exact g.symm.trans hj
    · rw [hj] at g; cases g
   obtain ⟨v, e, r⟩ := R.val j d hr
   exact ⟨v, e, r.up (fun b _ => exE b) keep⟩
  own := fun j o hj => by
   obtain ⟨o0, ho⟩ := own_iff j ⟨o, hj⟩
   obtain ⟨p, e, r, n, pn⟩ := R.own j o0 ho
   refine ⟨p, e, ?_, n, pn⟩
   rcases at_ j o0 ho with ⟨k, o', hk, ho', hm⟩ | ⟨hk, hm⟩
   · rw [hm] at hj; cases hj
     have hc := zb0 hk ho e
     obtain ⟨e2, _⟩ := B.pin k p hc
     obtain ⟨p', e3, r', _⟩ := B.own k o ho'
     rw [e2] at e3; cases e3
     exact r'.up (fun _ q => q) (fun b _ z => exB b (exE b z)) fun _ _ _ q => q
   · rw [hm] at hj; cases hj
     refine r.up (fun u q => keepc p u (fun k z => ?_) q) (fun b _ => exE b) keep
     obtain ⟨j', o', hk', hr', e'⟩ := ZL z
     have := R.inj j j' p ⟨o, ho⟩ ⟨o', hr'⟩ e e'
     subst this
     exact hk k hk'
  pin := fun j p hj => by
   obtain ⟨e, o, ho⟩ := R.pin j p hj
   refine ⟨e, ?_⟩
   rcases at_ j o ho with ⟨k, o', _, _, hm⟩ | ⟨_, hm⟩
   · exact ⟨o', hm⟩
   · exact ⟨o, hm⟩
  inj := fun i j p hi hj e1 e2 => R.inj i j p (own_iff i hi) (own_iff j hj) e1 e2
  dom := fun a ha => by
   by_cases hc : ∃ k, ZV js σ ρ k = some a
   · obtain ⟨k, hk⟩ := hc
     obtain ⟨e, o, ho⟩ := B.pin k a hk
     obtain ⟨p, e', r, _⟩ := B.own k o ho
     rw [e] at e'; cases e'
     exact r.ne0
   · cases q : H a with
     | none => exact absurd q (R.dom a ha)
     | some u => rw [keepc a u (fun k z => hc ⟨k, z⟩) q]; simp
  fr := fun b u h0 n => by
   refine keepc b u (fun k z => ?_) (R.fr b u h0 n)
   obtain ⟨j, o, _, hr, e⟩ := ZL z
   obtain ⟨p, e', _, _, pn⟩ := R.own j o hr
   rw [e] at e'; cases e'
   rcases pn with q | ⟨_, q⟩
   · exact n j q
   · rw [q] at h0; cases h0
  tmp := fun x hx => (R.tmp x hx).up (fun b _ => exE b) keep }
end
end
section
variable {Γ : Cn} {pn : List Nat} {fr : Bool}
theorem zk9 {S : Fs} : JK (UE js) (S.blk js σ ρ H) := fun k hk => by
 show ZV js σ ρ k = none
 cases e : ZV js σ ρ k with
 | none => rfl
 | some p =>
  obtain ⟨j, o, hj, _⟩ := ZL e
  refine absurd (iG.mpr ⟨bm.mpr (aD.mp hj).1, ?_⟩) hk
  rw [hj]; rfl
theorem zk_ {α β : Type} {xs : List α} {ys : List β} {x : α} {y : β} (h : ys.length = xs.length) : (xs ++ [x]).zip (ys ++ [y]) = xs.zip ys ++ [(x, y)] := by
 rw [List.zip_append h.symm]; rfl
theorem zb1 (h1 : Once js) (hi : JI Γ pn wi mi) (hg : JG Γ (UE js) g mg) (hc : JT Γ (UE js) tc mc) (he : JE Γ (UE js) te me) :
 JF Γ pn (zhx wi js g tc te) (WI mi js mg mc me) := fun S σ ρ H τ Q q hp R hm hq =>
 hi S σ ρ H τ _ _ hp R hm fun J ds H1 ρ1 τ' R1 ok ⟨hlen, q1⟩ => by
  have line : (100000 : Nat) < aF := by decide
  refine ⟨fun i m ys σ' H' => m = ds.length - i /\ i <= ds.length /\ ys.length <= i /\ ∃ ρb acc, acc.length = ys.length /\ Rel Γ (S.blk js σ ρ1 H1) H' σ' ρb (ys.zip acc ++ (τ' ++ τ)) /\ WH mg mc me (ds.drop i) acc ρb fun ys ρb => q (.lst ys) (ye js ρb ρ1),
   ⟨ds.length, by simp, ck _, ax _, Qj js ρ1, [], rfl, R1.toBlk h1, by simpa using q1⟩, ?_⟩
  rintro i m ys σ2 H2 ⟨rfl, hle, hyl, ρ2, acc, hacc, R2, q2⟩
  obtain ⟨go, stop⟩ := ok (zI (S.blk js σ ρ1 H1) σ2 ρ2) H2 i (fun a z => y9 R2 z) fun x hx => R2.tmp x (aA _ (aL _ hx))
  by_cases hlt : i < ds.length
  · obtain ⟨g1, g2⟩ := go hlt
    have ed : ds.drop i = ds[i] :: ds.drop (i + 1) := dk hlt
    rw [ed] at q2
    refine .inr ⟨g1, by omega, fun ys' σ' H' => ys'.length <= i + 1 /\ ∃ ρb acc, acc.length = ys'.length /\ Rel Γ (S.blk js σ ρ1 H1) H' σ' ρb (ys'.zip acc ++ (τ' ++ τ)) /\ WH mg mc me (ds.drop (i + 1)) acc ρb fun ys ρb => q (.lst ys) (ye js ρb ρ1),
     fun ys' σ' H' h => ⟨ds.length - (i + 1), by omega, rfl, hlt, h.1, h.2⟩, fun x H' y => ?_⟩
    obtain ⟨same, d, hd, rx⟩ := g2 x H' y
    rw [ac hlt] at hd
    cases hd
    refine hg _ σ2 ρ2 H' _ x _ _ _ zk9 (R2.grow same) rx q2 fun σ3 H3 ρ3 R3 q3 => ?_
    refine hc _ σ3 ρ3 H3 _ _ _ zk9 R3 q3 fun b H4 ρ4 R4 q4 => ?_
    cases b with
    | false =>
     rw [if_neg ah] at q4 ⊢
     exact ⟨by omega, ρ4, acc, hacc, R4, q4⟩
    | true =>
     rw [if_pos rfl] at q4 ⊢
     refine he _ σ3 ρ4 H4 _ _ _ zk9 R4 q4 fun y d H5 ρ5 R5 r5 q5 => ?_
     refine ⟨by simp; omega, ρ5, acc ++ [d], by simp [hacc], { R5 with tmp := fun z hz => ?_ }, q5⟩
     rw [zk_ hacc] at hz
     rcases a8.mp hz with hz | hz
     · rcases a8.mp hz with hz | hz
       · exact R5.tmp z (aL _ hz)
       · have e : z = (y, d) := by simpa using hz
         subst e; exact r5
     · exact R5.tmp z (aA _ hz)
  · have e : i = ds.length := by omega
    subst e
    rw [iw] at q2
    refine .inl ⟨stop rfl, by omega, fun p hn => ?_⟩
    obtain ⟨R3, sub⟩ := R1.ofBlk h1 R2
    have rs := (R2.pops hacc.symm).2
    have rs' : Reps Γ (zI S σ (ye js ρ2 ρ1)) H2 ys acc := rs.up (fun b _ => sub b) fun _ _ _ z => z
    obtain ⟨a, b, c, d⟩ := JC R3 rs' hn
    exact hq p _ _ _ a.cut b c d q2
theorem U4 {S : Fs} {H : Hp} {σ : St} {ρ : Env} {τ : List (V × D)} {i : Nat} {ds : List D} (R : Rel Γ S H σ ρ τ) (h : ρ[i]? = some (.own (.lst ds))) : ∃ p xs, σ[i]? = some (some (.ref p)) /\ H p = some (.lst xs) /\ Reps Γ (zI S σ ρ) H xs ds := by
 obtain ⟨p, e, ⟨xs, hx, r⟩, _⟩ := R.own i _ h
 exact ⟨p, xs, e, hx, r⟩
theorem Rel.lset {ρ : Env} (R : Rel Γ S H σ ρ τ) (h : ρ[i]? = some (.own (.lst ds))) (e : σ[i]? = some (some (.ref p))) (r : Reps Γ (zI S σ ρ) H ys es) :
 Rel Γ S (yc H p (.lst ys)) σ (ρ.set i (.own (.lst es))) τ := by
 have hk : ∀ b u, b ≠ p -> H b = some u -> yc H p (.lst ys) b = some u := fun b u n q => by rw [z8 n]; exact q
 refine R.write h e hk ⟨ys, jD, r.up (fun _ _ z => z) fun b o n q => hk b o (fun z => n ?_) q⟩
 rw [z]; exact .inr ⟨i, ⟨_, h⟩, e⟩
def RL (s : Option Slot) (k : List D -> Prop) : Prop := match s with | some (.own (.lst ds)) => k ds | _ => False
theorem WJ {k : List D -> Prop} (h : RL s k) : ∃ ds, s = some (.own (.lst ds)) /\ k ds := by
 unfold RL at h
 split at h
 · exact ⟨_, rfl, h⟩
 · exact aa h
def YR (f : List D -> D -> (D -> List D -> Prop) -> Prop) (i : Nat) (a : ME) : ME := fun ρ q => RL ρ[i]? fun _ => a ρ fun d ρ1 => RL ρ1[i]? fun ds => f ds d fun r es => q r (ρ1.set i (.own (.lst es)))
theorem zb2 {r : V -> List V -> Hp -> VK -> Prop} {f : List D -> D -> (D -> List D -> Prop) -> Prop} {i : Nat} {ta : TE} {a : ME} (ha : JE Γ pn ta a)
 (hr : ∀ (E : Addr -> Prop) (H : Hp) (p : Addr) (xs : List V) (ds : List D) (y : V) (d : D) (Q : VK) (q : D -> List D -> Prop), H p = some (.lst xs) -> Reps Γ E H xs ds -> Rep Γ E H y d -> f ds d q -> (∀ v ys r es, Rep Γ E H v r -> Reps Γ E H ys es -> q r es -> Q v (yc H p (.lst ys))) -> r (.ref p) [y] H Q) :
 JE Γ pn (tBM Γ.K "list" r (QL i) (Qg ta ZU)) (YR f i a) := fun S σ ρ H τ Q q hp R hm hq => by
 obtain ⟨_, h0, hm⟩ := WJ hm
 obtain ⟨p, xs, e, hx, rs⟩ := U4 R h0
 refine ⟨_, e, .inl ⟨rfl, xs, .inl (.inl hx)⟩, ?_⟩
 refine ha S σ ρ H τ _ _ hp R hm fun y d H1 ρ1 R1 r1 q1 => ?_
 obtain ⟨ds, h1, q1⟩ := WJ q1
 obtain ⟨p', xs', e', hx', rs'⟩ := U4 R1 h1
 rw [e] at e'; cases e'
 refine hr (zI S σ ρ1) H1 p xs' ds y d Q _ hx' rs' r1 q1 fun v ys r es rv re q' => ?_
 have hk : ∀ b u, ¬ zI S σ ρ1 b -> H1 b = some u -> yc H1 p (.lst ys) b = some u := fun b u n z => by rw [z8 (fun w => n (by rw [w]; exact .inr ⟨i, ⟨_, h1⟩, e⟩))]; exact z
 refine hq v r _ _ (R1.lset h1 e re) (rv.up (fun b _ z => ?_) hk) q'
 rcases z with z | ⟨j, ⟨o, ho⟩, ej⟩
 · exact .inl z
 · by_cases ij : i = j
   · subst ij; exact .inr ⟨i, ⟨_, h1⟩, ej⟩
   · rw [getElem?_set_ne ij] at ho; exact .inr ⟨j, ⟨o, ho⟩, ej⟩
def zb3 : List D -> D -> (D -> List D -> Prop) -> Prop := fun ds d q => ds.length < 100000 /\ q .non (ds ++ [d])
theorem zjm (ha : JE Γ pn ta a) : JE Γ pn (tBM Γ.K "list" zgc (QL i) (Qg ta ZU)) (YR zb3 i a) :=
 zb2 ha fun E H p xs ds y d Q q hx rs ry ⟨hl, hq⟩ k => ⟨p, xs, y, rfl, rfl, hx, by rw [rs.1]; exact fF hl (by decide), k _ _ _ _ .non (rs.append (.cons ry .nil)) hq⟩
def zb4 : List D -> D -> (D -> List D -> Prop) -> Prop := fun ds d q => match d with | .lst es => ds.length + es.length <= 100000 /\ q .non (ds ++ es) | _ => False
theorem zjn (ha : JE Γ pn ta a) : JE Γ pn (tBM Γ.K "list" zgd (QL i) (Qg ta ZU)) (YR zb4 i a) :=
 zb2 ha fun E H p xs ds y d Q q hx rs ry hm k => by
  cases d with
  | lst es =>
   obtain ⟨b, zs, rfl, hb, rz⟩ := ry.list
   exact ⟨p, b, xs, zs, rfl, rfl, hx, hb, by rw [rs.1, rz.1]; exact aV hm.1 (by decide), k _ _ _ _ .non (rs.append rz) hm.2⟩
  | _ => exact aa hm
def zla : List D -> D -> (D -> List D -> Prop) -> Prop := fun ds d q => match d with
 | .int j => (0 <= j /\ j.toNat < ds.length /\ ds.length < 100000) /\ q (ds.getD j.toNat .non) (ds.eraseIdx j.toNat)
 | _ => False
theorem zeo {j : Int} (h0 : 0 <= j) (h1 : j.toNat < n) : gD j n = some j.toNat := by
 unfold gD
 first
  | (simp; omega)
  | (split <;> first | rfl | omega | (simp; omega))
theorem zpB (ha : JE Γ pn ta a) : JE Γ pn (tBM Γ.K "list" zi9 (QL i) (Qg ta ZU)) (YR zla i a) :=
 zb2 ha fun E H p xs ds y d Q q hx rs ry hm k => by
  cases d with
  | int j =>
   obtain ⟨⟨h0, h1, h2⟩, hq⟩ := hm
   cases UC ry
   have hl : j.toNat < xs.length := by rw [rs.1]; exact h1
   refine ⟨p, xs, j, j.toNat, xs[j.toNat], rfl, rfl, hx, by omega, by omega, zeo h0 hl, ac hl, k _ _ _ _ (rs.2 j.toNat _ _ (ac hl) ?_) (rs.eraseIdx _) hq⟩
   rw [aC, ac h1]; rfl
  | _ => exact aa hm
def zaB (i : Nat) (a v : ME) : MS := fun N ρ => v ρ fun d ρ0 => RL ρ0[i]? fun _ => a ρ0 fun x ρ1 => RL ρ1[i]? fun ds => match x with
 | .int j => (0 <= j /\ j.toNat < ds.length) /\ N.nx (ρ1.set i (.own (.lst (ds.set j.toNat d))))
 | _ => False
theorem zlb {i : Nat} {tv ta : TE} {v a : ME} (hv : JE Γ pn tv v) (ha : JE Γ pn ta a) : JS Γ pn fr (zbS tv (zoN (QL i) ta zmx)) (zaB i a v) := fun S σ ρ H τ D N hp R hm hn hr hb hc =>
 hv S σ ρ H τ _ _ hp R hm fun w d H0 ρ0 R0 r0 q0 => by
  obtain ⟨_, h0, q0⟩ := WJ q0
  obtain ⟨p, xs, e, hx, rs⟩ := U4 R0 h0
  refine ⟨_, e, ?_⟩
  refine ha S σ ρ0 H0 ((w, d) :: τ) _ _ hp (R0.push r0) q0 fun y x H1 ρ1 R1 r1 q1 => ?_
  obtain ⟨ds, h1, q1⟩ := WJ q1
  cases x with
  | int j =>
   obtain ⟨⟨j0, j1⟩, q1⟩ := q1
   cases UC r1
   obtain ⟨p', xs', e', hx', rs'⟩ := U4 R1 h1
   rw [e] at e'; cases e'
   have hl : j.toNat < xs'.length := by rw [rs'.1]; exact j1
   refine ⟨p, xs', j, j.toNat, rfl, rfl, hx', ?_, hn _ _ _ (R1.pop.1.lset h1 e (rs'.set _ R1.pop.2)) q1⟩
   unfold J7
   rw [if_pos j0, if_pos (by omega)]
  | _ => exact aa q1
def WK : List (Nat × D) -> Nat -> (D -> Prop) -> Prop
 | [], _, _ => False
 | (g, d) :: r, f, k => if g = f then k d else WK r f k
def zlc (f : Nat) : F1 := fun d q => match d with | .obj c fs => 11 <= c /\ WK fs f q | _ => False
theorem Rg {E : Addr -> Prop} {k : D -> Prop} (hf : f < fNames.length) : ∀ {gs : List (Str × V)} {fs : List (Nat × D)}, (gs.map (·.1) = fs.map fun x => yS x.1) -> Reps Γ E H (gs.map (·.2)) (fs.map (·.2)) -> WK fs f k -> ∃ v d, gs.lookup (yS f) = some v /\ Rep Γ E H v d /\ k d
 | [], [], _, _, h => aa h
 | [], _ :: _, h, _, _ => by cases h
 | _ :: _, [], h, _, _ => by cases h
 | (a, v) :: gs, (b, e) :: fs, h, r, hl => by
  simp only [aq, eG] at h
  obtain ⟨rfl, h⟩ := h
  have r' : Reps Γ E H (v :: gs.map (·.2)) (e :: fs.map (·.2)) := r
  have hl : (if b = f then k e else WK fs f k) := hl
  by_cases q : b = f
  · subst q
    rw [if_pos rfl] at hl
    exact ⟨v, e, by simp, r'.head, hl⟩
  · rw [if_neg q] at hl
    have hne : (yS f == yS b) = false := beq_eq_false_iff_ne.mpr fun z => q (zgk b f hf z.symm)
    obtain ⟨w, d, h1, h2⟩ := Rg hf h r'.tail hl
    exact ⟨w, d, by rw [bD, hne]; exact h1, h2⟩
def Ze (Γ : Cn) (f : Str) : Prop := ∀ c C, 11 <= c -> Γ.cls c = some C -> Cls Γ.K C /\ NoAttr Γ.K C f
theorem zpC (hf : f < fNames.length) (hn : Ze Γ (yS f)) (ha : JO Γ pn ta a) : JE Γ pn (zo2 Γ.K ta (yS f)) (J4 (zlc f) a) := fun S σ ρ H τ Q q hp R hm hq =>
 ha S σ ρ H τ _ _ hp R hm fun v r1 H1 ρ1 τ1 R1 o1 q1 => by
  obtain ⟨dx, rx, q1⟩ := R1.read o1 q1
  cases dx with
  | obj c fs =>
   obtain ⟨x, C, dx, gs, rfl, hc, hx, hl, rs⟩ := rx
   obtain ⟨h11, q1⟩ := q1
   obtain ⟨w, d, hw, rw', q1⟩ := Rg hf hl rs q1
   exact ⟨x, C, dx, gs, w, rfl, hx, (hn c C h11 hc).1, (hn c C h11 hc).2, hw, hq w d H1 ρ1 R1.cut rw' q1⟩
  | _ => exact aa q1
def Yx (f : Nat) (d : D) : List (Nat × D) -> List (Nat × D)
 | [] => [(f, d)]
 | (g, e) :: r => if g = f then (g, d) :: r else (g, e) :: Yx f d r
theorem zep {E : Addr -> Prop} (hf : f < fNames.length) (rv : Rep Γ E H v d) : ∀ {gs : List (Str × V)} {fs : List (Nat × D)}, (gs.map (·.1) = fs.map fun x => yS x.1) -> Reps Γ E H (gs.map (·.2)) (fs.map (·.2)) ->
 ((Je (yS f) v gs).map (·.1) = (Yx f d fs).map fun x => yS x.1) /\ Reps Γ E H ((Je (yS f) v gs).map (·.2)) ((Yx f d fs).map (·.2))
 | [], [], _, _ => ⟨rfl, .cons rv .nil⟩
 | [], _ :: _, h, _ => by cases h
 | _ :: _, [], h, _ => by cases h
 | (a, w) :: gs, (b, e) :: fs, h, r => by
  simp only [aq, eG] at h
  obtain ⟨rfl, h⟩ := h
  have r' : Reps Γ E H (w :: gs.map (·.2)) (e :: fs.map (·.2)) := r
  by_cases q : b = f
  · subst q
    rw [show Je (yS b) v ((yS b, w) :: gs) = (yS b, v) :: gs from if_pos rfl, show Yx b d ((b, e) :: fs) = (b, d) :: fs from if_pos rfl]
    exact ⟨by simp [h], .cons rv r'.tail⟩
  · have hne : ¬ yS b = yS f := fun z => q (zgk b f hf z)
    rw [show Je (yS f) v ((yS b, w) :: gs) = (yS b, w) :: Je (yS f) v gs from if_neg hne, show Yx f d ((b, e) :: fs) = (b, e) :: Yx f d fs from if_neg q]
    obtain ⟨i1, i2⟩ := zep hf rv h r'.tail
    exact ⟨by rw [aq, aq, i1], .cons r'.head i2⟩
def zhP (s : Option Slot) (k : Nat -> List (Nat × D) -> Prop) : Prop := match s with | some (.own (.obj c fs)) => k c fs | _ => False
theorem znA {k : Nat -> List (Nat × D) -> Prop} (h : zhP s k) : ∃ c fs, s = some (.own (.obj c fs)) /\ k c fs := by
 unfold zhP at h
 split at h
 · exact ⟨_, _, rfl, h⟩
 · exact aa h
def zdK (i : Nat) (f : Nat) (m : ME) : MS := fun N ρ => m ρ fun d ρ1 => zhP ρ1[i]? fun c fs => 11 <= c /\ fs.length < 100 /\ N.nx (ρ1.set i (.own (.obj c (Yx f d fs))))
theorem znB (hf : f < fNames.length) (hn : Ze Γ (yS f)) (hv : JE Γ pn tv m) : JS Γ pn fr (zo3 Γ.K (QL i) tv (yS f)) (zdK i f m) := fun S σ ρ H τ D N hp R hm hnx hr hb hc =>
 hv S σ ρ H τ _ _ hp R hm fun w d H1 ρ1 R1 r1 q1 => by
  obtain ⟨c, fs, h1, h11, hl, q1⟩ := znA q1
  obtain ⟨p, e, ⟨C, dx, gs, hc', hx, hk, rs⟩, _⟩ := R1.own i _ h1
  have hlen : gs.length = fs.length := by have := congrArg bR hk; simpa using this
  have keep : ∀ b u, b ≠ p -> H1 b = some u -> yc H1 p (.ins C dx (Je (yS f) w gs)) b = some u := fun b u n q => by rw [z8 n]; exact q
  obtain ⟨k1, k2⟩ := zep hf r1 hk rs
  refine ⟨_, e, p, C, dx, gs, rfl, hx, (hn c C h11 hc').1, (hn c C h11 hc').2, by omega, hnx _ _ _ (R1.write (o' := .obj c (Yx f d fs)) h1 e keep ⟨C, dx, _, hc', jD, k1, k2.up (fun _ _ z => z) fun b o n q => keep b o (fun z => n ?_) q⟩) q1⟩
  rw [z]; exact .inr ⟨i, ⟨_, h1⟩, e⟩
end
abbrev UG := List Slot -> (D -> List D -> Prop) -> (D -> List D -> Prop) -> Prop
def U5 : List Nat -> Env -> (List D -> Prop) -> Prop
 | [], _, k => k []
 | i :: r, ρ, k => match ρ[i]? with | some (.own o) => U5 r ρ fun os => k (o :: os) | _ => False
def zld (pn : List Nat) (ρ : Env) (os : List D) : Prop := os.length = pn.length /\ ∀ (k i : Nat) o, pn[k]? = some i -> os[k]? = some o -> ρ[i]? = some (.own o)
theorem zgo : ∀ {pn : List Nat} {ρ : Env} {k : List D -> Prop}, U5 pn ρ k -> ∃ os, zld pn ρ os /\ k os
 | [], ρ, k, h => ⟨[], ⟨rfl, fun k i o h => by simp at h⟩, h⟩
 | i :: r, ρ, k, h => by
  unfold U5 at h
  split at h
  · rename_i o ho
    obtain ⟨os, ⟨hl, hp⟩, hk⟩ := zgo h
    refine ⟨o :: os, ⟨by simp [hl], fun j x u h1 h2 => ?_⟩, hk⟩
    cases j with
    | zero => simp at h1 h2; subst h1 h2; exact ho
    | succ j => simp at h1 h2; exact hp j x u h1 h2
  · exact aa h
def Z0 : D -> List D -> Prop := fun _ _ => False
def z7 (Γ : Cn) (pn : List Nat) (fr : Bool) (n : Nat) (p : UG) : Sp := fun vs H Q _ => vs.length = n /\ ∃ (S : Fs) (ss : List Slot) (q : D -> List D -> Prop), JK pn S /\ S.H0 = H /\ Rel Γ S H (vs.map some) ss [] /\ p ss q Z0 /\
 ∀ v d H' σ' ρ' os, RR Γ fr S σ' ρ' H' [] v d -> zld pn ρ' os -> q d os -> Q v H'
section
variable {Γ : Cn} {pn : List Nat} {fr : Bool}
theorem Zg {α : Type} {l : List α} {n i : Nat} {x y : α} (h : (l ++ aY n x)[i]? = some y) (hy : y ≠ x) : l[i]? = some y := by
 by_cases hi : i < l.length
 · rwa [dj hi] at h
 · rw [eZ (by omega), ft] at h
   split at h
   · cases h; exact absurd rfl hy
   · cases h
theorem U6 {α : Type} {l m : List α} {i : Nat} {y : α} (h : l[i]? = some y) : (l ++ m)[i]? = some y := by
 rw [dj (aD.mp h).1]; exact h
theorem Rel.ext (R : Rel Γ S H σ ρ τ) (n : Nat) : Rel Γ S H (σ ++ aY n none) (ρ ++ aY n .no) τ := by
 have ow : ∀ i, yZ (ρ ++ aY n .no) i -> yZ ρ i := fun i ⟨o, h⟩ => ⟨o, Zg h (by simp)⟩
 have he : ∀ b, zI S (σ ++ aY n none) (ρ ++ aY n .no) b -> zI S σ ρ b := fun b h => by
  rcases h with h | ⟨i, hi, e⟩
  · exact .inl h
  · exact .inr ⟨i, ow i hi, Zg e (by simp)⟩
 exact {
  len := by simp [R.len]
  val := fun i d h => let ⟨v, e, r⟩ := R.val i d (Zg h (by simp)); ⟨v, U6 e, r.up (fun b _ => he b) fun _ _ _ z => z⟩
  own := fun i o h => let ⟨p, e, r, q⟩ := R.own i o (Zg h (by simp)); ⟨p, U6 e, r.up (fun _ z => z) (fun b _ => he b) fun _ _ _ z => z, q⟩
  pin := fun i p h => let ⟨e, o, q⟩ := R.pin i p h; ⟨U6 e, o, U6 q⟩
  inj := fun i j p hi hj e1 e2 => R.inj i j p (ow i hi) (ow j hj) (Zg e1 (by simp)) (Zg e2 (by simp))
  dom := R.dom
  fr := R.fr
  tmp := fun x hx => (R.tmp x hx).up (fun b _ => he b) fun _ _ _ z => z }
theorem U7 {vs : List V} {ds : List D} (R : Rel Γ S H σ ρ τ) (r : Reps Γ (zI S σ ρ) H vs ds) :
 Rel Γ ⟨zI S σ ρ, H, fun _ => none⟩ H (vs.map some) (ds.map .val) [] := by
 have no : ∀ i, ¬ yZ (ds.map Slot.val) i := fun i ⟨o, h⟩ => by
  rw [ar] at h
  cases e : ds[i]? with
  | none => rw [e] at h; cases h
  | some d => rw [e] at h; cases h
 have he : ∀ b, zI ⟨zI S σ ρ, H, fun _ => none⟩ (vs.map some) (ds.map .val) b -> zI S σ ρ b := fun b h => h.elim id fun ⟨i, hi, _⟩ => absurd hi (no i)
 exact {
  len := by simp [r.1]
  val := fun i d h => by
   rw [ar] at h
   cases e : ds[i]? with
   | none => rw [e] at h; cases h
   | some d' =>
    rw [e] at h; cases h
    obtain ⟨v, h1, h2⟩ := r.get e
    exact ⟨v, by rw [ar, h1]; rfl, h2.up (fun b _ => he b) fun _ _ _ z => z⟩
  own := fun i o h => absurd ⟨o, h⟩ (no i)
  pin := fun i p h => by cases h
  inj := fun i j p hi => absurd hi (no i)
  dom := fun a h => y9 R h
  fr := fun b o h _ => h
  tmp := fun x h => nomatch h }
def WM (p : UG) (a : MA) : ME := fun ρ q => a ρ fun ds ρ1 => p (ds.map .val) (fun d _ => q d ρ1) Z0
theorem U8 (R : Rel Γ S H σ ρ τ) (R' : Rel Γ ⟨zI S σ ρ, H, fun _ => none⟩ H' σ' ρ' []) (r : Rep Γ (zI ⟨zI S σ ρ, H, fun _ => none⟩ σ' ρ') H' v d) :
 Rel Γ S H' σ ρ τ /\ Rep Γ (zI S σ ρ) H' v d :=
 ⟨R.grow fun b o h => R'.fr b o h fun i => by simp, r.up (fun b _ z => .inl z) fun _ _ _ z => z⟩
theorem je_call (ha : JA Γ pn ta a) (hn : ∀ ss q, p ss q Z0 -> ss.length = n) : JE Γ pn (WF (z7 Γ [] false n p) [] E0 ta) (WM p a) := fun S σ ρ H τ Q q hp R hm hq =>
 ha S σ ρ H τ _ _ hp R hm fun vs ds H1 ρ1 R1 r1 q1 => by
  rw [aW]
  have hl := hn _ _ q1
  refine ⟨by rw [r1.1]; simpa using hl, ⟨zI S σ ρ1, H1, fun _ => none⟩, ds.map .val, _, fun _ _ => rfl, rfl, U7 R1 r1, q1, fun v d H' σ' ρ' os ⟨R', r'⟩ _ q' => ?_⟩
  obtain ⟨a, b⟩ := U8 R1 R' r'
  exact hq v d H' ρ1 a b q'
def VX (j : Nat) (p : UG) (a : MA) : ME := fun ρ q => match ρ[j]? with
 | some (.own _) => a ρ fun ds ρ1 => match ρ1[j]? with
  | some (.own o) => p (.own o :: ds.map .val) (fun d os => match os with | [o'] => q d (ρ1.set j (.own o')) | _ => False) Z0
  | _ => False
 | _ => False
def VY (x : Addr) : Nat -> Option Addr := fun i => if i = 0 then some x else none
theorem zcQ {S : Fs} {σ : St} {ρ : Env} {τ : List (V × D)} {vs : List V} {ds : List D} {E : Addr -> Prop} (hd : ∀ a, E a -> H a ≠ none) (r : Reps Γ (fun a => E a \/ a = x) H vs ds) (ow : OwnAt Γ (fun a => E a \/ a = x) H x o) (nx : ¬ E x) :
 Rel Γ ⟨E, H, VY x⟩ H (some (.ref x) :: vs.map some) (.own o :: ds.map .val) [] := by
 have no : ∀ i, yZ (.own o :: ds.map Slot.val) i -> i = 0 := fun i ⟨u, h⟩ => by
  cases i with
  | zero => rfl
  | succ i =>
   rw [bh, ar] at h
   cases e : ds[i]? with
   | none => rw [e] at h; cases h
   | some d => rw [e] at h; cases h
 have he : ∀ b, zI ⟨E, H, VY x⟩ (some (.ref x) :: vs.map some) (.own o :: ds.map .val) b -> E b \/ b = x := fun b h => h.elim .inl fun ⟨i, hi, e⟩ => by
  have := no i hi
  subst this
  simp at e
  exact .inr e.symm
 exact {
  len := by simp [r.1]
  val := fun i d h => by
   cases i with
   | zero => simp at h
   | succ i =>
    rw [bh, ar] at h
    cases e : ds[i]? with
    | none => rw [e] at h; cases h
    | some d' =>
     rw [e] at h; cases h
     obtain ⟨v, h1, h2⟩ := r.get e
     exact ⟨v, by rw [bh, ar, h1]; rfl, h2.up (fun b _ => he b) fun _ _ _ z => z⟩
  own := fun i u h => by
   have := no i ⟨u, h⟩
   subst this
   simp at h
   subst h
   exact ⟨x, rfl, ow.up (fun _ z => z) (fun b _ => he b) fun _ _ _ z => z, nx, .inl rfl⟩
  pin := fun i p h => by
   unfold VY at h
   dsimp only at h
   split at h
   · cases h; rename_i hi; subst hi; exact ⟨rfl, o, rfl⟩
   · cases h
  inj := fun i j p hi hj _ _ => by rw [no i hi, no j hj]
  dom := hd
  fr := fun b u h _ => h
  tmp := fun y h => nomatch h }
theorem zmE {ρ' : Env} {os : List D} (h : zld [0] ρ' os) : ∃ o, os = [o] /\ ρ'[0]? = some (.own o) := by
 obtain ⟨hl, hp⟩ := h
 match os, hl with
 | [o], _ => exact ⟨o, rfl, hp 0 0 o rfl rfl⟩
theorem zcR {E : Addr -> Prop} (R' : Rel Γ ⟨E, H, VY x⟩ H' σ' ρ' []) (ho : ρ'[0]? = some (.own o)) :
 (∀ b u, b ≠ x -> H b = some u -> H' b = some u) /\ OwnAt Γ (zI ⟨E, H, VY x⟩ σ' ρ') H' x o /\ ∀ b, (E b \/ b = x) -> zI ⟨E, H, VY x⟩ σ' ρ' b := by
 obtain ⟨e0, w0⟩ := R'.pin 0 x (by show (if (0 : Nat) = 0 then some x else none) = _; rfl)
 obtain ⟨p, e1, ow, _⟩ := R'.own 0 o ho
 rw [e0] at e1; cases e1
 refine ⟨fun b u hb h => R'.fr b u h fun i => ?_, ow, fun b hb => ?_⟩
 · show (if i = 0 then some x else none) ≠ some b
   split
   · intro z; cases z; exact hb rfl
   · intro z; cases z
 · rcases hb with hb | hb
   · exact .inl hb
   · subst hb; exact .inr ⟨0, w0, e0⟩
theorem zle (ha : JA Γ pn ta a) (hn : ∀ ss q, p ss q Z0 -> ss.length = n) : JE Γ pn (WF (z7 Γ [0] false n p) [] E0 (Qg (QL j) ta)) (VX j p a) := fun S σ ρ H τ Q q hp R hm hq => by
 unfold VX at hm
 split at hm
 · rename_i o0 h0
   obtain ⟨x, e, _⟩ := R.own j o0 h0
   refine ⟨_, e, ?_⟩
   refine ha S σ ρ H τ _ _ hp R hm fun vs ds H1 ρ1 R1 r1 q1 => ?_
   show z7 Γ [0] false n p ((V.ref x :: vs) ++ []) H1 Q E0
   rw [aW]
   split at q1
   · rename_i o h1
     obtain ⟨x', e', ow, nC, _⟩ := R1.own j o h1
     rw [e] at e'; cases e'
     have ex1 : ∀ b, (zI S σ ρ1 b /\ b ≠ x) \/ b = x -> zI S σ ρ1 b := fun b h => h.elim And.left fun z => by rw [z]; exact .inr ⟨j, ⟨o, h1⟩, e⟩
     have ex2 : ∀ b, zI S σ ρ1 b -> (zI S σ ρ1 b /\ b ≠ x) \/ b = x := fun b h => by
      by_cases z : b = x
      · exact .inr z
      · exact .inl ⟨h, z⟩
     have hl := hn _ _ q1
     refine ⟨by have := r1.1; simp at hl; simp; omega, ⟨fun a => zI S σ ρ1 a /\ a ≠ x, H1, VY x⟩, _, _, fun i hi => ?_, rfl,
      zcQ (S := S) (σ := σ) (ρ := ρ1) (τ := τ) (fun a h => y9 R1 h.1) (r1.up (fun b _ => ex1 b) fun _ _ _ z => z) (ow.up (fun _ z => z) (fun b _ => ex1 b) fun _ _ _ z => z) (fun z => z.2 rfl), q1, fun v d H' σ' ρ' os ⟨R', r'⟩ ps q' => ?_⟩
     · show (if i = 0 then some x else none) = none
       rw [if_neg (by simpa using hi)]
     · obtain ⟨o', rfl, ho'⟩ := zmE ps
       obtain ⟨k1, k2, k3⟩ := zcR R' ho'
       have k2' : OwnAt Γ (zI S σ ρ1) H' x o' := k2.up (fun _ z => z) (fun b _ z => k3 b (ex2 b z)) fun _ _ _ z => z
       refine hq v d H' _ (R1.write h1 e k1 k2') (r'.up (fun b _ z => k3 b (ex2 b ?_)) fun _ _ _ z => z) q'
       rcases z with z | ⟨i, ⟨u, hu⟩, ei⟩
       · exact .inl z
       · by_cases ij : j = i
         · subst ij; exact .inr ⟨j, ⟨o, h1⟩, ei⟩
         · rw [getElem?_set_ne ij] at hu; exact .inr ⟨i, ⟨u, hu⟩, ei⟩
   · exact aa q1
 · exact aa hm
def zdL (c : Nat) (p : UG) (a : MA) : ME := fun ρ q => a ρ fun ds ρ1 => p (.own (.obj c []) :: ds.map .val) (fun d os => match d, os with | .non, [o] => q o ρ1 | _, _ => False) Z0
theorem Rel.addS {S : Fs} (R : Rel Γ S H σ ρ τ) (hp : H p = none) (g : Same H H') (hn : H' p ≠ none) : Rel Γ (S.add p) H' σ ρ τ := by
 have he : ∀ b, H b ≠ none -> zI (S.add p) σ ρ b -> zI S σ ρ b := fun b hb h => by
  rcases h with (h | h) | h
  · exact .inl h
  · subst h; exact absurd hp hb
  · exact .inr h
 exact {
  len := R.len
  val := fun i d h => let ⟨v, e, r⟩ := R.val i d h; ⟨v, e, r.up he fun b o _ q => g b o q⟩
  own := fun i o h => by
   obtain ⟨q, e, r, n, pn⟩ := R.own i o h
   refine ⟨q, e, r.up (fun u => g q u) he fun b o _ q => g b o q, ?_, pn⟩
   rintro (z | z)
   · exact n z
   · subst z; exact r.ne0 hp
  pin := R.pin
  inj := R.inj
  dom := fun a h => by
   rcases h with h | h
   · cases e : H a with
     | none => exact absurd e (R.dom a h)
     | some u => rw [g a u e]; simp
   · subst h; exact hn
  fr := fun b o h n => g b o (R.fr b o h n)
  tmp := fun x hx => (R.tmp x hx).up he fun b o _ q => g b o q }
theorem znC (ha : JA Γ pn ta a) (hn : ∀ ss q, p ss q Z0 -> ss.length = n) : JF Γ pn (WF (z7 Γ [] true n p) [] E0 ta) (WM p a) := fun S σ ρ H τ Q q hp R hm hq =>
 ha S σ ρ H τ _ _ hp R hm fun vs ds H1 ρ1 R1 r1 q1 => by
  rw [aW]
  have hl := hn _ _ q1
  refine ⟨by rw [r1.1]; simpa using hl, ⟨zI S σ ρ1, H1, fun _ => none⟩, ds.map .val, _, fun _ _ => rfl, rfl, U7 R1 r1, q1, fun v d H' σ' ρ' os ⟨p, e, R', ow, h0, ne⟩ _ q' => ?_⟩
  subst e
  have h0 : H1 p = none := h0
  have same : Same H1 H' := fun b o h => R'.fr b o h fun i => by show (none : Option Addr) ≠ some b; simp
  refine hq p d H' ρ1 (R1.addS h0 same ow.ne0) (ow.up (fun _ z => z) (fun b _ z => ?_) fun _ _ _ z => z) (R1.new h0) (fun z => y9 R1 z h0) q'
  rcases z with (z | z) | z
  · exact .inl (.inl (.inl z))
  · exact .inl (.inr z)
  · exact .inl (.inl (.inr z))
theorem znD (hC : Γ.cls c = some C) (ha : JA Γ pn ta a) (hn : ∀ ss q, p ss q Z0 -> ss.length = n) : JF Γ pn (zmu C (z7 Γ [0] false n p) [] E0 ta) (zdL c p a) := fun S σ ρ H τ Q q hp R hm hq =>
 ha S σ ρ H τ _ _ hp R hm fun vs ds H1 ρ1 R1 r1 q1 => by
  intro x dx hx hdx hne
  rw [aW]
  have hl := hn _ _ q1
  have g1 : Same H1 (yc (yc H1 dx (.own x)) x (.ins C dx [])) := fun b o h => by rw [z8 (yD h hx), z8 (yD h hdx)]; exact h
  have hxE : ¬ zI S σ ρ1 x := fun z => y9 R1 z hx
  refine ⟨by have := r1.1; simp at hl; simp; omega, ⟨zI S σ ρ1, _, VY x⟩, _, _, fun i hi => ?_, rfl,
   zcQ (S := S) (σ := σ) (ρ := ρ1) (τ := τ) (o := .obj c []) (fun a h => ?_) (r1.up (fun b hb z => z.elim id fun w => by subst w; exact absurd hx hb) fun b o _ z => g1 b o z) ⟨C, dx, [], hC, jD, rfl, .nil⟩ hxE, q1, fun v d H' σ' ρ' os ⟨R', r'⟩ ps q' => ?_⟩
  · show (if i = 0 then some x else none) = none
    rw [if_neg (by simpa using hi)]
  · cases e : H1 a with
    | none => exact absurd e (y9 R1 h)
    | some u => exact fun z => absurd ((g1 a u e).symm.trans z) (by simp)
  · obtain ⟨o', rfl, ho'⟩ := zmE ps
    obtain ⟨k1, k2, k3⟩ := zcR R' ho'
    cases d with
    | non =>
     cases r'
     have same : Same H1 H' := fun b u h => k1 b u (yD h hx) (g1 b u h)
     refine ⟨rfl, hq x o' H' ρ1 (R1.addS hx same k2.ne0) (k2.up (fun _ z => z) (fun b _ z => k3 b ?_) fun _ _ _ z => z) (R1.new hx) hxE q'⟩
     rcases z with (z | z) | z
     · exact .inl (.inl z)
     · exact .inr z
     · exact .inl (.inr z)
    | _ => exact aa q'
def zeq (m : Str) (disp : Addr -> Sp -> Prop) (ta : TE) (t : TA) : TE := fun σ H Q => ta σ H fun x H1 => ∃ a C dx fs sp, x = .ref a /\ H1 a = some (.ins C dx fs) /\ fs.lookup m = none /\ disp C sp /\ t σ H1 fun vs H2 => sp (x :: vs) H2 Q E0
def zaC (tbl : Nat -> Option UG) (a : ME) (r : MA) : ME := fun ρ q => a ρ fun x ρ1 => match x with
 | .obj c fs => match tbl c with
  | some p => r ρ1 fun ds ρ2 => p (.val (.obj c fs) :: ds.map .val) (fun d _ => q d ρ2) Z0
  | none => False
 | _ => False
def zjo (Γ : Cn) (tbl : Nat -> Option UG) (n : Nat) : Addr -> Sp -> Prop := fun C sp => ∃ c p, Γ.cls c = some C /\ tbl c = some p /\ sp = z7 Γ [] false n p
theorem zcS (hm : ∀ n, yS n ≠ m) : ∀ {gs : List (Str × V)} {fs : List (Nat × D)}, (gs.map (·.1) = fs.map fun x => yS x.1) -> gs.lookup m = none
 | [], _, _ => rfl
 | _ :: _, [], h => by cases h
 | (a, v) :: gs, (b, e) :: fs, h => by
  simp only [aq, eG] at h
  obtain ⟨rfl, h⟩ := h
  rw [bD, beq_eq_false_iff_ne.mpr fun z => hm b z.symm]
  exact zcS hm h
theorem zgp {tbl : Nat -> Option UG} (hm : ∀ n, yS n ≠ m) (ha : JE Γ pn ta a) (hr : JA Γ pn tr r) (hn : ∀ c p ss q, tbl c = some p -> p ss q Z0 -> ss.length = n) :
 JE Γ pn (zeq m (zjo Γ tbl n) ta tr) (zaC tbl a r) := fun S σ ρ H τ Q q hp R hmm hq =>
 ha S σ ρ H τ _ _ hp R hmm fun v x H1 ρ1 R1 r1 q1 => by
  cases x with
  | obj c fs =>
   dsimp only at q1
   split at q1
   · rename_i p hp'
     cases id r1 with
     | obj ne hc h l rs =>
      refine ⟨_, _, _, _, _, rfl, h, zcS hm l, ⟨c, p, hc, hp', rfl⟩, ?_⟩
      refine hr S σ ρ1 H1 (_ :: τ) _ _ hp (R1.push r1) q1 fun vs ds H2 ρ2 R2 r2 q2 => ?_
      have hl := hn _ _ _ _ hp' q2
      have rr : Reps Γ (zI S σ ρ2) H2 (_ :: vs) (.obj c fs :: ds) := .cons R2.pop.2 r2
      refine ⟨by rw [rr.1]; simpa using hl, ⟨zI S σ ρ2, H2, fun _ => none⟩, _, _, fun _ _ => rfl, rfl, U7 R2.pop.1 rr, q2, fun v d H' σ' ρ' os ⟨R', r'⟩ _ q' => ?_⟩
      obtain ⟨a, b⟩ := U8 R2.pop.1 R' r'
      exact hq v d H' ρ2 a b q'
   · exact aa q1
  | _ => exact aa q1
end
section
variable {X : Cx} {m : Str} {disp : Addr -> Sp -> Prop} {pos apos : Pos} {e o : Expr} {es : List Expr} {ta : TE} {t : TA}
def zer (X : Cx) (m : Str) (disp : Addr -> Sp -> Prop) : Prop := ∀ C sp, disp C sp -> Cls X.K C /\ ∃ k f fd ps, zkP X.K C m f /\ FnOk X.prog X.w X.K X.mg X.base yd k f fd ps sp /\ Room k X.A /\ Binds X.K fd ps []
theorem zlf (he : PE X o ta) (hD : zer X m disp) (ha : PA X (e :: es) t)
 (hst : am (e :: es) X.env = (false, eval e X.env) :: am es X.env := by rfl) (hpl : (backTo pos (am es X.env)).any (·.1) = false := by rfl)
 (ht : eval (.Call (.Attribute o m apos) (e :: es) [] pos) X.env = (do
  let ov ← eval o X.env
  eN apos.atName
  let (f, first) ← cH [ov] (fA ov m pl)
  iU pos f first (backTo pos (am (e :: es) X.env)) (dz pos (cp [] X.env))) := by rfl) :
 PE X (.Call (.Attribute o m apos) (e :: es) [] pos) (zeq m disp ta t) := by
 intro pins s σ H Q I h
 refine fW (pl := pl) (zP (he pins s σ H _ I h) fun u s1 ⟨x, H1, I1, rx, a, C, dx, fs, sp, ex, ea, l, hd, q⟩ => ?_) ht
 subst ex
 obtain rfl : u = Value.ref a := rx
 obtain ⟨c, k, f, fd, ps, hm, F, hr, hb⟩ := hD C sp hd
 refine zau I1 ea c hm l ?_
 refine eU (first := [.ref a]) (h₀ := X.base) I.ok.mod.kin hm.kp (zP (ha pos pins s1 σ H1 _ I1 q) fun us s2 ⟨vs, H2, I2, r, q2⟩ => ⟨I2.kIn, ?_⟩) hst hpl
 exact zd9 (us := .ref a :: us) (vs := .ref a :: vs) (dvs := []) (ds := []) F hr hb .nil zdE I2 (.cons rfl r) (by rw [aW]; exact q2)
theorem zjp (he : PE X o ta) (hD : zer X m disp)
 (ht : eval (.Call (.Attribute o m apos) [] [] pos) X.env = (do
  let ov ← eval o X.env
  eN apos.atName
  let (f, first) ← cH [ov] (fA ov m pl)
  iU pos f first (backTo pos (am [] X.env)) (dz pos (cp [] X.env))) := by rfl) :
 PE X (.Call (.Attribute o m apos) [] [] pos) (zeq m disp ta ZU) := by
 intro pins s σ H Q I h
 refine fW (pl := pl) (zP (he pins s σ H _ I h) fun u s1 ⟨x, H1, I1, rx, a, C, dx, fs, sp, ex, ea, l, hd, q⟩ => ?_) ht
 subst ex
 obtain rfl : u = Value.ref a := rx
 obtain ⟨c, k, f, fd, ps, hm, F, hr, hb⟩ := hD C sp hd
 refine zau I1 ea c hm l ?_
 exact PySem.W.callWith_K0 (first := [.ref a]) I1.kIn hm.kp (zd9 (us := [.ref a]) (vs := [.ref a]) (dvs := []) (ds := []) F hr hb .nil zdE I1 (.cons rfl .nil) q)
end
section
variable {Γ : Cn} {pn : List Nat}
theorem zH {E : Addr -> Prop} (r : jV Γ E H v d) (h : JL d = true) : v = vD d := by
 cases d with
 | non => exact Rep.flat (show Rep Γ E H v .non from r) rfl
 | bl b => exact Rep.flat (show Rep Γ E H v (.bl b) from r) rfl
 | int b => exact Rep.flat (show Rep Γ E H v (.int b) from r) rfl
 | str b => exact Rep.flat (show Rep Γ E H v (.str b) from r) rfl
 | ty b => exact Rep.flat (show Rep Γ E H v (.ty b) from r) rfl
 | _ => cases h
theorem jQ {E : Addr -> Prop} (r : jV Γ E H v (.int i)) : v = .int i := zH r rfl
theorem Zh {E : Addr -> Prop} (r : jV Γ E H v (.str i)) : v = .str i := zH r rfl
theorem znE {E : Addr -> Prop} (r : jV Γ E H v (.bl i)) : v = .bl i := zH r rfl
def Q6 (g : Int -> Int -> D) : F2 := fun x y q => match x, y with | .int i, .int j => q (g i j) | _, _ => False
def fI (C : Int -> Int -> Prop) (g : Int -> Int -> D) : F2 := fun x y q => match x, y with | .int i, .int j => C i j /\ q (g i j) | _, _ => False
theorem WN {gv : Int -> Int -> V} {g : Int -> Int -> D} (hf : ∀ i j, JL (g i j) = true) (hv : ∀ i j, gv i j = vD (g i j)) : y6 Γ (Ux gv) (Q6 g) := fun E H x y dx dy Q q _ rx ry h k => by
 unfold Q6 at h
 split at h
 · rename_i i j
   refine ⟨i, j, jQ rx, jQ ry, k _ _ H (Same.refl H) ?_ h⟩
   rw [hv]; exact Zd (hf i j)
 · exact aa h
theorem zhQ {C : Int -> Int -> Prop} {gv : Int -> Int -> V} {g : Int -> Int -> D} (hf : ∀ i j, JL (g i j) = true) (hv : ∀ i j, gv i j = vD (g i j)) : y6 Γ (rI C gv) (fI C g) := fun E H x y dx dy Q q _ rx ry h k => by
 unfold fI at h
 split at h
 · rename_i i j
   refine ⟨i, j, jQ rx, jQ ry, h.1, k _ _ H (Same.refl H) ?_ h.2⟩
   rw [hv]; exact Zd (hf i j)
 · exact aa h
def zlg : F1 := fun x q => match x with | .int i => q (.int (-i)) | _ => False
theorem zpD : QP Γ (rU fun i => .int (-i)) zlg := fun E H x dx Q q _ rx h k => by
 cases dx with
 | int i => exact ⟨i, jQ rx, k _ _ H (Same.refl H) (.int _) h⟩
 | _ => exact aa h
def Rh : D -> D -> Option Bool
 | .non, .non => some true
 | .non, .int _ => some false | .int _, .non => some false | .non, .bl _ => some false | .bl _, .non => some false | .non, .str _ => some false | .str _, .non => some false
 | .int i, .int j => some (decide (i = j))
 | .bl a, .bl b => some (decide (a = b))
 | .str a, .str b => some (decide (a = b))
 | .int _, .str _ => some false | .str _, .int _ => some false | .bl _, .str _ => some false | .str _, .bl _ => some false
 | _, _ => none
theorem zpE {α β : Type} [DecidableEq α] [DecidableEq β] {f : α -> β} (hf : ∀ a b, f a = f b -> a = b) (a b : α) : decide (f a = f b) = decide (a = b) := by
 by_cases h : a = b
 · subst h; simp
 · rw [decide_eq_false h, decide_eq_false fun z => h (hf a b z)]
theorem zjq (h : Rh x y = some b) : JL x = true /\ JL y = true /\ zkH (vD x) (vD y) = true /\ decide (vD x = vD y) = b := by
 unfold Rh at h
 split at h <;> first
  | (cases h; refine ⟨rfl, rfl, rfl, ?_⟩; first | rfl | (simp [vD]) | exact zpE (fun _ _ z => by injection z) _ _)
  | cases h
def fEq : F2 := fun x y q => match Rh x y with | some b => q (.bl b) | none => False
def fNe : F2 := fun x y q => match Rh x y with | some b => q (.bl (!b)) | none => False
theorem J9 : y6 Γ rEq fEq := fun E H x y dx dy Q q _ rx ry h k => by
 unfold fEq at h
 split at h
 · rename_i b hb
   obtain ⟨f1, f2, s, e⟩ := zjq hb
   rw [zH rx f1, zH ry f2]
   exact ⟨s, by rw [e]; exact k _ _ H (Same.refl H) (.bl _) h⟩
 · exact aa h
theorem zaD : y6 Γ rNe fNe := fun E H x y dx dy Q q _ rx ry h k => by
 unfold fNe at h
 split at h
 · rename_i b hb
   obtain ⟨f1, f2, s, e⟩ := zjq hb
   rw [zH rx f1, zH ry f2]
   exact ⟨s, by rw [e]; exact k _ _ H (Same.refl H) (.bl _) h⟩
 · exact aa h
def Qs : D -> Bool | .non => true | _ => false
def zpF : F2 := fun x y q => match y with | .non => q (.bl (Qs x)) | _ => False
def zmH : F2 := fun x y q => match y with | .non => q (.bl (!Qs x)) | _ => False
theorem zes {E : Addr -> Prop} (r : jV Γ E H v d) : decide (v = .non) = Qs d := by
 cases d with
 | non => rw [zH r rfl]; rfl
 | bl b => rw [zH r rfl]; rfl
 | int b => rw [zH r rfl]; rfl
 | str b => rw [zH r rfl]; rfl
 | ty b => rw [zH r rfl]; rfl
 | lst ds => obtain ⟨a, _, rfl, _⟩ := r; rfl
 | tup ds => obtain ⟨a, _, rfl, _⟩ := Rep.tuple r; rfl
 | fz ds => obtain ⟨a, rfl, _⟩ := Rep.script r; rfl
 | dK ds => obtain ⟨a, _, rfl, _⟩ := r; rfl
 | dT ds => obtain ⟨a, _, rfl, _⟩ := r; rfl
 | obj c fs => obtain ⟨a, _, _, _, rfl, _⟩ := r; rfl
 | exc k => cases r; rfl
 | kt xs => obtain ⟨a, rfl, _⟩ := Rep.kept r; rfl
 | kd xs => obtain ⟨a, rfl, _⟩ := Rep.table r; rfl
theorem zet : y6 Γ (fun x y H Q => y = .non /\ Q (.bl (decide (x = .non))) H) zpF := fun E H x y dx dy Q q _ rx ry h k => by
 cases dy with
 | non => refine ⟨zH ry rfl, ?_⟩; rw [zes rx]; exact k _ _ H (Same.refl H) (.bl _) h
 | _ => exact aa h
theorem zb5 : y6 Γ (fun x y H Q => y = .non /\ Q (.bl (!decide (x = .non))) H) zmH := fun E H x y dx dy Q q _ rx ry h k => by
 cases dy with
 | non => refine ⟨zH ry rfl, ?_⟩; rw [zes rx]; exact k _ _ H (Same.refl H) (.bl _) h
 | _ => exact aa h
def zdM : F2 := fun x y q => match x, y with | .str a, .str b => a.length + b.length <= 100000 /\ q (.str (a ++ b)) | _, _ => False
theorem znF : y6 Γ (fun x y H Q => ∃ i j, x = .str i /\ y = .str j /\ i.length + j.length <= aF /\ Q (.str (i ++ j)) H) zdM := fun E H x y dx dy Q q _ rx ry h k => by
 unfold zdM at h
 split at h
 · exact ⟨_, _, Zh rx, Zh ry, aV h.1 (by decide), k _ _ H (Same.refl H) (.str _) h.2⟩
 · exact aa h
def zlh : F2 := fun x y q => match x, y with | .str a, .str b => q (.bl (!decide (b.cps.toList < a.cps.toList))) | _, _ => False
theorem zjr : y6 Γ (fun x y H Q => ∃ i j, x = .str i /\ y = .str j /\ Q (.bl (!(decide (j.cps.toList < i.cps.toList)))) H) zlh := fun E H x y dx dy Q q _ rx ry h k => by
 unfold zlh at h
 split at h
 · exact ⟨_, _, Zh rx, Zh ry, k _ _ H (Same.refl H) (.bl _) h⟩
 · exact aa h
def eqF : D -> D -> Bool
 | .non, .non => true
 | .bl a, .bl b => a == b
 | .bl a, .int b => (if a then 1 else 0) == b
 | .int a, .bl b => a == (if b then 1 else 0)
 | .int a, .int b => a == b
 | .str a, .str b => a == b
 | _, _ => false
def JM : D -> Bool | .non => true | .bl _ => true | .int _ => true | .str _ => true | _ => false
theorem JN (h : JM d = true) : JL d = true := by cases d <;> first | rfl | cases h
theorem zpG (h1 : JM x = true) (h2 : JM y = true) : QN (vD x) (vD y) = eqF x y := by
 cases x <;> cases y <;> first | rfl | (exact absurd h1 ah) | (exact absurd h2 ah)
theorem Yi (h : JM d = true) : J8 (vD d) = true := by cases d <;> first | rfl | cases h
theorem VZ {E : Addr -> Prop} : ∀ {xs : List V} {ds : List D}, Reps Γ E H xs ds -> ds.all JM = true -> xs = ds.map vD
 | [], [], _, _ => rfl
 | [], _ :: _, r, _ => by have h := r.1; simp at h
 | _ :: _, [], r, _ => by have h := r.1; simp at h
 | v :: xs, d :: ds, r, h => by
  rw [bP, aN] at h
  rw [aq, ← VZ r.tail h.2, ← Rep.flat r.head (JN h.1)]
def Ri (x : D) (ds : List D) : Bool := ds.any fun y => eqF y x
theorem zeu {ds : List D} (h1 : JM x = true) (h2 : ds.all JM = true) : inV (vD x) (ds.map vD) = Ri x ds := by
 unfold inV Ri
 rw [hV]
 induction ds with
 | nil => rfl
 | cons d ds ih =>
  rw [bP, aN] at h2
  rw [fi, fi, ih h2.2]
  show (QN (vD d) (vD x) || _) = _
  rw [zpG h2.1 h1]
def UH : D -> Option (List D)
 | .lst ds => some ds
 | .tup ds => some ds
 | .kt xs => some (xs.map D.str)
 | _ => none
def fIn (neg : Bool) : F2 := fun x y q => match UH y with
 | some ds => JM x = true /\ ds.all JM = true /\ q (.bl (if neg then !Ri x ds else Ri x ds))
 | none => False
theorem WO : y6 Γ (rIn Γ.K neg) (fIn neg) := fun E H x y dx dy Q q _ rx ry h k => by
 unfold fIn at h
 cases dy with
 | lst ds =>
  obtain ⟨f1, f2, h⟩ := h
  obtain ⟨a, xs, rfl, ha, rs⟩ := ry
  have e := VZ rs f2
  subst e
  refine ⟨a, _, rfl, .inl (.inl (.inl ha)), ?_, ?_, ?_⟩
  · rw [zH rx (JN f1)]; exact Yi f1
  · rw [dg, aR]; exact fun d hd => Yi (aR.mp f2 d hd)
  · rw [zH rx (JN f1), zeu f1 f2]; exact k _ _ H (Same.refl H) (.bl _) h
 | tup ds =>
  obtain ⟨f1, f2, h⟩ := h
  obtain ⟨a, xs, rfl, ha, rs⟩ := Rep.tuple ry
  have e := VZ rs f2
  subst e
  refine ⟨a, _, rfl, .inr (SqT.of ha), ?_, ?_, ?_⟩
  · rw [zH rx (JN f1)]; exact Yi f1
  · rw [dg, aR]; exact fun d hd => Yi (aR.mp f2 d hd)
  · rw [zH rx (JN f1), zeu f1 f2]; exact k _ _ H (Same.refl H) (.bl _) h
 | kt xs =>
  obtain ⟨f1, f2, h⟩ := h
  obtain ⟨a, rfl, ha⟩ := Rep.kept ry
  have e : xs.map V.str = (xs.map D.str).map vD := by rw [cP]; rfl
  rw [e] at ha
  refine ⟨a, _, rfl, .inr ha, ?_, ?_, ?_⟩
  · rw [zH rx (JN f1)]; exact Yi f1
  · rw [dg, aR]; exact fun d hd => Yi (aR.mp f2 d hd)
  · rw [zH rx (JN f1), zeu f1 f2]; exact k _ _ H (Same.refl H) (.bl _) h
 | _ => exact aa h
def RM : F2 := fun x y q => match x, y with
 | .lst ds, .int i => match J7 ds.length i with | some j => q (ds.getD j .non) | none => False
 | .fz ns, .int i => match J7 ns.length i with | some j => q (.int (ns.getD j 0)) | none => False
 | _, _ => False
theorem zaE (h : J7 n i = some j) : j < n := by
 unfold J7 at h
 split at h
 · split at h
   · cases h; omega
   · cases h
 · split at h
   · cases h; omega
   · cases h
theorem zpH : y6 Γ (zkS Γ.K) RM := fun E H x y dx dy Q q _ rx ry h k => by
 unfold RM at h
 split at h
 · rename_i ds i
   split at h
   · rename_i j hj
     obtain ⟨a, xs, rfl, ha, rs⟩ := rx
     have hl := zaE hj
     have hl' : j < xs.length := by rw [rs.1]; exact hl
     refine ⟨a, xs, i, xs[j], rfl, jQ ry, .inl (.inl ha), ?_, k _ _ H (Same.refl H) (rs.2 j _ _ (ac hl') ?_) h⟩
     · unfold atI; rw [rs.1, hj]; exact ac hl'
     · rw [aC, ac hl]; rfl
   · exact aa h
 · rename_i ns i
   split at h
   · rename_i j hj
     obtain ⟨a, rfl, ha⟩ := Rep.script rx
     have hl := zaE hj
     refine ⟨a, _, i, .int (ns.getD j 0), rfl, jQ ry, ha, ?_, k _ _ H (Same.refl H) (.int _) h⟩
     unfold atI
     rw [ap, hj]
     show (ns.map V.int)[j]? = _
     rw [ar, aC, ac hl]; rfl
   · exact aa h
 · exact aa h
def zev : F2 := fun x y q => match x, y with
 | .tup ds, .int i => match J7 ds.length i with | some j => q (ds.getD j .non) | none => False
 | _, _ => False
theorem zpI : y6 Γ (zkT Γ.K) zev := fun E H x y dx dy Q q _ rx ry h k => by
 unfold zev at h
 split at h
 · rename_i ds i
   split at h
   · rename_i j hj
     obtain ⟨a, xs, rfl, ha, rs⟩ := Rep.tuple rx
     have hl := zaE hj
     have hl' : j < xs.length := by rw [rs.1]; exact hl
     refine ⟨a, xs, i, xs[j], rfl, jQ ry, SqT.of ha, ?_, k _ _ H (Same.refl H) (rs.2 j _ _ (ac hl') ?_) h⟩
     · unfold atI; rw [rs.1, hj]; exact ac hl'
     · rw [aC, ac hl]; rfl
   · exact aa h
 · exact aa h
def zew : F2 := fun x y q => match x, y with
 | .str z, .int i => z.length <= 100000 /\ match J7 z.cps.toList.length i with | some j => q (.str ⟨#[z.cps.toList.getD j 0]⟩) | none => False
 | _, _ => False
theorem zpJ : y6 Γ zkU zew := fun E H x y dx dy Q q _ rx ry h k => by
 unfold zew at h
 split at h
 · rename_i z i
   obtain ⟨hz, h⟩ := h
   split at h
   · rename_i j hj
     refine ⟨z, i, z.cps.toList.getD j 0, Zh rx, jQ ry, aV hz (by decide), ?_, k _ _ H (Same.refl H) (.str _) h⟩
     unfold atI
     rw [hj]
     show z.cps.toList[j]? = _
     rw [aC, ac (zaE hj)]; rfl
   · exact aa h
 · exact aa h
def zli : F1 := fun x q => match x with
 | .lst ds => q (.int ds.length)
 | .tup ds => q (.int ds.length)
 | .fz ns => q (.int ns.length)
 | .kt xs => q (.int xs.length)
 | .str z => z.length <= 100000 /\ q (.int z.length)
 | _ => False
theorem zpK : QP Γ (fun x H Q => ∃ y n, [x] = [y] /\ zo1 Γ.K y H n /\ Q (.int n) H) zli := fun E H x dx Q q _ rx h k => by
 cases dx with
 | lst ds =>
  obtain ⟨a, xs, rfl, ha, rs⟩ := rx
  refine ⟨_, xs.length, rfl, .inl ⟨xs, .inl (.inl ha), rfl⟩, ?_⟩
  rw [rs.1]; exact k _ _ H (Same.refl H) (.int _) h
 | tup ds =>
  obtain ⟨a, xs, rfl, ha, rs⟩ := Rep.tuple rx
  refine ⟨_, xs.length, rfl, .inr ⟨xs, SqT.of ha, rfl⟩, ?_⟩
  rw [rs.1]; exact k _ _ H (Same.refl H) (.int _) h
 | fz ns =>
  obtain ⟨a, rfl, ha⟩ := Rep.script rx
  refine ⟨_, _, rfl, .inl ⟨_, ha, rfl⟩, ?_⟩
  rw [ap]; exact k _ _ H (Same.refl H) (.int _) h
 | kt xs =>
  obtain ⟨a, rfl, ha⟩ := Rep.kept rx
  refine ⟨_, _, rfl, .inr ⟨_, ha, rfl⟩, ?_⟩
  rw [ap]; exact k _ _ H (Same.refl H) (.int _) h
 | str z =>
  rw [Zh rx]
  exact ⟨_, z.length, rfl, ⟨aV h.1 (by decide), rfl⟩, k _ _ H (Same.refl H) (.int _) h.2⟩
 | _ => exact aa h
def Jt {α : Type} (xs : List α) (lo hi : Option Int) : List α := (xs.drop (HT.sIx xs.length 0 lo)).take (HT.sIx xs.length xs.length hi - HT.sIx xs.length 0 lo)
theorem zex {E : Addr -> Prop} (r : Reps Γ E H xs ds) : Reps Γ E H (zbV xs lo hi) (Jt ds lo hi) := by
 unfold zbV Jt
 rw [r.1]
 exact (r.drop _).take _
abbrev MOI := Env -> (Option Int -> Env -> Prop) -> Prop
def JOI (Γ : Cn) (pn : List Nat) (t : TO) (m : MOI) : Prop :=
 ∀ (S : Fs) (σ : St) (ρ : Env) (H : Hp) (τ : List (V × D)) (Q : Option Int -> Hp -> Prop) (q : Option Int -> Env -> Prop), JK pn S -> Rel Γ S H σ ρ τ -> m ρ q -> (∀ i H' ρ', Rel Γ S H' σ ρ' τ -> q i ρ' -> Q i H') -> t σ H Q
def zb6 : MOI := fun ρ q => q none ρ
def zdN (m : ME) : MOI := fun ρ q => m ρ fun d ρ' => match d with | .int i => q (some i) ρ' | _ => False
theorem znG : JOI Γ pn zf9 zb6 := fun S σ ρ H τ Q q hp R hm hq => hq none H ρ R hm
theorem znH (h : JE Γ pn t m) : JOI Γ pn (zmv t) (zdN m) := fun S σ ρ H τ Q q hp R hm hq =>
 h S σ ρ H τ _ _ hp R hm fun v d H1 ρ1 R1 r1 q1 => by
  cases d with
  | int i => exact ⟨i, UC r1, hq _ H1 ρ1 R1 q1⟩
  | _ => exact aa q1
def zhR (a : MO) (l u : MOI) : ME := fun ρ q => a ρ fun r ρ1 => l ρ1 fun lo ρ2 => u ρ2 fun hi ρ3 => r.on ρ3 fun x => match x with
 | .lst ds => q (.lst (Jt ds lo hi)) ρ3
 | .fz ns => q (.lst ((Jt ns lo hi).map D.int)) ρ3
 | _ => False
theorem znI {α β : Type} (f : α -> β) (xs : List α) (lo hi : Option Int) : Jt (xs.map f) lo hi = (Jt xs lo hi).map f := by
 unfold Jt; rw [ap, ke, kf]
theorem zjt {E : Addr -> Prop} (ns : List Int) : Reps Γ E H (ns.map V.int) (ns.map D.int) := ⟨by simp, fun i v d h1 h2 => by
 rw [ar] at h1 h2
 cases e : ns[i]? with
 | none => rw [e] at h1; cases h1
 | some n => rw [e] at h1 h2; cases h1; cases h2; exact .int n⟩
theorem zpL (ha : JO Γ pn ta a) (hl : JOI Γ pn tl l) (hu : JOI Γ pn tu u) : JF Γ pn (tSl (zpa Γ.K) ta tl tu) (zhR a l u) := fun S σ ρ H τ Q q hp R hm hq =>
 ha S σ ρ H τ _ _ hp R hm fun v r1 H1 ρ1 τ1 R1 o1 q1 => hl S σ ρ1 H1 (τ1 ++ τ) _ _ hp R1 q1 fun lo H2 ρ2 R2 q2 => hu S σ ρ2 H2 (τ1 ++ τ) _ _ hp R2 q2 fun hi H3 ρ3 R3 q3 => by
  obtain ⟨dx, rx, q3⟩ := R3.read o1 q3
  cases dx with
  | lst ds =>
   obtain ⟨b, xs, rfl, hb, rs⟩ := rx
   refine ⟨b, xs, rfl, .inl (.inl hb), fun p hn => ?_⟩
   obtain ⟨k1, k2, k3, k4⟩ := JC R3 (zex (lo := lo) (hi := hi) rs) hn
   exact hq p _ _ ρ3 k1.cut k2 k3 k4 q3
  | fz ns =>
   obtain ⟨b, rfl, hb⟩ := Rep.script rx
   refine ⟨b, _, rfl, hb, fun p hn => ?_⟩
   have r := zex (lo := lo) (hi := hi) (zjt (Γ := Γ) (E := zI S σ ρ3) (H := H3) ns)
   rw [znI] at r
   obtain ⟨k1, k2, k3, k4⟩ := JC R3 r hn
   exact hq p _ _ ρ3 k1.cut k2 k3 k4 q3
  | _ => exact aa q3
def zhS : FL2 := fun x y q => match x, y with | .lst a, .lst b => a.length + b.length <= 100000 /\ q (a ++ b) | _, _ => False
theorem zpM : zhE Γ zpe zhS := fun E H x y dx dy Q q rx ry h k => by
 unfold zhS at h
 split at h
 · obtain ⟨a, xs, rfl, ha, ra⟩ := rx
   obtain ⟨b, ys, rfl, hb, rb⟩ := ry
   exact ⟨a, b, xs, ys, rfl, rfl, ha, hb, by rw [ra.1, rb.1]; exact aV h.1 (by decide), fun p hp => k p _ _ H (Same.refl H) hp (ra.append rb) h.2⟩
 · exact aa h
def zdO : Rf := fun x q => match x with | .lst a => q a | .tup a => q a | _ => False
theorem znJ : VU Γ (fun x H Q => ∃ p ys, [x] = [.ref p] /\ (y8 Γ.K H p ys \/ SqT Γ.K H p ys) /\ ∀ l, H l = none -> Q (.ref l) (yc H l (.lst ys))) zdO := fun E H x dx Q q rx h k => by
 unfold zdO at h
 split at h
 · obtain ⟨a, xs, rfl, ha, ra⟩ := rx
   exact ⟨a, xs, rfl, .inl (.inl (.inl ha)), fun p hp => k p _ _ H (Same.refl H) hp ra h⟩
 · obtain ⟨a, xs, rfl, ha, ra⟩ := Rep.tuple rx
   exact ⟨a, xs, rfl, .inr (SqT.of ha), fun p hp => k p _ _ H (Same.refl H) hp ra h⟩
 · exact aa h
def zdP : F2 := Q6 fun i j => .int (if j > i then j else i)
theorem znK : y6 Γ (fun x y H Q => ∃ i j, [x, y] = [.int i, .int j] /\ Q (.int (if j > i then j else i)) H) zdP := fun E H x y dx dy Q q _ rx ry h k => by
 unfold zdP Q6 at h
 split at h
 · exact ⟨_, _, by rw [jQ rx, jQ ry], k _ _ H (Same.refl H) (.int _) h⟩
 · exact aa h
def zlj : F1 := fun x q => match x with | .int i => q (.int i) | .bl b => q (.int (if b then 1 else 0)) | _ => False
theorem zpN : QP Γ (fun x H Q => (∃ i, [x] = [.int i] /\ Q (.int i) H) \/ ∃ k, [x] = [.bl k] /\ Q (.int (if k then 1 else 0)) H) zlj := fun E H x dx Q q _ rx h k => by
 cases dx with
 | int i => exact .inl ⟨i, by rw [jQ rx], k _ _ H (Same.refl H) (.int _) h⟩
 | bl i => exact .inr ⟨i, by rw [znE rx], k _ _ H (Same.refl H) (.int _) h⟩
 | _ => exact aa h
def QQ : List D -> Option (List Bool)
 | [] => some []
 | .bl b :: r => (QQ r).map (b :: ·)
 | _ => none
theorem zb7 {E : Addr -> Prop} : ∀ {xs : List V} {ds : List D} {bs : List Bool}, Reps Γ E H xs ds -> QQ ds = some bs -> xs = bs.map V.bl
 | [], [], bs, _, h => by cases h; rfl
 | [], _ :: _, _, r, _ => by have h := r.1; simp at h
 | _ :: _, [], _, r, _ => by have h := r.1; simp at h
 | v :: xs, d :: ds, bs, r, h => by
  cases d with
  | bl b =>
   have h : (QQ ds).map (b :: ·) = some bs := h
   cases e : QQ ds with
   | none => rw [e] at h; cases h
   | some r' =>
    rw [e] at h; cases h
    rw [aq, ← zb7 r.tail e, ← ZK r.head]
  | _ => cases h
def zhT : F1 := fun x q => match x with | .lst ds => (match QQ ds with | some bs => q (.bl (bs.all id)) | none => False) | _ => False
theorem zpO : QP Γ (fun x H Q => ∃ (a : Addr) (bs : List Bool), [x] = [.ref a] /\ y8 Γ.K H a (bs.map V.bl) /\ Q (.bl (bs.all id)) H) zhT := fun E H x dx Q q _ rx h k => by
 cases dx with
 | lst ds =>
  obtain ⟨a, xs, rfl, ha, rs⟩ := rx
  dsimp only [zhT] at h
  split at h
  · rename_i bs hb
    have e := zb7 rs hb
    subst e
    exact ⟨a, bs, rfl, .inl (.inl ha), k _ _ H (Same.refl H) (.bl _) h⟩
  · exact aa h
 | _ => exact aa h
def Qt : D -> Option String
 | .non => some "NoneType" | .bl _ => some "bool" | .int _ => some "int" | .str _ => some "str" | .lst _ => some "list" | .tup _ => some "tuple" | .dK _ => some "dict" | .dT _ => some "dict" | _ => none
def Yy (a b : String) : Option Bool := if ["NoneType", "bool", "int", "str", "list", "tuple", "dict"].contains a && ["bool", "int", "str", "list", "tuple", "dict"].contains b then some (a == b || (a == "bool" && b == "int")) else none
theorem zju (h : Yy a b = some r) : eQ K (.type a) (.type b) = some r := by
 unfold Yy at h
 split at h
 · rename_i hc
   simp only [aN, List.contains_iff_mem, aB, bO, or_false] at hc
   cases h
   obtain ⟨h1, h2⟩ := hc
   rcases h1 with rfl | rfl | rfl | rfl | rfl | rfl | rfl <;> rcases h2 with rfl | rfl | rfl | rfl | rfl | rfl <;> kernel_rfl
 · cases h
def zaF : F2 := fun x y q => match Qt x, y with
 | some a, .ty b => (match Yy a b with | some r => q (.bl r) | none => False)
 | _, _ => False
theorem zgr {E : Addr -> Prop} (r : jV Γ E H v d) (h : Qt d = some a) : Ya Γ.K H v (.type a) := by
 cases d with
 | non => cases h; rw [zH r rfl]; exact .of .non
 | bl b => cases h; rw [zH r rfl]; exact .of (.bl b)
 | int b => cases h; rw [zH r rfl]; exact .of (.int b)
 | str b => cases h; rw [zH r rfl]; exact .of (.str b)
 | lst ds => cases h; obtain ⟨a, xs, rfl, ha, _⟩ := r; exact .of (.lst ha)
 | tup ds => cases h; obtain ⟨a, xs, rfl, ha, _⟩ := Rep.tuple r; exact .of (.tup ha)
 | dK ds => cases h; obtain ⟨a, xs, rfl, ha, _⟩ := r; exact .of (.dK ha)
 | dT ds => cases h; obtain ⟨a, xs, rfl, ha, _⟩ := r; exact .of (.dT ha)
 | _ => cases h
theorem znL : y6 Γ (fun x y H Q => ∃ z t c b, [x, y] = [z, .ty c] /\ Ya Γ.K H z t /\ eQ Γ.K t (.type c) = some b /\ Q (.bl b) H) zaF := fun E H x y dx dy Q q _ rx ry h k => by
 unfold zaF at h
 split at h
 · rename_i a b ha
   split at h
   · rename_i r hr
     exact ⟨x, _, b, r, by rw [zH ry rfl]; rfl, zgr rx ha, zju hr, k _ _ H (Same.refl H) (.bl _) h⟩
   · exact aa h
 · exact aa h
def V0 (f f' : F2) (a b c : ME) : ME := fun ρ q => a ρ fun x ρ1 => b ρ1 fun y ρ2 => f x y fun d => match d with
 | .bl k => if k = true then c ρ2 fun z ρ3 => f' y z fun e => q e ρ3 else q (.bl false) ρ2
 | _ => False
theorem zey (h1 : y6 Γ r f) (h2 : y6 Γ r' f') (ha : JE Γ pn ta a) (hb : JE Γ pn tb b) (hc : JE Γ pn tc c) : JE Γ pn (zd8 r r' ta tb tc) (V0 f f' a b c) := fun S σ ρ H τ Q q hp R hm hq =>
 ha S σ ρ H τ _ _ hp R hm fun v x H1 ρ1 R1 r1 q1 => hb S σ ρ1 H1 ((v, x) :: τ) _ _ hp (R1.push r1) q1 fun w y H2 ρ2 R2 r2 q2 =>
  h1 _ H2 v w x y _ _ (fun a z => y9 R2 z) R2.pop.2.b r2.b q2 fun u d H3 g r3 q3 => by
   cases d with
   | bl k =>
    refine ⟨k, ZK r3, ?_⟩
    have R3 := (R2.pop.1.push r2).grow g
    dsimp only at q3
    cases k with
    | false => rw [if_neg ah] at q3 ⊢; exact hq _ _ H3 ρ2 R3.pop.1 (.bl false) q3
    | true =>
     rw [if_pos rfl] at q3 ⊢
     refine hc S σ ρ2 H3 _ _ _ hp R3 q3 fun w' z H4 ρ4 R4 r4 q4 => ?_
     exact h2 _ H4 w w' y z Q _ (fun a z => y9 R4 z) R4.pop.2.b r4.b q4 fun u' e H5 g' r5 q5 => hq u' e H5 ρ4 (R4.pop.1.grow g') r5 q5
   | _ => exact aa q3
def zhU : D -> Option Bool
 | .non => some false | .bl b => some b | .int i => some (i != 0) | .lst ds => some (!ds.isEmpty) | .tup ds => some (!ds.isEmpty) | .dK ds => some (!ds.isEmpty)
 | .str y => some ((y.length : Int) != 0)
 | _ => none
def zhV (a : MO) : MT := fun ρ q => a ρ fun r ρ1 => r.on ρ1 fun x => (match x with | .str y => y.length <= 100000 | _ => True) /\ match zhU x with | some b => q b ρ1 | none => False
theorem Uc {α β : Type} {xs : List α} {ys : List β} (h : xs.length = ys.length) : xs.isEmpty = ys.isEmpty := by
 cases xs <;> cases ys <;> first | rfl | simp at h
theorem zpP (ha : JO Γ pn ta a) : JT Γ pn (fun σ H Q => ta σ H fun x H' => ∃ k, zkK Γ.K x H' k /\ Q k H') (zhV a) := fun S σ ρ H τ Q q hp R hm hq =>
 ha S σ ρ H τ _ _ hp R hm fun v r1 H1 ρ1 τ1 R1 o1 q1 => by
  obtain ⟨dx, rx, hs, q1⟩ := R1.read o1 q1
  cases dx with
  | non => rw [zH rx rfl]; exact ⟨false, rfl, hq _ H1 ρ1 R1.cut q1⟩
  | bl b => rw [zH rx rfl]; exact ⟨b, rfl, hq _ H1 ρ1 R1.cut q1⟩
  | int i => rw [zH rx rfl]; exact ⟨_, rfl, hq _ H1 ρ1 R1.cut q1⟩
  | str y => rw [zH rx rfl]; exact ⟨_, ⟨aV hs (by decide), rfl⟩, hq _ H1 ρ1 R1.cut q1⟩
  | lst ds => obtain ⟨a, xs, rfl, h, rs⟩ := rx; exact ⟨_, .inl ⟨xs, .inl (.inl h), by rw [Uc rs.1]⟩, hq _ H1 ρ1 R1.cut q1⟩
  | tup ds => obtain ⟨a, xs, rfl, h, rs⟩ := Rep.tuple rx; exact ⟨_, .inr (.inl ⟨xs, SqT.of h, by rw [Uc rs.1]⟩), hq _ H1 ρ1 R1.cut q1⟩
  | dK ds => obtain ⟨a, xs, rfl, h, hk, rs⟩ := rx; exact ⟨_, .inr (.inr ⟨xs, h, by rw [Uc (show xs.length = ds.length by have := congrArg bR hk; simpa using this)]⟩), hq _ H1 ρ1 R1.cut q1⟩
  | _ => exact aa q1
end
structure DE (X : Cx) (cls : Nat -> Option Addr) (pn : List Nat) (e : Expr) (m : ME) : Prop where
 h : ∃ t, PE X e t /\ JE ⟨X.K, cls⟩ pn t m
structure DF (X : Cx) (cls : Nat -> Option Addr) (pn : List Nat) (e : Expr) (m : ME) : Prop where
 h : ∃ t, PE X e t /\ JF ⟨X.K, cls⟩ pn t m
structure DO (X : Cx) (cls : Nat -> Option Addr) (pn : List Nat) (e : Expr) (m : MO) : Prop where
 h : ∃ t, PE X e t /\ JO ⟨X.K, cls⟩ pn t m
structure DT (X : Cx) (cls : Nat -> Option Addr) (pn : List Nat) (e : Expr) (m : MT) : Prop where
 h : ∃ t, PT X e t /\ JT ⟨X.K, cls⟩ pn t m
structure DW (X : Cx) (cls : Nat -> Option Addr) (pn : List Nat) (e : Expr) (m : MT) : Prop where
 h : ∃ t, PW X e t /\ JT ⟨X.K, cls⟩ pn t m
structure DTs (X : Cx) (cls : Nat -> Option Addr) (pn : List Nat) (e : List Expr) (m : MT) : Prop where
 h : ∃ t, PTs X e t /\ JT ⟨X.K, cls⟩ pn t m
structure DA (X : Cx) (cls : Nat -> Option Addr) (pn : List Nat) (e : List Expr) (m : MA) : Prop where
 h : ∃ t, PA X e t /\ JA ⟨X.K, cls⟩ pn t m
structure DS (X : Cx) (cls : Nat -> Option Addr) (pn : List Nat) (fr : Bool) (e : Stmt) (m : MS) : Prop where
 h : ∃ t, PS X e t /\ JS ⟨X.K, cls⟩ pn fr t m
structure DSs (X : Cx) (cls : Nat -> Option Addr) (pn : List Nat) (fr : Bool) (e : List Stmt) (m : MS) : Prop where
 h : ∃ t, PSs X e t /\ JS ⟨X.K, cls⟩ pn fr t m
structure DG (X : Cx) (cls : Nat -> Option Addr) (pn : List Nat) (e : Expr) (m : MG) : Prop where
 h : ∃ t, PG X e t /\ JG ⟨X.K, cls⟩ pn t m
structure DGs (X : Cx) (cls : Nat -> Option Addr) (pn : List Nat) (e : List Expr) (m : MGs) : Prop where
 h : ∃ t, PGs X e t /\ JGs ⟨X.K, cls⟩ pn t m
structure DI (X : Cx) (cls : Nat -> Option Addr) (pn : List Nat) (tg e : Expr) (m : MI) : Prop where
 h : ∃ t, PI X tg e t /\ JI ⟨X.K, cls⟩ pn t m
structure DP (X : Cx) (cls : Nat -> Option Addr) (pn : List Nat) (e : Option Expr) (m : MOI) : Prop where
 h : ∃ t, PO X e t /\ JOI ⟨X.K, cls⟩ pn t m
section
variable {X : Cx} {cls : Nat -> Option Addr} {pn : List Nat} {a b c e : Expr} {es : List Expr} {pos p : Pos} {x : Str}
theorem zk : DE X cls pn (.Constant (.int i) j pos) (mC (.int i)) := ⟨_, ziL, zbX rfl rfl⟩
theorem Qu : DE X cls pn (.Constant (.bool i) j pos) (mC (.bl i)) := ⟨_, zmj, zbX rfl rfl⟩
theorem JY : DE X cls pn (.Constant .none j pos) (mC .non) := ⟨_, zox, zbX rfl rfl⟩
theorem zV : DE X cls pn (.Constant (.str i) j pos) (mC (.str i)) := ⟨_, ziM, zbX rfl rfl⟩
theorem Yj (hg : Gl X x) (hm : ∃ t, X.mg x = some (.int i t)) (hd : (x == ("__debug__" : Str)) = false := by decide) : DE X cls pn (.Name x pos) (mC (.int i)) := by
 obtain ⟨t, hm⟩ := hm
 exact ⟨_, zf4 hg hm (v := .int i) ⟨t, rfl⟩ hd, zbX rfl rfl⟩
theorem WP (hg : Gl X x) (hm : X.mg x = none) (hv : bG x = some (.type n)) (hn : x ≠ "__name__" := by decide) (hd : (x == ("__debug__" : Str)) = false := by decide) : DE X cls pn (.Name x pos) (mC (.ty n)) :=
 ⟨_, zm4 (v := .ty n) hg hm hv rfl hn hd, zbX rfl rfl⟩
theorem dv (i : Nat) (hi : i ∉ pn) (hN : X.N[i]? = some x := by kernel_rfl) (hv : Ys X.env.scope x := by first | exact Or.inl rfl | exact Or.inr (Or.inl rfl) | exact Or.inr (Or.inr rfl)) (hd : (x == ("__debug__" : Str)) = false := by decide)
 (hcd : (x == ("__classdict__" : Str)) = false := by decide) : DE X cls pn (.Name x pos) (zee i) := ⟨_, QM hN hv hd hcd, zpm hi⟩
theorem zz (i : Nat) (hN : X.N[i]? = some x := by kernel_rfl) (hv : Ys X.env.scope x := by first | exact Or.inl rfl | exact Or.inr (Or.inl rfl) | exact Or.inr (Or.inr rfl)) (hd : (x == ("__debug__" : Str)) = false := by decide)
 (hcd : (x == ("__classdict__" : Str)) = false := by decide) : DE X cls pn (.Name x pos) (zax i) := ⟨_, QM hN hv hd hcd, znq⟩
theorem zo (i : Nat) (hN : X.N[i]? = some x := by kernel_rfl) (hv : Ys X.env.scope x := by first | exact Or.inl rfl | exact Or.inr (Or.inl rfl) | exact Or.inr (Or.inr rfl)) (hd : (x == ("__debug__" : Str)) = false := by decide)
 (hcd : (x == ("__classdict__" : Str)) = false := by decide) : DO X cls pn (.Name x pos) (mOv i) := ⟨_, QM hN hv hd hcd, zpn⟩
theorem ze (h : DE X cls pn e m) : DO X cls pn e (mO m) := let ⟨t, a, b⟩ := h.h; ⟨t, a, zqE b⟩
theorem zM (h : DF X cls pn e m) : DE X cls pn e m := let ⟨t, a, b⟩ := h.h; ⟨t, a, Re b⟩
theorem zf : DA X cls pn [] zhA := ⟨_, jt, zjf⟩
theorem zc (h : DE X cls pn e m) (r : DA X cls pn es n) (hs : am (e :: es) X.env = (false, eval e X.env) :: am es X.env := by kernel_rfl) : DA X cls pn (e :: es) (zdF m n) :=
 let ⟨_, a, b⟩ := h.h; let ⟨_, c, d⟩ := r.h; ⟨_, yK a c hs, znr b d⟩
theorem znM (h : ZJ es = some ss) : DA X cls pn es (zhB ss) := ⟨_, zgi h, zns⟩
theorem ju (h : DA X cls pn es m) : DF X cls pn (.List es pos) (zhC m) := let ⟨_, a, b⟩ := h.h; ⟨_, zo8 a, zpo b⟩
theorem UI (h : DA X cls pn es m) : DE X cls pn (.Tuple es x1 pos) (zhD m) := let ⟨_, a, b⟩ := h.h; ⟨_, zi2 a, zpp b⟩
theorem U9 (ho : jz X (dw op) r) (hk : y6 ⟨X.K, cls⟩ r f) (ha : DO X cls pn a ma) (hb : DO X cls pn b mb) : DE X cls pn (.BinOp a op b pos) (QF f ma mb) :=
 let ⟨_, pa, ja⟩ := ha.h; let ⟨_, pb, jb⟩ := hb.h; ⟨_, zmr ho pa pb, U1 hk ja jb⟩
theorem zqM (ho : jz X (dw op) r) (hk : zhE ⟨X.K, cls⟩ r f) (ha : DO X cls pn a ma) (hb : DO X cls pn b mb) : DF X cls pn (.BinOp a op b pos) (zeg f ma mb) :=
 let ⟨_, pa, ja⟩ := ha.h; let ⟨_, pb, jb⟩ := hb.h; ⟨_, zmr ho pa pb, zqG hk ja jb⟩
def zpQ : F2 := Q6 fun i j => .int (i + j)
def zpR : F2 := Q6 fun i j => .int (i - j)
def zpS : F2 := fI CMul fun i j => .int (i * j)
def zpT : F2 := fI (fun _ j => 0 < j) fun i j => .int (i % j)
def zpU : F2 := fI zbT fun i j => .int (i ^ j.toNat)
variable {ma mb : MO}
theorem y0 (ha : DO X cls pn a ma) (hb : DO X cls pn b mb) : DE X cls pn (.BinOp a .Add b pos) (QF zpQ ma mb) := U9 zoV (WN (fun _ _ => rfl) fun _ _ => rfl) ha hb
theorem zaG (ha : DO X cls pn a ma) (hb : DO X cls pn b mb) : DE X cls pn (.BinOp a .Sub b pos) (QF zpR ma mb) := U9 zoW (WN (fun _ _ => rfl) fun _ _ => rfl) ha hb
theorem V1 (ha : DO X cls pn a ma) (hb : DO X cls pn b mb) : DE X cls pn (.BinOp a .Mult b pos) (QF zpS ma mb) := U9 zoX (zhQ (fun _ _ => rfl) fun _ _ => rfl) ha hb
theorem UJ (ha : DO X cls pn a ma) (hb : DO X cls pn b mb) : DE X cls pn (.BinOp a .Mod b pos) (QF zpT ma mb) := U9 zoY (zhQ (fun _ _ => rfl) fun _ _ => rfl) ha hb
theorem zjv (ha : DO X cls pn a ma) (hb : DO X cls pn b mb) : DE X cls pn (.BinOp a .Pow b pos) (QF zpU ma mb) := U9 zoZ (zhQ (fun _ _ => rfl) fun _ _ => rfl) ha hb
theorem znN (ha : DO X cls pn a ma) (hb : DO X cls pn b mb) : DE X cls pn (.BinOp a .Add b pos) (QF zdM ma mb) := U9 zhq znF ha hb
theorem zaH (ha : DO X cls pn a ma) (hb : DO X cls pn b mb) : DF X cls pn (.BinOp a .Add b pos) (zeg zhS ma mb) := zqM zpf zpM ha hb
theorem zpV (ha : DO X cls pn a ma) : DE X cls pn (.UnaryOp .USub a pos) (J4 zlg ma) := let ⟨_, pa, ja⟩ := ha.h; ⟨_, zms ziV pa, zqF zpD ja⟩
theorem Jj (ho : jz X (a9 op) r) (hk : y6 ⟨X.K, cls⟩ r f) (ha : DO X cls pn a ma) (hb : DO X cls pn b mb) (hm : dA op b = false) : DE X cls pn (.Compare a [op] [b] pos) (QF f ma mb) :=
 let ⟨_, pa, ja⟩ := ha.h; let ⟨_, pb, jb⟩ := hb.h; ⟨_, znb ho pa pb hm, U1 hk ja jb⟩
theorem yj (ho : jz X (a9 op) r) (hk : y6 ⟨X.K, cls⟩ r f) (ha : DO X cls pn a ma) (hb : DO X cls pn b mb) (hm : dA op b = false) : DT X cls pn (.Compare a [op] [b] pos) (mB (QF f ma mb)) :=
 let ⟨_, pa, ja⟩ := ha.h; let ⟨_, pb, jb⟩ := hb.h; ⟨_, znc ho pa pb hm, zgn (U1 hk ja jb)⟩
def fLt : F2 := Q6 fun i j => .bl (decide (i < j))
def fLe : F2 := Q6 fun i j => .bl (decide (i <= j))
def fGt : F2 := Q6 fun i j => .bl (decide (j < i))
def fGe : F2 := Q6 fun i j => .bl (decide (j <= i))
theorem zdQ : y6 ⟨X.K, cls⟩ (Ux fun i j => .bl (decide (i < j))) fLt := WN (fun _ _ => rfl) fun _ _ => rfl
theorem Yc : y6 ⟨X.K, cls⟩ (Ux fun i j => .bl (decide (i <= j))) fLe := WN (fun _ _ => rfl) fun _ _ => rfl
theorem zhW : y6 ⟨X.K, cls⟩ (Ux fun i j => .bl (decide (j < i))) fGt := WN (fun _ _ => rfl) fun _ _ => rfl
theorem zdR : y6 ⟨X.K, cls⟩ (Ux fun i j => .bl (decide (j <= i))) fGe := WN (fun _ _ => rfl) fun _ _ => rfl
theorem RN (ho : jz X (a9 op) r) (hk : y6 ⟨X.K, cls⟩ r f) (ho' : jz X (a9 op') r') (hk' : y6 ⟨X.K, cls⟩ r' f') (ha : DE X cls pn a m1) (hb : DE X cls pn b m2) (hc : DE X cls pn c m3)
 (hm : iD [op, op'] [b, c] = false := by with_unfolding_all rfl) : DE X cls pn (.Compare a [op, op'] [b, c] pos) (V0 f f' m1 m2 m3) :=
 let ⟨_, pa, ja⟩ := ha.h; let ⟨_, pb, jb⟩ := hb.h; let ⟨_, pc, jc⟩ := hc.h; ⟨_, zkI ho ho' pa pb pc hm, zey hk hk' ja jb jc⟩
theorem zlk (ho : jz X (a9 op) r) (hk : y6 ⟨X.K, cls⟩ r f) (ho' : jz X (a9 op') r') (hk' : y6 ⟨X.K, cls⟩ r' f') (ha : DE X cls pn a m1) (hb : DE X cls pn b m2) (hc : DE X cls pn c m3)
 (hm : iD [op, op'] [b, c] = false := by with_unfolding_all rfl) : DT X cls pn (.Compare a [op, op'] [b, c] pos) (mB (V0 f f' m1 m2 m3)) :=
 let ⟨_, pa, ja⟩ := ha.h; let ⟨_, pb, jb⟩ := hb.h; let ⟨_, pc, jc⟩ := hc.h; ⟨_, zkJ ho ho' pa pb pc hm, zgn (zey hk hk' ja jb jc)⟩
theorem JZ (h : DE X cls pn e m) (he : ∀ whole, isTrue e X.env whole = (do let v ← whole; eN e.pos; cH [v] (truthy v)) := by intro _; kernel_rfl) : DT X cls pn e (mB m) := let ⟨_, a, b⟩ := h.h; ⟨_, zoy a he, zrG b⟩
theorem zjw (h : DO X cls pn e m) (he : ∀ whole, isTrue e X.env whole = (do let v ← whole; eN e.pos; cH [v] (truthy v)) := by intro _; kernel_rfl) : DT X cls pn e (zhV m) := let ⟨_, a, b⟩ := h.h; ⟨_, zkL a he, zpP b⟩
theorem Qo (h : DT X cls pn a m) : DT X cls pn (.UnaryOp .Not a pos) (zhG m) := let ⟨_, a, b⟩ := h.h; ⟨_, zoD a, zpr b⟩
theorem Ud (h : DW X cls pn e m) : DT X cls pn e m := let ⟨_, a, b⟩ := h.h; ⟨_, a.pt, b⟩
theorem zb8 (h : DT X cls pn a m) : DW X cls pn (.BoolOp .And [a] pos) m := let ⟨_, a, b⟩ := h.h; ⟨_, zm5 a, b⟩
theorem Yz (h : DT X cls pn a m) : DW X cls pn (.BoolOp .Or [a] pos) m := let ⟨_, a, b⟩ := h.h; ⟨_, zoB a, b⟩
theorem zaI (h : DT X cls pn a m) (r : DW X cls pn (.BoolOp .And (b :: es) pos) n) : DW X cls pn (.BoolOp .And (a :: b :: es) pos) (zhF m n) := let ⟨_, a, b⟩ := h.h; let ⟨_, c, d⟩ := r.h; ⟨_, zoC a c, zpq b d⟩
theorem YS (h : DT X cls pn a m) (r : DW X cls pn (.BoolOp .Or (b :: es) pos) n) : DW X cls pn (.BoolOp .Or (a :: b :: es) pos) (mOr m n) := let ⟨_, a, b⟩ := h.h; let ⟨_, c, d⟩ := r.h; ⟨_, zqv a c, zqH b d⟩
theorem QR (h : DE X cls pn a m) : DE X cls pn (.BoolOp op [a] pos) m := let ⟨_, a, b⟩ := h.h; ⟨_, zoF a, b⟩
theorem ZM (h : DE X cls pn a m) (r : DE X cls pn (.BoolOp .And (b :: es) pos) n) : DE X cls pn (.BoolOp .And (a :: b :: es) pos) (zdG m n) := let ⟨_, a, b⟩ := h.h; let ⟨_, c, d⟩ := r.h; ⟨_, zoG a c, zps b d⟩
theorem zqN (h : DE X cls pn a m) (r : DE X cls pn (.BoolOp .Or (b :: es) pos) n) : DE X cls pn (.BoolOp .Or (a :: b :: es) pos) (zhH m n) := let ⟨_, a, b⟩ := h.h; let ⟨_, c, d⟩ := r.h; ⟨_, zqw a c, zqI b d⟩
theorem zpW (h : DE X cls pn a m) : DE X cls pn (.UnaryOp .Not a pos) (zdH m) := let ⟨_, a, b⟩ := h.h; ⟨_, zoH a, zpt b⟩
theorem zmK (h : DT X cls pn c t) (h1 : DE X cls pn a m) (h2 : DE X cls pn b n) : DE X cls pn (.IfExp c a b pos) (mIf t m n) := let ⟨_, a, b⟩ := h.h; let ⟨_, c, d⟩ := h1.h; let ⟨_, e, f⟩ := h2.h; ⟨_, zkA a c e, zqJ b d f⟩
def fIx : F2 := fun x y q => match x with | .tup _ => zev x y q | .str _ => zew x y q | _ => RM x y q
theorem zqO : y6 ⟨X.K, cls⟩ (rIx X.K) fIx := fun E H x y dx dy Q q hE rx ry h k => by
 unfold fIx at h
 split at h
 · exact .inr (.inl (zpI E H x y _ dy Q q hE rx ry h k))
 · exact .inr (.inr (zpJ E H x y _ dy Q q hE rx ry h k))
 · exact .inl (zpH E H x y _ dy Q q hE rx ry h k)
theorem zW (ha : DO X cls pn a ma) (hb : DO X cls pn b mb) (hs : zga b) : DE X cls pn (.Subscript a b pos) (QF fIx ma mb) :=
 let ⟨_, pa, ja⟩ := ha.h; let ⟨_, pb, jb⟩ := hb.h; ⟨_, zqA zo_ pa pb hs, U1 zqO ja jb⟩
theorem Yk : DP X cls pn none zb6 := ⟨_, zni, znG⟩
theorem QG (h : DE X cls pn e m) : DP X cls pn (some e) (zdN m) := let ⟨_, a, b⟩ := h.h; ⟨_, znj a, znH b⟩
theorem YA (ha : DO X cls pn a ma) (hl : DP X cls pn lo l) (hu : DP X cls pn hi u) : DF X cls pn (.Subscript a (.Slice lo hi none p2) pos) (zhR ma l u) :=
 let ⟨_, a, b⟩ := ha.h; let ⟨_, c, d⟩ := hl.h; let ⟨_, e, f⟩ := hu.h; ⟨_, zkR znk a c e, zpL b d f⟩
theorem zaJ {id : String} {r : List V -> Hp -> VK -> Prop} {f : F1} (hc : jB X (.builtin id) r) (hk : QP ⟨X.K, cls⟩ (fun y => r [y]) f) (hg : Gl X x) (hm : X.mg x = none) (hv : bG x = some (.builtin id)) (ha : DO X cls pn a ma)
 (hs : am [a] X.env = [(false, eval a X.env)] := by kernel_rfl) (hn : x ≠ "__name__" := by decide) (hd : (x == ("__debug__" : Str)) = false := by decide) : DE X cls pn (.Call (.Name x p) [a] [] pos) (J4 f ma) :=
 let ⟨_, pa, ja⟩ := ha.h; ⟨_, Za hc hg hm hv (yK pa jt hs) hn hd hs rfl, zef hk ja⟩
theorem zqP {id : String} {r : List V -> Hp -> VK -> Prop} {f : F1} (hc : jB X (.type id) r) (hk : QP ⟨X.K, cls⟩ (fun y => r [y]) f) (hg : Gl X x) (hm : X.mg x = none) (hv : bG x = some (.type id)) (ha : DO X cls pn a ma)
 (hs : am [a] X.env = [(false, eval a X.env)] := by kernel_rfl) (hn : x ≠ "__name__" := by decide) (hd : (x == ("__debug__" : Str)) = false := by decide) : DE X cls pn (.Call (.Name x p) [a] [] pos) (J4 f ma) :=
 let ⟨_, pa, ja⟩ := ha.h; ⟨_, YQ hc hg hm hv (yK pa jt hs) hn hd hs rfl, zef hk ja⟩
theorem zqQ {id : String} {r : List V -> Hp -> VK -> Prop} {f : Rf} (hc : jB X (.type id) r) (hk : VU ⟨X.K, cls⟩ (fun y => r [y]) f) (hg : Gl X x) (hm : X.mg x = none) (hv : bG x = some (.type id)) (ha : DO X cls pn a ma)
 (hs : am [a] X.env = [(false, eval a X.env)] := by kernel_rfl) (hn : x ≠ "__name__" := by decide) (hd : (x == ("__debug__" : Str)) = false := by decide) : DF X cls pn (.Call (.Name x p) [a] [] pos) (Yb f ma) :=
 let ⟨_, pa, ja⟩ := ha.h; ⟨_, YQ hc hg hm hv (yK pa jt hs) hn hd hs rfl, zeh hk ja⟩
theorem zqR {id : String} {r : List V -> Hp -> VK -> Prop} {f : Rf} (hc : jB X (.builtin id) r) (hk : VU ⟨X.K, cls⟩ (fun y => r [y]) f) (hg : Gl X x) (hm : X.mg x = none) (hv : bG x = some (.builtin id)) (ha : DO X cls pn a ma)
 (hs : am [a] X.env = [(false, eval a X.env)] := by kernel_rfl) (hn : x ≠ "__name__" := by decide) (hd : (x == ("__debug__" : Str)) = false := by decide) : DF X cls pn (.Call (.Name x p) [a] [] pos) (Yb f ma) :=
 let ⟨_, pa, ja⟩ := ha.h; ⟨_, Za hc hg hm hv (yK pa jt hs) hn hd hs rfl, zeh hk ja⟩
theorem zmM {id : String} {r : List V -> Hp -> VK -> Prop} {f : F2} (hc : jB X (.builtin id) r) (hk : y6 ⟨X.K, cls⟩ (fun y z => r [y, z]) f) (hg : Gl X x) (hm : X.mg x = none) (hv : bG x = some (.builtin id)) (ha : DO X cls pn a ma) (hb : DO X cls pn b mb)
 (hs : am [a, b] X.env = (false, eval a X.env) :: am [b] X.env := by kernel_rfl) (hs2 : am [b] X.env = [(false, eval b X.env)] := by kernel_rfl) (hp : (backTo pos (am [b] X.env)).any (·.1) = false := by kernel_rfl)
 (hn : x ≠ "__name__" := by decide) (hd : (x == ("__debug__" : Str)) = false := by decide) : DE X cls pn (.Call (.Name x p) [a, b] [] pos) (QF f ma mb) :=
 let ⟨_, pa, ja⟩ := ha.h; let ⟨_, pb, jb⟩ := hb.h; ⟨_, Za hc hg hm hv (yK pa (yK pb jt hs2) hs) hn hd hs hp, zk3 hk ja jb⟩
theorem y3 (hg : Gl X "len") (hm : X.mg "len" = none) (ha : DO X cls pn a ma) (hs : am [a] X.env = [(false, eval a X.env)] := by kernel_rfl) : DE X cls pn (.Call (.Name "len" p) [a] [] pos) (J4 zli ma) :=
 zaJ zkM zpK hg hm (by kernel_rfl) ha hs
theorem V2 (hc : X.calm = true) (hg : Gl X "all") (hm : X.mg "all" = none) (ha : DO X cls pn a ma) (hs : am [a] X.env = [(false, eval a X.env)] := by kernel_rfl) : DE X cls pn (.Call (.Name "all" p) [a] [] pos) (J4 zhT ma) :=
 zaJ (zk1 hc) zpO hg hm (by kernel_rfl) ha hs
theorem znO (hg : Gl X "int") (hm : X.mg "int" = none) (ha : DO X cls pn a ma) (hs : am [a] X.env = [(false, eval a X.env)] := by kernel_rfl) : DE X cls pn (.Call (.Name "int" p) [a] [] pos) (J4 zlj ma) :=
 zqP ziY zpN hg hm (by kernel_rfl) ha hs
theorem jZ (hg : Gl X "list") (hm : X.mg "list" = none) (ha : DO X cls pn a ma) (hs : am [a] X.env = [(false, eval a X.env)] := by kernel_rfl) : DF X cls pn (.Call (.Name "list" p) [a] [] pos) (Yb zdO ma) :=
 zqQ zec znJ hg hm (by kernel_rfl) ha hs
theorem znP (hc : X.calm = true) (hg : Gl X "max") (hm : X.mg "max" = none) (ha : DO X cls pn a ma) (hb : DO X cls pn b mb) (hs : am [a, b] X.env = (false, eval a X.env) :: am [b] X.env := by kernel_rfl) (hs2 : am [b] X.env = [(false, eval b X.env)] := by kernel_rfl)
 (hp : (backTo pos (am [b] X.env)).any (·.1) = false := by kernel_rfl) : DE X cls pn (.Call (.Name "max" p) [a, b] [] pos) (QF zdP ma mb) := zmM (ziX hc) znK hg hm (by kernel_rfl) ha hb hs hs2 hp
theorem Yl (hg : Gl X "isinstance") (hm : X.mg "isinstance" = none) (ha : DO X cls pn a ma) (hb : DO X cls pn b mb) (hs : am [a, b] X.env = (false, eval a X.env) :: am [b] X.env := by kernel_rfl) (hs2 : am [b] X.env = [(false, eval b X.env)] := by kernel_rfl)
 (hp : (backTo pos (am [b] X.env)).any (·.1) = false := by kernel_rfl) : DE X cls pn (.Call (.Name "isinstance" p) [a, b] [] pos) (QF zaF ma mb) := zmM zed znL hg hm (by kernel_rfl) ha hb hs hs2 hp
end
structure HM (P : Program) (w : World) (K : ai) (mg : Str -> Option Value) (base : Heap) (cls : Nat -> Option Addr) (x : Str) (k : Nat) (ps : List Str) (pn : List Nat) (fr : Bool) (p : UG) : Prop where
 has : Has P w K mg base x k ps (z7 ⟨K, cls⟩ pn fr ps.length p)
 len : ∀ ss q, p ss q Z0 -> ss.length = ps.length
section
variable {X : Cx} {cls : Nat -> Option Addr} {pn : List Nat} {a b c e o tg iter : Expr} {es : List Expr} {pos p pos' apos cpos : Pos} {x : Str} {ma mb : MO} {st : Stmt} {sts : List Stmt} {fr : Bool}
theorem yk : DSs X cls pn fr [] zhI := ⟨_, zm6, znu⟩
theorem zh (h : DS X cls pn fr st m) (r : DSs X cls pn fr sts n) : DSs X cls pn fr (st :: sts) (zk4 m n) := let ⟨_, a, b⟩ := h.h; let ⟨_, c, d⟩ := r.h; ⟨_, zkB a c, zpu b d⟩
theorem zm (h : DS X cls pn fr st m) : DSs X cls pn fr [st] m := let ⟨_, a, b⟩ := h.h; ⟨_, zm7 a, b⟩
theorem zez : DS X cls pn fr st zei := ⟨_, zkD, zk5⟩
theorem yr (h : DE X cls pn e m) (hs : di e none pos.line X.env = pure false := by kernel_rfl) : DS X cls pn fr (.Expr e pos) (zdI m) := let ⟨_, a, b⟩ := h.h; ⟨_, zm8 a hs, znv b⟩
theorem zA (h : DE X cls pn e m) : DS X cls pn false (.Return (some e) pos) (zbY m) := let ⟨_, a, b⟩ := h.h; ⟨_, ziN a, zpv b⟩
theorem znQ (h : DF X cls pn e m) : DS X cls pn true (.Return (some e) pos) (zbY m) := let ⟨_, a, b⟩ := h.h; ⟨_, ziN a, znw b⟩
theorem y7 (h : DT X cls pn c t) (h1 : DSs X cls pn fr s1 m) (h2 : DSs X cls pn fr s2 n) : DS X cls pn fr (.If c s1 s2 pos) (zhJ t m n) :=
 let ⟨_, a, b⟩ := h.h; let ⟨_, c, d⟩ := h1.h; let ⟨_, e, f⟩ := h2.h; ⟨_, zqx a c e, zqK b d f⟩
theorem yF (hi' : i ∉ pn) (hN : X.N.Nodup) (hi : X.N[i]? = some x) (hx : Loc X.env.scope x) (he : DE X cls pn e m) (hs : di e (some (.Name x pos')) pos.line X.env = pure false := by kernel_rfl)
 (hf : X.fn x = true \/ X.env.scope.names.lookup x = some .local := by first | exact .inl rfl | exact .inr rfl | assumption) : DS X cls pn fr (.Assign [.Name x pos'] e pos) (zej i m) :=
 let ⟨_, a, b⟩ := he.h; ⟨_, ziP hN hi hx a hs hf, zjh hi' b⟩
theorem JD (hi' : i ∉ pn) (hN : X.N.Nodup) (hi : X.N[i]? = some x) (hx : Loc X.env.scope x) (he : DF X cls pn e m) (hs : di e (some (.Name x pos')) pos.line X.env = pure false := by kernel_rfl)
 (hf : X.fn x = true \/ X.env.scope.names.lookup x = some .local := by first | exact .inl rfl | exact .inr rfl | assumption) : DS X cls pn fr (.Assign [.Name x pos'] e pos) (UD i m) :=
 let ⟨_, a, b⟩ := he.h; ⟨_, ziP hN hi hx a hs hf, zcM hi' b⟩
theorem zN (hi' : i ∉ pn) (hN : X.N.Nodup) (hi : X.N[i]? = some x) (hx : Loc X.env.scope x) (hf : X.fn x = true \/ X.env.scope.names.lookup x = some .local := by first | exact .inl rfl | exact .inr rfl | assumption) : DG X cls pn (.Name x pos) (zek i) :=
 ⟨_, zm9 hN hi hx hf, znx hi'⟩
theorem znR : DGs X cls pn [] zhK := ⟨_, zm_, zny⟩
theorem zeA (h : DG X cls pn e m) (r : DGs X cls pn es n) (hs : (cF (e :: es) X.env).map (·.2) = assign e X.env :: (cF es X.env).map (·.2) := by kernel_rfl) : DGs X cls pn (e :: es) (zel m n) :=
 let ⟨_, a, b⟩ := h.h; let ⟨_, c, d⟩ := r.h; ⟨_, zkF a c hs, zk6 b d⟩
theorem zpX (hc : X.calm = true) (h : DGs X cls pn es m) (hn : (cF es X.env).length = n := by kernel_rfl) (hst : (cF es X.env).findIdx? (·.1) = none := by kernel_rfl) : DG X cls pn (.Tuple es k pos) (zhL m n) :=
 let ⟨_, a, b⟩ := h.h; ⟨_, zoM hc a hn hst, zpw b⟩
theorem yf (h : DE X cls pn iter m) : DI X cls pn tg iter (zaz m) := let ⟨_, a, b⟩ := h.h; ⟨_, zna a, znz b⟩
theorem zpY (h : DE X cls pn iter m) : DI X cls pn tg iter (zdJ m) := let ⟨_, a, b⟩ := h.h; ⟨_, zpi a, zpy b⟩
theorem JH (hg : Gl X "range") (hm : X.mg "range" = none) (h : DA X cls pn [a] m) (hs : am [a] X.env = [(false, eval a X.env)] := by kernel_rfl) : DI X cls pn tg (.Call (.Name "range" p) [a] [] pos) (U2 m) :=
 let ⟨_, a, b⟩ := h.h; ⟨_, ziS hg hm a hs, zjj b⟩
theorem zjx (hg : Gl X "range") (hm : X.mg "range" = none) (h : DA X cls pn [a, b] m) (hs : am [a, b] X.env = [(false, eval a X.env), (false, eval b X.env)] := by kernel_rfl) (hs2 : am [b] X.env = [(false, eval b X.env)] := by kernel_rfl) :
 DI X cls pn tg (.Call (.Name "range" p) [a, b] [] pos) (U3 m) := let ⟨_, a, b⟩ := h.h; ⟨_, ziT hg hm a hs hs2, zjk b⟩
theorem ZN (hp : PassesOwn (model X.prog X.w) X.A X.env X.xe) (hc : X.calm = true) (hi : DI X cls pn tg iter mi) (hg : DG X cls pn tg mg) (hb : DSs X cls pn fr sts m) (hs : ∀ x, bV iter X.env x = pure x := by intro _; kernel_rfl) :
 DS X cls pn fr (.For tg iter sts [] pos) (zhM mi mg m) := let ⟨_, a, b⟩ := hi.h; let ⟨_, c, d⟩ := hg.h; let ⟨_, e, f⟩ := hb.h; ⟨_, zoS hp hc a c e hs, zpz b d f⟩
theorem yA : DTs X cls pn [] mTT := ⟨_, znl, zqL⟩
theorem Ym (h : DT X cls pn c m) : DTs X cls pn [c] m := let ⟨_, a, b⟩ := h.h; ⟨_, znm a, b⟩
def Va (js : List (Option Nat)) : Bool := decide ((js.filterMap id).Nodup)
theorem Once.of_b : ∀ {js : List (Option Nat)}, Va js = true -> Once js
 | [], _ => fun k k' j h => by simp at h
 | none :: js, h => fun k k' j h1 h2 => by
  have ih := Once.of_b (js := js) (by simpa [Va] using h)
  cases k with
  | zero => simp at h1
  | succ k => cases k' with
   | zero => simp at h2
   | succ k' => rw [ih k k' j (by simpa using h1) (by simpa using h2)]
 | some i :: js, h => fun k k' j h1 h2 => by
  have h' : ¬ i ∈ js.filterMap id /\ (js.filterMap id).Nodup := by simpa [Va] using h
  have ih := Once.of_b (js := js) (by simpa [Va] using h'.2)
  have no : ∀ k, js[k]? = some (some i) -> False := fun k hk => h'.1 (gX.mpr ⟨some i, eA hk, rfl⟩)
  cases k with
  | zero =>
   simp at h1; subst h1
   cases k' with
   | zero => rfl
   | succ k' => exact (no k' (by simpa using h2)).elim
  | succ k => cases k' with
   | zero => simp at h2; subst h2; exact (no k (by simpa using h1)).elim
   | succ k' => rw [ih k k' j (by simpa using h1) (by simpa using h2)]
variable {N' : List Str} {js : List (Option Nat)} {scope : Scope} {elt : Expr} {ifs : List Expr}
def zpZ (Γ : Cn) (pn : List Nat) (m : ME) : TE := fun σ H Q => ∃ (S : Fs) (ρ : Env) (τ : List (V × D)) (q : EK), JK pn S /\ Rel Γ S H σ ρ τ /\ m ρ q /\ ∀ v d H' ρ', Rel Γ S H' σ ρ' τ -> Rep Γ (zI S σ ρ') H' v d -> q d ρ' -> Q v H'
def zp0 (Γ : Cn) (pn : List Nat) (m : MT) : TT := fun σ H Q => ∃ (S : Fs) (ρ : Env) (τ : List (V × D)) (q : Bool -> Env -> Prop), JK pn S /\ Rel Γ S H σ ρ τ /\ m ρ q /\ ∀ b H' ρ', Rel Γ S H' σ ρ' τ -> q b ρ' -> Q b H'
def zp1 (Γ : Cn) (pn : List Nat) (m : MG) : TG := fun v σ H Q => ∃ (S : Fs) (ρ : Env) (τ : List (V × D)) (d : D) (q : Env -> Prop), JK pn S /\ Rel Γ S H σ ρ τ /\ Rep Γ (zI S σ ρ) H v d /\ m d ρ q /\ ∀ σ' H' ρ', Rel Γ S H' σ' ρ' τ -> q ρ' -> Q σ' H'
theorem zeB : JE Γ pn (zpZ Γ pn m) m := fun S σ ρ H τ Q q hp R hm hq => ⟨S, ρ, τ, q, hp, R, hm, hq⟩
theorem zeC : JT Γ pn (zp0 Γ pn m) m := fun S σ ρ H τ Q q hp R hm hq => ⟨S, ρ, τ, q, hp, R, hm, hq⟩
theorem zeD : JG Γ pn (zp1 Γ pn m) m := fun S σ ρ H τ v d Q q hp R r hm hq => ⟨S, ρ, τ, d, q, hp, R, r, hm, hq⟩
theorem DE.pe (h : DE X cls pn e m) : PE X e (zpZ ⟨X.K, cls⟩ pn m) := fun pins s σ H Q I ⟨S, ρ, τ, q, hp, R, hm, hq⟩ => let ⟨t, a, b⟩ := h.h; a pins s σ H Q I (b S σ ρ H τ Q q hp R hm hq)
theorem DTs.pt (h : DTs X cls pn es m) : PTs X es (zp0 ⟨X.K, cls⟩ pn m) := fun pins s σ H Q I ⟨S, ρ, τ, q, hp, R, hm, hq⟩ => let ⟨t, a, b⟩ := h.h; a pins s σ H Q I (b S σ ρ H τ Q q hp R hm hq)
theorem DG.pg (h : DG X cls pn e m) : PG X e (zp1 ⟨X.K, cls⟩ pn m) := fun pins s σ H v u Q I r ⟨S, ρ, τ, d, q, hp, R, rd, hm, hq⟩ => let ⟨t, a, b⟩ := h.h; a pins s σ H v u Q I r (b S σ ρ H τ v d Q q hp R rd hm hq)
theorem yG (hc : X.calm = true) (K : CompOk X N' js scope) (h1 : Va js = true) (hi : DI X cls pn tg iter mi) (hg : ∀ s2 H2 fp C cl, DG (yE X N' scope cl C s2 H2 fp) cls (UE js) tg g)
 (ht : ∀ s2 H2 fp C cl, DTs (yE X N' scope cl C s2 H2 fp) cls (UE js) ifs t) (he : ∀ s2 H2 fp C cl, DE (yE X N' scope cl C s2 H2 fp) cls (UE js) elt m)
 (hs : ∀ x, bV iter X.env x = pure x := by intro _; kernel_rfl) : DF X cls pn (.ListComp elt [⟨tg, iter, ifs, 0⟩] scope pos) (WI mi js g t m) :=
 let ⟨_, a, b⟩ := hi.h
 ⟨_, znn hc K a (fun s2 H2 fp C cl => ⟨(hg s2 H2 fp C cl).pg, (ht s2 H2 fp C cl).pt, (he s2 H2 fp C cl).pe⟩) hs, zb1 (Once.of_b h1) b zeD zeC zeB⟩
theorem Yn {py spos : Pos} (hi' : i ∉ pn) (hc : X.calm = true) (hN : X.N.Nodup) (hi0 : X.N[i]? = some y) (hy : X.env.scope.names.lookup y = some .local) (K : CompOk X N' js scope) (h1 : Va js = true) (hi : DI X cls pn tg iter mi)
 (hg : ∀ s2 H2 fp C cl, DG (yE X N' scope cl C s2 H2 fp) cls (UE js) tg g) (ht : ∀ s2 H2 fp C cl, DTs (yE X N' scope cl C s2 H2 fp) cls (UE js) ifs t) (he : ∀ s2 H2 fp C cl, DE (yE X N' scope cl C s2 H2 fp) cls (UE js) elt m)
 (hsw : di (.ListComp elt [⟨tg, iter, ifs, 0⟩] scope pos) (some (.Name y py)) spos.line X.env = pure true := by kernel_rfl) (hs : ∀ x, bV iter X.env x = pure x := by intro _; kernel_rfl) :
 DS X cls pn fr (.Assign [.Name y py] (.ListComp elt [⟨tg, iter, ifs, 0⟩] scope pos) spos) (zej i (WI mi js g t m)) :=
 let ⟨_, a, b⟩ := hi.h
 ⟨_, zgg hc hN hi0 hy K a (fun s2 H2 fp C cl => ⟨(hg s2 H2 fp C cl).pg, (ht s2 H2 fp C cl).pt, (he s2 H2 fp C cl).pe⟩) hsw hs, zjh hi' (Re (zb1 (Once.of_b h1) b zeD zeC zeB))⟩
theorem zhX {py spos : Pos} (hi' : i ∉ pn) (hc : X.calm = true) (hN : X.N.Nodup) (hi0 : X.N[i]? = some y) (hy : X.env.scope.names.lookup y = some .local) (K : CompOk X N' js scope) (h1 : Va js = true) (hi : DI X cls pn tg iter mi)
 (hg : ∀ s2 H2 fp C cl, DG (yE X N' scope cl C s2 H2 fp) cls (UE js) tg g) (ht : ∀ s2 H2 fp C cl, DTs (yE X N' scope cl C s2 H2 fp) cls (UE js) ifs t) (he : ∀ s2 H2 fp C cl, DE (yE X N' scope cl C s2 H2 fp) cls (UE js) elt m)
 (hsw : di (.ListComp elt [⟨tg, iter, ifs, 0⟩] scope pos) (some (.Name y py)) spos.line X.env = pure true := by kernel_rfl) (hs : ∀ x, bV iter X.env x = pure x := by intro _; kernel_rfl) :
 DS X cls pn fr (.Assign [.Name y py] (.ListComp elt [⟨tg, iter, ifs, 0⟩] scope pos) spos) (UD i (WI mi js g t m)) :=
 let ⟨_, a, b⟩ := hi.h
 ⟨_, zgg hc hN hi0 hy K a (fun s2 H2 fp C cl => ⟨(hg s2 H2 fp C cl).pg, (ht s2 H2 fp C cl).pt, (he s2 H2 fp C cl).pe⟩) hsw hs, zcM hi' (zb1 (Once.of_b h1) b zeD zeC zeB)⟩
theorem zb9 {id : String} {r : V -> List V -> Hp -> VK -> Prop} {m : ME} {i : Nat} {name : Str} {mm : ME} (slot : PySem.Slot "list" name id) (hty : typeOf (.builtin id) = pure (.type "method_descriptor")) (hm : MtR X id r) (i' : X.N[i]? = some x) (hj : ∀ ta, JE ⟨X.K, cls⟩ pn ta m -> JE ⟨X.K, cls⟩ pn (tBM X.K "list" r (QL i) (Qg ta ZU)) mm) (ha : DE X cls pn e m)
 (hv : Ys X.env.scope x) (hd : (x == ("__debug__" : Str)) = false) (hcd : (x == ("__classdict__" : Str)) = false)
 (hbase : bQ (.Name x p) name X.env (eval (.Name x p) X.env) = eval (.Name x p) X.env) (hfew : ((backTo cpos (am [e] X.env)).all (fun x => !x.1) && (dz cpos (cp [] X.env)).all (fun x => x.1.isSome)
  && decide (([e] : List Expr).length + ([] : List Keyword).length + (if ([] : List Keyword).isEmpty then 0 else 1) < 30)) = true) (hline : (apos.endLine == cpos.line) = true) (hs : am [e] X.env = [(false, eval e X.env)]) :
 DE X cls pn (.Call (.Attribute (.Name x p) name apos) [e] [] cpos) mm :=
 let ⟨_, a, b⟩ := ha.h; ⟨_, zhw fu slot hty hm (QM i' hv hd hcd) (yK a jt hs) hbase hfew hline hs rfl, hj _ b⟩
theorem V3 (i : Nat) (ha : DE X cls pn e m) (i' : X.N[i]? = some x := by kernel_rfl) (hv : Ys X.env.scope x := by first | exact Or.inl rfl | exact Or.inr (Or.inl rfl) | exact Or.inr (Or.inr rfl)) (hd : (x == ("__debug__" : Str)) = false := by decide) (hcd : (x == ("__classdict__" : Str)) = false := by decide)
 (hbase : bQ (.Name x p) "append" X.env (eval (.Name x p) X.env) = eval (.Name x p) X.env := by kernel_rfl) (hfew : ((backTo cpos (am [e] X.env)).all (fun x => !x.1) && (dz cpos (cp [] X.env)).all (fun x => x.1.isSome)
  && decide (([e] : List Expr).length + ([] : List Keyword).length + (if ([] : List Keyword).isEmpty then 0 else 1) < 30)) = true := by kernel_rfl) (hline : (apos.endLine == cpos.line) = true := by kernel_rfl) (hs : am [e] X.env = [(false, eval e X.env)] := by kernel_rfl) :
 DE X cls pn (.Call (.Attribute (.Name x p) "append" apos) [e] [] cpos) (YR zb3 i m) := zb9 PySem.F.slot_list_append PySem.F.type_list_append zi7 i' (fun _ => zjm) ha hv hd hcd hbase hfew hline hs
theorem zjy (i : Nat) (ha : DE X cls pn e m) (i' : X.N[i]? = some x := by kernel_rfl) (hv : Ys X.env.scope x := by first | exact Or.inl rfl | exact Or.inr (Or.inl rfl) | exact Or.inr (Or.inr rfl)) (hd : (x == ("__debug__" : Str)) = false := by decide) (hcd : (x == ("__classdict__" : Str)) = false := by decide)
 (hbase : bQ (.Name x p) "extend" X.env (eval (.Name x p) X.env) = eval (.Name x p) X.env := by kernel_rfl) (hfew : ((backTo cpos (am [e] X.env)).all (fun x => !x.1) && (dz cpos (cp [] X.env)).all (fun x => x.1.isSome)
  && decide (([e] : List Expr).length + ([] : List Keyword).length + (if ([] : List Keyword).isEmpty then 0 else 1) < 30)) = true := by kernel_rfl) (hline : (apos.endLine == cpos.line) = true := by kernel_rfl) (hs : am [e] X.env = [(false, eval e X.env)] := by kernel_rfl) :
 DE X cls pn (.Call (.Attribute (.Name x p) "extend" apos) [e] [] cpos) (YR zb4 i m) := zb9 PySem.F.slot_list_extend PySem.F.type_list_extend zi8 i' (fun _ => zjn) ha hv hd hcd hbase hfew hline hs
theorem zeE (i : Nat) (ha : DE X cls pn e m) (i' : X.N[i]? = some x := by kernel_rfl) (hv : Ys X.env.scope x := by first | exact Or.inl rfl | exact Or.inr (Or.inl rfl) | exact Or.inr (Or.inr rfl)) (hd : (x == ("__debug__" : Str)) = false := by decide) (hcd : (x == ("__classdict__" : Str)) = false := by decide)
 (hbase : bQ (.Name x p) "pop" X.env (eval (.Name x p) X.env) = eval (.Name x p) X.env := by kernel_rfl) (hfew : ((backTo cpos (am [e] X.env)).all (fun x => !x.1) && (dz cpos (cp [] X.env)).all (fun x => x.1.isSome)
  && decide (([e] : List Expr).length + ([] : List Keyword).length + (if ([] : List Keyword).isEmpty then 0 else 1) < 30)) = true := by kernel_rfl) (hline : (apos.endLine == cpos.line) = true := by kernel_rfl) (hs : am [e] X.env = [(false, eval e X.env)] := by kernel_rfl) :
 DE X cls pn (.Call (.Attribute (.Name x p) "pop" apos) [e] [] cpos) (YR zla i m) := zb9 PySem.F.slot_list_pop PySem.F.type_list_pop zkX i' (fun _ => zpB) ha hv hd hcd hbase hfew hline hs
theorem zeF (i : Nat) {pn' : Pos} (hv : DE X cls pn value v) (hi : DE X cls pn a m) (i' : X.N[i]? = some x := by kernel_rfl) (hvis : Ys X.env.scope x := by first | exact Or.inl rfl | exact Or.inr (Or.inl rfl) | exact Or.inr (Or.inr rfl))
 (hd : (x == ("__debug__" : Str)) = false := by decide) (hcd : (x == ("__classdict__" : Str)) = false := by decide)
 (ha : ∀ v, assign (.Subscript (.Name x p) a pos) X.env v = (do
  let ov ← cH [v] (eval (.Name x p) X.env)
  let iv ← cH [v, ov] (eval a X.env)
  eN pos
  cH [v, ov, iv] (setItem ov iv v)
  release [v, ov, iv] []) := by intro _; kernel_rfl) (hs : swapsWithSole [.Subscript (.Name x p) a pos] value pn'.line X.env = pure false := by kernel_rfl) (hw : swappedStores [.Subscript (.Name x p) a pos] value X.env = pure none := by kernel_rfl)
 (h1 : (cF [.Subscript (.Name x p) a pos] X.env).map (·.2) = [assign (.Subscript (.Name x p) a pos) X.env] := by kernel_rfl) : DS X cls pn fr (.Assign [.Subscript (.Name x p) a pos] value pn') (zaB i m v) :=
 let ⟨_, pa, ja⟩ := hv.h; let ⟨_, pb, jb⟩ := hi.h; ⟨_, zoP pa (zoO (QM i' hvis hd hcd) pb zkV ha) hs hw h1, zlb ja jb⟩
theorem jC (ef : fx = yS f) (hf : f < fNames.length) (hn : Ze ⟨X.K, cls⟩ (yS f)) (ha : DO X cls pn a ma) (hb : bQ a fx X.env (eval a X.env) = eval a X.env := by kernel_rfl) : DE X cls pn (.Attribute a fx pos) (J4 (zlc f) ma) := by
 subst ef
 exact let ⟨_, pa, ja⟩ := ha.h; ⟨_, zo4 pa hb, zpC hf hn ja⟩
theorem Ju (ef : fx = yS f) (hf : f < fNames.length) (hn : Ze ⟨X.K, cls⟩ (yS f)) (hv : DE X cls pn value m) (i' : X.N[i]? = some x := by kernel_rfl)
 (hvis : Ys X.env.scope x := by first | exact Or.inl rfl | exact Or.inr (Or.inl rfl) | exact Or.inr (Or.inr rfl)) (hd : (x == ("__debug__" : Str)) = false := by decide) (hcd : (x == ("__classdict__" : Str)) = false := by decide)
 (hs : di value (some (.Attribute (.Name x p) fx pos')) pos.line X.env = pure false := by kernel_rfl) : DS X cls pn fr (.Assign [.Attribute (.Name x p) fx pos'] value pos) (zdK i f m) := by
 subst ef
 exact let ⟨_, pa, ja⟩ := hv.h; ⟨_, zo5 (QM i' hvis hd hcd) pa hs, znB hf hn ja⟩
theorem zx (h : HM X.prog X.w X.K X.mg X.base cls x k ps [] false sp) (hr : Room k X.A) (hg : Gl X x) (ha : DA X cls pn (e :: es) m) (hd : (x == ("__debug__" : Str)) = false := by decide)
 (hs : am (e :: es) X.env = (false, eval e X.env) :: am es X.env := by kernel_rfl) (hp : (backTo pos (am es X.env)).any (·.1) = false := by kernel_rfl) : DE X cls pn (.Call (.Name x p) (e :: es) [] pos) (WM sp m) :=
 let ⟨_, pa, ja⟩ := ha.h; ⟨_, UX h.has hr hg pa hd hs hp, M.je_call ja h.len⟩
theorem znS (h : HM X.prog X.w X.K X.mg X.base cls x k ps [] true sp) (hr : Room k X.A) (hg : Gl X x) (ha : DA X cls pn (e :: es) m) (hd : (x == ("__debug__" : Str)) = false := by decide)
 (hs : am (e :: es) X.env = (false, eval e X.env) :: am es X.env := by kernel_rfl) (hp : (backTo pos (am es X.env)).any (·.1) = false := by kernel_rfl) : DF X cls pn (.Call (.Name x p) (e :: es) [] pos) (WM sp m) :=
 let ⟨_, pa, ja⟩ := ha.h; ⟨_, UX h.has hr hg pa hd hs hp, znC ja h.len⟩
theorem zL (h : HM X.prog X.w X.K X.mg X.base cls x k ps [0] false sp) (hr : Room k X.A) (hg : Gl X x) (ha : DA X cls pn es m) (j' : X.N[j]? = some y := by kernel_rfl)
 (hvis : Ys X.env.scope y := by first | exact Or.inl rfl | exact Or.inr (Or.inl rfl) | exact Or.inr (Or.inr rfl)) (hyd : (y == ("__debug__" : Str)) = false := by decide) (hcd : (y == ("__classdict__" : Str)) = false := by decide) (hd : (x == ("__debug__" : Str)) = false := by decide)
 (hs : am (.Name y py :: es) X.env = (false, eval (.Name y py) X.env) :: am es X.env := by kernel_rfl) (hp : (backTo pos (am es X.env)).any (·.1) = false := by kernel_rfl) : DE X cls pn (.Call (.Name x p) (.Name y py :: es) [] pos) (VX j sp m) :=
 let ⟨_, pa, ja⟩ := ha.h; ⟨_, UX h.has hr hg (yK (QM j' hvis hyd hcd) pa hs) hd hs hp, zle ja h.len⟩
structure HK (P : Program) (w : World) (K : ai) (mg : Str -> Option Value) (base : Heap) (cls : Nat -> Option Addr) (x : Str) (c k : Nat) (ps : List Str) (p : UG) : Prop where
 has : ∃ C f fd, cls c = some C /\ Mk K C f /\ FnOk P w K mg base yd k f fd ps (z7 ⟨K, cls⟩ [0] false ps.length p) /\ Binds K fd ps [] /\ mg x = some (.ref C)
 len : ∀ ss q, p ss q Z0 -> ss.length = ps.length
theorem Qh {c k : Nat} {ps : List Str} {sp : UG} {m : MA} (h : HK X.prog X.w X.K X.mg X.base cls x c k ps sp) (hr : Room (k + 1) X.A) (hg : Gl X x) (ha : DA X cls pn (e :: es) m) (hd : (x == ("__debug__" : Str)) = false := by decide)
 (hs : am (e :: es) X.env = (false, eval e X.env) :: am es X.env := by kernel_rfl) (hp : (backTo pos (am es X.env)).any (·.1) = false := by kernel_rfl) : DF X cls pn (.Call (.Name x p) (e :: es) [] pos) (zdL c sp m) := by
 obtain ⟨C, f, fd, hC, M, F, B, hm⟩ := h.has
 exact let ⟨_, pa, ja⟩ := ha.h; ⟨_, znh M F hr hg hm B .nil zdE pa hd hs hp, znD hC ja h.len⟩
end
section
variable {Γ : Cn} {pn : List Nat} {fr : Bool} {E : St -> XK} {z : Nat -> Env -> Prop}
end
section
variable {X : Cx} {cls : Nat -> Option Addr} {pn : List Nat} {a b c e o tg iter : Expr} {es : List Expr} {pos p pos' apos cpos : Pos} {x : Str} {ma mb : MO} {st : Stmt} {sts : List Stmt} {fr : Bool} {E : St -> XK} {z : Nat -> Env -> Prop}
end
section
variable {X : Cx} {cls : Nat -> Option Addr} {pn : List Nat} {pos p np pc tp : Pos} {x n : Str}
def zdS (ds : List Addr) : TA := fun _ H Q => Q (ds.map V.ref) H
theorem zll : PA X [] (zdS []) := jt
theorem Yo (hg : Gl X x) (hm : X.mg x = some (.ref d)) (h : PA X es (zdS ds)) (hd : (x == ("__debug__" : Str)) = false := by decide) (hs : am (.Name x pc :: es) X.env = (false, eval (.Name x pc) X.env) :: am es X.env := by kernel_rfl) :
 PA X (.Name x pc :: es) (zdS (d :: ds)) := fun pos pins s σ H Q I q => yK (zf4 (v := .ref d) hg hm rfl hd) h hs pos pins s σ H Q I q
end
def YB : D -> Bool | .non => true | .bl _ => true | .int _ => true | .str _ => true | _ => false
def V4 : List (Option Bool) -> Option Bool
 | [] => some true
 | some b :: r => (match V4 r with | some c => some (b && c) | none => none)
 | none :: _ => none
def J5 : Nat -> D -> D -> Option Bool
 | 0, x, y => if YB x && YB y then some (QN (vD x) (vD y)) else none
 | n + 1, x, y => if YB x && YB y then some (QN (vD x) (vD y)) else match x, y with
  | .lst xs, .lst ys => if xs.length = ys.length then V4 (dh (J5 n) xs ys) else some false
  | .tup xs, .tup ys => (match V4 (dh (J5 n) xs ys) with | some b => some (b && xs.length == ys.length) | none => none)
  | .lst _, .tup _ => some false
  | .tup _, .lst _ => some false
  | _, _ => none
def eOf (l : List (Option Bool)) (j : Nat) : Bool := match l[j]? with | some (some c) => c | _ => true
theorem V5 : ∀ {l : List (Option Bool)} {b : Bool}, V4 l = some b -> (∀ j o, l[j]? = some o -> o = some (eOf l j)) /\ b = (aT l.length).all (eOf l)
 | [], b, h => by cases h; exact ⟨fun j o h => by simp at h, rfl⟩
 | some c :: r, b, h => by
  unfold V4 at h
  split at h
  · rename_i d hd
    cases h
    obtain ⟨h1, h2⟩ := V5 hd
    refine ⟨fun j o h => ?_, ?_⟩
    · cases j with
      | zero => simp at h; subst h; rfl
      | succ j => simp at h; rw [h1 j o h]; show _ = some (eOf (some c :: r) (j + 1)); unfold eOf; simp
    · rw [h2, au, List.range_succ_eq_map, bP, dg]
      congr 1
  · cases h
 | none :: r, b, h => by cases h
section
variable {Γ : Cn} {E : Addr -> Prop} {H : Hp}
theorem Jh (h : YB d = true) : JL d = true /\ J8 (vD d) = true := by
 cases d <;> first | exact ⟨rfl, rfl⟩ | cases h
theorem zgt (hp : (YB x && YB y) = true) (hv : v = vD x) (hw : w = vD y) (h : some (QN (vD x) (vD y)) = some b) : DQ H n v w b := by
 rw [aN] at hp
 cases h
 subst hv hw
 exact .fl (Jh hp.1).2 (Jh hp.2).2
theorem zaK (ih : ∀ (x y : D) (v w : V) (b : Bool), J5 n x y = some b -> Rep Γ E H v x -> Rep Γ E H w y -> DQ H n v w b) (rx : Reps Γ E H vs xs) (ry : Reps Γ E H ws ys) (hl : l = dh (J5 n) xs ys)
 (ha : ∀ j o, l[j]? = some o -> o = some (eOf l j)) (j : Nat) (v w : V) (hv : vs[j]? = some v) (hw : ws[j]? = some w) : DQ H n v w (eOf l j) := by
 have lx := rx.1
 have ly := ry.1
 have j1 : j < xs.length := by rw [← lx]; exact (aD.mp hv).1
 have j2 : j < ys.length := by rw [← ly]; exact (aD.mp hw).1
 have e : l[j]? = some (J5 n xs[j] ys[j]) := by
  rw [hl, List.getElem?_zipWith, ac j1, ac j2]
 exact ih _ _ v w _ (ha j _ e) (rx.2 j v _ hv (ac j1)) (ry.2 j w _ hw (ac j2))
theorem zgu : ∀ (n : Nat) (x y : D) (v w : V) (b : Bool), J5 n x y = some b -> jV Γ E H v x -> jV Γ E H w y -> DQ H n v w b
 | 0, x, y, v, w, b, h, rx, ry => by
  unfold J5 at h
  split at h
  · rename_i hp
    have hp' := hp
    rw [aN] at hp'
    exact zgt hp (zH rx (Jh hp'.1).1) (zH ry (Jh hp'.2).1) h
  · cases h
 | n + 1, x, y, v, w, b, h, rx, ry => by
  have ih : ∀ (x y : D) (v w : V) (b : Bool), J5 n x y = some b -> Rep Γ E H v x -> Rep Γ E H w y -> DQ H n v w b := fun x y v w b h r1 r2 => zgu n x y v w b h r1.b r2.b
  unfold J5 at h
  split at h
  · rename_i hp
    have hp' := hp
    rw [aN] at hp'
    exact zgt hp (zH rx (Jh hp'.1).1) (zH ry (Jh hp'.2).1) h
  · split at h
    · rename_i xs ys _
      obtain ⟨a, vs, rfl, ha, r1⟩ := rx
      obtain ⟨c, ws, rfl, hc, r2⟩ := ry
      have l1 := r1.1
      have l2 := r2.1
      split at h
      · rename_i hl
        obtain ⟨h1, h2⟩ := V5 h
        have hlen : (dh (J5 n) xs ys).length = vs.length := by rw [gF]; omega
        rw [h2, hlen]
        exact .ll _ ha hc (by omega) fun j v w hv hw => zaK ih r1 r2 rfl h1 j v w hv hw
      · cases h
        exact .ln ha hc (by omega)
    · rename_i xs ys _
      obtain ⟨a, vs, rfl, ha, r1⟩ := Rep.tuple rx
      obtain ⟨c, ws, rfl, hc, r2⟩ := Rep.tuple ry
      have l1 := r1.1
      have l2 := r2.1
      split at h
      · rename_i d hd
        cases h
        obtain ⟨h1, h2⟩ := V5 hd
        have hlen : (dh (J5 n) xs ys).length = min vs.length ws.length := by rw [gF, l1, l2]
        rw [h2, hlen, ← l1, ← l2]
        exact .tt _ ha hc fun j v w hv hw => zaK ih r1 r2 rfl h1 j v w hv hw
      · cases h
    · obtain ⟨a, vs, rfl, ha, r1⟩ := rx
      obtain ⟨c, ws, rfl, hc, r2⟩ := Rep.tuple ry
      cases h
      exact .lt ha hc
    · obtain ⟨a, vs, rfl, ha, r1⟩ := Rep.tuple rx
      obtain ⟨c, ws, rfl, hc, r2⟩ := ry
      cases h
      exact .tl ha hc
    · cases h
def zeG : D -> Bool | .lst _ => true | .tup _ => true | _ => false
def zhY (neg : Bool) : F2 := fun x y q => match zeG x && zeG y, J5 40 x y with | true, some b => q (.bl (if neg then !b else b)) | _, _ => False
theorem zaL (h : zeG d = true) (r : jV Γ E H v d) : zhz v = true := by
 cases d with
 | lst ds => obtain ⟨a, _, rfl, _⟩ := r; rfl
 | tup ds => obtain ⟨a, _, rfl, _⟩ := Rep.tuple r; rfl
 | _ => cases h
theorem zp2 : y6 Γ (zpk neg) (zhY neg) := fun E H x y dx dy Q q _ rx ry h k => by
 unfold zhY at h
 split at h
 · rename_i b hs hb
   rw [aN] at hs
   exact ⟨b, zgu 40 dx dy x y b hb rx ry, zaL hs.1 rx, zaL hs.2 ry, k _ _ H (Same.refl H) (.bl _) h⟩
 · exact aa h
end
end M
namespace L2
open PySem PySem.Spec PyProof.Rows
section
variable {prog : Program} {w : World} {A : Around} {E : Value -> Shared -> Prop} {s : Shared}
end
section
variable {X : Cx} {pos : Pos}
end
end L2
namespace M
open PySem L2
section
variable {Γ : Cn} {pn : List Nat} {X : Cx} {cls : Nat -> Option Addr} {es : List Expr} {pos : Pos}
end
def znT : UG := fun ss q _ => ∃ ns : List Int, ss = [.val (.fz ns)] /\ ns.length <= 63 /\ q (.bl true) []
def zaM (K : ai) : Sp := fun vs H Q _ => ∃ (a : Addr) (ns : List Int), vs = [.ref a] /\ y8 K H a (ns.map V.int) /\ ns.length <= 63 /\ ∀ H', Q (.bl true) H'
theorem zjz {cls : Nat -> Option Addr} (h : zaM K vs H Q E) : z7 ⟨K, cls⟩ [] false 1 znT vs H Q E := by
 obtain ⟨a, ns, rfl, hS, hl, hQ⟩ := h
 have rep : Rep ⟨K, cls⟩ (fun _ => False) H (.ref a) (.fz ns) := .fz (hS.imp (fun z => ⟨id, z⟩) id)
 have no : ∀ i, ¬ yZ [Slot.val (D.fz ns)] i := fun i ⟨o, h⟩ => by
  cases i with
  | zero => simp at h
  | succ i => simp at h
 have he : ∀ b, zI ⟨fun _ => False, H, fun _ => none⟩ [some (.ref a)] [Slot.val (D.fz ns)] b -> False := fun b h => h.elim id fun ⟨i, hi, _⟩ => no i hi
 refine ⟨rfl, ⟨fun _ => False, H, fun _ => none⟩, [.val (.fz ns)], fun d _ => d = .bl true, fun _ _ => rfl, rfl, ?_, ⟨ns, rfl, hl, rfl⟩, fun v d H' σ' ρ' os ⟨R', r'⟩ _ q' => ?_⟩
 · exact {
    len := rfl
    val := fun i d h => by
     cases i with
     | zero => simp at h; subst h; exact ⟨_, rfl, rep.up (fun b _ z => he b z) fun _ _ _ z => z⟩
     | succ i => simp at h
    own := fun i o h => absurd ⟨o, h⟩ (no i)
    pin := fun i p h => by cases h
    inj := fun i j p hi => absurd hi (no i)
    dom := fun a h => aa h
    fr := fun b o h _ => h
    tmp := fun x h => nomatch h }
 · subst q'
   rw [ZK r']
   exact hQ H'
inductive O (α : Type) where
 | no | ex (k : Nat) (ρ : Env) | ok (a : α) (ρ : Env)
section
variable {α β : Type}
def O.bind : O α -> (α -> Env -> O β) -> O β
 | .no, _ => .no
 | .ex k ρ, _ => .ex k ρ
 | .ok a ρ, f => f a ρ
def O.on (z : Nat -> Env -> Prop) (q : α -> Env -> Prop) : O α -> Prop
 | .no => False
 | .ex k ρ => z k ρ
 | .ok a ρ => q a ρ
def jq (q : α -> Prop) : Option α -> Prop
 | none => False
 | some a => q a
def jr (r : Option α) (ρ : Env) : O α := match r with | none => .no | some a => .ok a ρ
def gd (c : Prop) [Decidable c] (r : O α) : O α := if c then r else .no
theorem Jk {z : Nat -> Env -> Prop} {q : α -> Env -> Prop} : (jr r ρ).on z q -> jq (fun a => q a ρ) r := by
 cases r <;> exact id
theorem zhZ {z : Nat -> Env -> Prop} {q : α -> Env -> Prop} {c : Prop} [Decidable c] {r : O α} (h : (gd c r).on z q) : c /\ r.on z q := by
 unfold gd at h
 split at h
 · exact ⟨‹_›, h⟩
 · exact aa h
abbrev G (α : Type) := Env -> O α
abbrev Mi (α : Type) := Env -> (α -> Env -> Prop) -> Prop
class Ag (z : Nat -> Env -> Prop) (m : Mi α) (g : G α) : Prop where
 h : ∀ ρ q, (g ρ).on z q -> m ρ q
theorem Ag.step {z : Nat -> Env -> Prop} [i : Ag z m g] {f : α -> Env -> O β} {q : β -> Env -> Prop} {k : α -> Env -> Prop} (h : ((g ρ).bind f).on z q) (hk : ∀ a ρ', (f a ρ').on z q -> k a ρ') : m ρ k := by
 refine i.h ρ k ?_
 cases e : g ρ with
 | no => rw [e] at h; exact h
 | ex j ρ' => rw [e] at h; exact h
 | ok a ρ' => rw [e] at h; exact hk a ρ' h
end
def Zf : Nat -> Env -> Prop := fun _ _ => False
variable {z : Nat -> Env -> Prop}
class Zi (f : F1) (h : D -> Option D) : Prop where
 h : ∀ x q, jq q (h x) -> f x q
class yN (f : F2) (h : D -> D -> Option D) : Prop where
 h : ∀ x y q, jq q (h x y) -> f x y q
class zeH (f : Rf) (h : D -> Option (List D)) : Prop where
 h : ∀ x q, jq q (h x) -> f x q
class zp3 (f : FL2) (h : D -> D -> Option (List D)) : Prop where
 h : ∀ x y q, jq q (h x y) -> f x y q
def Q7 (g : Int -> Int -> D) : D -> D -> Option D
 | .int i, .int j => some (g i j)
 | _, _ => none
instance {g : Int -> Int -> D} : yN (Q6 g) (Q7 g) := ⟨fun x y q h => by
 unfold Q7 at h
 split at h
 · exact h
 · exact aa h⟩
def hI (C : Int -> Int -> Prop) [∀ i j, Decidable (C i j)] (g : Int -> Int -> D) : D -> D -> Option D
 | .int i, .int j => if C i j then some (g i j) else none
 | _, _ => none
instance {C : Int -> Int -> Prop} [∀ i j, Decidable (C i j)] {g : Int -> Int -> D} : yN (fI C g) (hI C g) := ⟨fun x y q h => by
 unfold hI at h
 split at h
 · split at h
   · exact ⟨‹_›, h⟩
   · exact aa h
 · exact aa h⟩
instance {i j : Int} : Decidable (CMul i j) := inferInstanceAs (Decidable (_ \/ _))
instance {i j : Int} : Decidable (zbT i j) := inferInstanceAs (Decidable (_ /\ _))
def yH := Q7 fun i j => .int (i + j)
def Ue := Q7 fun i j => .int (i - j)
def V6 := hI CMul fun i j => .int (i * j)
def Vb := hI (fun _ j => 0 < j) fun i j => .int (i % j)
def V7 := hI zbT fun i j => .int (i ^ j.toNat)
def VH := Q7 fun i j => .bl (decide (i < j))
def VI := Q7 fun i j => .bl (decide (i <= j))
def Rj := Q7 fun i j => .bl (decide (j < i))
def hGe := Q7 fun i j => .bl (decide (j <= i))
def zdT := Q7 fun i j => .int (if j > i then j else i)
instance : yN zpQ yH := inferInstanceAs (yN (Q6 _) (Q7 _))
instance : yN zpR Ue := inferInstanceAs (yN (Q6 _) (Q7 _))
instance : yN zpS V6 := inferInstanceAs (yN (fI _ _) (hI _ _))
instance : yN zpT Vb := inferInstanceAs (yN (fI _ _) (hI _ _))
instance : yN zpU V7 := inferInstanceAs (yN (fI _ _) (hI _ _))
instance : yN fLt VH := inferInstanceAs (yN (Q6 _) (Q7 _))
instance : yN fLe VI := inferInstanceAs (yN (Q6 _) (Q7 _))
instance : yN fGt Rj := inferInstanceAs (yN (Q6 _) (Q7 _))
instance : yN fGe hGe := inferInstanceAs (yN (Q6 _) (Q7 _))
instance : yN zdP zdT := inferInstanceAs (yN (Q6 _) (Q7 _))
def zeJ : D -> Option D | .int i => some (.int (-i)) | _ => none
instance : Zi zlg zeJ := ⟨fun x q h => by cases x <;> first | exact h | exact aa h⟩
def jL (x y : D) : Option D := (Rh x y).map D.bl
def V8 (x y : D) : Option D := (Rh x y).map fun b => D.bl (!b)
instance : yN fEq jL := ⟨fun x y q h => by
 unfold jL at h; unfold fEq
 cases e : Rh x y with
 | none => rw [e] at h; exact h
 | some b => rw [e] at h; exact h⟩
instance : yN fNe V8 := ⟨fun x y q h => by
 unfold V8 at h; unfold fNe
 cases e : Rh x y with
 | none => rw [e] at h; exact h
 | some b => rw [e] at h; exact h⟩
def zb_ (x y : D) : Option D := match y with | .non => some (.bl (Qs x)) | _ => none
def YT (x y : D) : Option D := match y with | .non => some (.bl (!Qs x)) | _ => none
instance : yN zpF zb_ := ⟨fun x y q h => by cases y <;> first | exact h | exact aa h⟩
instance : yN zmH YT := ⟨fun x y q h => by cases y <;> first | exact h | exact aa h⟩
def zaN (x y : D) : Option D := match x, y with | .str a, .str b => if a.length + b.length <= 100000 then some (.str (a ++ b)) else none | _, _ => none
instance : yN zdM zaN := ⟨fun x y q h => by
 unfold zaN at h
 split at h
 · split at h
   · exact ⟨‹_›, h⟩
   · exact aa h
 · exact aa h⟩
def ZW (x y : D) : Option D := match x, y with | .str a, .str b => some (.bl (!decide (b.cps.toList < a.cps.toList))) | _, _ => none
instance : yN zlh ZW := ⟨fun x y q h => by
 unfold ZW at h
 split at h
 · exact h
 · exact aa h⟩
def JJ (neg : Bool) (x y : D) : Option D := match UH y with
 | some ds => if JM x = true /\ ds.all JM = true then some (.bl (if neg then !Ri x ds else Ri x ds)) else none
 | none => none
instance {neg : Bool} : yN (fIn neg) (JJ neg) := ⟨fun x y q h => by
 unfold JJ at h; unfold fIn
 cases e : UH y with
 | none => rw [e] at h; exact h
 | some ds =>
  rw [e] at h
  dsimp only at h ⊢
  split at h
  · rename_i c; exact ⟨c.1, c.2, h⟩
  · exact aa h⟩
def zF (x y : D) : Option D := match x, y with
 | .lst ds, .int i => (J7 ds.length i).map fun j => ds.getD j .non
 | .tup ds, .int i => (J7 ds.length i).map fun j => ds.getD j .non
 | .fz ns, .int i => (J7 ns.length i).map fun j => .int (ns.getD j 0)
 | .str w, .int i => if w.length <= 100000 then (J7 w.cps.toList.length i).map fun j => .str ⟨#[w.cps.toList.getD j 0]⟩ else none
 | _, _ => none
instance : yN fIx zF := ⟨fun x y q h => by
 unfold zF at h
 split at h
 · rename_i ds i
   show RM (.lst ds) (.int i) q
   unfold RM
   dsimp only
   cases e : J7 ds.length i with
   | none => rw [e] at h; exact h
   | some j => rw [e] at h; exact h
 · rename_i ds i
   show zev (.tup ds) (.int i) q
   unfold zev
   dsimp only
   cases e : J7 ds.length i with
   | none => rw [e] at h; exact h
   | some j => rw [e] at h; exact h
 · rename_i ds i
   show RM (.fz ds) (.int i) q
   unfold RM
   dsimp only
   cases e : J7 ds.length i with
   | none => rw [e] at h; exact h
   | some j => rw [e] at h; exact h
 · rename_i w i
   show zew (.str w) (.int i) q
   unfold zew
   dsimp only
   split at h
   · refine ⟨‹_›, ?_⟩
     cases e : J7 w.cps.toList.length i with
     | none => rw [e] at h; exact h
     | some j => rw [e] at h; exact h
   · exact aa h
 · exact aa h⟩
def yv : D -> Option D
 | .lst ds => some (.int ds.length)
 | .tup ds => some (.int ds.length)
 | .fz ns => some (.int ns.length)
 | .kt xs => some (.int xs.length)
 | .str w => if w.length <= 100000 then some (.int w.length) else none
 | _ => none
instance : Zi zli yv := ⟨fun x q h => by
 cases x with
 | str w =>
  unfold yv at h
  dsimp only at h
  split at h
  · exact ⟨‹_›, h⟩
  · exact aa h
 | _ => first | exact h | exact aa h⟩
def Jv (x y : D) : Option (List D) := match x, y with | .lst a, .lst b => if a.length + b.length <= 100000 then some (a ++ b) else none | _, _ => none
instance : zp3 zhS Jv := ⟨fun x y q h => by
 unfold Jv at h
 split at h
 · split at h
   · exact ⟨‹_›, h⟩
   · exact aa h
 · exact aa h⟩
def jW : D -> Option (List D) | .lst a => some a | .tup a => some a | _ => none
instance : zeH zdO jW := ⟨fun x q h => by cases x <;> first | exact h | exact aa h⟩
def zeK : D -> Option D | .int i => some (.int i) | .bl b => some (.int (if b then 1 else 0)) | _ => none
instance : Zi zlj zeK := ⟨fun x q h => by cases x <;> first | exact h | exact aa h⟩
def YC : D -> Option D | .lst ds => (QQ ds).map fun bs => .bl (bs.all id) | _ => none
instance : Zi zhT YC := ⟨fun x q h => by
 cases x with
 | lst ds =>
  unfold YC at h
  show match QQ ds with | some bs => q (.bl (bs.all id)) | none => False
  dsimp only at h
  cases e : QQ ds with
  | none => rw [e] at h; exact h
  | some bs => rw [e] at h; exact h
 | _ => exact aa h⟩
def Zy (x y : D) : Option D := match Qt x, y with
 | some a, .ty b => (Yy a b).map D.bl
 | _, _ => none
instance : yN zaF Zy := ⟨fun x y q h => by
 unfold Zy at h
 unfold zaF
 split at h
 · rename_i a b e
   try rw [e]
   try dsimp only
   cases e2 : Yy a b with
   | none => rw [e2] at h; exact h
   | some r => rw [e2] at h; exact h
 · exact aa h⟩
def Vc : List (Nat × D) -> Nat -> Option D
 | [], _ => none
 | (g, d) :: r, f => if g = f then some d else Vc r f
theorem zeL {q : D -> Prop} : ∀ {fs : List (Nat × D)} {f : Nat}, jq q (Vc fs f) -> WK fs f q
 | [], _, h => h
 | (g, d) :: r, f, h => by
  unfold Vc at h; unfold WK
  split
  · rename_i e; rw [if_pos e] at h; exact h
  · rename_i e; rw [if_neg e] at h; exact zeL h
def jp (f : Nat) : D -> Option D | .obj c fs => if 11 <= c then Vc fs f else none | _ => none
instance {f : Nat} : Zi (zlc f) (jp f) := ⟨fun x q h => by
 cases x with
 | obj c fs =>
  unfold jp at h
  dsimp only at h
  split at h
  · exact ⟨‹_›, zeL h⟩
  · exact aa h
 | _ => exact aa h⟩
def zca (neg : Bool) (x y : D) : Option D := if (zeG x && zeG y) = true then (J5 40 x y).map fun b => .bl (if neg then !b else b) else none
instance {neg : Bool} : yN (zhY neg) (zca neg) := ⟨fun x y q h => by
 unfold zca at h
 unfold zhY
 split at h
 · rename_i e
   rw [e]
   cases e2 : J5 40 x y with
   | none => rw [e2] at h; exact h
   | some b => rw [e2] at h; exact h
 · exact aa h⟩
def gC (d : D) : G D := fun ρ => .ok d ρ
instance {d : D} : Ag z (mC d) (gC d) := ⟨fun ρ q h => h⟩
def V9 (i : Nat) : G D := fun ρ => match ρ[i]? with
 | some (.val d) => .ok d ρ
 | some (.own o) => .ok o (ρ.set i (.val o))
 | _ => .no
instance {i : Nat} : Ag z (zee i) (V9 i) := ⟨fun ρ q h => by
 unfold V9 at h; unfold zee
 split at h
 · rename_i e; (try rw [e]); exact h
 · rename_i e; (try rw [e]); exact h
 · exact aa h⟩
def zd (i : Nat) : G D := fun ρ => match ρ[i]? with
 | some (.val d) => .ok d ρ
 | _ => .no
instance {i : Nat} : Ag z (zax i) (zd i) := ⟨fun ρ q h => by
 unfold zd at h; unfold zax
 split at h
 · rename_i e; (try rw [e]); exact h
 · exact aa h⟩
def zg (i : Nat) : G Opd := fun ρ => match ρ[i]? with
 | some (.val _) => .ok (.v i) ρ
 | some (.own _) => .ok (.v i) ρ
 | _ => .no
instance {i : Nat} : Ag z (mOv i) (zg i) := ⟨fun ρ q h => by
 unfold zg at h; unfold mOv
 split at h
 · rename_i e; (try rw [e]); exact h
 · rename_i e; (try rw [e]); exact h
 · exact aa h⟩
def gO (g : G D) : G Opd := fun ρ => (g ρ).bind fun d ρ' => .ok (.d d) ρ'
instance {m : ME} {g : G D} [Ag z m g] : Ag z (mO m) (gO g) := ⟨fun ρ q h => by
 unfold gO at h
 unfold mO
 exact Ag.step h fun _ _ h => h⟩
def Zz : Option Slot -> Option D
 | some (.val d) => some d
 | some (.own d) => some d
 | _ => none
def Opd.get (r : Opd) (ρ : Env) : Option D := match r with
 | .d x => some x
 | .v i => Zz ρ[i]?
theorem QS {r : Opd} {k : D -> Prop} (h : jq k (r.get ρ)) : r.on ρ k := by
 cases r with
 | d x => exact h
 | v i =>
  show WG ρ[i]? k
  have h : jq k (Zz ρ[i]?) := h
  unfold Zz at h
  split at h
  · rename_i e; (try rw [e]); exact h
  · rename_i e; (try rw [e]); exact h
  · exact aa h
theorem Jr {α β : Type} {r : Option α} {f : α -> Option β} {q : β -> Prop} (h : jq q (r.bind f)) : jq (fun a => jq q (f a)) r := by
 cases r <;> exact h
theorem yO {α : Type} {r : Option α} {p q : α -> Prop} (h : jq p r) (k : ∀ a, p a -> q a) : jq q r := by
 cases r with
 | none => exact h
 | some a => exact k a h
def gNil : G (List D) := fun ρ => .ok [] ρ
def gCons (a : G D) (r : G (List D)) : G (List D) := fun ρ => (a ρ).bind fun d ρ1 => (r ρ1).bind fun ds ρ2 => .ok (d :: ds) ρ2
def zdU (ss : List Str) : G (List D) := fun ρ => .ok (ss.map D.str) ρ
instance : Ag z zhA gNil := ⟨fun ρ q h => h⟩
instance {m : ME} {n : MA} {g : G D} {k : G (List D)} [Ag z m g] [Ag z n k] : Ag z (zdF m n) (gCons g k) := ⟨fun ρ q h => by
 unfold gCons at h
 unfold zdF
 exact Ag.step h fun _ _ h => Ag.step h fun _ _ h => h⟩
instance {ss : List Str} : Ag z (zhB ss) (zdU ss) := ⟨fun ρ q h => h⟩
def yx (g : G (List D)) : G D := fun ρ => (g ρ).bind fun ds ρ' => gd (ds.length <= 1000) (.ok (.lst ds) ρ')
def gTup (g : G (List D)) : G D := fun ρ => (g ρ).bind fun ds ρ' => gd (ds.length <= 1000) (.ok (.tup ds) ρ')
instance {m : MA} {g : G (List D)} [Ag z m g] : Ag z (zhC m) (yx g) := ⟨fun ρ q h => by
 unfold yx at h
 unfold zhC
 exact Ag.step h fun _ _ h => zhZ h⟩
instance {m : MA} {g : G (List D)} [Ag z m g] : Ag z (zhD m) (gTup g) := ⟨fun ρ q h => by
 unfold gTup at h
 unfold zhD
 exact Ag.step h fun _ _ h => zhZ h⟩
def zj (f : D -> D -> Option D) (a b : G Opd) : G D := fun ρ => (a ρ).bind fun r ρ1 => (b ρ1).bind fun s ρ2 => jr ((r.get ρ2).bind fun x => (s.get ρ2).bind fun y => f x y) ρ2
instance {f : F2} {k : D -> D -> Option D} {a b : MO} {ga gb : G Opd} [i : yN f k] [Ag z a ga] [Ag z b gb] : Ag z (QF f a b) (zj k ga gb) :=
 ⟨fun ρ q h => by
 unfold zj at h
 unfold QF
 exact Ag.step h fun _ _ h => Ag.step h fun _ _ h => QS (yO (Jr (Jk h)) fun _ h => QS (yO (Jr h) fun _ h => i.h _ _ _ h))⟩
def zB (f : D -> Option D) (a : G Opd) : G D := fun ρ => (a ρ).bind fun r ρ1 => jr ((r.get ρ1).bind fun x => f x) ρ1
instance {f : F1} {k : D -> Option D} {a : MO} {ga : G Opd} [i : Zi f k] [Ag z a ga] : Ag z (J4 f a) (zB k ga) :=
 ⟨fun ρ q h => by
 unfold zB at h
 unfold J4
 exact Ag.step h fun _ _ h => QS (yO (Jr (Jk h)) fun _ h => i.h _ _ h)⟩
def Qx (f : D -> D -> Option (List D)) (a b : G Opd) : G D := fun ρ => (a ρ).bind fun r ρ1 => (b ρ1).bind fun s ρ2 => jr ((r.get ρ2).bind fun x => (s.get ρ2).bind fun y => (f x y).map D.lst) ρ2
theorem zcb {α β : Type} {r : Option α} {f : α -> β} {q : β -> Prop} (h : jq q (r.map f)) : jq (fun a => q (f a)) r := by
 cases r <;> exact h
instance {f : FL2} {k : D -> D -> Option (List D)} {a b : MO} {ga gb : G Opd} [i : zp3 f k] [Ag z a ga] [Ag z b gb] : Ag z (zeg f a b) (Qx k ga gb) :=
 ⟨fun ρ q h => by
 unfold Qx at h
 unfold zeg
 exact Ag.step h fun _ _ h => Ag.step h fun _ _ h => QS (yO (Jr (Jk h)) fun _ h => QS (yO (Jr h) fun _ h => i.h _ _ _ (zcb h)))⟩
def jn (f : D -> Option (List D)) (a : G Opd) : G D := fun ρ => (a ρ).bind fun r ρ1 => jr ((r.get ρ1).bind fun x => (f x).map D.lst) ρ1
instance {f : Rf} {k : D -> Option (List D)} {a : MO} {ga : G Opd} [i : zeH f k] [Ag z a ga] : Ag z (Yb f a) (jn k ga) :=
 ⟨fun ρ q h => by
 unfold jn at h
 unfold Yb
 exact Ag.step h fun _ _ h => QS (yO (Jr (Jk h)) fun _ h => i.h _ _ (zcb h))⟩
def asB (d : D) (ρ : Env) : O Bool := match d with | .bl b => .ok b ρ | _ => .no
def gB (g : G D) : G Bool := fun ρ => (g ρ).bind asB
instance {m : ME} {g : G D} [Ag z m g] : Ag z (mB m) (gB g) := ⟨fun ρ q h => by
 unfold gB at h
 unfold mB
 exact Ag.step h fun d _ h => by cases d <;> first | exact h | exact aa h⟩
def QT (a b : G Bool) : G Bool := fun ρ => (a ρ).bind fun c ρ1 => if c = true then b ρ1 else .ok false ρ1
def QU (a b : G Bool) : G Bool := fun ρ => (a ρ).bind fun c ρ1 => if c = true then .ok true ρ1 else b ρ1
def j9 (a : G Bool) : G Bool := fun ρ => (a ρ).bind fun c ρ1 => .ok (!c) ρ1
instance {a b : MT} {ga gb : G Bool} [Ag z a ga] [i : Ag z b gb] : Ag z (zhF a b) (QT ga gb) := ⟨fun ρ q h => by
 unfold QT at h
 unfold zhF
 exact Ag.step h fun c _ h => by
  cases c with
  | true => exact i.h _ _ h
  | false => exact h⟩
instance {a b : MT} {ga gb : G Bool} [Ag z a ga] [i : Ag z b gb] : Ag z (mOr a b) (QU ga gb) := ⟨fun ρ q h => by
 unfold QU at h
 unfold mOr
 exact Ag.step h fun c _ h => by
  cases c with
  | true => exact h
  | false => exact i.h _ _ h⟩
instance {a : MT} {ga : G Bool} [Ag z a ga] : Ag z (zhG a) (j9 ga) := ⟨fun ρ q h => by
 unfold j9 at h
 unfold zhG
 exact Ag.step h fun c _ h => h⟩
def JP (a b : G D) : G D := fun ρ => (a ρ).bind fun d ρ1 => (asB d ρ1).bind fun c ρ1 => if c = true then b ρ1 else .ok (.bl false) ρ1
def zcc (a b : G D) : G D := fun ρ => (a ρ).bind fun d ρ1 => (asB d ρ1).bind fun c ρ1 => if c = true then .ok (.bl true) ρ1 else b ρ1
def zaO (a : G D) : G D := fun ρ => (a ρ).bind fun d ρ1 => (asB d ρ1).bind fun c ρ1 => .ok (.bl (!c)) ρ1
instance {a b : ME} {ga gb : G D} [Ag z a ga] [i : Ag z b gb] : Ag z (zdG a b) (JP ga gb) := ⟨fun ρ q h => by
 unfold JP at h
 unfold zdG
 exact Ag.step h fun d _ h => by
  cases d with
  | bl c =>
   cases c with
   | true => exact i.h _ _ h
   | false => exact h
  | _ => exact aa h⟩
instance {a b : ME} {ga gb : G D} [Ag z a ga] [i : Ag z b gb] : Ag z (zhH a b) (zcc ga gb) := ⟨fun ρ q h => by
 unfold zcc at h
 unfold zhH
 exact Ag.step h fun d _ h => by
  cases d with
  | bl c =>
   cases c with
   | true => exact h
   | false => exact i.h _ _ h
  | _ => exact aa h⟩
instance {a : ME} {ga : G D} [Ag z a ga] : Ag z (zdH a) (zaO ga) := ⟨fun ρ q h => by
 unfold zaO at h
 unfold zdH
 exact Ag.step h fun d _ h => by
  cases d <;> first | exact h | exact aa h⟩
def gIf (c : G Bool) (a b : G D) : G D := fun ρ => (c ρ).bind fun k ρ1 => if k = true then a ρ1 else b ρ1
instance {c : MT} {a b : ME} {gc : G Bool} {ga gb : G D} [Ag z c gc] [i : Ag z a ga] [j : Ag z b gb] : Ag z (mIf c a b) (gIf gc ga gb) := ⟨fun ρ q h => by
 unfold gIf at h
 unfold mIf
 exact Ag.step h fun k _ h => by
  cases k with
  | true => exact i.h _ _ h
  | false => exact j.h _ _ h⟩
def Qp (f f' : D -> D -> Option D) (a b c : G D) : G D := fun ρ => (a ρ).bind fun x ρ1 => (b ρ1).bind fun y ρ2 => (jr (f x y) ρ2).bind fun d ρ2 => (asB d ρ2).bind fun k ρ2 => if k = true then (c ρ2).bind fun z ρ3 => jr (f' y z) ρ3 else .ok (.bl false) ρ2
theorem O.on_bind {α β : Type} {r : O α} {f : α -> Env -> O β} {q : β -> Env -> Prop} (h : (r.bind f).on z q) : r.on z fun a ρ => (f a ρ).on z q := by cases r <;> exact h
instance {f f' : F2} {k k' : D -> D -> Option D} {a b c : ME} {ga gb gc : G D} [i : yN f k] [j : yN f' k'] [Ag z a ga] [Ag z b gb] [Ag z c gc] : Ag z (V0 f f' a b c) (Qp k k' ga gb gc) :=
 ⟨fun ρ q h => by
 unfold Qp at h
 unfold V0
 exact Ag.step h fun x _ h => Ag.step h fun y ρ2 h => by
    refine i.h _ _ _ (yO (Jk (O.on_bind h)) fun d h => ?_)
    cases d with
    | bl b =>
     cases b with
     | true =>
      show c ρ2 fun z ρ3 => f' y z fun e => q e ρ3
      have h : ((gc ρ2).bind fun z ρ3 => jr (k' y z) ρ3).on z q := h
      exact Ag.step h fun w ρ3 h => j.h _ _ _ (Jk h)
     | false => exact h
    | _ => exact aa h⟩
def zh0 (x : D) : Option Bool := match x with | .str y => if y.length <= 100000 then some ((y.length : Int) != 0) else none | x => zhU x
def RO (a : G Opd) : G Bool := fun ρ => (a ρ).bind fun r ρ1 => jr ((r.get ρ1).bind zh0) ρ1
instance {a : MO} {ga : G Opd} [Ag z a ga] : Ag z (zhV a) (RO ga) := ⟨fun ρ q h => by
 unfold RO at h
 unfold zhV
 exact Ag.step h fun r ρ1 h => QS (yO (Jr (Jk h)) fun x h => by
  cases x with
  | str y =>
   unfold zh0 at h
   dsimp only at h
   split at h
   · exact ⟨‹_›, h⟩
   · exact aa h
  | _ => first | exact ⟨trivial, h⟩ | exact aa h)⟩
def yY : G (Option Int) := fun ρ => .ok none ρ
def asI (d : D) (ρ : Env) : O (Option Int) := match d with | .int i => .ok (some i) ρ | _ => .no
def jg (g : G D) : G (Option Int) := fun ρ => (g ρ).bind asI
instance : Ag z zb6 yY := ⟨fun ρ q h => h⟩
instance {m : ME} {g : G D} [Ag z m g] : Ag z (zdN m) (jg g) := ⟨fun ρ q h => by
 unfold jg at h
 unfold zdN
 exact Ag.step h fun d _ h => by cases d <;> first | exact h | exact aa h⟩
def zlm (x : D) (lo hi : Option Int) : Option D := match x with | .lst ds => some (.lst (Jt ds lo hi)) | .fz ns => some (.lst ((Jt ns lo hi).map D.int)) | _ => none
def Ja (a : G Opd) (l u : G (Option Int)) : G D := fun ρ => (a ρ).bind fun r ρ1 => (l ρ1).bind fun lo ρ2 => (u ρ2).bind fun hi ρ3 => jr ((r.get ρ3).bind fun x => zlm x lo hi) ρ3
instance {a : MO} {l u : MOI} {ga : G Opd} {gl gu : G (Option Int)} [Ag z a ga] [Ag z l gl] [Ag z u gu] : Ag z (zhR a l u) (Ja ga gl gu) :=
 ⟨fun ρ q h => by
 unfold Ja at h
 unfold zhR
 exact Ag.step h fun _ _ h => Ag.step h fun _ _ h => Ag.step h fun _ _ h => QS (yO (Jr (Jk h)) fun x h => by cases x <;> first | exact h | exact aa h)⟩
class AgG (m : MG) (g : D -> Env -> Option Env) : Prop where
 h : ∀ d ρ q, jq q (g d ρ) -> m d ρ q
class zh1 (m : MGs) (g : List D -> Env -> Option Env) : Prop where
 h : ∀ d ρ q, jq q (g d ρ) -> m d ρ q
def zt (i : Nat) : D -> Env -> Option Env := fun d ρ => some (ρ.set i (.val d))
instance {i : Nat} : AgG (zek i) (zt i) := ⟨fun d ρ q h => h⟩
def Vd : List D -> Env -> Option Env := fun ds ρ => match ds with | [] => some ρ | _ => none
def Qc (g : D -> Env -> Option Env) (r : List D -> Env -> Option Env) : List D -> Env -> Option Env := fun ds ρ => match ds with | d :: ds => (g d ρ).bind fun ρ1 => r ds ρ1 | [] => none
instance : zh1 zhK Vd := ⟨fun d ρ q h => by cases d <;> exact h⟩
instance {g : MG} {r : MGs} {k : D -> Env -> Option Env} {l : List D -> Env -> Option Env} [i : AgG g k] [j : zh1 r l] : zh1 (zel g r) (Qc k l) := ⟨fun d ρ q h => by
 cases d with
 | nil => exact h
 | cons d ds => exact i.h _ _ _ (yO (Jr h) fun ρ1 h => j.h _ _ _ h)⟩
def YU (g : List D -> Env -> Option Env) (n : Nat) : D -> Env -> Option Env := fun d ρ => match d with | .tup ds => if ds.length = n then g ds ρ else none | _ => none
instance {m : MGs} {n : Nat} {g : List D -> Env -> Option Env} [i : zh1 m g] : AgG (zhL m n) (YU g n) := ⟨fun d ρ q h => by
 cases d with
 | tup ds =>
  unfold YU at h
  dsimp only at h
  split at h
  · exact ⟨‹_›, i.h _ _ _ h⟩
  · exact aa h
 | _ => exact aa h⟩
def itL : D -> Option (List D) | .lst ds => some ds | .fz ns => some (ns.map D.int) | _ => none
def zJ (g : G D) : G (List D) := fun ρ => (g ρ).bind fun d ρ' => jr (itL d) ρ'
instance {m : ME} {g : G D} [Ag z m g] : Ag z (zaz m) (zJ g) := ⟨fun ρ q h => by
 unfold zJ at h
 unfold zaz
 exact Ag.step h fun d _ h => by cases d <;> first | exact h | exact aa h⟩
def itS : D -> Option (List D) | .str x => some (x.cps.toList.map fun c => D.str ⟨#[c]⟩) | _ => none
def WQ (g : G D) : G (List D) := fun ρ => (g ρ).bind fun d ρ' => jr (itS d) ρ'
instance {m : ME} {g : G D} [Ag z m g] : Ag z (zdJ m) (WQ g) := ⟨fun ρ q h => by
 unfold WQ at h
 unfold zdJ
 exact Ag.step h fun d _ h => by cases d <;> first | exact h | exact aa h⟩
def Uf : List D -> Option (List D) | [.int j] => if -1000000 <= j /\ j <= 1000000 then some (yB 0 j.toNat) else none | _ => none
def jd (g : G (List D)) : G (List D) := fun ρ => (g ρ).bind fun ds ρ' => jr (Uf ds) ρ'
instance {m : MA} {g : G (List D)} [Ag z m g] : Ag z (U2 m) (jd g) := ⟨fun ρ q h => by
 unfold jd at h
 unfold U2
 exact Ag.step h fun ds _ h => by
  unfold Uf at h
  split at h
  · try dsimp only
    split at h
    · exact ⟨‹_›, h⟩
    · exact aa h
  · exact aa h⟩
def zeN : List D -> Option (List D) | [.int i, .int j] => if -1000000 <= i /\ i <= 1000000 /\ -1000000 <= j /\ j <= 1000000 then some (yB i (j - i).toNat) else none | _ => none
def JQ (g : G (List D)) : G (List D) := fun ρ => (g ρ).bind fun ds ρ' => jr (zeN ds) ρ'
instance {m : MA} {g : G (List D)} [Ag z m g] : Ag z (U3 m) (JQ g) := ⟨fun ρ q h => by
 unfold JQ at h
 unfold U3
 exact Ag.step h fun ds _ h => by
  unfold zeN at h
  split at h
  · try dsimp only
    split at h
    · exact ⟨‹_›, h⟩
    · exact aa h
  · exact aa h⟩
def z9 (g : D -> Env -> Option Env) (c : G Bool) (e : G D) : List D -> Env -> O (List D)
 | [], ρ => .ok [] ρ
 | d :: ds, ρ => (jr (g d ρ) ρ).bind fun ρ1 _ => (c ρ1).bind fun b ρ2 => if b = true then (e ρ2).bind fun y ρ3 => (z9 g c e ds ρ3).bind fun ys ρ4 => .ok (y :: ys) ρ4 else z9 g c e ds ρ2
theorem RP {g : MG} {c : MT} {e : ME} {k : D -> Env -> Option Env} {gc : G Bool} {ge : G D} [i : AgG g k] [Ag z c gc] [Ag z e ge] : ∀ (ds acc : List D) (ρ : Env) (q : List D -> Env -> Prop), (z9 k gc ge ds ρ).on z (fun ys ρ' => q (acc ++ ys) ρ') -> WH g c e ds acc ρ q
 | [], acc, ρ, q, h => by
  have h : q (acc ++ []) ρ := h
  rw [aW] at h
  exact h
 | d :: ds, acc, ρ, q, h => by
  have h := Jk (O.on_bind h)
  refine i.h _ _ _ (yO h fun ρ1 h => Ag.step h fun b ρ2 h => ?_)
  cases b with
  | true =>
   rw [if_pos rfl] at h ⊢
   refine Ag.step (g := ge) h fun y ρ3 h => ?_
   refine RP (k := k) (gc := gc) (ge := ge) ds (acc ++ [y]) ρ3 q ?_
   have h := O.on_bind h
   have e : ∀ ys, acc ++ [y] ++ ys = acc ++ y :: ys := fun ys => by simp
   simp only [e]
   exact h
  | false =>
   rw [if_neg ah] at h ⊢
   exact RP (k := k) (gc := gc) (ge := ge) ds acc ρ2 q h
def yJ : G Bool := fun ρ => .ok true ρ
instance : Ag z mTT yJ := ⟨fun ρ q h => h⟩
def zh2 (js : List (Option Nat)) (ρ1 : Env) : O (List D) -> O D
 | .ok ys ρb => .ok (.lst ys) (ye js ρb ρ1)
 | _ => .no
def zU (gi : G (List D)) (js : List (Option Nat)) (g : D -> Env -> Option Env) (c : G Bool) (e : G D) : G D := fun ρ => (gi ρ).bind fun ds ρ1 => gd (ds.length <= 100000) (zh2 js ρ1 (z9 g c e ds (Qj js ρ1)))
instance {mi : MI} {js : List (Option Nat)} {g : MG} {c : MT} {e : ME} {gi : G (List D)} {k : D -> Env -> Option Env} {gc : G Bool} {ge : G D} [Ag z mi gi] [AgG g k] [Ag Zf c gc] [Ag Zf e ge] : Ag z (WI mi js g c e) (zU gi js k gc ge) :=
 ⟨fun ρ q h => by
 unfold zU at h
 unfold WI
 exact Ag.step h fun ds ρ1 h => by
    obtain ⟨a, h⟩ := zhZ h
    refine ⟨a, RP (z := Zf) (k := k) (gc := gc) (ge := ge) ds [] _ _ ?_⟩
    cases hc : z9 k gc ge ds (Qj js ρ1) with
    | no => rw [hc] at h; exact aa h
    | ex j ρ' => rw [hc] at h; exact aa h
    | ok ys ρb => rw [hc] at h; exact h⟩
inductive RF where
 | no | ex (k : Nat) | ok (d : D) (os : List D)
abbrev Fn := List Slot -> RF
def zp (F : Fn) : UG := fun ss q z => match F ss with
 | .no => False
 | .ex k => z (.exc k) []
 | .ok d os => q d os
def zdV (r : RF) (ρ : Env) : O D := match r with | .ok d _ => .ok d ρ | _ => .no
def zv (F : Fn) (a : G (List D)) : G D := fun ρ => (a ρ).bind fun ds ρ1 => zdV (F (ds.map .val)) ρ1
instance {F : Fn} {a : MA} {ga : G (List D)} [Ag z a ga] : Ag z (WM (zp F) a) (zv F ga) := ⟨fun ρ q h => by
 unfold zv at h
 unfold WM
 exact Ag.step h fun ds ρ1 h => by
  unfold zp
  cases e : F (ds.map .val) with
  | no => rw [e] at h; exact h
  | ex k => rw [e] at h; exact aa h
  | ok d os => rw [e] at h; exact h⟩
def Ug : Option Slot -> Option D | some (.own o) => some o | _ => none
def zaP (j : Nat) (r : RF) (ρ : Env) : O D := match r with | .ok d [o] => .ok d (ρ.set j (.own o)) | _ => .no
def zu (j : Nat) (F : Fn) (a : G (List D)) : G D := fun ρ => (jr (Ug ρ[j]?) ρ).bind fun _ ρ => (a ρ).bind fun ds ρ1 => (jr (Ug ρ1[j]?) ρ1).bind fun o ρ1 => zaP j (F (.own o :: ds.map .val)) ρ1
theorem Wa (h : Ug s = some o) : s = some (.own o) := by
 unfold Ug at h
 split at h
 · cases h; rfl
 · cases h
instance {j : Nat} {F : Fn} {a : MA} {ga : G (List D)} [Ag z a ga] : Ag z (VX j (zp F) a) (zu j F ga) := ⟨fun ρ q h => by
 unfold zu at h; unfold VX
 cases e : Ug ρ[j]? with
 | none => rw [e] at h; exact aa h
 | some o =>
  rw [Wa e]
  rw [e] at h
  have h : ((ga ρ).bind fun ds ρ1 => (jr (Ug ρ1[j]?) ρ1).bind fun o ρ1 => zaP j (F (.own o :: ds.map .val)) ρ1).on z q := h
  refine Ag.step h fun ds ρ1 h => ?_
  cases e1 : Ug ρ1[j]? with
  | none => rw [e1] at h; exact aa h
  | some o1 =>
   rw [Wa e1]
   rw [e1] at h
   have h : (zaP j (F (.own o1 :: ds.map .val)) ρ1).on z q := h
   show zp F (.own o1 :: ds.map .val) _ Z0
   unfold zp
   cases e2 : F (.own o1 :: ds.map .val) with
   | no => rw [e2] at h; exact h
   | ex k => rw [e2] at h; exact aa h
   | ok d os =>
    rw [e2] at h
    match os, h with
    | [], h => exact aa h
    | [o'], h => exact h
    | _ :: _ :: _, h => exact aa h⟩
def ZA (r : RF) (ρ : Env) : O D := match r with | .ok .non [o] => .ok o ρ | _ => .no
def jG (c : Nat) (F : Fn) (a : G (List D)) : G D := fun ρ => (a ρ).bind fun ds ρ1 => ZA (F (.own (.obj c []) :: ds.map .val)) ρ1
instance {c : Nat} {F : Fn} {a : MA} {ga : G (List D)} [Ag z a ga] : Ag z (zdL c (zp F) a) (jG c F ga) := ⟨fun ρ q h => by
 unfold jG at h
 unfold zdL
 exact Ag.step h fun ds ρ1 h => by
  unfold zp
  unfold ZA at h
  split at h
  · rename_i e; (try rw [e]); exact h
  · exact aa h⟩
def zR (tbl : Nat -> Option Fn) (a : G D) (r : G (List D)) : G D := fun ρ => (a ρ).bind fun x ρ1 => match x with
 | .obj c fs => (match tbl c with
  | some F => (r ρ1).bind fun ds ρ2 => zdV (F (.val (.obj c fs) :: ds.map .val)) ρ2
  | none => .no)
 | _ => .no
instance {tbl : Nat -> Option Fn} {a : ME} {r : MA} {ga : G D} {gr : G (List D)} [Ag z a ga] [Ag z r gr] : Ag z (zaC (fun c => (tbl c).map zp) a r) (zR tbl ga gr) := ⟨fun ρ q h => by
 unfold zR at h
 unfold zaC
 exact Ag.step h fun x ρ1 h => by
  cases x with
  | obj c fs =>
   dsimp only at h ⊢
   cases e : tbl c with
   | none => rw [e] at h; exact aa h
   | some F =>
    rw [e] at h
    dsimp only [iM] at h ⊢
    refine Ag.step h fun ds ρ2 h => ?_
    unfold zp
    cases e : F (.val (.obj c fs) :: ds.map .val) with
    | no => rw [e] at h; exact h
    | ex k => rw [e] at h; exact aa h
    | ok d os => rw [e] at h; exact h
  | _ => exact aa h⟩
class AgM (f : List D -> D -> (D -> List D -> Prop) -> Prop) (h : List D -> D -> Option (D × List D)) : Prop where
 h : ∀ ds d q, jq (fun r => q r.1 r.2) (h ds d) -> f ds d q
def j3 (ds : List D) (d : D) : Option (D × List D) := if ds.length < 100000 then some (.non, ds ++ [d]) else none
instance : AgM zb3 j3 := ⟨fun ds d q h => by
 unfold j3 at h
 split at h
 · exact ⟨‹_›, h⟩
 · exact aa h⟩
def Zj (ds : List D) (d : D) : Option (D × List D) := match d with | .lst es => if ds.length + es.length <= 100000 then some (.non, ds ++ es) else none | _ => none
instance : AgM zb4 Zj := ⟨fun ds d q h => by
 cases d with
 | lst es =>
  unfold Zj at h
  dsimp only at h
  split at h
  · exact ⟨‹_›, h⟩
  · exact aa h
 | _ => exact aa h⟩
def Zk (ds : List D) (d : D) : Option (D × List D) := match d with | .int j => if 0 <= j /\ j.toNat < ds.length /\ ds.length < 100000 then some (ds.getD j.toNat .non, ds.eraseIdx j.toNat) else none | _ => none
instance : AgM zla Zk := ⟨fun ds d q h => by
 cases d with
 | int j =>
  unfold Zk at h
  dsimp only at h
  split at h
  · exact ⟨‹_›, h⟩
  · exact aa h
 | _ => exact aa h⟩
def Ve : Option Slot -> Option (List D) | some (.own (.lst ds)) => some ds | _ => none
theorem Vf {k : List D -> Prop} (h : jq k (Ve s)) : RL s k := by
 unfold Ve at h
 split at h
 · exact h
 · exact aa h
def jo (f : List D -> D -> Option (D × List D)) (i : Nat) (a : G D) : G D := fun ρ => (jr (Ve ρ[i]?) ρ).bind fun _ ρ => (a ρ).bind fun d ρ1 => (jr (Ve ρ1[i]?) ρ1).bind fun ds ρ1 => (jr (f ds d) ρ1).bind fun r ρ1 => .ok r.1 (ρ1.set i (.own (.lst r.2)))
instance {f : List D -> D -> (D -> List D -> Prop) -> Prop} {k : List D -> D -> Option (D × List D)} {i : Nat} {a : ME} {ga : G D} [j : AgM f k] [Ag z a ga] : Ag z (YR f i a) (jo k i ga) := ⟨fun ρ q h =>
 Vf (yO (Jk (O.on_bind h)) fun _ h => Ag.step h fun d ρ1 h => Vf (yO (Jk (O.on_bind h)) fun ds h => j.h _ _ _ (Jk (O.on_bind h))))⟩
inductive End where
 | nx | rt (d : D) | bk | ct
def Rk (z : Nat -> Env -> Prop) (N : UZ) : O End -> Prop
 | .no => False
 | .ex k ρ => z k ρ
 | .ok .nx ρ => N.nx ρ
 | .ok (.rt d) ρ => N.rt d ρ
 | .ok .bk ρ => N.bk ρ
 | .ok .ct ρ => N.ct ρ
class Qq (z : Nat -> Env -> Prop) (m : MS) (g : G End) : Prop where
 h : ∀ N ρ, Rk z N (g ρ) -> m N ρ
theorem Ag.stepS {α : Type} {m : Mi α} {g : G α} [i : Ag z m g] {ρ : Env} {f : α -> Env -> O End} {N : UZ} {k : α -> Env -> Prop} (h : Rk z N ((g ρ).bind f)) (hk : ∀ a ρ', Rk z N (f a ρ') -> k a ρ') : m ρ k := by
 refine i.h ρ k ?_
 cases e : g ρ with
 | no => rw [e] at h; exact h
 | ex j ρ' => rw [e] at h; exact h
 | ok a ρ' => rw [e] at h; exact hk a ρ' h
theorem WR {α : Type} {N : UZ} {r : Option α} {ρ : Env} {f : α -> Env -> O End} (h : Rk z N ((jr r ρ).bind f)) : jq (fun a => Rk z N (f a ρ)) r := by
 cases r <;> exact h
theorem zjA {c : Prop} [Decidable c] (h : Rk z N (gd c r)) : c /\ Rk z N r := by
 unfold gd at h
 split at h
 · exact ⟨‹_›, h⟩
 · exact aa h
def yP : G End := fun ρ => .ok .nx ρ
def zeO : G End := fun _ => .no
instance : Qq z zhI yP := ⟨fun N ρ h => h⟩
instance : Qq z zei zeO := ⟨fun N ρ h => h⟩
def zcd (r : O End) (b : G End) : O End := match r with | .ok .nx ρ => b ρ | r => r
def zw (a b : G End) : G End := fun ρ => zcd (a ρ) b
instance {a b : MS} {ga gb : G End} [i : Qq z a ga] [j : Qq z b gb] : Qq z (zk4 a b) (zw ga gb) := ⟨fun N ρ h => by
 refine i.h _ _ ?_
 unfold zw at h
 cases e : ga ρ with
 | no => rw [e] at h; exact h
 | ex k ρ' => rw [e] at h; exact h
 | ok n ρ' =>
  rw [e] at h
  cases n with
  | nx => exact j.h _ _ h
  | rt d => exact h
  | bk => exact h
  | ct => exact h⟩
def yh (g : G D) : G End := fun ρ => (g ρ).bind fun _ ρ' => .ok .nx ρ'
def zK (g : G D) : G End := fun ρ => (g ρ).bind fun d ρ' => .ok (.rt d) ρ'
instance {m : ME} {g : G D} [Ag z m g] : Qq z (zdI m) (yh g) := ⟨fun N ρ h => by
 unfold yh at h
 unfold zdI
 exact Ag.stepS h fun _ _ h => h⟩
instance {m : ME} {g : G D} [Ag z m g] : Qq z (zbY m) (zK g) := ⟨fun N ρ h => by
 unfold zK at h
 unfold zbY
 exact Ag.stepS h fun _ _ h => h⟩
def yQ (c : G Bool) (a b : G End) : G End := fun ρ => (c ρ).bind fun k ρ1 => if k = true then a ρ1 else b ρ1
instance {c : MT} {a b : MS} {gc : G Bool} {ga gb : G End} [Ag z c gc] [i : Qq z a ga] [j : Qq z b gb] : Qq z (zhJ c a b) (yQ gc ga gb) := ⟨fun N ρ h => by
 unfold yQ at h
 unfold zhJ
 exact Ag.stepS h fun k _ h => by
  cases k with
  | true => exact i.h _ _ h
  | false => exact j.h _ _ h⟩
def yi (i : Nat) (g : G D) : G End := fun ρ => (g ρ).bind fun d ρ' => .ok .nx (ρ'.set i (.val d))
def j5 (i : Nat) (g : G D) : G End := fun ρ => (g ρ).bind fun d ρ' => .ok .nx (ρ'.set i (.own d))
instance {i : Nat} {m : ME} {g : G D} [Ag z m g] : Qq z (zej i m) (yi i g) := ⟨fun N ρ h => by
 unfold yi at h
 unfold zej
 exact Ag.stepS h fun _ _ h => h⟩
instance {i : Nat} {m : ME} {g : G D} [Ag z m g] : Qq z (UD i m) (j5 i g) := ⟨fun N ρ h => by
 unfold j5 at h
 unfold UD
 exact Ag.stepS h fun _ _ h => h⟩
def UK (i : Nat) (a v : G D) : G End := fun ρ => (v ρ).bind fun d ρ0 => (jr (Ve ρ0[i]?) ρ0).bind fun _ ρ0 => (a ρ0).bind fun x ρ1 => (jr (Ve ρ1[i]?) ρ1).bind fun ds ρ1 => match x with
 | .int j => gd (0 <= j /\ j.toNat < ds.length) (.ok .nx (ρ1.set i (.own (.lst (ds.set j.toNat d)))))
 | _ => .no
instance {i : Nat} {a v : ME} {ga gv : G D} [Ag z a ga] [Ag z v gv] : Qq z (zaB i a v) (UK i ga gv) := ⟨fun N ρ h => by
 unfold UK at h
 unfold zaB
 exact Ag.stepS h fun d ρ0 h =>
  Vf (yO (WR h) fun _ h => Ag.stepS h fun x ρ1 h => Vf (yO (WR h) fun ds h => by
   cases x with
   | int j => exact zjA h
   | _ => exact aa h))⟩
def zdW : Option Slot -> Option (Nat × List (Nat × D)) | some (.own (.obj c fs)) => some (c, fs) | _ => none
theorem zln {k : Nat -> List (Nat × D) -> Prop} (h : jq (fun r => k r.1 r.2) (zdW s)) : zhP s k := by
 unfold zdW at h
 split at h
 · exact h
 · exact aa h
def JR (i f : Nat) (g : G D) : G End := fun ρ => (g ρ).bind fun d ρ1 => (jr (zdW ρ1[i]?) ρ1).bind fun r ρ1 => gd (11 <= r.1 /\ r.2.length < 100) (.ok .nx (ρ1.set i (.own (.obj r.1 (Yx f d r.2)))))
instance {i f : Nat} {m : ME} {g : G D} [Ag z m g] : Qq z (zdK i f m) (JR i f g) := ⟨fun N ρ h => by
 unfold JR at h
 unfold zdK
 exact Ag.stepS h fun d ρ1 h => zln (yO (WR h) fun r h => let ⟨a, b⟩ := zjA h; ⟨a.1, a.2, b⟩)⟩
def YV (r : O End) (k : G End) : O End := match r with
 | .ok .nx ρ => k ρ
 | .ok .ct ρ => k ρ
 | .ok .bk ρ => .ok .nx ρ
 | r => r
theorem zlo {N : UZ} [i : Qq z b gb] {p : Env -> Prop} (h : Rk z N (YV (gb ρ) k)) (hk : ∀ ρ', Rk z N (k ρ') -> p ρ') : b { nx := p, rt := N.rt, bk := N.nx, ct := p } ρ := by
 refine i.h _ _ ?_
 cases e : gb ρ with
 | no => rw [e] at h; exact h
 | ex k ρ' => rw [e] at h; exact h
 | ok n ρ' =>
  rw [e] at h
  cases n with
  | nx => exact hk _ h
  | rt d => exact h
  | bk => exact h
  | ct => exact hk _ h
def Jf (g : D -> Env -> Option Env) (b : G End) : List D -> G End
 | [], ρ => .ok .nx ρ
 | d :: ds, ρ => (jr (g d ρ) ρ).bind fun ρ1 _ => YV (b ρ1) (Jf g b ds)
theorem zgw {k : D -> Env -> Option Env} [i : AgG g k] [Qq z b gb] : ∀ (ds : List D) (ρ : Env), Rk z N (Jf k gb ds ρ) -> zbZ g b ds N ρ
 | [], ρ, h => h
 | d :: ds, ρ, h => i.h _ _ _ (yO (WR h) fun ρ1 h => zlo h fun ρ' h => zgw ds ρ' h)
def Qk (gi : G (List D)) (g : D -> Env -> Option Env) (b : G End) : G End := fun ρ => (gi ρ).bind fun ds ρ1 => Jf g b ds ρ1
instance {mi : MI} {g : MG} {b : MS} {gi : G (List D)} {k : D -> Env -> Option Env} {gb : G End} [Ag z mi gi] [AgG g k] [Qq z b gb] : Qq z (zhM mi g b) (Qk gi k gb) := ⟨fun N ρ h => by
 unfold Qk at h
 unfold zhM
 exact Ag.stepS h fun ds ρ1 h => zgw ds ρ1 h⟩
def zeP : List Nat -> Env -> Option (List D)
 | [], _ => some []
 | i :: r, ρ => (Ug ρ[i]?).bind fun o => (zeP r ρ).map (o :: ·)
theorem zgx : ∀ {pn : List Nat} {ρ : Env} {k : List D -> Prop}, jq k (zeP pn ρ) -> U5 pn ρ k
 | [], ρ, k, h => h
 | i :: r, ρ, k, h => by
  unfold zeP at h
  unfold U5
  cases e : Ug ρ[i]? with
  | none => rw [e] at h; exact aa h
  | some o =>
   rw [e] at h
   rw [Wa e]
   exact zgx (zcb h)
def Wb (pn : List Nat) (d : D) (ρ : Env) : RF := match zeP pn ρ with | some os => .ok d os | none => .no
def zh3 (pn : List Nat) (fr : Bool) : O End -> RF
 | .ok .nx ρ => if fr = true then .no else Wb pn .non ρ
 | .ok (.rt d) ρ => Wb pn d ρ
 | .ex k _ => .ex k
 | _ => .no
def zO (pn : List Nat) (n nl : Nat) (fr : Bool) (g : G End) : Fn := fun ss => if ss.length = n then zh3 pn fr (g (ss ++ aY nl .no)) else .no
theorem zD {ss : List Slot} {q : D -> List D -> Prop} {z : D -> List D -> Prop} (h : zp (zO pn n nl fr g) ss q z) : ss.length = n := by
 unfold zp zO at h
 by_cases e : ss.length = n
 · exact e
 · rw [if_neg e] at h; exact aa h
theorem zgy {q : D -> List D -> Prop} {z : D -> List D -> Prop} (h : match Wb pn d ρ with | .no => False | .ex k => z (.exc k) [] | .ok d os => q d os) : U5 pn ρ (q d) := by
 refine zgx ?_
 unfold Wb at h
 cases e : zeP pn ρ with
 | none => rw [e] at h; exact h
 | some os => rw [e] at h; exact h
theorem zh4 {q z : D -> List D -> Prop} [i : Qq (fun k _ => z (.exc k) []) b g] (h : zp (zO pn n nl fr g) ss q z) :
 b { nx := fun ρ => fr = false /\ U5 pn ρ (q .non), rt := fun d ρ => U5 pn ρ (q d), bk := fun _ => False, ct := fun _ => False } (ss ++ aY nl .no) := by
 have hl := zD h
 unfold zp zO at h
 rw [if_pos hl] at h
 refine i.h _ _ ?_
 cases e : g (ss ++ aY nl .no) with
 | no => rw [e] at h; exact h
 | ex k ρ => rw [e] at h; exact h
 | ok n ρ =>
  rw [e] at h
  cases n with
  | nx =>
   cases fr with
   | true => exact aa h
   | false => exact ⟨rfl, zgy h⟩
  | rt d => exact zgy h
  | bk => exact h
  | ct => exact h
theorem z5 {mg : Str -> Option Value} {cls : Nat -> Option Addr} {N ps : List Str} (F : Fun K x qual st f fd) (S : zy N ps (zq st)) (hn : ps.length = n)
 (hb : ∀ (cdv : Value) (A : Around) (outer : List PySem.Env) (s : Shared) (H : Hp) (E : XK), Room k (A.deeper (PyProof.Rows.envOfC qual (zq st) s.heap.objs.size f cdv)) ->
  ∃ b, DSs (RJ yd P w K mg base N qual (zq st) f cdv A outer s H E).nox cls pn fr (QE st) b /\ Qq Zf b g) : FnOk P w K mg base yd (k + 1) f fd ps (z7 ⟨K, cls⟩ pn fr n (zp (zO pn n (N.length - n) fr g))) := by
 subst hn
 refine F.ok S (fun vs H Q E h => h.1) fun cdv A outer s H vs Q E hr h => ?_
 obtain ⟨b, hd, ag⟩ := hb cdv A outer s H E hr
 obtain ⟨t, a, c⟩ := hd.h
 refine ⟨t, a, ?_⟩
 obtain ⟨hl, S, ss, q, hpin, h0, R, hq, hQ⟩ := h
 have hsl : ss.length = ps.length := by have := R.len; simp at this; omega
 have hm := zh4 (i := (ag : Qq (fun k _ => Z0 (.exc k) []) b g)) hq
 unfold L2.start
 rw [hl]
 have rt : ∀ v d σ' H' ρ', RR ⟨K, cls⟩ fr S σ' ρ' H' [] v d -> U5 pn ρ' (q d) -> Q v H' := fun v d σ' H' ρ' r' q' => by
  obtain ⟨os, a, b⟩ := zgo q'
  exact hQ _ _ _ _ _ os r' a b
 refine c S _ _ H [] _ _ hpin (R.ext _) hm (fun σ' H' ρ' R' q' => ?_) rt (fun _ _ _ _ z => aa z) fun _ _ _ _ z => aa z
 obtain ⟨e, q'⟩ := q'
 subst e
 exact rt _ _ _ _ _ ⟨R', .non⟩ q'
end M
namespace M
open PySem L2
theorem zjB : ∀ {l : List (Nat × Addr)}, l.lookup n = some C -> (n, C) ∈ l
 | [], h => by cases h
 | (m, B) :: r, h => by
  rw [bD] at h
  split at h
  · rename_i e
    cases h
    have : n = m := by simpa using e
    subst this
    exact ao
  · exact af _ (zjB h)
theorem Yp (h : o = some b) (e : o = some c) : b = c := bc (h.symm.trans e)
theorem zrH {A : Around} (r : Room k A) : A.units + 41 < cLine := by have := r.un; omega
theorem zh5 (hF : ∀ ns : List Int, ns.length <= 63 -> F [.val (.fz ns)] = .ok (.bl true) []) {cls : Nat -> Option Addr} (h : zaM K vs H Q E) : z7 ⟨K, cls⟩ [] false 1 (zp F) vs H Q E := by
 obtain ⟨hl, S, ss, q, a, b, c, ⟨ns, e, hn, hq⟩, d⟩ := zjz (cls := cls) h
 refine ⟨hl, S, ss, q, a, b, c, ?_, d⟩
 subst e
 unfold zp
 rw [hF ns hn]
 exact hq
section
variable {α β : Type}
theorem zC {f : α -> Env -> O β} : (O.ok a ρ).bind f = f a ρ := rfl
theorem zgz {f : α -> Env -> O β} : (O.no : O α).bind f = .no := rfl
theorem zgA {f : α -> Env -> O β} : (O.ex k ρ : O α).bind f = .ex k ρ := rfl
theorem yR : jr (some a) ρ = .ok a ρ := rfl
theorem zeQ : jr (none : Option α) ρ = .no := rfl
theorem zgB : gd True r = r := rfl
theorem UL {c : Prop} [Decidable c] (h : c) : gd c r = r := if_pos h
theorem zgC : zcd (.ok .nx ρ) b = b ρ := rfl
theorem zgD : zcd (.ok (.rt d) ρ) b = .ok (.rt d) ρ := rfl
theorem zgE : zcd (.ok .bk ρ) b = .ok .bk ρ := rfl
theorem zgF : zcd (.ok .ct ρ) b = .ok .ct ρ := rfl
theorem zgG : zcd (.ex k ρ) b = .ex k ρ := rfl
theorem zeR : YV (.ok .nx ρ) b = b ρ := rfl
theorem zeS : YV (.ok (.rt d) ρ) b = .ok (.rt d) ρ := rfl
theorem zeT : YV (.ok .bk ρ) b = .ok .nx ρ := rfl
theorem zeU : YV (.ok .ct ρ) b = b ρ := rfl
theorem zh6 : (Opd.d x).get ρ = some x := rfl
theorem zmP : (Opd.v i).get ρ = Zz ρ[i]? := rfl
theorem zcV : Zz (some (.val d)) = some d := rfl
theorem zcW : Zz (some (.own d)) = some d := rfl
theorem Vg : Ug (some (.own d)) = some d := rfl
theorem zcX : Ve (some (.own (.lst ds))) = some ds := rfl
theorem zcY : zdW (some (.own (.obj c fs))) = some (c, fs) := rfl
theorem zeV : asB (.bl b) ρ = .ok b ρ := rfl
theorem zgH : asI (.int b) ρ = .ok (some b) ρ := rfl
theorem zeW {d : D} {os : List D} {ρ : Env} : zdV (.ok d os) ρ = .ok d ρ := rfl
theorem YW {ρ : Env} : zaP j (.ok d [o]) ρ = .ok d (ρ.set j (.own o)) := rfl
theorem zeX : ZA (.ok .non [o]) ρ = .ok o ρ := rfl
theorem zgI : zh3 pn false (.ok .nx ρ) = Wb pn .non ρ := rfl
theorem zce : zh3 pn fr (.ok (.rt d) ρ) = Wb pn d ρ := rfl
theorem zgJ : zh3 pn fr (.ex k ρ) = .ex k := rfl
theorem RQ : Wb [] d ρ = .ok d [] := rfl
theorem zjC : Wb [0] d (.own o :: ρ) = .ok d [o] := rfl
theorem zaQ {n : Nat} {r : Int} (h0 : 0 <= r) (h1 : r < n) : J7 n r = some r.toNat := by
 unfold J7
 rw [if_pos h0, if_pos h1]
theorem znU {n : Nat} {r : Int} (h0 : r < 0) (h1 : -(n : Int) <= r) : J7 n r = some (r + n).toNat := by
 unfold J7
 rw [if_neg (by omega), if_pos h1]
theorem Yd {ds : List D} {r : Int} (h0 : 0 <= r) (h1 : r < ds.length) : zF (.lst ds) (.int r) = some (ds.getD r.toNat .non) := by
 unfold zF; dsimp only; rw [zaQ h0 h1]; rfl
theorem YX {ds : List D} {r : Int} (h0 : 0 <= r) (h1 : r < ds.length) : zF (.tup ds) (.int r) = some (ds.getD r.toNat .non) := by
 unfold zF; dsimp only; rw [zaQ h0 h1]; rfl
theorem zqS {ns : List Int} {r : Int} (h0 : 0 <= r) (h1 : r < ns.length) : zF (.fz ns) (.int r) = some (.int (ns.getD r.toNat 0)) := by
 unfold zF; dsimp only; rw [zaQ h0 h1]; rfl
theorem zqT {w : Str} {r : Int} (hl : w.length <= 100000) (h0 : 0 <= r) (h1 : r < w.cps.toList.length) : zF (.str w) (.int r) = some (.str ⟨#[w.cps.toList.getD r.toNat 0]⟩) := by
 unfold zF; dsimp only; rw [if_pos hl, zaQ h0 h1]; rfl
section
variable {a b c d e f g h : D} {ds : List D}
theorem ix0 : zF (.lst (a :: ds)) (.int 0) = some a := Yd (by omega) (by simp only [au]; omega)
theorem ix1 : zF (.lst (a :: b :: ds)) (.int 1) = some b := Yd (by omega) (by simp only [au]; omega)
theorem ix2 : zF (.lst (a :: b :: c :: ds)) (.int 2) = some c := Yd (by omega) (by simp only [au]; omega)
theorem ix3 : zF (.lst (a :: b :: c :: d :: ds)) (.int 3) = some d := Yd (by omega) (by simp only [au]; omega)
theorem ix4 : zF (.lst (a :: b :: c :: d :: e :: ds)) (.int 4) = some e := Yd (by omega) (by simp only [au]; omega)
theorem ix5 : zF (.lst (a :: b :: c :: d :: e :: f :: ds)) (.int 5) = some f := Yd (by omega) (by simp only [au]; omega)
theorem ix6 : zF (.lst (a :: b :: c :: d :: e :: f :: g :: ds)) (.int 6) = some g := Yd (by omega) (by simp only [au]; omega)
theorem ix7 : zF (.lst (a :: b :: c :: d :: e :: f :: g :: h :: ds)) (.int 7) = some h := Yd (by omega) (by simp only [au]; omega)
theorem it0 : zF (.tup (a :: ds)) (.int 0) = some a := YX (by omega) (by simp only [au]; omega)
theorem it1 : zF (.tup (a :: b :: ds)) (.int 1) = some b := YX (by omega) (by simp only [au]; omega)
theorem it2 : zF (.tup (a :: b :: c :: ds)) (.int 2) = some c := YX (by omega) (by simp only [au]; omega)
theorem it3 : zF (.tup (a :: b :: c :: d :: ds)) (.int 3) = some d := YX (by omega) (by simp only [au]; omega)
theorem it4 : zF (.tup (a :: b :: c :: d :: e :: ds)) (.int 4) = some e := YX (by omega) (by simp only [au]; omega)
theorem it5 : zF (.tup (a :: b :: c :: d :: e :: f :: ds)) (.int 5) = some f := YX (by omega) (by simp only [au]; omega)
theorem it6 : zF (.tup (a :: b :: c :: d :: e :: f :: g :: ds)) (.int 6) = some g := YX (by omega) (by simp only [au]; omega)
theorem it7 : zF (.tup (a :: b :: c :: d :: e :: f :: g :: h :: ds)) (.int 7) = some h := YX (by omega) (by simp only [au]; omega)
end
theorem zgM : Qs .non = true := rfl
theorem zgN : Qs (.bl b) = false := rfl
theorem zgO : Qs (.int i) = false := rfl
theorem zgP : Qs (.str x) = false := rfl
theorem zgQ : Qs (.lst l) = false := rfl
theorem zgR : Qs (.tup l) = false := rfl
theorem zgS : Qs (.obj c fs) = false := rfl
theorem zjE : ye [none] ρb ρ = ρ := by
 match ρb with
 | [] => rfl
 | [_] => rfl
 | _ :: _ :: _ => rfl
theorem VJ : ∀ {a b : List Char}, a.map gT = b.map gT -> a = b
 | [], [], _ => rfl
 | [], _ :: _, h => by simp at h
 | _ :: _, [], h => by simp at h
 | x :: a, y :: b, h => by
  simp only [aq, eG] at h
  rw [VJ h.2, Char.toNat_inj.mp h.1]
theorem Wc : (bp a = bp b) = (a = b) := by
 apply propext
 constructor
 · intro h
   rw [fK, fK] at h
   have h : (a.toList.map gT) = (b.toList.map gT) := by
    have := congrArg (fun s => s.cps.toList) h
    simpa using this
   exact String.toList_inj.mp (VJ h)
 · intro h; rw [h]
end
end M
namespace L2
open PySem PySem.Spec PyProof.Rows
theorem zaR (t : SetTable) (n : Nat) : (t.orStandIn n).led = t.led /\ (t.plain = false -> (t.orStandIn n).plain = false) := by
 unfold SetTable.orStandIn
 split
 · exact ⟨rfl, id⟩
 · exact ⟨rfl, fun _ => rfl⟩
theorem zeY (t : SetTable) (es : Array (Int × Value)) (h : Int) (x : Value) : (layNew t es h x).2.1.led = t.led /\ (t.plain = false -> (layNew t es h x).2.1.plain = false) := by
 unfold layNew
 split
 · exact zaR _ _
 · exact ⟨rfl, fun _ => rfl⟩
theorem zeZ {t u : SetTable} (h : t.relaid hs n = some (u, ord)) : u.led = t.led /\ u.plain = t.plain := by
 unfold SetTable.relaid SetTable.laid at h
 cases e : SetTable.layClean (SetTable.sizeAbove n - 1) hs with
 | none => rw [e] at h; cases h
 | some ow => rw [e] at h; cases h; exact ⟨rfl, rfl⟩
theorem zcf (t : SetTable) (es : Array (Int × Value)) (n : Nat) : (fw t es n).2.1.led = t.led /\ (t.plain = false -> (fw t es n).2.1.plain = false) := by
 unfold fw
 split
 · rename_i u ord e
   have m := zeZ e
   dsimp only
   split
   · exact ⟨m.1, fun z => m.2.trans z⟩
   · exact ⟨rfl, fun _ => rfl⟩
 · exact ⟨rfl, fun _ => rfl⟩
def TxSet (P : Program) (w : World) (h : Heap) (a : Addr) (S : y4 -> Bool) (n : Nat) (led : Bool) : Prop :=
 ∃ ob es ep t, h.get? a = some ob /\ ob.ExactSet /\ ob.data = .set es ep t /\ ElemsOf (yw P w) es.toList /\ (∀ k, S k = true ↔ ∃ e ∈ es.toList, (yw P w).is k e.2 = true) /\ es.size < cY /\ t.fits es.size = true /\ es.size = n /\ t.led = led /\ (1 <= n -> t.plain = false)
theorem TxSet.set {h : Heap} {S : y4 -> Bool} (x : TxSet P w h a S n led) : h.SetOf (yw P w) a S n :=
 let ⟨ob, es, ep, t, h1, h2, h3, h4, h5, h6, h7, h8, _⟩ := x; ⟨ob, es, ep, t, h1, h2, h3, h4, h5, h6, h7, h8⟩
theorem TxSet.at {h h' : Heap} {S : y4 -> Bool} (x : TxSet P w h a S n led) (k : ∀ o, h.get? a = some o -> h'.get? a = some o) : TxSet P w h' a S n led :=
 let ⟨ob, es, ep, t, h1, r⟩ := x; ⟨ob, es, ep, t, k _ h1, r⟩
theorem TxSet.eq {S S' : y4 -> Bool} (x : TxSet P w h a S n led) (e : ∀ k, S k = S' k) (en : n = n') : TxSet P w h a S' n' led := by
 cases (funext e : S = S'); cases en; exact x
section
variable {prog : Program} {w : World} {A : Around} {E : Value -> Shared -> Prop} {s : Shared}
theorem zaS {h : Heap} {ob : Obj} (ho : h.get? a = some ob) (hx : ob.ExactSet) (hd : ob.data = .set es ep t) {fs : Array (Int × Value)} {u : SetTable} {S : y4 -> Bool}
 (h1 : ElemsOf (yw prog w) fs.toList) (h2 : ∀ k, S k = true ↔ ∃ e ∈ fs.toList, (yw prog w).is k e.2 = true) (h3 : fs.size < cY) (h4 : u.fits fs.size = true) (h5 : u.led = led) (h6 : u.plain = false) :
 (h.update a (iN fs u)).get? a = some { ob with data := .set fs (ep + 1) u } /\ TxSet prog w (h.update a (iN fs u)) a S fs.size led := by
 have g := (SetOf_store (knd := yw prog w) ho hx hd h1 h2 h3 h4).1
 exact ⟨g, _, fs, ep + 1, u, g, hx, rfl, h1, h2, h3, h4, rfl, h5, fun _ => h6⟩
theorem zgT {gw : Bool -> Sem Unit} (hg : ∀ (b : Bool) (s1 : Shared) (Q1 : Unit -> Shared -> Prop), Q1 () s1 -> wpAny (model prog w) A (gw b) Q1 E s1) {ob : Obj} {es fs : Array (Int × Value)} {t u : SetTable} {S : y4 -> Bool} 
 (ho : s.heap.get? a = some ob) (hx : ob.ExactSet) (hd : ob.data = .set es ep t) (h1 : ElemsOf (yw prog w) fs.toList) (h2 : ∀ k, S k = true ↔ ∃ e ∈ fs.toList, (yw prog w).is k e.2 = true) (h3 : fs.size < cY) (h4 : u.fits fs.size = true)
 (h5 : u.led = led) (h6 : u.plain = false) {R : Option Bool -> Shared -> Prop} (hR : ∀ h', cN a s.heap h' -> TxSet prog w h' a S fs.size led -> R (some true) { s with heap := h' }) :
 wpAny (model prog w) A (do
  storeSet a fs u
  if (!dm && u.tooFull) = true then do
   gw (fw u fs (cI fs.size)).2.2
   storeSet a (fw u fs (cI fs.size)).1 (fw u fs (cI fs.size)).2.1
   pure (some true)
  else pure (some true)) R E s := by
 obtain ⟨g1, T1⟩ := zaS (w := w) (prog := prog) ho hx hd h1 h2 h3 h4 h5 h6
 have same := gG s.heap a (iN fs u)
 refine ab (wpAny_storeSet_of ho hd ?_ (dU h3))
 split
 · have perm := relayAll_perm u fs (cI fs.size)
   have fits := relayAll_fits u fs (cI fs.size)
   have mark := zcf u fs (cI fs.size)
   revert perm fits mark
   generalize fw u fs (cI fs.size) = r
   obtain ⟨gs, v, gave⟩ := r
   intro perm fits mark
   dsimp only at perm fits mark ⊢
   have k1 : ElemsOf (yw prog w) gs.toList := h1.perm perm
   have k2 : ∀ k, S k = true ↔ ∃ e ∈ gs.toList, (yw prog w).is k e.2 = true := fun k => by
    rw [h2 k]
    exact ⟨fun ⟨e, m, q⟩ => ⟨e, perm.mem_iff.mpr m, q⟩, fun ⟨e, m, q⟩ => ⟨e, perm.mem_iff.mp m, q⟩⟩
   have k3 : gs.size = fs.size := by have := perm.length_eq; simpa using this
   refine ab (hg _ _ _ (ab (wpAny_storeSet_of g1 rfl ?_ (dU (by rw [k3]; exact h3)))))
   obtain ⟨_, T2⟩ := zaS (w := w) (prog := prog) g1 hx rfl k1 k2 (by rw [k3]; exact h3) fits (mark.1.trans h5) (mark.2 h6)
   rw [k3] at T2
   exact aj (hR _ (same.trans (gG _ a _)) T2)
 · exact aj (hR _ same T1)
theorem zlp {S : y4 -> Bool} {Q : Bool -> Shared -> Prop} (hS : TxSet prog w s.heap a S n led) (hr : n + 1 < cY)
 (hQ : ∀ h', cN a s.heap h' -> TxSet prog w h' a (fun k => S k || decide (k = .inr x)) (if S (.inr x) then n else n + 1) led -> Q (!S (.inr x)) { s with heap := h' }) :
 wpAny (model prog w) A (setAddHashed a (.str x tk) ((yw prog w).hash (.inr x))) Q E s := by
 obtain ⟨ob, es, ep, t, ho, hx, hd, hel, hmem, hb, hf, hn, hled, hpl⟩ := id hS
 have hk : (yw prog w).is (.inr x) (.str x tk) = true := zcB x tk
 have hsc : (Value.str x tk).scannable = true := rfl
 unfold setAddHashed setAddHashedIn
 refine bA (ab (bX ho hd hf ?_))
 dsimp only
 rw [byScan_of hsc hb hel, if_pos rfl]
 unfold setAddByScan
 refine ab (ab (fN (ab (wpAny_setScan_of hk ho hd hf hel ?_))))
 cases q : List.findIdx? (fun e => (yw prog w).is (.inr x) e.2) es.toList with
 | some j =>
  obtain ⟨hj, pj, _⟩ := dJ.mp q
  have there : S (.inr x) = true := (hmem _).mpr ⟨_, fq hj, pj⟩
  have z := hQ s.heap (cN.refl a s.heap) (hS.eq (fun k => by
   by_cases e : k = .inr x
   · rw [e, there]; rfl
   · rw [decide_eq_false e, d9]) (by rw [there]; rfl))
  rw [there] at z
  exact aj (aj z)
 | none =>
  have away : S (.inr x) = false := by
   cases e : S (.inr x) with
   | false => rfl
   | true =>
    obtain ⟨y, hy, py⟩ := (hmem _).mp e
    have := List.findIdx?_eq_none_iff.mp q y hy
    rw [py] at this; cases this
  have perm := layNew_perm t es ((yw prog w).hash (.inr x)) (.str x tk)
  have fits := layNew_fits t es ((yw prog w).hash (.inr x)) (.str x tk)
  have mark := zeY t es ((yw prog w).hash (.inr x)) (.str x tk)
  dsimp only
  revert perm fits mark
  generalize layNew t es ((yw prog w).hash (.inr x)) (.str x tk) = r
  obtain ⟨fs, u, dm, gave⟩ := r
  intro perm fits mark
  dsimp only at perm fits mark ⊢
  rw [h9] at perm
  have len : fs.size = n + 1 := by have := perm.length_eq; simp at this; omega
  have k1 : ElemsOf (yw prog w) fs.toList := (hel.push hk hsc).perm perm
  have k2 := mem_push_iff hk hmem perm
  have gwh : ∀ (b : Bool) (s1 : Shared) (Q1 : Unit -> Shared -> Prop), Q1 () s1 -> wpAny (model prog w) A (match b with | true => rule "set.scan.the-table-gave-way" | false => pure ()) Q1 E s1 := fun b s1 Q1 z => by
   cases b
   · exact aj z
   · exact fN z
  refine ab (gwh _ _ _ ?_)
  have last : ∀ h', cN a s.heap h' -> TxSet prog w h' a (fun k => S k || decide (k = .inr x)) fs.size led -> Q true { s with heap := h' } := fun h' z1 z2 => by
   have := hQ h' z1
   rw [away] at this
   rw [len] at z2
   exact this z2
  split
  · refine ab ?_
    rw [hashByValue_scannable 8 hsc]
    refine aj ?_
    refine zgT gwh ho hx hd k1 k2 (by omega) (u := { u with plain := false }) (SetTable.fits_plain_off fits) (mark.1.trans hled) rfl fun h' z1 z2 => aj (last h' z1 z2)
  · rename_i np
    refine ab (aj ?_)
    rw [if_pos rfl]
    exact zgT gwh ho hx hd k1 k2 (by omega) fits (mark.1.trans hled) (by simpa using np) fun h' z1 z2 => aj (last h' z1 z2)
end
inductive Txs : List Str -> List Value -> Prop where
 | nil : Txs [] []
 | cons (x : Str) (t : Tok) {xs vs} (r : Txs xs vs) : Txs (x :: xs) (.str x t :: vs)
theorem zjF : ∀ {xs : List Str} {us : List Value}, Vals (xs.map V.str) us -> Txs xs us
 | [], _, r => by cases r; exact .nil
 | x :: xs, _, r => by
  cases r with
  | cons r1 r2 => obtain ⟨t, rfl⟩ := r1; exact .cons x t (zjF r2)
abbrev kx (xs : List Str) : List y4 := xs.map Sum.inr
section
variable {prog : Program} {w : World} {A : Around} {R : Result -> Shared -> Prop}
theorem zjG {its : List Value} (hh : A.handled = none) (hne : l ≠ I) (hSI : S ≠ I) (hSl : S ≠ l) (hb : its.length + 1 < cY) :
 ∀ (rs : List Value) (rk pre : List Str) (us : List Value) (s : Shared) (n : Nat), its = us ++ rs -> pre.length = us.length -> Txs rk rs -> n <= us.length ->
  s.heap.IsListIter I l us.length -> s.heap.IsList l its.toArray -> TxSet prog w s.heap S (QO (kx pre)) n led ->
  (∀ h' tk, (∀ b o, b ∉ [S, I] -> s.heap.get? b = some o -> h'.get? b = some o) -> TxSet prog w h' S (QO (kx (pre ++ rk))) (n + jI (kx pre) (kx rk)) led -> R (.ok (.ret .none)) { s with heap := h', toks := tk }) ->
  cz (model prog w) A (.builtin "set.update.loop" ⟨[.ref S, .ref I], []⟩) R s := by
 intro rs
 have W := dX (prog := prog) (w := w) (A := A.in1) (by simpa using hh) I l hne its.toArray
 induction rs with
 | nil =>
  intro rk pre us s n e hl hp hn hit hls hS hR
  cases hp
  have eu : us.length = its.toArray.size := by rw [e]; simp
  refine aZ dn ?_
  rw [aO ci _]
  show wpAny _ A.in1 (pyNext (.ref I) >>= _) _ _ s
  refine ab (W.done s _ _ ⟨by rw [← eu]; exact hit, hls⟩ fun h' tk kk => ?_)
  refine aj ?_
  exact hR h' tk (fun b o hb ho => kk b o (fun z => hb (af _ z)) ho) (by
   simp only [aW, kx, cC, jI, Nat.add_zero]
   exact hS.at fun o ho => kk S o (by simpa using hSI) ho)
 | cons v rs ih =>
  intro rk pre us s n e hl hp hn hit hls hS hR
  cases hp with
  | @cons x tx rk _ hp =>
  have hi : us.length < its.toArray.size := by rw [e]; simp
  refine aZ dn ?_
  rw [aO ci _]
  show wpAny _ A.in1 (pyNext (.ref I) >>= _) _ _ s
  refine ab (W.item us.length s _ _ hi ⟨hit, hls⟩ fun v' h' tk hv' st' kk => ?_)
  have ev : v' = .str x tx := by
   have z : its[us.length]? = some (.str x tx) := by rw [e]; simp
   have z' : its[us.length]? = some v' := by simpa using hv'
   rw [z] at z'; cases z'; rfl
  subst ev
  have hS1 := hS.at (h' := h') fun o ho => kk S o (by simpa using hSI) ho
  show wpAny _ A.in1 (cH [.str x tx] (setAdd S (.str x tx)) >>= _) _ _ _
  refine ab (bA ?_)
  unfold setAdd
  refine bA ?_
  refine ab ((yw prog w).pyHash (k := .inr x) (zcB x tx) ?_)
  have hlt : us.length < its.length := by simpa using hi
  refine zlp hS1 (by omega) fun h2 hsb hS2 => ?_
  have keep2 : ∀ b o, b ∉ [S, I] -> s.heap.get? b = some o -> h2.get? b = some o := fun b o hb ho =>
   (hsb.2 b (fun z => hb (by simp [z]))).trans (kk b o (fun z => hb (af _ z)) ho)
  refine aj ⟨be ci _, ih rk (pre ++ [x]) (us ++ [.str x tx]) _ (if QO (kx pre) (.inr x) then n else n + 1) (by rw [e]; simp) (by simp [hl]) hp ?_ ?_ ?_ ?_ ?_⟩
  · rw [aP, cZ]; split <;> omega
  · rw [aP, cZ]
    exact st'.1.at fun o ho => (hsb.2 I (bn hSI)).trans ho
  · exact st'.2.at fun o ho => (hsb.2 l (bn hSl)).trans ho
  · refine hS2.eq (fun k' => ?_) rfl
    rw [cV, iH, isIn_iff, isIn_iff, decide_eq_true_eq]
    unfold kx
    rw [iI, a8, aq, cC, cQ]
  · intro h3 tk3 k3 hS3
    refine hR h3 tk3 (fun b o hb ho => k3 b o hb (keep2 b o hb ho)) (hS3.eq (fun k' => by rw [bT]; rfl) ?_)
    simp only [kx, aq, iI, cC, jI]
    split <;> omega
end
section
variable {prog : Program} {w : World} {A : Around} {E : Value -> Shared -> Prop} {s : Shared}
abbrev JU (w : World) : Bool := w.params.followText "set-order"
theorem znV (v : Value) {Q1 : Value -> Shared -> Prop} (h : Q1 (.ref s.heap.objs.size) { s with heap := s.heap.push (J3 (!JU w)) }) :
 cz (model prog w) A (.call (.builtin "set.__new__") ⟨[.type "set", v], []⟩) (wants Q1 E) s := by
 refine codeAny_of_tree ?_
 show wpAny _ A.in1 (fB "set.__new__" ⟨[.type "set", v], []⟩ >>= fun _ => again (.builtin "set.__new__" ⟨[.type "set", v], []⟩)) _ _ s
 refine ab (gx (PySem.F.newCall_set_1 v) (aj ⟨be fX _, aZ PySem.F.entry_set_new ?_⟩))
 rw [aO fX _]
 unfold Builtin.«set.__new__» Builtin.Frozenset.newClass
 have sub1 := sub_set_self
 obtain ⟨hp, g, d, tk, os⟩ := s
 dsimp only
 wp_walk
 refine fC (aj ?_)
 dsimp only
 simp only [newObj]
 exact ab (wpAny_alloc (aj (aj h)))
theorem ze0 {its : List Value} {Q : Value -> Shared -> Prop} (hh : A.handled = none) (hl : s.heap.IsList l its.toArray) (hp : Txs xs its) (hb : its.length + 1 < cY)
 (h : ∀ (h' : Heap) (tk : Nat), TxSet prog w h' s.heap.objs.size (QO (kx xs)) (jI [] (kx xs)) (!JU w) -> (∀ b o, b < s.heap.objs.size -> s.heap.get? b = some o -> h'.get? b = some o) -> Q (.ref s.heap.objs.size) { s with heap := h', toks := tk }) :
 wpAny (model prog w) A (call (.type "set") [.ref l]) Q E s := by
 obtain ⟨c, tl, hmro⟩ := PySem.F.called_set.mro
 have hmade := PySem.F.called_set.made
 have hsub := PySem.F.called_set.sub
 refine fM (codeAny_of_tree ?_)
 show wpAny _ _ (callAny (.type "set") _) _ _ _
 refine aj ⟨Code.quiet_builtin _ (by decide +kernel), aZ PySem.F.entry_type_call ?_⟩
 rw [Around.under_plain (weight_type_call_type "set" [.ref l] []) rfl]
 have h1 := PySem.F.called_set.notType
 have h2 := PySem.F.called_set.canCreate
 have hct := PySem.F.typeCall_set_1 (.ref l)
 repeat (any_goals (first | assumption | wp_step))
 refine dS (znV (.ref l) (E := E) (Q1 := fun obj s₁ => obj = .ref s.heap.objs.size /\ s₁ = { s with heap := s.heap.push (J3 (!JU w)) }) ⟨rfl, rfl⟩) fun r s₁ hr => ?_
 match r, hr with
 | .error e, hr => exact hr
 | .ok (.ret obj), hr =>
  obtain ⟨rfl, rfl⟩ := hr
  generalize hled : (!JU w) = led at h ⊢
  have hS : (s.heap.push (J3 led)).get? s.heap.objs.size = some (J3 led) := ay _ rfl
  have hT : gM { s with heap := s.heap.push (J3 led) } (.ref s.heap.objs.size) "set" := ⟨_, hS, rfl⟩
  have hli := PySem.F.called_set.init.lookup
  have hbi := PySem.F.called_set.init.bind (.ref s.heap.objs.size)
  repeat (any_goals (first | assumption | wp_step))
  refine dS (eC (R := wants (fun r s₂ => r = .none /\ ∃ h' tk, s₂ = { s with heap := h', toks := tk } /\ TxSet prog w h' s.heap.objs.size (QO (kx xs)) (jI [] (kx xs)) led /\
   (∀ b o, b < s.heap.objs.size -> s.heap.get? b = some o -> h'.get? b = some o)) E) PySem.F.called_set.init.plain PySem.F.entry_set_init (check_set_init_1 hT ?_)) fun r₂ s₂ hr₂ => ?_
  · obtain ⟨ol, hol, hcl, nl, hdl⟩ := id hl
    obtain ⟨ocls, odict, odata, oslots⟩ := ol
    simp only at hcl hdl
    subst hcl; subst hdl
    have hol' : (s.heap.push (J3 led)).get? l = some { cls := .type "list", dict := odict, data := .seq its.toArray nl, slots := oslots } := ae _ hol
    have hsls := PySem.F.sub_list_set
    have hslf := PySem.F.sub_list_frozenset
    have hne : (Value.type "list" == Value.type "dict") = false := by decide
    have hl1 : (s.heap.push (J3 led)).IsList l its.toArray := ⟨_, hol', rfl, nl, rfl⟩
    unfold Builtin.«set.__init__» noKeywords Builtin.Frozenset.updateFrom
    generalize hPI : pyIter = PI
    wp_walk
    subst hPI
    refine bJ hl1 (ab (wpAny_runValue ?_))
    have hlS : l < s.heap.objs.size := aw hol
    have sz : (s.heap.push (J3 led)).objs.size = s.heap.objs.size + 1 := bj ..
    refine zjG (its := its) (led := led) (by simp [hh]) (by rw [sz]; exact az (a5 hlS)) (by rw [sz]; exact az (bM _)) (fE hlS) hb its xs [] [] _ 0 rfl rfl hp (ax _)
     ⟨_, ay _ rfl, rfl, rfl⟩ (hl1.push _) ?_ ?_
    · refine ⟨J3 led, #[], 0, _, ae _ hS, ⟨rfl, rfl, rfl⟩, rfl, fun e he => by simp at he, fun k => by simp [QO], by decide, by rfl, rfl, rfl, fun z => absurd z (by decide)⟩
    · intro h' tk' kk hS'
      refine aj ?_
      show wpAny _ _ (ret Value.none) _ _ _
      refine aj ⟨rfl, h', tk', rfl, hS'.eq (fun _ => rfl) (by simp), fun b o hb e => ?_⟩
      refine kk b o (fun z => ?_) (ae _ (ae _ e))
      rcases aB.mp z with z | z
      · exact absurd z (az hb)
      · have z' : b = (s.heap.push (J3 led)).objs.size := by simpa using z
        rw [sz] at z'
        exact absurd z' (az (a5 hb))
  · match r₂, hr₂ with
    | .error e, hr₂ => exact hr₂
    | .ok (.ret r), hr₂ =>
     obtain ⟨rfl, h', tk, rfl, hS', hk'⟩ := hr₂
     repeat (any_goals (first | assumption | wp_step))
     exact h _ _ hS' hk'
    | .ok .next, hr₂ => exact hr₂.elim
    | .ok .brk, hr₂ => exact hr₂.elim
    | .ok .cont, hr₂ => exact hr₂.elim
 | .ok .next, hr => exact hr.elim
 | .ok .brk, hr => exact hr.elim
 | .ok .cont, hr => exact hr.elim
end
theorem sit_next : Slot "set_iterator" "__next__" "set_iterator.__next__" := .of (owner := "set_iterator") (n := "__next__") (by rw [fT, dW]; kernel_rfl) (by decide +kernel) (by decide +kernel) (by decide +kernel) (by first | exact .inl (by decide +kernel) | exact .inr (by decide +kernel)) (by rw [gy]; kernel_rfl)
theorem ze1 : Slot "set_iterator" "__iter__" "set_iterator.__iter__" := .of (owner := "set_iterator") (n := "__iter__") (by rw [fT, dW]; kernel_rfl) (by decide +kernel) (by decide +kernel) (by decide +kernel) (by first | exact .inl (by decide +kernel) | exact .inr (by decide +kernel)) (by rw [gy]; kernel_rfl)
theorem RS : il table "set_iterator.__next__" = some Builtin.«set_iterator.__next__» := entryFor_of_tree (by kernel_rfl)
theorem zlq : il table "set_iterator.__iter__" = some Builtin.«dict_keyiterator.__iter__» := entryFor_alias (id' := "dict_keyiterator.__iter__") (by kernel_rfl) rfl (by decide +kernel) (by kernel_rfl)
theorem zlr : il table "set.__iter__" = some Builtin.«frozenset.__iter__» := entryFor_alias (id' := "frozenset.__iter__") (by kernel_rfl) rfl (by decide +kernel) (by kernel_rfl)
theorem Wd (a : Value) : argsOk "set_iterator.__next__" ⟨[a], []⟩ := by
 unfold argsOk; kernel_rfl
theorem zjH (a : Value) : argsOk "set_iterator.__iter__" ⟨[a], []⟩ := by
 unfold argsOk; kernel_rfl
theorem zjI (a : Value) : argsOk "set.__iter__" ⟨[a], []⟩ := by
 unfold argsOk; kernel_rfl
section
variable {prog : Program} {w : World} {A : Around} {E : Value -> Shared -> Prop} {s : Shared}
theorem zh7 {Q : Nat -> Shared -> Prop} (h0 : 0 < n) (h : ∀ i dr, i < n -> Q i { s with drawn := dr }) : wpAny (model prog w) A (choose .order n) Q E s := fun Γ p hΓ => by
 unfold choose
 rw [Sem.wp_choose]
 refine ⟨fE h0, ?_⟩
 exact h _ _ (Nat.mod_lt _ h0)
theorem Vh {α : Type} : ∀ {l : List α} {i : Nat} (h : i < l.length), (l[i] :: l.eraseIdx i).Perm l
 | x :: l, 0, _ => bE _
 | x :: l, i + 1, h => by
  have := Vh (l := l) (i := i) (by simpa using h)
  show ((l[i]'(by simpa using h)) :: x :: l.eraseIdx i).Perm _
  exact (List.Perm.swap _ _ _).trans (this.cons x)
theorem zcZ {α : Type} : ∀ (n : Nat) (xs : List α) (s : Shared) (Q : List α -> Shared -> Prop), n = xs.length -> (∀ ys dr, ys.Perm xs -> Q ys { s with drawn := dr }) -> wpAny (model prog w) A (kr n xs) Q E s
 | 0, [], s, Q, _, h => by
  unfold kr
  exact aj (h [] s.drawn (bE _))
 | 0, _ :: _, _, _, e, _ => by simp at e
 | n + 1, [], _, _, e, _ => by simp at e
 | n + 1, x :: xs, s, Q, e, h => by
  unfold kr
  refine ab (zh7 (by simp) fun i dr hi => ?_)
  have hg : (x :: xs)[i]? = some (x :: xs)[i] := ac hi
  rw [hg]
  refine ab (zcZ n _ _ _ (by rw [gm, if_pos hi]; simp at e ⊢; exact e) fun ys dr' hp => aj ?_)
  refine h _ dr' ?_
  exact (hp.cons _).trans (Vh hi)
def SIter (h : Heap) (I : Addr) (first : Value) (i : Nat) (a : Addr) (n ep : Nat) : Prop := h.get? I = some { cls := .type "set_iterator", dict := none, data := .fields #[first, .int i 0, .ref a, .int n 0, .int ep 0], slots := #[] }
theorem SIter.ty (x : SIter h I first i a n ep) : ∀ {s : Shared}, s.heap = h -> s.TypeIs (.ref I) "set_iterator" := fun {s} e => ⟨_, by rw [e]; exact x, rfl⟩
theorem zh8 {I a T : Addr} {i n ep : Nat} {ob : Obj} {es : Array (Int × Value)} {t : SetTable} {pl : Array Value} {j : Nat} {x : Int × Value} {Q : Option Value -> Shared -> Prop} (hI : SIter s.heap I (.ref T) i a n ep) (ho : s.heap.get? a = some ob) (hd : ob.data = .set es ep t) (hf : t.fits es.size = true) (hn : es.size = n)
 (hT : s.heap.IsTuple T pl) (hp : pl[i]? = some (.int j 0)) (hx : es[j]? = some x) (h : ∀ h', SIter h' I (.ref T) (i + 1) a n ep -> cN I s.heap h' -> Q (some x.2) { s with heap := h' }) : wpAny (model prog w) A (pyNext (.ref I)) Q E s := by
 unfold pyNext
 refine ab (gS (dI (name := bp "__next__") (hI.ty rfl) sit_next (cu sit_next (hI.ty rfl) RS ?_ (Wd _))))
 unfold Builtin.«set_iterator.__next__» iV; simp only [cJ, cX, aM, ↓reduceIte, bind_assoc, bB, bne_self_eq_false]
 refine ab (aj ?_)
 refine ab (gz hI rfl ?_)
 dsimp only
 refine ab (dq ho hd hf ?_)
 rw [hn, if_neg (by simp)]
 obtain ⟨ot, hot, _, nt, hdt⟩ := id hT
 refine ab (bH hot hdt ?_)
 simp only [bf, hp]
 unfold setNextDrawn
 refine ab (ab (bX ho hd hf ?_))
 simp only [bf, bne_self_eq_false, aM, if_false, hx]
 refine aj (ab (cx hI (by simp) fun h' hI' hs => ?_))
 exact aj ⟨_, rfl, aj (h h' hI' hs)⟩
theorem zc0 {hh : A.handled = none} {Q : Option Value -> Shared -> Prop} (h : ∀ h', (∀ b o, s.heap.get? b = some o -> h'.get? b = some o) -> Q none { s with heap := h' }) :
 wpAny (model prog w) A.in1 (newExc (.type "StopIteration") [] >>= fun e => raiseNew (α := Fin) e) (fun fin s' => ∃ v, fin = Fin.done (Flow.ret v) /\ wpAny (model prog w) A (pure (some v)) Q E s')
  (fun e s' => wpAny (model prog w) A (isInstance e (.type "StopIteration") >>= fun b => if b = true then pure none else throw e) Q E s') s := by
 refine ab ?_; simp only [newExc, newTuple]; refine ab (bW ?_ (by size_fits)); refine ab (m := firstArgMember _ _) (gx (a := Value.none) (by first | rfl | (simp only [firstArgMember]; rfl)) ?_); refine bW ?_ (by size_fits)
 simp only [raiseNew]; refine ab (wpAny_handled ?_); rw [show A.in1.handled = none from hh]; refine ab (aj (wpAny_throw ?_)); refine ab (wpAny_isInstance (T := "StopIteration") (b := true) ⟨_, ay _ rfl, rfl⟩ isSubtype_stop ?_)
 exact aj (h _ fun b o e => ae _ (ae _ e))
theorem zjJ {ob : Obj} {es : Array (Int × Value)} {t : SetTable} {Q : Option Value -> Shared -> Prop} (hh : A.handled = none) (hI : SIter s.heap I (.ref T) n a n ep) (ho : s.heap.get? a = some ob) (hd : ob.data = .set es ep t) (hf : t.fits es.size = true) (hn : es.size = n)
 (hT : s.heap.IsTuple T pl) (hp : pl[n]? = none) (h : ∀ h', (∀ b o, b ≠ I -> s.heap.get? b = some o -> h'.get? b = some o) -> Q none { s with heap := h' }) : wpAny (model prog w) A (pyNext (.ref I)) Q E s := by
 unfold pyNext
 refine ab (gS (dI (name := bp "__next__") (hI.ty rfl) sit_next (cu sit_next (hI.ty rfl) RS ?_ (Wd _))))
 unfold Builtin.«set_iterator.__next__» iV; simp only [cJ, cX, aM, ↓reduceIte, bind_assoc, bB, bne_self_eq_false]
 refine ab (aj ?_)
 refine ab (gz hI rfl ?_)
 dsimp only
 refine ab (dq ho hd hf ?_)
 rw [hn, if_neg (by simp)]
 obtain ⟨ot, hot, _, nt, hdt⟩ := id hT
 refine ab (bH hot hdt ?_)
 simp only [bf, hp]
 refine ab (cx hI (by simp) fun h1 hI1 hs1 => ?_)
 refine ab (cx hI1 (by simp) fun h2 hI2 hs2 => ?_)
 refine zc0 (hh := hh) fun h' hk => h h' fun b o hb e => hk b o ((hs2.2 b hb).trans ((hs1.2 b hb).trans e))
theorem QV {I a : Addr} {sl i n ep : Nat} {ob : Obj} {es : Array (Int × Value)} {t : SetTable} {Q : Option Value -> Shared -> Prop} {r : Option (Value × Nat)} (hh : A.handled = none) (hI : SIter s.heap I (.int sl 0) i a n ep) (ho : s.heap.get? a = some ob) (hd : ob.data = .set es ep t) (hf : t.fits es.size = true) (hn : es.size = n)
 (hr : ∀ (Q' : Option (Value × Nat) -> Shared -> Prop) (E' : Value -> Shared -> Prop), Q' r s -> wpAny (model prog w) A.in1 (iK a sl i ep) Q' E' s)
 (h1 : ∀ x nx, r = some (x, nx) -> ∀ h', SIter h' I (.int nx 0) (i + 1) a n ep -> cN I s.heap h' -> Q (some x) { s with heap := h' })
 (h2 : r = none -> ∀ h', (∀ b o, b ≠ I -> s.heap.get? b = some o -> h'.get? b = some o) -> Q none { s with heap := h' }) : wpAny (model prog w) A (pyNext (.ref I)) Q E s := by
 unfold pyNext
 refine ab (gS (dI (name := bp "__next__") (hI.ty rfl) sit_next (cu sit_next (hI.ty rfl) RS ?_ (Wd _))))
 unfold Builtin.«set_iterator.__next__» iV; simp only [cJ, cX, aM, ↓reduceIte, bind_assoc, bB, bne_self_eq_false]
 refine ab (aj ?_)
 refine ab (gz hI rfl ?_)
 dsimp only
 refine ab (dq ho hd hf ?_)
 rw [hn, if_neg (by simp)]
 simp only [bf]
 refine ab (hr _ _ ?_)
 cases e : r with
 | none =>
  dsimp only
  refine ab (cx hI (by simp) fun h3 hI3 hs3 => ?_)
  exact zc0 (hh := hh) fun h' hk => h2 e h' fun b o hb z => hk b o ((hs3.2 b hb).trans z)
 | some y =>
  obtain ⟨x, nx⟩ := y
  dsimp only
  refine ab (cx hI (by simp) fun h3 hI3 hs3 => ?_)
  refine ab (cx hI3 (by simp) fun h4 hI4 hs4 => ?_)
  exact aj ⟨_, rfl, aj (h1 x nx e h4 hI4 (hs3.trans hs4))⟩
end
theorem zgV {α : Type} (f : Nat -> Nat) : ∀ (n k : Nat) (l : List α) (out : Array α), n = l.length -> ∃ ys, ys.Perm l /\ (cr.go f n k l out).toList = out.toList ++ ys
 | 0, k, [], out, _ => ⟨[], bE _, by simp [cr.go]⟩
 | 0, _, _ :: _, _, e => by simp at e
 | n + 1, _, [], _, e => by simp at e
 | n + 1, k, x :: l, out, e => by
  have hi : f k % (x :: l).length < (x :: l).length := Nat.mod_lt _ (by simp)
  obtain ⟨ys, p, q⟩ := zgV f n (k + 1) ((x :: l).eraseIdx (f k % (x :: l).length)) (out.push ((x :: l)[f k % (x :: l).length])) (by rw [gm, if_pos hi]; simp at e ⊢; exact e)
  refine ⟨(x :: l)[f k % (x :: l).length] :: ys, (p.cons _).trans (Vh hi), ?_⟩
  rw [cr.go, ac hi]
  dsimp only
  rw [q, h9, bT]
  rfl
theorem YY {α : Type} (f : Nat -> Nat) (xs : Array α) : (cr f xs).toList.Perm xs.toList := by
 obtain ⟨ys, p, q⟩ := zgV f xs.size 0 xs.toList #[] (by simp)
 unfold cr
 rw [q]
 simpa using p
section
variable {prog : Program} {w : World} {A : Around} {E : Value -> Shared -> Prop} {s : Shared}
theorem YZ {Q : Bool -> Shared -> Prop} (h : Q (JU w) s) : wpAny (model prog w) A setsByText Q E s := by
 unfold setsByText
 exact ab (fC (aj h))
structure SetAt (h : Heap) (a : Addr) (ob : Obj) (es : Array (Int × Value)) (ep : Nat) (t : SetTable) : Prop where
 g : h.get? a = some ob
 d : ob.data = .set es ep t
 f : t.fits es.size = true
theorem SetAt.keep {h h' : Heap} (x : SetAt h a ob es ep t) (k : ∀ o, h.get? a = some o -> h'.get? a = some o) : SetAt h' a ob es ep t := ⟨k _ x.g, x.d, x.f⟩
theorem Rl (hb : JU w = true) (x : SetAt s.heap a ob es ep t) (Q : Option (Value × Nat) -> Shared -> Prop) (E : Value -> Shared -> Prop) (h : Q (((cr (w.params.setOrder a ep) es)[i]?).map fun e => (e.2, sl)) s) : wpAny (model prog w) A (iK a sl i ep) Q E s := by
 unfold iK
 refine ab (bX x.g x.d x.f (ab (YZ ?_)))
 rw [hb]
 simp only [if_true, bne_self_eq_false, aM, if_false]
 unfold setWalk
 refine ab (ab (bX x.g x.d x.f (ab (YZ ?_))))
 rw [hb]
 simp only [if_true]
 refine ab (fC (aj (aj h)))
theorem RT {es : Array (Int × Value)} {t : SetTable} (hb : JU w = false) (x : SetAt s.heap a ob es ep t) (h1 : es.size <= 1) (hl : t.led = true) (Q : Option (Value × Nat) -> Shared -> Prop) (E : Value -> Shared -> Prop)
 (h : Q (match es[eT t.place sl]?, t.place[eT t.place sl]? with | some (_, x), some j => some (x, j + 1) | _, _ => none) s) : wpAny (model prog w) A (iK a sl i ep) Q E s := by
 unfold iK
 refine ab (bX x.g x.d x.f (ab (YZ ?_)))
 rw [hb]
 simp only [aM, if_false]
 rw [if_neg ?nd]
 case nd =>
  show ¬ (!t.plain && decide (es.size > 1)) = true
  rw [decide_eq_false (by omega), eS]
  exact ah
 refine ab (show wpAny (model prog w) A (if (!t.led && !es.isEmpty) = true then unsupported "set:maker-not-led" else pure ()) _ _ s from ?_)
 rw [hl, cX, dL, if_neg ah]
 exact aj (aj h)
theorem We : eT #[p] j = if p < j then 1 else 0 := by
 unfold eT
 show dO #[p] j 1 0 1 = _
 unfold dO
 simp only [cn, Nat.zero_lt_one, if_true]
 show (if (#[p] : Array Nat).getD 0 j < j then dO #[p] j 0 1 1 else dO #[p] j 0 0 0) = _
 rfl
theorem Y0 {Q : Value -> Shared -> Prop} (x : SIter s.heap I first i a n ep) (h : Q (.ref I) s) : wpAny (model prog w) A (pyIter (.ref I)) Q E s := by
 refine wpAny_pyIter_slot (x.ty rfl) ze1 (cu ze1 (x.ty rfl) zlq ?_ (zjH _))
 show wpAny _ _ (ret (.ref I)) _ _ s
 exact aj ⟨_, rfl, "set_iterator", _, x.ty rfl, sit_next.lookup, h⟩
theorem zfN {es : Array (Int × Value)} (hb : JU w = true) (hne : a ≠ I) (hh : A.handled = none) :
 Walks prog w A I [I, a] [I] es.size (fun i v => ((cr (w.params.setOrder a ep) es).map (·.2))[i]? = some v) (fun i h => SIter h I (.int 0 0) i a es.size ep /\ SetAt h a ob es ep t) where
 sub := fun b hb => by simp at hb; simp [hb]
 frame := fun i h h' st k => ⟨k I (by simp) _ st.1, st.2.keep fun o e => k a (by simp) o e⟩
 item := fun i s Q E hi st hQ => by
  have hsz : (cr (w.params.setOrder a ep) es).size = es.size := by have := (YY (w.params.setOrder a ep) es).length_eq; simpa using this
  have hg : (cr (w.params.setOrder a ep) es)[i]? = some ((cr (w.params.setOrder a ep) es)[i]'(by omega)) := bL _
  refine QV (sl := 0) hh st.1 st.2.g st.2.d st.2.f rfl (fun Q' E' h => Rl hb st.2 Q' E' h) (fun x nx e h' hI hs => ?_) fun e => ?_
  · rw [hg] at e
    cases e
    exact hQ _ h' s.toks (by rw [Array.getElem?_map, hg]; rfl) ⟨hI, st.2.keep fun o e => (hs.2 a hne).trans e⟩ fun b o hb e => (hs.2 b (fun z => hb (by simp [z]))).trans e
  · rw [hg] at e; cases e
 done := fun s Q E st hQ => by
  have hsz : (cr (w.params.setOrder a ep) es).size = es.size := by have := (YY (w.params.setOrder a ep) es).length_eq; simpa using this
  have hg : (cr (w.params.setOrder a ep) es)[es.size]? = none := dQ (by omega)
  refine QV (sl := 0) hh st.1 st.2.g st.2.d st.2.f rfl (fun Q' E' h => Rl hb st.2 Q' E' h) (fun x nx e => ?_) fun e h' hk => hQ h' s.toks fun b o hb z => hk b o (fun y => hb (by simp [y])) z
  rw [hg] at e; cases e
 self := fun i s Q E st hQ => Y0 st.1 hQ
theorem zh9 {es : Array (Int × Value)} {pl : List Nat} (hne : a ≠ I) (hT : T ≠ I) (hp : pl.Perm (aT es.size)) (hh : A.handled = none) :
 Walks prog w A I [I, a, T] [I] es.size (fun i v => ∃ j, pl[i]? = some j /\ (es[j]?).map (·.2) = some v) (fun i h => SIter h I (.ref T) i a es.size ep /\ SetAt h a ob es ep t /\ h.IsTuple T ((pl.map fun (i : Nat) => Value.int i 0).toArray)) where
 sub := fun b hb => by simp at hb; simp [hb]
 frame := fun i h h' st k => ⟨k I (by simp) _ st.1, st.2.1.keep fun o e => k a (by simp) o e, st.2.2.at fun o e => k T (by simp) o e⟩
 item := fun i s Q E hi st hQ => by
  have hl : pl.length = es.size := by have := hp.length_eq; simpa using this
  have hg : pl[i]? = some (pl[i]'(by omega)) := ac _
  have hj : pl[i]'(by omega) < es.size := by have := hp.mem_iff.mp (fq (l := pl) (n := i) (by omega)); simpa using this
  have hx : es[pl[i]'(by omega)]? = some (es[pl[i]'(by omega)]) := bL hj
  refine zh8 st.1 st.2.1.g st.2.1.d st.2.1.f rfl st.2.2 (j := pl[i]'(by omega)) (by simp [hg]) hx fun h' hI hs => ?_
  exact hQ _ h' s.toks ⟨_, hg, by rw [hx]; rfl⟩ ⟨hI, st.2.1.keep fun o e => (hs.2 a hne).trans e, st.2.2.at fun o e => (hs.2 T hT).trans e⟩ fun b o hb e => (hs.2 b (fun z => hb (by simp [z]))).trans e
 done := fun s Q E st hQ => by
  have hl : pl.length = es.size := by have := hp.length_eq; simpa using this
  exact zjJ hh st.1 st.2.1.g st.2.1.d st.2.1.f rfl st.2.2 (by simp [hl]) fun h' hk => hQ h' s.toks fun b o hb z => hk b o (fun y => hb (by simp [y])) z
 self := fun i s Q E st hQ => Y0 st.1 hQ
theorem zjK {t : SetTable} (hb : JU w = false) (hl : t.led = true) (hh : A.handled = none) :
 Walks prog w A I [I, a] [I] 0 (fun i v => False) (fun i h => SIter h I (.int 0 0) i a 0 ep /\ SetAt h a ob #[] ep t) where
 sub := fun b hb => by simp at hb; simp [hb]
 frame := fun i h h' st k => ⟨k I (by simp) _ st.1, st.2.keep fun o e => k a (by simp) o e⟩
 item := fun i s Q E hi st hQ => absurd hi (Nat.not_lt_zero _)
 done := fun s Q E st hQ => by
  refine QV (sl := 0) hh st.1 st.2.g st.2.d st.2.f rfl (fun Q' E' h => RT hb st.2 (by simp) hl Q' E' h) (fun x nx e => ?_) fun e h' hk => hQ h' s.toks fun b o hb z => hk b o (fun y => hb (by simp [y])) z
  simp at e
 self := fun i s Q E st hQ => Y0 st.1 hQ
theorem zls {t : SetTable} (hb : JU w = false) (hl : t.led = true) (hp : t.place = #[p]) (hne : a ≠ I) (hh : A.handled = none) :
 Walks prog w A I [I, a] [I] 1 (fun i v => v = x.2) (fun i h => SIter h I (.int (if i = 0 then 0 else p + 1 : Nat) 0) i a 1 ep /\ SetAt h a ob #[x] ep t) where
 sub := fun b hb => by simp at hb; simp [hb]
 frame := fun i h h' st k => ⟨k I (by simp) _ st.1, st.2.keep fun o e => k a (by simp) o e⟩
 item := fun i s Q E hi st hQ => by
  have : i = 0 := by omega
  subst this
  refine QV (sl := 0) hh st.1 st.2.g st.2.d st.2.f rfl (fun Q' E' h => RT hb st.2 (by simp) hl Q' E' h) (fun y nx e h' hI hs => ?_) fun e => ?_
  · rw [hp, We, if_neg (by omega)] at e
    simp at e
    obtain ⟨e1, e2⟩ := e
    subst e1 e2
    exact hQ _ h' s.toks rfl ⟨hI, st.2.keep fun o e => (hs.2 a hne).trans e⟩ fun b o hb e => (hs.2 b (fun z => hb (by simp [z]))).trans e
  · rw [hp, We, if_neg (by omega)] at e
    simp at e
 done := fun s Q E st hQ => by
  refine QV (sl := p + 1) hh st.1 st.2.g st.2.d st.2.f rfl (fun Q' E' h => RT hb st.2 (by simp) hl Q' E' h) (fun x nx e => ?_) fun e h' hk => hQ h' s.toks fun b o hb z => hk b o (fun y => hb (by simp [y])) z
  rw [hp, We, if_pos (by omega)] at e
  simp at e
 self := fun i s Q E st hQ => Y0 st.1 hQ
theorem zh_ {α β : Type} {es : Array α} {f : α -> β} {pl : List Nat} {acc : Array β} (hp : pl.Perm (aT es.size)) (h : acc.size = es.size) (ha : ∀ (i : Nat) v, acc[i]? = some v -> ∃ j : Nat, pl[i]? = some j /\ (es[j]?).map f = some v) : acc.toList.Perm (es.toList.map f) := by
 have hl : pl.length = es.size := by have := hp.length_eq; simpa using this
 have e : acc.toList.map some = pl.map fun j => (es[j]?).map f := by
  apply fg
  intro i
  rw [ar, ar]
  by_cases hi : i < es.size
  · have g : acc[i]? = some (acc[i]'(by omega)) := bL _
    obtain ⟨j, p1, p2⟩ := ha i _ g
    rw [p1, fU, g]
    simp only [cB]
    rw [p2]
  · rw [bz (by simp; omega), bz (by omega)]; rfl
 have p1 := hp.map fun j => (es[j]?).map f
 rw [← e] at p1
 have e2 : (aT es.size).map (fun j => (es[j]?).map f) = (es.toList.map f).map some := by
  apply fg
  intro i
  rw [ar, ar, ar]
  by_cases hi : i < es.size
  · rw [dl hi]
    simp [hi]
  · rw [bz (by simp; omega), bz (by simp; omega)]; rfl
 rw [e2] at p1
 have p2 := p1.filterMap id
 simpa using p2
theorem zlt {ob : Obj} {es : Array (Int × Value)} {t : SetTable} {Q : Value -> Shared -> Prop} (hx : ob.ExactSet) (x : SetAt s.heap a ob es ep t) (hl : t.led = !JU w) (hpl : 1 <= es.size -> t.plain = false) (hb : es.size < cY)
 (hQ : ∀ h' dr I fp P St, (∀ A' : Around, A'.handled = none -> Walks prog w A' I fp [I] es.size P St) -> St 0 h' -> (∀ acc : Array Value, ItemsOf P acc es.size -> acc.toList.Perm (es.toList.map (·.2))) -> (∀ b o, s.heap.get? b = some o -> h'.get? b = some o) -> s.heap.objs.size <= I -> (∀ b ∈ fp, b = a \/ s.heap.objs.size <= b) -> Q (.ref I) { s with heap := h', drawn := dr }) :
 wpAny (model prog w) A (pyIter (.ref a)) Q E s := by
 have hT : s.TypeIs (.ref a) "set" := ⟨ob, x.g, hx.1⟩
 have alt : a < s.heap.objs.size := aw x.g
 refine wpAny_pyIter_slot hT fY (cu fY hT zlr ?_ (zjI _))
 unfold Builtin.«frozenset.__iter__» Builtin.Frozenset.slot0 iV; simp only [cJ, cX, aM, ↓reduceIte, bind_assoc, bB, bne_self_eq_false]
 unfold Builtin.Frozenset.addrOf Builtin.Frozenset.sizeOf
 refine ab (aj (ab (aj ?_)))
 refine ab (ab (dq x.g x.d x.f (aj ?_)))
 unfold setDrawn
 refine ab (ab (bX x.g x.d x.f (ab (YZ (aj ?_)))))
 have ends : ∀ (h1 : Heap) (dr : Drawn) (first : Value) (fp : List Addr) (P : Nat -> Value -> Prop) (St : Nat -> Heap -> Prop), SetAt h1 a ob es ep t -> (∀ b o, s.heap.get? b = some o -> h1.get? b = some o) -> s.heap.objs.size <= h1.objs.size ->
  (∀ A' : Around, A'.handled = none -> Walks prog w A' h1.objs.size fp [h1.objs.size] es.size P St) -> (∀ h2, SIter h2 h1.objs.size first 0 a es.size ep -> (∀ b o, h1.get? b = some o -> h2.get? b = some o) -> St 0 h2) -> (∀ acc : Array Value, ItemsOf P acc es.size -> acc.toList.Perm (es.toList.map (·.2))) -> (∀ b ∈ fp, b = a \/ s.heap.objs.size <= b) ->
  wpAny (model prog w) A.in1 (setEpoch a >>= fun e => newFields "set_iterator" [first, rawInt 0, .ref a, rawInt (es.size : Nat), rawInt (e : Nat)] >>= fun v => ret v) (fun fin s' => ∃ v, fin = Fin.done (Flow.ret v) /\ ∃ T' r, s'.TypeIs v T' /\ iY (.type T') (bp "__next__") = pure (some r) /\ Q v s') E { s with heap := h1, drawn := dr } := by
  intro h1 dr first fp P St x1 k1 z1 W hst hacc hfp
  unfold setEpoch
  refine ab (ab (bX x1.g x1.d x1.f (aj ?_)))
  refine ab (bW ?_)
  have hI : SIter (h1.push { cls := .type "set_iterator", dict := none, data := .fields #[first, .int (0 : Nat) 0, .ref a, .int (es.size : Nat) 0, .int (ep : Nat) 0], slots := #[] }) h1.objs.size first 0 a es.size ep := ay _ rfl
  refine aj ⟨_, rfl, "set_iterator", _, ⟨_, hI, rfl⟩, sit_next.lookup, ?_⟩
  exact hQ _ dr h1.objs.size fp P St W (hst _ hI fun b o e => ae _ e) hacc (fun b o e => ae _ (k1 b o e)) z1 hfp
 have same : s = { s with heap := s.heap, drawn := s.drawn } := rfl
 cases hbt : JU w with
 | true =>
  rw [if_neg (by simp)]
  refine ab (aj ?_)
  rw [same]
  refine ends s.heap s.drawn _ _ _ _ x (fun _ _ e => e) (ax _) (fun A' hA => zfN (ob := ob) (t := t) (ep := ep) hbt (az alt) hA) (fun h2 hI k => ⟨hI, x.keep fun o e => k _ o e⟩) (fun acc ha => ?_) (fun b hb => by simp at hb; rcases hb with h | h <;> simp [h])
  have hsz : (cr (w.params.setOrder a ep) es).size = es.size := by have := (YY (w.params.setOrder a ep) es).length_eq; simpa using this
  have e : acc = (cr (w.params.setOrder a ep) es).map (·.2) := by
   apply Array.ext_getElem?
   intro i
   by_cases hi : i < es.size
   · have g : acc[i]? = some (acc[i]'(by have := ha.1; omega)) := bL _
     rw [g]
     exact (ha.2 i _ g).symm
   · rw [dQ (by have := ha.1; omega), dQ (by simp; omega)]
  rw [e, iy]
  exact (YY _ es).map _
 | false =>
  rw [hbt] at hl
  by_cases h1 : 1 < es.size
  · rw [if_pos ?yes]
    case yes =>
     show (!false && (!t.plain && decide (es.size > 1))) = true
     rw [hpl (by omega), decide_eq_true h1]; rfl
    refine ab (zcZ es.size (aT es.size) _ _ (by simp) fun pl dr hp => ?_)
    have hlen : pl.length = es.size := by have := hp.length_eq; simpa using this
    have fits : (pl.map fun (i : Nat) => rawInt i).length <= aF := by rw [ap, hlen]; exact dU hb
    refine ab (wpAny_newTuple ?_ fits)
    have sz : (s.heap.push { cls := .type "tuple", data := .seq (pl.map fun (i : Nat) => rawInt i).toArray }).objs.size = s.heap.objs.size + 1 := bj ..
    refine ends _ dr _ [(s.heap.push { cls := .type "tuple", data := .seq (pl.map fun (i : Nat) => rawInt i).toArray }).objs.size, a, s.heap.objs.size] _ _ (x.keep fun o e => ae _ e) (fun b o e => ae _ e) (by rw [sz]; omega)
     (fun A' hA => zh9 (T := s.heap.objs.size) (ob := ob) (t := t) (ep := ep) (pl := pl) (by rw [sz]; exact az (a5 alt)) (by rw [sz]; exact az (bM _)) hp hA) (fun h2 hI k => ⟨hI, x.keep fun o e => k _ o (ae _ e), ⟨_, k _ _ (ay _ rfl), rfl, _, rfl⟩⟩) (fun acc ha => zh_ hp ha.1 ha.2) (fun b hb => by
      simp only [aB, bO, or_false] at hb
      rcases hb with h | h | h
      · rw [h, sz]; exact .inr (by omega)
      · exact .inl h
      · rw [h]; exact .inr (ax _))
  · rw [if_neg ?no]
    case no =>
     show ¬ (!false && (!t.plain && decide (es.size > 1))) = true
     rw [decide_eq_false (by omega)]; simp
    refine ab (aj ?_)
    rw [same]
    have led : t.led = true := by rw [hl]; rfl
    by_cases h0 : es.size = 0
    · have e0 : es = #[] := d7 h0
      subst e0
      refine ends s.heap s.drawn _ _ _ _ x (fun _ _ e => e) (ax _) (fun A' hA => zjK (ob := ob) (t := t) (ep := ep) hbt led hA) (fun h2 hI k => ⟨hI, x.keep fun o e => k _ o e⟩) (fun acc ha => ?_) (fun b hb => by simp at hb; rcases hb with h | h <;> simp [h])
      have : acc = #[] := d7 ha.1
      rw [this]
      exact bE _
    · have e1 : es.size = 1 := by omega
      have ee : es = #[es[0]'(by omega)] := by
       apply kn
       · simpa using e1
       · intro i h1 h2
         have : i = 0 := by omega
         subst this
         rfl
      generalize es[0]'(by omega) = y at ee
      subst ee
      have hpz : t.place.size = 1 := by have := x.f; unfold SetTable.fits at this; simp at this; exact this.1
      have ep1 : t.place = #[t.place[0]'(by omega)] := by
       apply kn
       · simpa using hpz
       · intro i h1 h2
         have : i = 0 := by omega
         subst this
         rfl
      refine ends s.heap s.drawn _ _ _ _ x (fun _ _ e => e) (ax _) (fun A' hA => zls (ob := ob) (t := t) (ep := ep) hbt led ep1 (az alt) hA) (fun h2 hI k => ⟨hI, x.keep fun o e => k _ o e⟩) (fun acc ha => ?_) (fun b hb => by simp at hb; rcases hb with h | h <;> simp [h])
      have hs1 : acc.size = 1 := ha.1
      have ga : acc[0]? = some (acc[0]'(by omega)) := bL _
      have v0 := ha.2 0 _ ga
      have : acc = #[y.2] := by
       apply kn
       · simpa using hs1
       · intro i h1 h2
         have : i = 0 := by omega
         subst this
         exact v0
      rw [this]
      exact bE _
end
theorem ze2 : iY (.type "set") "__len__" = pure (some (.builtin "set.__len__")) := by rw [fT, dW]; kernel_rfl
section
variable {prog : Program} {w : World} {A : Around} {E : Value -> Shared -> Prop} {s : Shared}
theorem zfO {ob : Obj} {es : Array (Int × Value)} {t : SetTable} {Q : List Value -> Shared -> Prop} (hh : A.handled = none) (hx : ob.ExactSet) (x : SetAt s.heap a ob es ep t) (hl : t.led = !JU w) (hpl : 1 <= es.size -> t.plain = false) (hb : es.size < cY)
 (hQ : ∀ s' (acc : Array Value), (∀ b o, s.heap.get? b = some o -> s'.heap.get? b = some o) -> s'.gens = s.gens -> s'.os = s.os -> s.heap.objs.size < s'.heap.objs.size -> acc.toList.Perm (es.toList.map (·.2)) -> Q acc.toList s') : wpAny (model prog w) A (collect (.ref a)) Q E s := by
 have alt : a < s.heap.objs.size := aw x.g
 unfold collect; refine ab (wpAny_runValue (aZ PySem.F.entry_proto_collect ?_))
 rw [aO PySem.F.plain_proto_collect _]; show wpAny _ A.in1 (newList [] >>= fun l => again (.builtin "list.__iadd__" ⟨[l, .ref a], []⟩)) _ _ s
 refine ab (bW ?_); refine aj ⟨be fv _, aZ PySem.F.entry_list_iadd ?_⟩
 rw [aO fv _]; show wpAny _ A.in1 (eM (.ref s.heap.objs.size) (.ref a) (.ref s.heap.objs.size)) _ _ _
 unfold eM
 generalize hH : s.heap.push { cls := .type "list", data := .seq ([] : List Value).toArray } = H
 have x1 : SetAt H a ob es ep t := x.keep fun o e => hH ▸ ae _ e
 have hT : gM { s with heap := H } (.ref a) "set" := ⟨ob, x1.g, hx.1⟩
 refine ab (wpAny_typeOf (T := "set") hT ?_)
 have h1 : Builtin.List.listSameRef (.ref s.heap.objs.size) (.ref a) = false := by
  show (s.heap.objs.size == a) = false
  exact beq_eq_false_iff_ne.mpr (fE alt)
 have h2 : (Value.type "set" == Value.type "list") = false /\ (Value.type "set" == Value.type "tuple") = false := ⟨by decide, by decide⟩
 simp only [h1, h2.1, h2.2, d9, aM, if_false]
 refine ab (zlt (s := { s with heap := H }) hx x1 hl hpl hb fun h' dr I fp P St W hst hacc hk hI hfp => ?_)
 refine ab (bA ?_)
 unfold Builtin.List.listLengthHint
 have x2 : SetAt h' a ob es ep t := x1.keep fun o e => hk _ o e
 have hT2 : gM { s with heap := h', drawn := dr } (.ref a) "set" := ⟨ob, x2.g, hx.1⟩
 refine ab (wpAny_specialOf (T := "set") hT2 ze2 ?_)
 wp_delta
 refine ab (wpAny_isInstance (T := "set") (b := true) hT2 (by rw [gy]; kernel_rfl) ?_)
 show wpAny _ A.in1 (typeOf (.ref a) >>= _) _ _ _
 refine ab (wpAny_typeOf (T := "set") hT2 ?_)
 refine aj ?_
 rw [if_pos (by decide)]
 refine ab (fN ?_)
 unfold Builtin.List.listTouch
 have hS0 : h'.get? s.heap.objs.size = some (seqObj "list" #[] 0) := hk _ _ (hH ▸ ay _ rfl)
 have hHs : H.objs.size = s.heap.objs.size + 1 := by rw [← hH, bj]
 have notS : ∀ b ∈ fp, b ≠ s.heap.objs.size := fun b hm e => by
  rcases hfp b hm with z | z
  · exact absurd (z.symm.trans e) (az alt)
  · have z : H.objs.size <= b := z
    rw [hHs, e] at z
    exact Nat.not_succ_le_self _ z
 obtain ⟨c1, hS1⟩ : ∃ c1, (h'.update s.heap.objs.size (bY fun x => x.push Value.none)).get? s.heap.objs.size = some (seqObj "list" #[Value.none] c1) := ⟨_, get?_update_seq hS0 _⟩
 obtain ⟨c2, hS2⟩ : ∃ c2, ((h'.update s.heap.objs.size (bY fun x => x.push Value.none)).update s.heap.objs.size (bY fun x => x.pop)).get? s.heap.objs.size = some (seqObj "list" #[] c2) := ⟨_, get?_update_seq hS1 _⟩
 have oth : ∀ b o, b ≠ s.heap.objs.size -> h'.get? b = some o -> ((h'.update s.heap.objs.size (bY fun x => x.push Value.none)).update s.heap.objs.size (bY fun x => x.pop)).get? b = some o := fun b o hb e => by
  rw [aK _ _ (bn hb), aK _ _ (bn hb)]; exact e
 refine ab (ab (listUpdate_at hS0 rfl (listUpdate_at (s := { s with heap := h'.update s.heap.objs.size (bY fun x => x.push Value.none), drawn := dr }) hS1 rfl ?_)))
 generalize (h'.update s.heap.objs.size (bY fun x => x.push Value.none)).update s.heap.objs.size (bY fun x => x.pop) = h2 at hS2 oth
 have hst2 : St 0 h2 := (W A hh).frame 0 h' h2 hst fun b hm o e => oth b o (notS b hm) e
 have hn : es.size <= aF := dU hb
 refine aj ⟨be PySem.F.plain_extend_loop _, codeAny_extend_loopS (W A.in1 (by simpa using hh)).toS hn _ (fun z => notS _ z rfl) _ es.size 0 { s with heap := h2, drawn := dr } #[] c2 rfl (ck _) hst2 hS2 (ItemsOf.nil _) fun s' acc c hm hS' ha => ?_⟩
 show wpAny _ A (load s.heap.objs.size >>= _) _ _ s'
 refine ab (wpAny_load hS' (aj (hQ s' acc (fun b o e => ?_) hm.gens hm.os (aw hS') (hacc acc ha))))
 have blt := aw e
 refine hm.heap b o (fun z => ?_) (oth b o (az blt) (hk b o (hH ▸ ae _ e)))
 rcases aB.mp z with z | z
 · exact absurd z (az blt)
 · have z : b = I := by simpa using z
   have hI : H.objs.size <= I := hI
   rw [hHs, ← z] at hI
   exact absurd blt (Nat.not_lt.mpr (Nat.le_of_succ_le hI))
end
def QW (a b : Str) : Bool := !decide (b.cps.toList < a.cps.toList)
theorem leS_iff {a b : Str} : QW a b = true ↔ a.cps.toList <= b.cps.toList := by
 unfold QW
 simp [List.not_lt]
theorem zc1 (h1 : QW a b = true) (h2 : QW b c = true) : QW a c = true := leS_iff.mpr (List.le_trans (leS_iff.mp h1) (leS_iff.mp h2))
theorem zjL (a b : Str) : QW a b = true \/ QW b a = true := (List.le_total a.cps.toList b.cps.toList).imp leS_iff.mpr leS_iff.mpr
theorem zlu (h1 : QW a b = true) (h2 : QW b a = true) : a = b := by
 have := List.le_antisymm (leS_iff.mp h1) (leS_iff.mp h2)
 cases a; cases b
 simp at this
 rw [this]
def RU (x : Str) : List Str -> List Str
 | [] => [x]
 | y :: r => if QW x y = true then x :: y :: r else y :: RU x r
def Qv : List Str -> List Str
 | [] => []
 | x :: r => RU x (Qv r)
theorem Wf (x : Str) : ∀ l : List Str, (RU x l).Perm (x :: l)
 | [] => bE _
 | y :: r => by
  unfold RU
  split
  · exact bE _
  · exact ((Wf x r).cons y).trans (List.Perm.swap x y r)
theorem QX : ∀ l : List Str, (Qv l).Perm l
 | [] => bE _
 | x :: r => (Wf x _).trans ((QX r).cons x)
theorem Rm (x : Str) : ∀ {l : List Str}, l.Pairwise (fun a b => QW a b = true) -> (RU x l).Pairwise (fun a b => QW a b = true)
 | [], _ => by simp [RU]
 | y :: r, h => by
  obtain ⟨h1, h2⟩ := cv.mp h
  unfold RU
  split
  · rename_i e
    refine cv.mpr ⟨fun z hz => ?_, h⟩
    rcases aB.mp hz with rfl | hz
    · exact e
    · exact zc1 e (h1 z hz)
  · rename_i e
    refine cv.mpr ⟨fun z hz => ?_, Rm x h2⟩
    rcases aB.mp ((Wf x r).mem_iff.mp hz) with rfl | hz
    · exact (zjL _ _).resolve_left e
    · exact h1 z hz
theorem Wg : ∀ l : List Str, (Qv l).Pairwise (fun a b => QW a b = true)
 | [] => .nil
 | x :: r => Rm x (Wg r)
theorem ze3 {l m : List Str} (hp : m.Perm l) (hs : m.Pairwise (fun a b => QW a b = true)) : m = Qv l :=
 List.Perm.eq_of_pairwise (le := fun a b => QW a b = true) (fun a b _ _ => zlu) hs (Wg l) (hp.trans (QX l).symm)
def Rn : List y4 -> List Str -> List Str
 | _, [] => []
 | pre, x :: r => if QO pre (.inr x) = true then Rn (pre ++ [.inr x]) r else x :: Rn (pre ++ [.inr x]) r
theorem zgW : ∀ (r : List Str) (pre : List y4), (Rn pre r).length = jI pre (kx r)
 | [], _ => rfl
 | x :: r, pre => by
  have ih := zgW r (pre ++ [.inr x])
  unfold Rn
  simp only [kx, aq, jI]
  split
  · rw [ih]; simp [kx]
  · rw [au, ih]; simp [kx]; omega
theorem zcg : ∀ (r : List Str) (pre : List y4) (y : Str), y ∈ Rn pre r ↔ y ∈ r /\ Sum.inr y ∉ pre
 | [], _, _ => by simp [Rn]
 | x :: r, pre, y => by
  have ih := zcg r (pre ++ [.inr x]) y
  unfold Rn
  split
  · rename_i e
    rw [ih]
    have hx : Sum.inr x ∈ pre := isIn_iff.mp e
    simp only [a8, aB, bO, or_false, kg, not_or]
    constructor
    · rintro ⟨a, b, c⟩; exact ⟨.inr a, b⟩
    · rintro ⟨a, b⟩
      rcases a with rfl | a
      · exact absurd hx b
      · exact ⟨a, b, fun z => b (by rw [z]; exact hx)⟩
  · rename_i e
    have hx : Sum.inr x ∉ pre := fun z => e (isIn_iff.mpr z)
    rw [aB, ih]
    simp only [a8, aB, bO, or_false, kg, not_or]
    constructor
    · rintro (rfl | ⟨a, b, c⟩)
      · exact ⟨.inl rfl, hx⟩
      · exact ⟨.inr a, b⟩
    · rintro ⟨a, b⟩
      by_cases z : y = x
      · exact .inl z
      · exact .inr ⟨a.resolve_left z, b, z⟩
theorem Wh : ∀ (r : List Str) (pre : List y4), (Rn pre r).Nodup
 | [], _ => .nil
 | x :: r, pre => by
  unfold Rn
  split
  · exact Wh r _
  · refine bK.mpr ⟨fun z => ?_, Wh r _⟩
    have := ((zcg r _ x).mp z).2
    simp at this
def dd (xs : List Str) : List Str := Rn [] xs
theorem dd_mem : y ∈ dd xs ↔ y ∈ xs := by unfold dd; rw [zcg]; simp
theorem Vi : (dd xs).Nodup := Wh _ _
theorem ze4 : (dd xs).length = jI [] (kx xs) := zgW _ _
theorem Ro : ∀ {l m : List Str}, l.Nodup -> (∀ x ∈ l, x ∈ m) -> m.length = l.length -> m.Perm l
 | [], m, _, _, h => by rw [bS h]
 | x :: l, m, hn, hs, h => by
  have hx := hs x ao
  obtain ⟨n1, n2⟩ := bK.mp hn
  refine (List.perm_cons_erase hx).trans (List.Perm.cons x (Ro n2 (fun y hy => ?_) ?_))
  · exact (gp (fun z => n1 (by rw [← z]; exact hy))).mpr (hs y (af _ hy))
  · rw [fm hx, h]; rfl
theorem ze5 {vs us : List Value} (h : StrsAre vs ss) (p : us.Perm vs) : ∃ tt, StrsAre us tt /\ tt.Perm ss := by
 induction p generalizing ss with
 | nil => cases h; exact ⟨[], .nil, bE _⟩
 | cons x p ih =>
  cases h with
  | cons y t h => obtain ⟨tt, a, b⟩ := ih h; exact ⟨y :: tt, .cons y t a, b.cons y⟩
 | swap x y l =>
  cases h with
  | cons y1 t1 h =>
   cases h with
   | cons y2 t2 h => exact ⟨_, .cons y2 t2 (.cons y1 t1 h), List.Perm.swap _ _ _⟩
 | trans p q ih1 ih2 =>
  obtain ⟨tt, a, b⟩ := ih2 h
  obtain ⟨uu, c, d⟩ := ih1 a
  exact ⟨uu, c, d.trans b⟩
theorem zc2 : ∀ (l : List Str) (p : Str), risingS p l = true -> (∀ x ∈ l, QW p x = true) /\ l.Pairwise (fun a b => QW a b = true)
 | [], _, _ => ⟨(fun x h => by cases h), .nil⟩
 | x :: r, p, h => by
  have h : (!ltCps x.cps.toList p.cps.toList && risingS x r) = true := h
  rw [aN, ltCps_eq] at h
  obtain ⟨h1, h2⟩ := zc2 r x h.2
  refine ⟨fun y hy => ?_, cv.mpr ⟨h1, h2⟩⟩
  rcases aB.mp hy with rfl | hy
  · exact h.1
  · exact zc1 h.1 (h1 y hy)
theorem VN : ∀ (l : List Str), sortedS l = true -> l.Pairwise (fun a b => QW a b = true)
 | [], _ => .nil
 | x :: r, h => let ⟨a, b⟩ := zc2 r x h; cv.mpr ⟨a, b⟩
section
variable {prog : Program} {w : World} {A : Around} {E : Value -> Shared -> Prop} {s : Shared}
theorem zjM {es : List (Int × Value)} (he : ElemsOf (yw prog w) es) (hm : ∀ k, QO (kx xs) k = true ↔ ∃ e ∈ es, (yw prog w).is k e.2 = true) : ∃ ss, StrsAre (es.map (·.2)) ss /\ (∀ x ∈ xs, x ∈ ss) /\ ss.length = es.length := by
 have all : ∀ e ∈ es, ∃ x t, e.2 = .str x t /\ x ∈ xs := fun e hx => by
  obtain ⟨⟨k, hk, _⟩, _⟩ := he e hx
  have := (hm k).mpr ⟨e, hx, hk⟩
  rw [isIn_iff] at this
  obtain ⟨x, hxs, rfl⟩ := aE.mp this
  have hk : WD (.inr x) e.2 = true := hk
  rcases jf hk with ⟨i, t, h1, h2⟩ | ⟨y, t, h1, h2⟩
  · cases h1
  · cases h1; exact ⟨x, t, h2, hxs⟩
 have mk : ∀ (l : List (Int × Value)), (∀ e ∈ l, ∃ x t, e.2 = .str x t /\ x ∈ xs) -> ∃ ss, StrsAre (l.map (·.2)) ss /\ ss.length = l.length /\ ∀ x t, (∃ e ∈ l, e.2 = .str x t) -> x ∈ ss := by
  intro l
  induction l with
  | nil => intro _; exact ⟨[], .nil, rfl, fun x t h => by obtain ⟨e, h, _⟩ := h; cases h⟩
  | cons e l ih =>
   intro h
   obtain ⟨x, t, e1, _⟩ := h e ao
   obtain ⟨ss, a, b, c⟩ := ih fun e' h' => h e' (af _ h')
   refine ⟨x :: ss, ?_, by simp [b], fun y u hy => ?_⟩
   · rw [aq, e1]; exact .cons x t a
   · obtain ⟨e', h1, h2⟩ := hy
     rcases aB.mp h1 with rfl | h1
     · rw [e1] at h2; cases h2; exact ao
     · exact af _ (c y u ⟨e', h1, h2⟩)
 obtain ⟨ss, a, b, c⟩ := mk es all
 refine ⟨ss, a, fun x hx => ?_, b⟩
 obtain ⟨e, h1, h2⟩ := (hm (.inr x)).mp (isIn_iff.mpr (aE.mpr ⟨x, hx, rfl⟩))
 have h2 : WD (.inr x) e.2 = true := h2
 rcases jf h2 with ⟨i, t, z, _⟩ | ⟨y, t, z, h3⟩
 · cases z
 · cases z; exact c x t ⟨e, h1, h3⟩
theorem zia {xs : List Str} {Q : Value -> Shared -> Prop} (hh : A.handled = none) (hS : TxSet prog w s.heap a (QO (kx xs)) (jI [] (kx xs)) (!JU w)) (h64 : xs.length < 64)
 (h : ∀ s' L out e, (∀ b o, s.heap.get? b = some o -> s'.heap.get? b = some o) -> s'.gens = s.gens -> s'.os = s.os -> s.heap.objs.size <= L -> s'.heap.get? L = some (seqObj "list" out e) -> StrsAre out.toList (Qv (dd xs)) -> Q (.ref L) s') :
 wpAny (model prog w) A (call (.builtin "sorted") [.ref a]) Q E s := by
 obtain ⟨ob, es, ep, t, ho, hx, hd, hel, hmem, hb, hf, hn, hled, hpl⟩ := hS
 refine Calls.call_function_entry kind_sorted plain_sorted entry_sorted (args_sorted1 _) ?_
 unfold Builtin.«sorted»; refine ab (m := checkCount "sorted" 1 1 _) (aj ?_)
 refine ab (zfO (by simpa using hh) hx ⟨ho, hd, hf⟩ hled (fun z => hpl (hn ▸ z)) hb fun s1 acc k1 g1 o1 sz pa => ?_)
 obtain ⟨ss, sa, sx, sl⟩ := zjM hel hmem
 obtain ⟨tt, ta, tp⟩ := ze5 sa pa
 have hle : jI [] (kx xs) <= xs.length := by have := VT (kx xs) []; simpa [kx] using this
 have lent : acc.toList.length < 64 := by
  have := pa.length_eq
  simp at this
  simp; omega
 refine ab (wpAny_newList ?_ (by rw [dG]; omega))
 have hoL : (s1.heap.push (seqObj "list" acc.toList.toArray 0)).get? s1.heap.objs.size = some (seqObj "list" acc.toList.toArray 0) := ay _ rfl
 refine ab (bA (cu slot_list_sort ⟨_, hoL, rfl⟩ entry_list_sort (list_sort_treeK (s := { s1 with heap := s1.heap.push (seqObj "list" acc.toList.toArray 0) }) strKind_oneLt hoL ta.keysOf (fun v1 v2 r e => keyKind_strs (by rw [← e]; exact ta)) lent fun st' a1 a2 => ⟨_, rfl, ?_⟩) (args_list_sort _)))
 obtain ⟨uu, u1, u2, u3⟩ := sorted_out_str ta a1 a2
 obtain ⟨e, he⟩ := sortedHeap_at (vs := acc.toList) (out := (arrOf st').map (·.2)) hoL
 have pw : uu.Pairwise (fun a b => QW a b = true) := by
  refine VN uu u3
 have pe : uu.Perm (dd xs) := u2.trans (tp.trans (Ro Vi (fun x z => sx x (dd_mem.mp z)) (by rw [sl, ze4, ← hn]; simp)))
 rw [ze3 pe pw] at u1
 refine aj ⟨_, rfl, h _ s1.heap.objs.size _ e (fun b o z => ?_) g1 o1 (cM sz) he u1⟩
 have z1 := k1 b o z
 have lt := aw z1
 rw [sortedHeap_old (az lt) (by rw [size_push']; exact a5 lt)]
 exact ae _ z1
end
def zch (P : Program) (w : World) (a : Addr) (xs : List Str) : HO := .ext fun h => TxSet P w h a (QO (kx xs)) (jI [] (kx xs)) (!JU w)
section
variable {X : Cx}
theorem Inv.like {s s' : Shared} (I : Inv X pins σ H s) (h : s'.heap = s.heap) (o : s'.os = s.os) (g : s'.gens = s.gens) : Inv X pins σ H s' := by
 obtain ⟨hp, gn, dr, tk, os⟩ := s
 obtain ⟨hp', gn', dr', tk', os'⟩ := s'
 cases h; cases o; cases g
 exact ⟨I.ok, I.os, I.bare, I.base, I.loc, I.cell, I.free, I.freeC, I.pin, I.hok, I.len⟩
theorem zc3 (hc : X.calm = true) : jB X (.type "set") (fun vs H Q => ∃ (a : Addr) (xs : List Str), vs = [.ref a] /\ y8 X.K H a (xs.map V.str) /\ xs.length < 1000 /\ ∀ p, H p = none -> Q (.ref p) (yc H p (zch X.prog X.w p xs))) := by
 intro pins s σ H vs us Q I rv h
 obtain ⟨a, xs, rfl, hq, hz, q⟩ := h
 obtain ⟨u, rfl, ru⟩ := rv.one
 cases ru
 obtain ⟨its, r, pl, _⟩ := I.list hq
 have hl := r.length
 rw [ap] at hl
 refine ze0 (I.ok.hd hc) pl.isList (zjF r) (by unfold cY; omega) fun h' tk hS kk => ?_
 obtain ⟨o, es, ep, t, ho, rest⟩ := id hS
 refine ⟨.ref s.heap.objs.size, yc H s.heap.objs.size (zch X.prog X.w s.heap.objs.size xs), I.laid (fun b ob e => kk b ob (aw e) e) (ax _) ?_, rfl, q _ (I.hok.fresh (ax _))⟩
 exact ⟨hS, ⟨o, ho⟩, fun h1 h2 p k => p.at k⟩
theorem zdw : jB X (.builtin "len") (fun vs H Q => ∃ (a : Addr) (xs : List Str), vs = [.ref a] /\ H a = some (zch X.prog X.w a xs) /\ Q (.int (jI [] (kx xs))) H) := by
 intro pins s σ H vs us Q I rv h
 obtain ⟨a, xs, rfl, hq, q⟩ := h
 obtain ⟨u, rfl, ru⟩ := rv.one
 cases ru
 obtain ⟨hS, _, _⟩ := (show ObjOk X.prog X.w H s.heap a (zch X.prog X.w a xs) from I.hok a _ hq)
 obtain ⟨o, es, ep, t, ho, hex, hd, hel, hmem, hb, hf, hn⟩ := hS.set
 have hb' : (es.size : Int) < 2 ^ 63 := by unfold cY at hb; omega
 have q' : Q (.int es.size) H := by rw [hn]; exact q
 exact g3 ho hex hd hf hb' ⟨.int es.size, H, I.tok _, ⟨_, rfl⟩, q'⟩
theorem vals_strs : ∀ {vs : List Value} {ss : List Str}, StrsAre vs ss -> Vals (ss.map V.str) vs
 | _, _, .nil => .nil
 | _, _, .cons y t r => .cons ⟨t, rfl⟩ (vals_strs r)
theorem zci (hc : X.calm = true) : jB X (.builtin "sorted") (fun vs H Q => ∃ (a : Addr) (xs : List Str), vs = [.ref a] /\ H a = some (zch X.prog X.w a xs) /\ xs.length < 64 /\ ∀ l, H l = none -> Q (.ref l) (yc H l (.lst ((Qv (dd xs)).map V.str)))) := by
 intro pins s σ H vs us Q I rv h
 obtain ⟨a, xs, rfl, hq, hz, q⟩ := h
 obtain ⟨u, rfl, ru⟩ := rv.one
 cases ru
 obtain ⟨hS, _, _⟩ := (show ObjOk X.prog X.w H s.heap a (zch X.prog X.w a xs) from I.hok a _ hq)
 refine zia (I.ok.hd hc) hS hz fun s' L out e k g o hL hg hs => ?_
 have len : (Qv (dd xs)).length <= xs.length := by rw [(QX _).length_eq, ze4]; have := VT (kx xs) []; simpa [kx] using this
 have I1 := I.laid (a := L) (o := .lst ((Qv (dd xs)).map V.str)) (t' := s.toks) k hL ⟨by rw [ap, dG]; omega, out.toList, e, vals_strs hs, hg⟩
 exact ⟨.ref L, _, I1.like rfl o g, rfl, q L (I.hok.fresh hL)⟩
end
theorem Jl {ns : List Int} {its : List Value} {i : Nat} {v : Value} (r : Vals (ns.map V.int) its) (h : its.toArray[i]? = some v) : ∃ t, v = .int (ns.getD i 0) t := by
 have hv : its[i]? = some v := by simpa using h
 have hi : i < its.length := (aD.mp hv).1
 have hl := r.length
 rw [ap] at hl
 obtain ⟨u, hu, ru⟩ := r.get (i := i) (x := .int (ns.getD i 0)) (by
  rw [ar, ac (by omega), aC, ac (by omega)]; rfl)
 rw [hv] at hu; cases hu
 exact ru
theorem Rp (ns : List Int) : ∀ n, n <= ns.length -> preSum (fun i => ns.getD i 0) n = (ns.take n).sum
 | 0, _ => by simp [preSum]
 | n + 1, h => by
  rw [preSum, Rp ns n (by omega), List.take_succ_eq_append_getElem (by omega), List.sum_append, aC, ac (by omega)]
  simp
section
variable {X : Cx}
theorem zlv (hc : X.calm = true) : jB X (.builtin "sum") (fun vs H Q => ∃ (a : Addr) (ns : List Int), vs = [.ref a] /\ y8 X.K H a (ns.map V.int) /\ Q (.int ns.sum) H) := by
 intro pins s σ H vs us Q I rv h
 obtain ⟨a, ns, rfl, hq, q⟩ := h
 obtain ⟨u, rfl, ru⟩ := rv.one
 cases ru
 obtain ⟨its, r, pl, hz⟩ := I.list hq
 have hl := r.length
 rw [ap] at hl
 have hlt : a < s.heap.objs.size := by obtain ⟨o, n, e, _⟩ := pl; exact aw e
 refine call_sum_walkAnyS (bJ pl.isList ⟨_, _, _, _, _, _, _, fun i => ns.getD i 0, rfl, (dX (by simpa using I.ok.hd hc) s.heap.objs.size a (az hlt) its.toArray).toS, ⟨⟨_, ay _ rfl, rfl, rfl⟩, pl.isList.push _⟩, ?_, fun i v hv => Jl r hv, fun s' t' hm => ?_⟩)
 · intro b hb
   have sz : (s.heap.push { cls := .type "list_iterator", data := .fields #[Value.ref a, Value.int 0 0] }).objs.size = s.heap.objs.size + 1 := bj ..
   show b < (s.heap.push _).objs.size
   rw [bj]
   simp at hb
   rcases hb with rfl | rfl
   · exact bM _
   · exact a5 hlt
 · have e : preSum (fun i => ns.getD i 0) its.toArray.size = ns.sum := by
    rw [ak, ← hl, Rp ns _ (ax _), d6]
   rw [e]
   have I1 : Inv X pins σ H { s with heap := s'.heap, toks := s'.toks } := I.kept fun b o e => hm.heap b o (by simp only [cQ]; exact az (aw e)) (ae _ e)
   exact ⟨.int ns.sum, H, I1.like rfl hm.os hm.gens, ⟨_, rfl⟩, q⟩
end
section
variable {prog : Program} {w : World} {A : Around} {R : Result -> Shared -> Prop} {I : Addr} {fp wr : List Addr} {G : Array GenState -> Array GenState -> Prop} {n : Nat} {P : Nat -> Value -> Prop} {St : Nat -> Shared -> Prop}
theorem zlw (W : WalksS prog w A.in1 I fp wr G n P St) (bt : Nat -> Nat -> Bool) (cm : CmpOf prog w A.in1 .Gt P bt) (S : Addr) (sf : S ∉ fp) (kw : List (Str × Value)) :
 ∀ (k j : Nat) (s : Shared) (b : Value) (c : Nat), n - (j + 1) = k -> j + 1 <= n -> St (j + 1) s -> P (bC bt j) b -> s.heap.get? S = some { cls := .type "list", dict := none, data := .seq #[b, b] c, slots := #[] } ->
 (∀ v s', P (bC bt (n - 1)) v -> Moved (S :: wr) G s s' -> R (.ok (.ret v)) s') -> cz (model prog w) A (.builtin "max.loop" ⟨[.ref I, .none, .ref S], kw⟩) R s := by
 have sw : S ∉ wr := fun z => sf (W.sub _ z)
 have up : ∀ b ∈ wr, b ∈ S :: wr := fun b hb => af _ hb
 have nm : (toString "max" ++ toString ".loop" : String) = "max.loop" := by decide
 have ns : ∀ {b : Addr}, b ∉ S :: wr -> S ≠ b := fun hb z => hb (by rw [z]; exact ao)
 intro k
 induction k with
 | zero =>
  intro j s b c hk hj st pb hS hR
  have hn : j + 1 = n := by omega
  refine aZ cS ?_; rw [aO a6 _]; show wpAny _ A.in1 (d8 (.ref S) >>= _) _ _ s
  refine ab (bH hS rfl ?_); show wpAny _ A.in1 (tryCatch (pyNext (.ref I)) _ >>= _) _ _ s
  refine ab (bI (W.done s _ _ (hn ▸ st) fun s1 m1 => ?_))
  have hS1 := m1.heap S _ sw hS
  show wpAny _ A.in1 (iE S (fun _ => #[]) >>= _) _ _ _; refine ab ?_
  refine cW hS1 rfl (ab (df (aj (hR b _ (by rw [← hn]; exact pb) ((m1.mono up).then_heap (tk := s1.toks) (ax _) fun d o hd e => (aK _ _ (ns hd)).trans e)))))
 | succ k ih =>
  intro j s b c hk hj st pb hS hR
  have lt : j + 1 < n := by omega
  refine aZ cS ?_; rw [aO a6 _]; show wpAny _ A.in1 (d8 (.ref S) >>= _) _ _ s
  refine ab (bH hS rfl ?_); show wpAny _ A.in1 (tryCatch (pyNext (.ref I)) _ >>= _) _ _ s
  refine ab (bI (W.item (j + 1) s _ _ lt st fun v s1 pv st1 m1 => ?_))
  have hS1 := m1.heap S _ sw hS
  show wpAny _ A.in1 (tryCatch (cH [v, v] (richCompare .Gt v b >>= _)) _ >>= _) _ _ _
  refine ab (bI (bA (ab (cm (j + 1) (bC bt j) v b _ _ _ pv pb (ab (bA (aX (ab (df (aj ?_))))))))))
  cases hb : bt (j + 1) (bC bt j) with
  | true =>
   rw [if_pos rfl]
   refine ab ?_; refine cW hS1 rfl (ab (df ?_)); rw [nm]
   refine aj ⟨be a6 _, ih (j + 1) _ v _ (by omega) lt (W.frame _ s1 _ s1.toks st1 (ax _) fun d hd o e => (aK _ _ (fun z : S = d => sf (by rw [z]; exact hd))).trans e) (by rw [bC, hb, if_pos rfl]; exact pv) (cy _ hS1 rfl) fun v' s2 p2 m2 => ?_⟩
   exact hR v' s2 p2 (ez W.gtrans ((m1.mono up).then_heap (by first | exact ax _ | exact cL _ | omega) fun d o hd e => (aK _ _ (ns hd)).trans e) m2)
  | false =>
   rw [if_neg ah]
   refine ab (df ?_); rw [nm]
   exact aj ⟨be a6 _, ih (j + 1) _ b c (by omega) lt st1 (by rw [bC, hb, if_neg ah]; exact pb) hS1 fun v' s2 p2 m2 => hR v' s2 p2 (ez W.gtrans (m1.mono up) m2)⟩
theorem zjN (W : WalksS prog w A.in1 I fp wr G n P St) (bt : Nat -> Nat -> Bool) (cm : CmpOf prog w A.in1 .Gt P bt) (S : Addr) (sf : S ∉ fp) (hn : 0 < n) {s : Shared} (st : St 0 s) (hS : s.heap.get? S = some { cls := .type "list", dict := none, data := .seq #[] c, slots := #[] })
 (hR : ∀ v s', P (bC bt (n - 1)) v -> Moved (S :: wr) G s s' -> R (.ok (.ret v)) s') : cz (model prog w) A (.builtin "max.loop" ⟨[.ref I, .none, .ref S], kw⟩) R s := by
 have sw : S ∉ wr := fun z => sf (W.sub _ z)
 have up : ∀ b ∈ wr, b ∈ S :: wr := fun b hb => af _ hb
 have nm : (toString "max" ++ toString ".loop" : String) = "max.loop" := by decide
 have ns : ∀ {b : Addr}, b ∉ S :: wr -> S ≠ b := fun hb z => hb (by rw [z]; exact ao)
 refine aZ cS ?_; rw [aO a6 _]; show wpAny _ A.in1 (d8 (.ref S) >>= _) _ _ s
 refine ab (bH hS rfl ?_); show wpAny _ A.in1 (tryCatch (pyNext (.ref I)) _ >>= _) _ _ s
 refine ab (bI (W.item 0 s _ _ hn st fun v s1 pv st1 m1 => ?_))
 have hS1 := m1.heap S _ sw hS
 show wpAny _ A.in1 (iE S (fun _ => #[v, v]) >>= _) _ _ _; refine ab ?_
 refine cW hS1 rfl ?_; rw [nm]
 refine aj ⟨be a6 _, zlw W bt cm S sf kw _ 0 _ v _ rfl hn (W.frame _ s1 _ s1.toks st1 (ax _) fun d hd o e => (aK _ _ (fun z : S = d => sf (by rw [z]; exact hd))).trans e) pv (cy _ hS1 rfl) fun v' s2 p2 m2 => ?_⟩
 exact hR v' s2 p2 (ez W.gtrans ((m1.mono up).then_heap (by first | exact ax _ | exact cL _ | omega) fun d o hd e => (aK _ _ (ns hd)).trans e) m2)
theorem zlx (W : WalksS prog w A.in1 I fp wr G 0 P St) (S : Addr) (sf : S ∉ fp) {s : Shared} (st : St 0 s) (hS : s.heap.get? S = some { cls := .type "list", dict := none, data := .seq #[] c, slots := #[] })
 (hR : ∀ s', Moved (S :: wr) G s s' -> R (.ok (.ret d)) s') : cz (model prog w) A (.builtin "max.loop" ⟨[.ref I, .none, .ref S], (x, d) :: kw⟩) R s := by
 have sw : S ∉ wr := fun z => sf (W.sub _ z)
 have up : ∀ b ∈ wr, b ∈ S :: wr := fun b hb => af _ hb
 refine aZ cS ?_; rw [aO a6 _]; show wpAny _ A.in1 (d8 (.ref S) >>= _) _ _ s
 refine ab (bH hS rfl ?_); show wpAny _ A.in1 (tryCatch (pyNext (.ref I)) _ >>= _) _ _ s
 refine ab (bI (W.done s _ _ st fun s1 m1 => ?_))
 exact ab (fN (aj (hR s1 (m1.mono up))))
end
theorem zjO (a d : Value) : argsOk "max" ⟨[a], [("default", d)]⟩ := by
 unfold argsOk; kernel_rfl
section
variable {prog : Program} {w : World} {A : Around} {E : Value -> Shared -> Prop} {s : Shared}
theorem zjP {Q : Value -> Shared -> Prop} (hb : il table "max" = some b) (ha : argsOk "max" ⟨args, kw⟩)
 (hc : wpAny (model prog w) A.in1 (b ⟨args, kw⟩) (fun fin s' => match fin with
  | .done f => (match (Except.ok f : Result) with | .ok (.ret v) => Q v s' | .ok _ => False | .error e => E e s')
  | .again c' => c'.quiet = true /\ cz (model prog w) A c' (fun r s' => match r with | .ok (.ret v) => Q v s' | .ok _ => False | .error e => E e s') s') E s) : wpAny (model prog w) A (call (.builtin "max") args kw) Q E s := by
 refine fM (eC PySem.F.plain_max hb ?_); simp only [fB, PySem.F.kind_max]
 cases q : gH "max" with
 | none => exact aj hc
 | some sg =>
  have z : iP "max" sg ⟨args, kw⟩ = pure () := by simpa only [argsOk, q] using ha
  simp only [z]
  exact aj hc
theorem zjQ {l : Addr} {vs : List Value} {ns : List Int} {d : Value} {Q : Value -> Shared -> Prop} (hh : A.handled = none) (hl : s.heap.IsList l vs.toArray) (r : Vals (ns.map V.int) vs)
 (hQ : ∀ v s', (if ns = [] then v = d else ∃ t, v = .int (ns.getD (bC (fun i j => decide (ns.getD i 0 > ns.getD j 0)) (ns.length - 1)) 0) t) -> (∀ b o, s.heap.get? b = some o -> s'.heap.get? b = some o) -> s'.gens = s.gens -> s'.os = s.os -> Q v s') :
 wpAny (model prog w) A (call (.builtin "max") [.ref l] [("default", d)]) Q E s := by
 have nm : (toString "max" ++ toString ".loop" : String) = "max.loop" := by decide
 have hlen := r.length
 rw [ap] at hlen
 have llt : l < s.heap.objs.size := by obtain ⟨o, e, _⟩ := id hl; exact aw e
 refine zjP PySem.F.entry_max (zjO _ _) ?_
 show wpAny _ A.in1 (cj "max" ["key", "default"] 0 ⟨[], [("default", d)]⟩ >>= _) _ _ s
 refine ab (gx (show cj "max" ["key", "default"] 0 ⟨[], [("default", d)]⟩ = pure [none, some d] from by kernel_rfl) ?_)
 refine ab (aj ?_)
 refine ab (bJ hl ?_)
 have W := (dX (prog := prog) (w := w) (A := A.in1) (by simpa using hh) s.heap.objs.size l (az llt) vs.toArray).toS
 have iter : (s.heap.push { cls := .type "list_iterator", data := .fields #[Value.ref l, Value.int 0 0] }).IsListIter s.heap.objs.size l 0 /\ (s.heap.push { cls := .type "list_iterator", data := .fields #[Value.ref l, Value.int 0 0] }).IsList l vs.toArray := ⟨⟨_, ay _ rfl, rfl, rfl⟩, hl.push _⟩
 have sz : (s.heap.push { cls := .type "list_iterator", data := .fields #[Value.ref l, Value.int 0 0] }).objs.size = s.heap.objs.size + 1 := bj ..
 refine ab (bW ?_)
 generalize hH : (s.heap.push { cls := .type "list_iterator", data := .fields #[Value.ref l, Value.int 0 0] }) = H1 at iter sz
 have sf : H1.objs.size ∉ [s.heap.objs.size, l] := fun z => by
  rw [sz] at z
  have z : s.heap.objs.size + 1 = s.heap.objs.size \/ s.heap.objs.size + 1 = l := by simpa only [aB, bO, or_false] using z
  rcases z with z | z
  · exact absurd z (iz _)
  · exact absurd z.symm (az (a5 llt))
 have keep : ∀ (s' : Shared), Moved (H1.objs.size :: [s.heap.objs.size]) (fun a b => b = a) { s with heap := H1.push { cls := .type "list", data := .seq ([] : List Value).toArray } } s' -> ∀ b o, s.heap.get? b = some o -> s'.heap.get? b = some o := fun s' m b o e => by
  have lt := aw e
  refine m.heap b o (fun z => ?_) (ae _ (hH ▸ ae _ e))
  rw [sz] at z
  simp at z
  rcases z with z | z
  · exact absurd z (az (a5 lt))
  · exact absurd z (az lt)
 rw [nm]
 have st2 : (H1.push { cls := .type "list", data := .seq ([] : List Value).toArray }).IsListIter s.heap.objs.size l 0 /\ (H1.push { cls := .type "list", data := .seq ([] : List Value).toArray }).IsList l vs.toArray := ⟨iter.1.at fun o e => ae _ e, iter.2.push _⟩
 have hS : (H1.push { cls := .type "list", data := .seq ([] : List Value).toArray }).get? H1.objs.size = some { cls := .type "list", dict := none, data := .seq #[] 0, slots := #[] } := ay _ rfl
 by_cases h0 : ns = []
 · have v0 : vs = [] := by subst h0; exact bS (by simpa using hlen.symm)
   subst v0
   refine aj ⟨be a6 _, zlx (A := A) W _ sf (s := { s with heap := _ }) st2 hS fun s' m => ?_⟩
   exact hQ d s' (by rw [if_pos h0]) (keep s' m) m.gens m.os
 · have pos : 0 < vs.toArray.size := by rw [ak, ← hlen]; exact bv.mpr h0
   refine aj ⟨be a6 _, zjN (A := A) W _ (kh (fun i => ns.getD i 0) fun i v hv => Jl r hv) _ sf pos (s := { s with heap := _ }) st2 hS fun v s' pv m => ?_⟩
   refine hQ v s' ?_ (keep s' m) m.gens m.os
   rw [if_neg h0, hlen]
   obtain ⟨t, e⟩ := Jl r pv
   exact ⟨t, by rw [e, ak]⟩
end
section
variable {prog : Program} {w : World} {A : Around} {R : Result -> Shared -> Prop} {I : Addr} {fp wr : List Addr} {G : Array GenState -> Array GenState -> Prop} {n : Nat} {P : Nat -> Value -> Prop} {St : Nat -> Shared -> Prop}
theorem zly (W : WalksS prog w A.in1 I fp wr G n P St) (bt : Nat -> Nat -> Bool) (cm : CmpOf prog w A.in1 .Lt P bt) (S : Addr) (sf : S ∉ fp) (kw : List (Str × Value)) :
 ∀ (k j : Nat) (s : Shared) (b : Value) (c : Nat), n - (j + 1) = k -> j + 1 <= n -> St (j + 1) s -> P (bC bt j) b -> s.heap.get? S = some { cls := .type "list", dict := none, data := .seq #[b, b] c, slots := #[] } ->
 (∀ v s', P (bC bt (n - 1)) v -> Moved (S :: wr) G s s' -> R (.ok (.ret v)) s') -> cz (model prog w) A (.builtin "min.loop" ⟨[.ref I, .none, .ref S], kw⟩) R s := by
 have sw : S ∉ wr := fun z => sf (W.sub _ z)
 have up : ∀ b ∈ wr, b ∈ S :: wr := fun b hb => af _ hb
 have nm : (toString "min" ++ toString ".loop" : String) = "min.loop" := by decide
 have ns : ∀ {b : Addr}, b ∉ S :: wr -> S ≠ b := fun hb z => hb (by rw [z]; exact ao)
 intro k
 induction k with
 | zero =>
  intro j s b c hk hj st pb hS hR
  have hn : j + 1 = n := by omega
  refine aZ cT ?_; rw [aO a7 _]; show wpAny _ A.in1 (d8 (.ref S) >>= _) _ _ s
  refine ab (bH hS rfl ?_); show wpAny _ A.in1 (tryCatch (pyNext (.ref I)) _ >>= _) _ _ s
  refine ab (bI (W.done s _ _ (hn ▸ st) fun s1 m1 => ?_))
  have hS1 := m1.heap S _ sw hS
  show wpAny _ A.in1 (iE S (fun _ => #[]) >>= _) _ _ _; refine ab ?_
  refine cW hS1 rfl (ab (df (aj (hR b _ (by rw [← hn]; exact pb) ((m1.mono up).then_heap (tk := s1.toks) (ax _) fun d o hd e => (aK _ _ (ns hd)).trans e)))))
 | succ k ih =>
  intro j s b c hk hj st pb hS hR
  have lt : j + 1 < n := by omega
  refine aZ cT ?_; rw [aO a7 _]; show wpAny _ A.in1 (d8 (.ref S) >>= _) _ _ s
  refine ab (bH hS rfl ?_); show wpAny _ A.in1 (tryCatch (pyNext (.ref I)) _ >>= _) _ _ s
  refine ab (bI (W.item (j + 1) s _ _ lt st fun v s1 pv st1 m1 => ?_))
  have hS1 := m1.heap S _ sw hS
  show wpAny _ A.in1 (tryCatch (cH [v, v] (richCompare .Lt v b >>= _)) _ >>= _) _ _ _
  refine ab (bI (bA (ab (cm (j + 1) (bC bt j) v b _ _ _ pv pb (ab (bA (aX (ab (df (aj ?_))))))))))
  cases hb : bt (j + 1) (bC bt j) with
  | true =>
   rw [if_pos rfl]
   refine ab ?_; refine cW hS1 rfl (ab (df ?_)); rw [nm]
   refine aj ⟨be a7 _, ih (j + 1) _ v _ (by omega) lt (W.frame _ s1 _ s1.toks st1 (ax _) fun d hd o e => (aK _ _ (fun z : S = d => sf (by rw [z]; exact hd))).trans e) (by rw [bC, hb, if_pos rfl]; exact pv) (cy _ hS1 rfl) fun v' s2 p2 m2 => ?_⟩
   exact hR v' s2 p2 (ez W.gtrans ((m1.mono up).then_heap (by first | exact ax _ | exact cL _ | omega) fun d o hd e => (aK _ _ (ns hd)).trans e) m2)
  | false =>
   rw [if_neg ah]
   refine ab (df ?_); rw [nm]
   exact aj ⟨be a7 _, ih (j + 1) _ b c (by omega) lt st1 (by rw [bC, hb, if_neg ah]; exact pb) hS1 fun v' s2 p2 m2 => hR v' s2 p2 (ez W.gtrans (m1.mono up) m2)⟩
theorem zjR (W : WalksS prog w A.in1 I fp wr G n P St) (bt : Nat -> Nat -> Bool) (cm : CmpOf prog w A.in1 .Lt P bt) (S : Addr) (sf : S ∉ fp) (hn : 0 < n) {s : Shared} (st : St 0 s) (hS : s.heap.get? S = some { cls := .type "list", dict := none, data := .seq #[] c, slots := #[] })
 (hR : ∀ v s', P (bC bt (n - 1)) v -> Moved (S :: wr) G s s' -> R (.ok (.ret v)) s') : cz (model prog w) A (.builtin "min.loop" ⟨[.ref I, .none, .ref S], kw⟩) R s := by
 have sw : S ∉ wr := fun z => sf (W.sub _ z)
 have up : ∀ b ∈ wr, b ∈ S :: wr := fun b hb => af _ hb
 have nm : (toString "min" ++ toString ".loop" : String) = "min.loop" := by decide
 have ns : ∀ {b : Addr}, b ∉ S :: wr -> S ≠ b := fun hb z => hb (by rw [z]; exact ao)
 refine aZ cT ?_; rw [aO a7 _]; show wpAny _ A.in1 (d8 (.ref S) >>= _) _ _ s
 refine ab (bH hS rfl ?_); show wpAny _ A.in1 (tryCatch (pyNext (.ref I)) _ >>= _) _ _ s
 refine ab (bI (W.item 0 s _ _ hn st fun v s1 pv st1 m1 => ?_))
 have hS1 := m1.heap S _ sw hS
 show wpAny _ A.in1 (iE S (fun _ => #[v, v]) >>= _) _ _ _; refine ab ?_
 refine cW hS1 rfl ?_; rw [nm]
 refine aj ⟨be a7 _, zly W bt cm S sf kw _ 0 _ v _ rfl hn (W.frame _ s1 _ s1.toks st1 (ax _) fun d hd o e => (aK _ _ (fun z : S = d => sf (by rw [z]; exact hd))).trans e) pv (cy _ hS1 rfl) fun v' s2 p2 m2 => ?_⟩
 exact hR v' s2 p2 (ez W.gtrans ((m1.mono up).then_heap (by first | exact ax _ | exact cL _ | omega) fun d o hd e => (aK _ _ (ns hd)).trans e) m2)
theorem zlz (W : WalksS prog w A.in1 I fp wr G 0 P St) (S : Addr) (sf : S ∉ fp) {s : Shared} (st : St 0 s) (hS : s.heap.get? S = some { cls := .type "list", dict := none, data := .seq #[] c, slots := #[] })
 (hR : ∀ s', Moved (S :: wr) G s s' -> R (.ok (.ret d)) s') : cz (model prog w) A (.builtin "min.loop" ⟨[.ref I, .none, .ref S], (x, d) :: kw⟩) R s := by
 have sw : S ∉ wr := fun z => sf (W.sub _ z)
 have up : ∀ b ∈ wr, b ∈ S :: wr := fun b hb => af _ hb
 refine aZ cT ?_; rw [aO a7 _]; show wpAny _ A.in1 (d8 (.ref S) >>= _) _ _ s
 refine ab (bH hS rfl ?_); show wpAny _ A.in1 (tryCatch (pyNext (.ref I)) _ >>= _) _ _ s
 refine ab (bI (W.done s _ _ st fun s1 m1 => ?_))
 exact ab (fN (aj (hR s1 (m1.mono up))))
end
theorem zjS (a d : Value) : argsOk "min" ⟨[a], [("default", d)]⟩ := by
 unfold argsOk; kernel_rfl
section
variable {prog : Program} {w : World} {A : Around} {E : Value -> Shared -> Prop} {s : Shared}
theorem zjT {Q : Value -> Shared -> Prop} (hb : il table "min" = some b) (ha : argsOk "min" ⟨args, kw⟩)
 (hc : wpAny (model prog w) A.in1 (b ⟨args, kw⟩) (fun fin s' => match fin with
  | .done f => (match (Except.ok f : Result) with | .ok (.ret v) => Q v s' | .ok _ => False | .error e => E e s')
  | .again c' => c'.quiet = true /\ cz (model prog w) A c' (fun r s' => match r with | .ok (.ret v) => Q v s' | .ok _ => False | .error e => E e s') s') E s) : wpAny (model prog w) A (call (.builtin "min") args kw) Q E s := by
 refine fM (eC PySem.F.plain_min hb ?_); simp only [fB, PySem.F.kind_min]
 cases q : gH "min" with
 | none => exact aj hc
 | some sg =>
  have z : iP "min" sg ⟨args, kw⟩ = pure () := by simpa only [argsOk, q] using ha
  simp only [z]
  exact aj hc
theorem zjU {l : Addr} {vs : List Value} {ns : List Int} {d : Value} {Q : Value -> Shared -> Prop} (hh : A.handled = none) (hl : s.heap.IsList l vs.toArray) (r : Vals (ns.map V.int) vs)
 (hQ : ∀ v s', (if ns = [] then v = d else ∃ t, v = .int (ns.getD (bC (fun i j => decide (ns.getD i 0 < ns.getD j 0)) (ns.length - 1)) 0) t) -> (∀ b o, s.heap.get? b = some o -> s'.heap.get? b = some o) -> s'.gens = s.gens -> s'.os = s.os -> Q v s') :
 wpAny (model prog w) A (call (.builtin "min") [.ref l] [("default", d)]) Q E s := by
 have nm : (toString "min" ++ toString ".loop" : String) = "min.loop" := by decide
 have hlen := r.length
 rw [ap] at hlen
 have llt : l < s.heap.objs.size := by obtain ⟨o, e, _⟩ := id hl; exact aw e
 refine zjT PySem.F.entry_min (zjS _ _) ?_
 show wpAny _ A.in1 (cj "min" ["key", "default"] 0 ⟨[], [("default", d)]⟩ >>= _) _ _ s
 refine ab (gx (show cj "min" ["key", "default"] 0 ⟨[], [("default", d)]⟩ = pure [none, some d] from by kernel_rfl) ?_)
 refine ab (aj ?_)
 refine ab (bJ hl ?_)
 have W := (dX (prog := prog) (w := w) (A := A.in1) (by simpa using hh) s.heap.objs.size l (az llt) vs.toArray).toS
 have iter : (s.heap.push { cls := .type "list_iterator", data := .fields #[Value.ref l, Value.int 0 0] }).IsListIter s.heap.objs.size l 0 /\ (s.heap.push { cls := .type "list_iterator", data := .fields #[Value.ref l, Value.int 0 0] }).IsList l vs.toArray := ⟨⟨_, ay _ rfl, rfl, rfl⟩, hl.push _⟩
 have sz : (s.heap.push { cls := .type "list_iterator", data := .fields #[Value.ref l, Value.int 0 0] }).objs.size = s.heap.objs.size + 1 := bj ..
 refine ab (bW ?_)
 generalize hH : (s.heap.push { cls := .type "list_iterator", data := .fields #[Value.ref l, Value.int 0 0] }) = H1 at iter sz
 have sf : H1.objs.size ∉ [s.heap.objs.size, l] := fun z => by
  rw [sz] at z
  have z : s.heap.objs.size + 1 = s.heap.objs.size \/ s.heap.objs.size + 1 = l := by simpa only [aB, bO, or_false] using z
  rcases z with z | z
  · exact absurd z (iz _)
  · exact absurd z.symm (az (a5 llt))
 have keep : ∀ (s' : Shared), Moved (H1.objs.size :: [s.heap.objs.size]) (fun a b => b = a) { s with heap := H1.push { cls := .type "list", data := .seq ([] : List Value).toArray } } s' -> ∀ b o, s.heap.get? b = some o -> s'.heap.get? b = some o := fun s' m b o e => by
  have lt := aw e
  refine m.heap b o (fun z => ?_) (ae _ (hH ▸ ae _ e))
  rw [sz] at z
  simp at z
  rcases z with z | z
  · exact absurd z (az (a5 lt))
  · exact absurd z (az lt)
 rw [nm]
 have st2 : (H1.push { cls := .type "list", data := .seq ([] : List Value).toArray }).IsListIter s.heap.objs.size l 0 /\ (H1.push { cls := .type "list", data := .seq ([] : List Value).toArray }).IsList l vs.toArray := ⟨iter.1.at fun o e => ae _ e, iter.2.push _⟩
 have hS : (H1.push { cls := .type "list", data := .seq ([] : List Value).toArray }).get? H1.objs.size = some { cls := .type "list", dict := none, data := .seq #[] 0, slots := #[] } := ay _ rfl
 by_cases h0 : ns = []
 · have v0 : vs = [] := by subst h0; exact bS (by simpa using hlen.symm)
   subst v0
   refine aj ⟨be a7 _, zlz (A := A) W _ sf (s := { s with heap := _ }) st2 hS fun s' m => ?_⟩
   exact hQ d s' (by rw [if_pos h0]) (keep s' m) m.gens m.os
 · have pos : 0 < vs.toArray.size := by rw [ak, ← hlen]; exact bv.mpr h0
   refine aj ⟨be a7 _, zjR (A := A) W _ (ki (fun i => ns.getD i 0) fun i v hv => Jl r hv) _ sf pos (s := { s with heap := _ }) st2 hS fun v s' pv m => ?_⟩
   refine hQ v s' ?_ (keep s' m) m.gens m.os
   rw [if_neg h0, hlen]
   obtain ⟨t, e⟩ := Jl r pv
   exact ⟨t, by rw [e, ak]⟩
end
section
variable {X : Cx} {pins : List (Addr × Obj)} {σ : St} {H : Hp} {s : Shared} {h' : Heap}
end
def Jw : List Int -> Int
 | [] => 0
 | x :: xs => xs.foldl (fun a b => if b > a then b else a) x
theorem zc4 (ns : List Int) : ∀ k, k < ns.length -> ns.getD (bC (fun i j => decide (ns.getD i 0 > ns.getD j 0)) k) 0 = Jw (ns.take (k + 1))
 | 0, h => by cases ns with | nil => simp at h | cons x xs => rfl
 | k + 1, h => by
  have ih := zc4 ns k (by omega)
  have hne : ns.take (k + 1) ≠ [] := fun z => by have := congrArg bR z; rw [bu, bB] at this; omega
  have e : ns.take (k + 1 + 1) = ns.take (k + 1) ++ [ns.getD (k + 1) 0] := by
   rw [iQ, ac h]; simp [aC, ac h]
  have f : ∀ (l : List Int) (y : Int), l ≠ [] -> Jw (l ++ [y]) = if y > Jw l then y else Jw l := fun l y hl => by
   cases l with
   | nil => exact absurd rfl hl
   | cons a r => show (r ++ [y]).foldl _ a = _; rw [ia]; rfl
  rw [e, f _ _ hne, ← ih]
  show ns.getD (if decide (ns.getD (k + 1) 0 > ns.getD (bC _ k) 0) = true then k + 1 else bC _ k) 0 = _
  by_cases c : ns.getD (k + 1) 0 > ns.getD (bC (fun i j => decide (ns.getD i 0 > ns.getD j 0)) k) 0
  · rw [if_pos (decide_eq_true c), if_pos c]
  · rw [if_neg (by rw [decide_eq_false c]; exact ah), if_neg c]
theorem ze6 {ns : List Int} (h : ns ≠ []) : ns.getD (bC (fun i j => decide (ns.getD i 0 > ns.getD j 0)) (ns.length - 1)) 0 = Jw ns := by
 have hl := bv.mpr h
 rw [zc4 ns _ (by omega), show ns.length - 1 + 1 = ns.length by omega, d6]
section
variable {X : Cx}
theorem zjV (hc : X.calm = true) : jB X (.builtin "max") (fun vs H Q => ∃ (a : Addr) (ns : List Int), vs = [.ref a] /\ y8 X.K H a (ns.map V.int) /\ ns ≠ [] /\ Q (.int (Jw ns)) H) := by
 intro pins s σ H vs us Q I rv h
 obtain ⟨a, ns, rfl, hq, h0, q⟩ := h
 obtain ⟨u, rfl, ru⟩ := rv.one
 cases ru
 obtain ⟨its, r, pl, hz⟩ := I.list hq
 have hl := r.length
 rw [ap] at hl
 have hlt : a < s.heap.objs.size := by obtain ⟨o, n, e, _⟩ := pl; exact aw e
 refine call_max_walkS (bJ pl.isList ⟨_, _, _, _, _, _, _, _, rfl, (dX (by simpa using I.ok.hd hc) s.heap.objs.size a (az hlt) its.toArray).toS, ⟨⟨_, ay _ rfl, rfl, rfl⟩, pl.isList.push _⟩, ?_, ?_, kh (fun i => ns.getD i 0) fun i v hv => Jl r hv, fun v s' pv hm => ?_⟩)
 · intro b hb
   show b < (s.heap.push _).objs.size; rw [bj]; simp at hb
   rcases hb with rfl | rfl
   · exact bM _
   · exact a5 hlt
 · rw [ak, ← hl]; exact bv.mpr h0
 · obtain ⟨t, e⟩ := Jl r pv
   rw [ak, ← hl, ze6 h0] at e
   have I1 : Inv X pins σ H { s with heap := s'.heap, toks := s'.toks } := I.kept fun b o e => hm.heap b o (by simp only [cQ]; exact az (aw e)) (ae _ e)
   exact ⟨.int (Jw ns), H, I1.like rfl hm.os hm.gens, ⟨_, e⟩, q⟩
def zqU (K : ai) (ta td : TE) : TE := fun σ H Q => ta σ H fun x H1 => td σ H1 fun d H2 => ∃ (a : Addr) (ns : List Int), x = .ref a /\ y8 K H2 a (ns.map V.int) /\ Q (if ns = [] then d else .int (Jw ns)) H2
theorem znW (hc : X.calm = true) (hg : Gl X "max") (hm : X.mg "max" = none) (ha : PE X e ta) (hd : PE X de td) (hs : am [e] X.env = [(false, eval e X.env)] := by rfl) :
 PE X (.Call (.Name "max" p) [e] [⟨some "default", de, kp⟩] pos) (zqU X.K ta td) := by
 intro pins s σ H Q I h
 refine cw (Yt (u := .builtin "max") I hg hm (by kernel_rfl) ?_)
 refine fo (zP (yK ha jt hs pos pins s σ H (fun vs H1 => match vs with | [x] => td σ H1 fun d H2 => ∃ (a : Addr) (ns : List Int), x = .ref a /\ y8 X.K H2 a (ns.map V.int) /\ Q (if ns = [] then d else .int (Jw ns)) H2 | _ => False) I h) fun us s1 ⟨vs, H1, I1, r1, q1⟩ => ?_) (by rw [hs]; rfl) (by rw [hs]; rfl)
 match vs, q1 with
 | [x], q1 =>
  refine fZ (zP (hd pins s1 σ H1 _ I1 q1) fun ud s2 ⟨d, H2, I2, rd, a, ns, ex, hq, q2⟩ => gq ?_)
  subst ex
  obtain ⟨u, rfl, ru⟩ := r1.one
  cases ru
  obtain ⟨its, r, pl, hz⟩ := I2.list hq
  refine zjQ (I2.ok.hd hc) pl.isList r fun v s' hv hk hg' ho => ?_
  have I3 : Inv X pins σ H2 { s2 with heap := s'.heap, toks := s'.toks } := I2.kept hk
  refine ⟨_, H2, I3.like rfl ho hg', ?_, q2⟩
  by_cases h0 : ns = []
  · rw [if_pos h0] at hv ⊢; rw [hv]; exact rd
  · rw [if_neg h0] at hv ⊢
    rw [ze6 h0] at hv
    exact hv
end
def Jb : List Int -> Int
 | [] => 0
 | x :: xs => xs.foldl (fun a b => if b < a then b else a) x
theorem zc5 (ns : List Int) : ∀ k, k < ns.length -> ns.getD (bC (fun i j => decide (ns.getD i 0 < ns.getD j 0)) k) 0 = Jb (ns.take (k + 1))
 | 0, h => by cases ns with | nil => simp at h | cons x xs => rfl
 | k + 1, h => by
  have ih := zc5 ns k (by omega)
  have hne : ns.take (k + 1) ≠ [] := fun z => by have := congrArg bR z; rw [bu, bB] at this; omega
  have e : ns.take (k + 1 + 1) = ns.take (k + 1) ++ [ns.getD (k + 1) 0] := by
   rw [iQ, ac h]; simp [aC, ac h]
  have f : ∀ (l : List Int) (y : Int), l ≠ [] -> Jb (l ++ [y]) = if y < Jb l then y else Jb l := fun l y hl => by
   cases l with
   | nil => exact absurd rfl hl
   | cons a r => show (r ++ [y]).foldl _ a = _; rw [ia]; rfl
  rw [e, f _ _ hne, ← ih]
  show ns.getD (if decide (ns.getD (k + 1) 0 < ns.getD (bC _ k) 0) = true then k + 1 else bC _ k) 0 = _
  by_cases c : ns.getD (k + 1) 0 < ns.getD (bC (fun i j => decide (ns.getD i 0 < ns.getD j 0)) k) 0
  · rw [if_pos (decide_eq_true c), if_pos c]
  · rw [if_neg (by rw [decide_eq_false c]; exact ah), if_neg c]
theorem ze7 {ns : List Int} (h : ns ≠ []) : ns.getD (bC (fun i j => decide (ns.getD i 0 < ns.getD j 0)) (ns.length - 1)) 0 = Jb ns := by
 have hl := bv.mpr h
 rw [zc5 ns _ (by omega), show ns.length - 1 + 1 = ns.length by omega, d6]
section
variable {X : Cx}
theorem zjW (hc : X.calm = true) : jB X (.builtin "min") (fun vs H Q => ∃ (a : Addr) (ns : List Int), vs = [.ref a] /\ y8 X.K H a (ns.map V.int) /\ ns ≠ [] /\ Q (.int (Jb ns)) H) := by
 intro pins s σ H vs us Q I rv h
 obtain ⟨a, ns, rfl, hq, h0, q⟩ := h
 obtain ⟨u, rfl, ru⟩ := rv.one
 cases ru
 obtain ⟨its, r, pl, hz⟩ := I.list hq
 have hl := r.length
 rw [ap] at hl
 have hlt : a < s.heap.objs.size := by obtain ⟨o, n, e, _⟩ := pl; exact aw e
 refine call_min_walkS (bJ pl.isList ⟨_, _, _, _, _, _, _, _, rfl, (dX (by simpa using I.ok.hd hc) s.heap.objs.size a (az hlt) its.toArray).toS, ⟨⟨_, ay _ rfl, rfl, rfl⟩, pl.isList.push _⟩, ?_, ?_, ki (fun i => ns.getD i 0) fun i v hv => Jl r hv, fun v s' pv hm => ?_⟩)
 · intro b hb
   show b < (s.heap.push _).objs.size; rw [bj]; simp at hb
   rcases hb with rfl | rfl
   · exact bM _
   · exact a5 hlt
 · rw [ak, ← hl]; exact bv.mpr h0
 · obtain ⟨t, e⟩ := Jl r pv
   rw [ak, ← hl, ze7 h0] at e
   have I1 : Inv X pins σ H { s with heap := s'.heap, toks := s'.toks } := I.kept fun b o e => hm.heap b o (by simp only [cQ]; exact az (aw e)) (ae _ e)
   exact ⟨.int (Jb ns), H, I1.like rfl hm.os hm.gens, ⟨_, e⟩, q⟩
def zqV (K : ai) (ta td : TE) : TE := fun σ H Q => ta σ H fun x H1 => td σ H1 fun d H2 => ∃ (a : Addr) (ns : List Int), x = .ref a /\ y8 K H2 a (ns.map V.int) /\ Q (if ns = [] then d else .int (Jb ns)) H2
theorem znX (hc : X.calm = true) (hg : Gl X "min") (hm : X.mg "min" = none) (ha : PE X e ta) (hd : PE X de td) (hs : am [e] X.env = [(false, eval e X.env)] := by rfl) :
 PE X (.Call (.Name "min" p) [e] [⟨some "default", de, kp⟩] pos) (zqV X.K ta td) := by
 intro pins s σ H Q I h
 refine cw (Yt (u := .builtin "min") I hg hm (by kernel_rfl) ?_)
 refine fo (zP (yK ha jt hs pos pins s σ H (fun vs H1 => match vs with | [x] => td σ H1 fun d H2 => ∃ (a : Addr) (ns : List Int), x = .ref a /\ y8 X.K H2 a (ns.map V.int) /\ Q (if ns = [] then d else .int (Jb ns)) H2 | _ => False) I h) fun us s1 ⟨vs, H1, I1, r1, q1⟩ => ?_) (by rw [hs]; rfl) (by rw [hs]; rfl)
 match vs, q1 with
 | [x], q1 =>
  refine fZ (zP (hd pins s1 σ H1 _ I1 q1) fun ud s2 ⟨d, H2, I2, rd, a, ns, ex, hq, q2⟩ => gq ?_)
  subst ex
  obtain ⟨u, rfl, ru⟩ := r1.one
  cases ru
  obtain ⟨its, r, pl, hz⟩ := I2.list hq
  refine zjU (I2.ok.hd hc) pl.isList r fun v s' hv hk hg' ho => ?_
  have I3 : Inv X pins σ H2 { s2 with heap := s'.heap, toks := s'.toks } := I2.kept hk
  refine ⟨_, H2, I3.like rfl ho hg', ?_, q2⟩
  by_cases h0 : ns = []
  · rw [if_pos h0] at hv ⊢; rw [hv]; exact rd
  · rw [if_neg h0] at hv ⊢
    rw [ze7 h0] at hv
    exact hv
end
section
variable {X : Cx} {pins : List (Addr × Obj)} {σ : St} {H : Hp} {s : Shared}
theorem zp6 (I : Inv X pins σ H s) (rx : RelV x u) (ty : Ya X.K H x t) : ∃ J : Heap -> Prop, PySem.W.KitX X.K u t J /\ J s.heap /\ ∀ id, u ≠ .builtin id := by
 cases ty with
 | @dict a e =>
  cases (show u = Value.ref a from rx)
  obtain ⟨⟨o, ho, hc⟩, _, _⟩ := (show ObjOk X.prog X.w H s.heap a (zhy a) from I.hok a _ e)
  exact ⟨_, cD, ⟨o, ho, hc⟩, fun _ z => nomatch z⟩
 | of ty =>
  cases ty with
  | non => cases (show u = Value.none from rx); exact ⟨_, hW, True.intro, fun _ z => nomatch z⟩
  | bl y => cases (show u = Value.bool y from rx); exact ⟨_, hZ, True.intro, fun _ z => nomatch z⟩
  | int i => obtain ⟨t, q⟩ := (show ∃ t, u = Value.int i t from rx); cases q; exact ⟨_, ip, True.intro, fun _ z => nomatch z⟩
  | str y => obtain ⟨t, q⟩ := (show ∃ t, u = Value.str y t from rx); cases q; exact ⟨_, iq, True.intro, fun _ z => nomatch z⟩
  | flt y => obtain ⟨t, q⟩ := (show ∃ t, u = Value.float y t from rx); cases q; exact ⟨_, gY, True.intro, fun _ z => nomatch z⟩
  | @lst a xs ea =>
   cases (show u = Value.ref a from rx)
   obtain ⟨_, _, n, _, h1⟩ := (show ObjOk X.prog X.w H s.heap a (.lst xs) from I.hok a _ ea); exact ⟨_, dM, ⟨_, h1, rfl⟩, fun _ z => nomatch z⟩
  | @frz a ob xs ea =>
   cases (show u = Value.ref a from rx)
   obtain ⟨_, _, _, n, _, h1⟩ := (show ObjOk X.prog X.w H s.heap a (.frz ob (.lst xs)) from I.hok a _ ea); exact ⟨_, dM, ⟨_, h1, rfl⟩, fun _ z => nomatch z⟩
  | @tup a xs ea =>
   cases (show u = Value.ref a from rx)
   obtain ⟨_, _, _, p⟩ := (show ObjOk X.prog X.w H s.heap a (.tup xs) from I.hok a _ ea); obtain ⟨o, h1, h2, _⟩ := p; exact ⟨_, gZ, ⟨o, h1, h2⟩, fun _ z => nomatch z⟩
  | @dK a kvs ea =>
   cases (show u = Value.ref a from rx)
   obtain ⟨_, _, vs, _, p⟩ := (show ObjOk X.prog X.w H s.heap a (.dK kvs) from I.hok a _ ea); obtain ⟨o, es, ep, h1, h2, _⟩ := p; exact ⟨_, cD, ⟨o, h1, h2.1⟩, fun _ z => nomatch z⟩
  | @dT a kvs ea =>
   cases (show u = Value.ref a from rx)
   obtain ⟨_, _, xs, _, o, es, ep, h1, h2, _⟩ := (show ObjOk X.prog X.w H s.heap a (.dT kvs) from I.hok a _ ea); exact ⟨_, cD, ⟨o, h1, h2.1⟩, fun _ z => nomatch z⟩
  | @ins a C dx fs ea cl ha hn htk hm =>
   cases (show u = Value.ref a from rx)
   obtain ⟨mA, O, _⟩ := Uz I.hok ea; obtain ⟨od, J, _⟩ := O.look
   exact ⟨_, ir (cl.get _) cl.hd ha hn htk hm, J, fun _ z => nomatch z⟩
theorem ze8 : jB X (.builtin "isinstance") (fun xs H Q => ∃ x t tp, ∃ (ds : List Addr) (b : Bool), xs = [x, .ref tp] /\ Ya X.K H x t /\ H tp = some (.tup (ds.map V.ref)) /\ aU X.K t (ds.map Value.ref) = some b /\ Q (.bl b) H) := by
 intro pins s σ H xs us Q I rv h
 obtain ⟨x, t, tp, ds, b, rfl, c, ht, hk, q⟩ := h
 obtain ⟨u, u', rfl, ru, ru'⟩ := rv.two
 cases ru'
 obtain ⟨J, kj, hj, hne⟩ := zp6 I ru c
 obtain ⟨_, its, r, p⟩ := I.hok tp _ ht
 have e : its = ds.map Value.ref := zcL r
 subst e
 obtain ⟨⟨oc, od, odt, osl⟩, p1, p2, n, p3⟩ := p
 dsimp only at p2 p3
 subst p2 p3
 exact PySem.W.kia_tup kj I.kIn hj p1 hk (hne _) fun tk => ⟨.bl b, H, I.tok tk, rfl, q⟩
end
end L2
namespace M
open PySem L2
structure Wi (K : ai) (C : Addr) : Prop where
 cl : Cls K C
 ha : aJ K (.ref C) "__class__" = some (some (.builtin "object.__class__"))
 hn : fc K (.builtin "object.__class__") "__get__" = some (some (.builtin "getset_descriptor.__get__"))
 htk : fP K (.builtin "object.__class__") = some true
 hm : cE K C (.type "object") = some true
def zaT : List String := ["NoneType", "bool", "int", "str", "list", "tuple", "dict"]
structure IsO (K : ai) (cls : Nat -> Option Addr) (ds : List Addr) (tb : Nat -> Option Bool) : Prop where
 own : ∀ c C b, cls c = some C -> tb c = some b -> Wi K C /\ aU K (.ref C) (ds.map Value.ref) = some b
 flat : ∀ a ∈ zaT, aU K (.type a) (ds.map Value.ref) = some false
def zlA (tb : Nat -> Option Bool) : D -> Option D
 | .obj c _ => (tb c).map D.bl
 | d => if (Qt d).isSome then some (.bl false) else none
def zlB (tb : Nat -> Option Bool) : F1 := fun x q => jq q (zlA tb x)
instance {tb : Nat -> Option Bool} : Zi (zlB tb) (zlA tb) := ⟨fun x q h => h⟩
theorem zqW (h : Qt d = some a) : a ∈ zaT := by
 cases d <;> first | (cases h; decide) | cases h
theorem zp7 {cls : Nat -> Option Addr} {E : Addr -> Prop} {tb : Nat -> Option Bool} {g : Value -> Option Bool} (r : jV ⟨K, cls⟩ E H v d) (h1 : ∀ c C b, cls c = some C -> tb c = some b -> Wi K C /\ g (.ref C) = some b) (h2 : ∀ a ∈ zaT, g (.type a) = some false) {q : D -> Prop} (h : zlB tb d q) :
 ∃ t b, Ya K H v t /\ g t = some b /\ q (.bl b) := by
 have flat : ∀ {e : D}, jV ⟨K, cls⟩ E H v e -> jq q (if (Qt e).isSome = true then some (.bl false) else none) -> ∃ t b, Ya K H v t /\ g t = some b /\ q (.bl b) := fun {e} r h => by
  cases k : Qt e with
  | none => rw [k] at h; exact aa h
  | some a => rw [k] at h; exact ⟨_, false, zgr r k, h2 a (zqW k), h⟩
 cases d with
 | obj c fs =>
  obtain ⟨a, C, dx, gs, rfl, hc, hH, _⟩ := r
  have h : jq q ((tb c).map D.bl) := h
  cases e : tb c with
  | none => rw [e] at h; exact aa h
  | some b =>
   rw [e] at h
   obtain ⟨o, k⟩ := h1 c C b hc e
   exact ⟨_, b, .of (.ins hH o.cl o.ha o.hn o.htk o.hm), k, h⟩
 | _ => exact flat r h
section
variable {X : Cx} {cls : Nat -> Option Addr} {pn : List Nat} {a e : Expr} {es : List Expr} {pos p pc tp : Pos} {x : Str} {ma : MO}
theorem znY {ds : List Addr} {tb : Nat -> Option Bool} (hg : Gl X "isinstance") (hm : X.mg "isinstance" = none) (ha : PA X cs (zdS ds)) (hlen : ds.length <= 1000) (ht : IsO X.K cls ds tb) (ho : DO X cls pn a ma)
 (hs : am [a, .Tuple cs ctx tp] X.env = (false, eval a X.env) :: am [.Tuple cs ctx tp] X.env := by kernel_rfl) (hs2 : am [.Tuple cs ctx tp] X.env = [(false, eval (.Tuple cs ctx tp) X.env)] := by kernel_rfl) (hp : (backTo pos (am [.Tuple cs ctx tp] X.env)).any (·.1) = false := by kernel_rfl) :
 DE X cls pn (.Call (.Name "isinstance" p) [a, .Tuple cs ctx tp] [] pos) (J4 (zlB tb) ma) := by
 obtain ⟨ta, pa, ja⟩ := ho.h
 refine ⟨_, Za ze8 hg hm (by kernel_rfl) (yK pa (yK (zi2 ha) jt hs2) hs) (by decide) (by decide) hs hp, fun S σ ρ H τ Q q hpn R hm' hq => ja S σ ρ H τ _ _ hpn R hm' fun v r1 H1 ρ1 τ1 R1 o1 q1 => ?_⟩
 refine ⟨by rw [ap]; exact cM (zjb hlen), fun b hb => ?_⟩
 have g := U0 hb (.tup (ds.map V.ref))
 have R2 := R1.grow g
 obtain ⟨dx, rx, q1⟩ := R2.read o1 q1
 obtain ⟨t, bb, h1, h2, h3⟩ := zp7 (g := fun t => aU X.K t (ds.map Value.ref)) rx ht.own ht.flat q1
 exact ⟨v, t, b, ds, bb, rfl, h1, jD, h2, hq _ _ _ ρ1 R2.cut (.bl bb) h3⟩
end
def jX : List D -> Option (List Int)
 | [] => some []
 | .int i :: r => (jX r).map (i :: ·)
 | _ :: _ => none
def ZB : List D -> Option (List Str)
 | [] => some []
 | .str i :: r => (ZB r).map (i :: ·)
 | _ :: _ => none
section
variable {Γ : Cn} {E : Addr -> Prop} {H : Hp}
theorem ze9 : ∀ {ds : List D} {ns : List Int}, jX ds = some ns -> ds = ns.map D.int
 | [], _, h => by cases h; rfl
 | d :: r, ns, h => by
  cases d with
  | int i =>
   unfold jX at h
   cases e : jX r with
   | none => rw [e] at h; cases h
   | some ms => rw [e] at h; cases h; rw [ze9 e]; rfl
  | _ => cases h
theorem ze_ : ∀ {ds : List D} {ns : List Str}, ZB ds = some ns -> ds = ns.map D.str
 | [], _, h => by cases h; rfl
 | d :: r, ns, h => by
  cases d with
  | str i =>
   unfold ZB at h
   cases e : ZB r with
   | none => rw [e] at h; cases h
   | some ms => rw [e] at h; cases h; rw [ze_ e]; rfl
  | _ => cases h
theorem ZO (ns : List Int) : jX (ns.map D.int) = some ns := by
 induction ns with
 | nil => rfl
 | cons i r ih => show (jX (r.map D.int)).map _ = _; rw [ih]; rfl
theorem ZP (ns : List Str) : ZB (ns.map D.str) = some ns := by
 induction ns with
 | nil => rfl
 | cons i r ih => show (ZB (r.map D.str)).map _ = _; rw [ih]; rfl
theorem zfa {α : Type} {f : α -> D} {g : α -> V} (hf : ∀ a, JL (f a) = true) (hg : ∀ a, vD (f a) = g a) {ns : List α} (r : Reps Γ E H xs (ns.map f)) : xs = ns.map g := by
 refine fg fun i => ?_
 have hl := r.1
 rw [ap] at hl
 cases e : ns[i]? with
 | none => rw [ar, e, bz (by rw [hl]; exact List.getElem?_eq_none_iff.mp e)]; rfl
 | some n =>
  obtain ⟨v, h1, h2⟩ := r.get (i := i) (d := f n) (by rw [ar, e]; rfl)
  rw [h1, ar, e, h2.flat (hf n), hg]; rfl
theorem zfb {ns : List Int} (r : Reps Γ E H xs (ns.map D.int)) : xs = ns.map V.int := zfa (fun _ => rfl) (fun _ => rfl) r
theorem zfc {ns : List Str} (r : Reps Γ E H xs (ns.map D.str)) : xs = ns.map V.str := zfa (fun _ => rfl) (fun _ => rfl) r
theorem zjX (ns : List Str) : Reps Γ E H (ns.map V.str) (ns.map D.str) := ⟨by simp, fun i v d h1 h2 => by
 rw [ar] at h1 h2
 cases e : ns[i]? with
 | none => rw [e] at h1; cases h1
 | some x => rw [e] at h1 h2; cases h1; cases h2; exact .str x⟩
theorem zfd (r : jV Γ E H v (.lst ds)) : ∃ a xs, v = .ref a /\ H a = some (.lst xs) /\ Reps Γ E H xs ds := r
def Jx : D -> Option (List D) | .lst ds => some ds | _ => none
theorem ZQ {ns : List Int} (r : jV Γ E H v d) (h : (Jx d).bind jX = some ns) : ∃ a, v = .ref a /\ y8 Γ.K H a (ns.map V.int) := by
 cases d with
 | lst ds =>
  obtain ⟨a, xs, rfl, hH, rs⟩ := zfd r
  rw [ze9 (ds := ds) h] at rs
  exact ⟨a, rfl, .inl (.inl (by rw [hH, zfb rs]))⟩
 | _ => cases h
theorem Wj {ns : List Str} (r : jV Γ E H v d) (h : (Jx d).bind ZB = some ns) : ∃ a, v = .ref a /\ y8 Γ.K H a (ns.map V.str) := by
 cases d with
 | lst ds =>
  obtain ⟨a, xs, rfl, hH, rs⟩ := zfd r
  rw [ze_ (ds := ds) h] at rs
  exact ⟨a, rfl, .inl (.inl (by rw [hH, zfc rs]))⟩
 | _ => cases h
end
def Rq (g : List Int -> Option D) (x : D) : Option D := ((Jx x).bind jX).bind g
def fIs (g : List Int -> Option D) : F1 := fun x q => jq q (Rq g x)
instance {g : List Int -> Option D} : Zi (fIs g) (Rq g) := ⟨fun x q h => h⟩
theorem zfe {g : List Int -> Option D} {q : D -> Prop} (h : jq q (Rq g x)) : ∃ ns d, (Jx x).bind jX = some ns /\ g ns = some d /\ q d := by
 unfold Rq at h
 cases e : (Jx x).bind jX with
 | none => rw [e] at h; exact aa h
 | some ns =>
  rw [e] at h
  have h : jq q (g ns) := h
  cases e2 : g ns with
  | none => rw [e2] at h; exact aa h
  | some d => rw [e2] at h; exact ⟨ns, d, rfl, e2, h⟩
def zmR (ns : List Int) : Option D := some (.int ns.sum)
def zaU (ns : List Int) : Option D := if ns = [] then none else some (.int (Jw ns))
def zaV (ns : List Int) : Option D := if ns = [] then none else some (.int (Jb ns))
def zlC := fIs zmR
def zib := fIs zaU
def zic := fIs zaV
def YD := Rq zmR
def WS := Rq zaU
def WT := Rq zaV
instance : Zi zlC YD := ⟨fun x q h => h⟩
instance : Zi zib WS := ⟨fun x q h => h⟩
instance : Zi zic WT := ⟨fun x q h => h⟩
section
variable {Γ : Cn}
theorem zp8 : QP Γ (fun x H Q => ∃ (a : Addr) (ns : List Int), [x] = [.ref a] /\ y8 Γ.K H a (ns.map V.int) /\ Q (.int ns.sum) H) zlC := fun E H x dx Q q _ rx h k => by
 obtain ⟨ns, d, h1, h2, h3⟩ := zfe h
 obtain ⟨a, rfl, sq⟩ := ZQ rx h1
 cases h2
 exact ⟨a, ns, rfl, sq, k _ _ H (Same.refl H) (.int _) h3⟩
theorem znZ : QP Γ (fun x H Q => ∃ (a : Addr) (ns : List Int), [x] = [.ref a] /\ y8 Γ.K H a (ns.map V.int) /\ ns ≠ [] /\ Q (.int (Jw ns)) H) zib := fun E H x dx Q q _ rx h k => by
 obtain ⟨ns, d, h1, h2, h3⟩ := zfe h
 obtain ⟨a, rfl, sq⟩ := ZQ rx h1
 unfold zaU at h2
 split at h2
 · cases h2
 · cases h2; exact ⟨a, ns, rfl, sq, ‹_›, k _ _ H (Same.refl H) (.int _) h3⟩
theorem zn0 : QP Γ (fun x H Q => ∃ (a : Addr) (ns : List Int), [x] = [.ref a] /\ y8 Γ.K H a (ns.map V.int) /\ ns ≠ [] /\ Q (.int (Jb ns)) H) zic := fun E H x dx Q q _ rx h k => by
 obtain ⟨ns, d, h1, h2, h3⟩ := zfe h
 obtain ⟨a, rfl, sq⟩ := ZQ rx h1
 unfold zaV at h2
 split at h2
 · cases h2
 · cases h2; exact ⟨a, ns, rfl, sq, ‹_›, k _ _ H (Same.refl H) (.int _) h3⟩
end
section
variable {X : Cx} {cls : Nat -> Option Addr} {pn : List Nat} {a e de : Expr} {es : List Expr} {pos p p2 pos2 kp : Pos} {x : Str} {ma : MO} {md : ME}
theorem zaW (hc : X.calm = true) (hg : Gl X "sum") (hm : X.mg "sum" = none) (ha : DO X cls pn a ma) (hs : am [a] X.env = [(false, eval a X.env)] := by kernel_rfl) : DE X cls pn (.Call (.Name "sum" p) [a] [] pos) (J4 zlC ma) := zaJ (zlv hc) zp8 hg hm (by kernel_rfl) ha hs
theorem zn1 (hc : X.calm = true) (hg : Gl X "max") (hm : X.mg "max" = none) (ha : DO X cls pn a ma) (hs : am [a] X.env = [(false, eval a X.env)] := by kernel_rfl) : DE X cls pn (.Call (.Name "max" p) [a] [] pos) (J4 zib ma) := zaJ (zjV hc) znZ hg hm (by kernel_rfl) ha hs
theorem zgX (hc : X.calm = true) (hg : Gl X "min") (hm : X.mg "min" = none) (ha : DO X cls pn a ma) (hs : am [a] X.env = [(false, eval a X.env)] := by kernel_rfl) : DE X cls pn (.Call (.Name "min" p) [a] [] pos) (J4 zic ma) := zaJ (zjW hc) zn0 hg hm (by kernel_rfl) ha hs
end
def zdX (x y : D) : Option D := ((Jx x).bind jX).bind fun ns => if ns = [] then (if JL y = true then some y else none) else some (.int (Jw ns))
def zid (x y : D) : Option D := ((Jx x).bind jX).bind fun ns => if ns = [] then (if JL y = true then some y else none) else some (.int (Jb ns))
def zie : F2 := fun x y q => jq q (zdX x y)
def zif : F2 := fun x y q => jq q (zid x y)
instance : yN zie zdX := ⟨fun x y q h => h⟩
instance : yN zif zid := ⟨fun x y q h => h⟩
section
variable {Γ : Cn}
theorem zn2 : y6 Γ (fun x y H Q => ∃ (a : Addr) (ns : List Int), x = .ref a /\ y8 Γ.K H a (ns.map V.int) /\ Q (if ns = [] then y else .int (Jw ns)) H) zie := fun E H x y dx dy Q q _ rx ry h k => by
 have h : jq q (((Jx dx).bind jX).bind _) := h
 cases e : (Jx dx).bind jX with
 | none => rw [e] at h; exact aa h
 | some ns =>
  rw [e] at h
  obtain ⟨a, rfl, sq⟩ := ZQ rx e
  refine ⟨a, ns, rfl, sq, ?_⟩
  dsimp only [aG] at h
  by_cases h0 : ns = []
  · rw [if_pos h0] at h ⊢
    split at h
    · rename_i f; rw [zH ry f]; exact k _ _ H (Same.refl H) (Zd f) h
    · exact aa h
  · rw [if_neg h0] at h ⊢; exact k _ _ H (Same.refl H) (.int _) h
theorem zn3 : y6 Γ (fun x y H Q => ∃ (a : Addr) (ns : List Int), x = .ref a /\ y8 Γ.K H a (ns.map V.int) /\ Q (if ns = [] then y else .int (Jb ns)) H) zif := fun E H x y dx dy Q q _ rx ry h k => by
 have h : jq q (((Jx dx).bind jX).bind _) := h
 cases e : (Jx dx).bind jX with
 | none => rw [e] at h; exact aa h
 | some ns =>
  rw [e] at h
  obtain ⟨a, rfl, sq⟩ := ZQ rx e
  refine ⟨a, ns, rfl, sq, ?_⟩
  dsimp only [aG] at h
  by_cases h0 : ns = []
  · rw [if_pos h0] at h ⊢
    split at h
    · rename_i f; rw [zH ry f]; exact k _ _ H (Same.refl H) (Zd f) h
    · exact aa h
  · rw [if_neg h0] at h ⊢; exact k _ _ H (Same.refl H) (.int _) h
end
section
variable {X : Cx} {cls : Nat -> Option Addr} {pn : List Nat} {a b e de : Expr} {es : List Expr} {pos p p2 pos2 kp : Pos} {x : Str} {ma mb : MO}
theorem zn4 (hc : X.calm = true) (hg : Gl X "max") (hm : X.mg "max" = none) (ha : DO X cls pn a ma) (hb : DO X cls pn b mb) (hs : am [a] X.env = [(false, eval a X.env)] := by kernel_rfl) : DE X cls pn (.Call (.Name "max" p) [a] [⟨some "default", b, kp⟩] pos) (QF zie ma mb) :=
 let ⟨_, pa, ja⟩ := ha.h; let ⟨_, pb, jb⟩ := hb.h; ⟨_, znW hc hg hm pa pb hs, U1 zn2 ja jb⟩
theorem zn5 (hc : X.calm = true) (hg : Gl X "min") (hm : X.mg "min" = none) (ha : DO X cls pn a ma) (hb : DO X cls pn b mb) (hs : am [a] X.env = [(false, eval a X.env)] := by kernel_rfl) : DE X cls pn (.Call (.Name "min" p) [a] [⟨some "default", b, kp⟩] pos) (QF zif ma mb) :=
 let ⟨_, pa, ja⟩ := ha.h; let ⟨_, pb, jb⟩ := hb.h; ⟨_, znX hc hg hm pa pb hs, U1 zn3 ja jb⟩
end
def ZC (x : D) : Option (List Str) := (Jx x).bind ZB
def UM (x : D) : Option D := (ZC x).bind fun xs => if xs.length < 1000 then some (.int (dd xs).length) else none
def Zl (x : D) : Option (List D) := (ZC x).bind fun xs => if xs.length < 64 then some ((Qv (dd xs)).map D.str) else none
def zgY : F1 := fun x q => jq q (UM x)
def zff : Rf := fun x q => jq q (Zl x)
instance : Zi zgY UM := ⟨fun x q h => h⟩
instance : zeH zff Zl := ⟨fun x q h => h⟩
theorem zfg {β : Type} {f : List Str -> β} {q : β -> Prop} (h : jq q ((ZC x).bind fun xs => if xs.length < n then some (f xs) else none)) : ∃ xs, ZC x = some xs /\ xs.length < n /\ q (f xs) := by
 cases e : ZC x with
 | none => rw [e] at h; exact aa h
 | some xs =>
  rw [e] at h
  dsimp only [aG] at h
  split at h
  · exact ⟨xs, rfl, ‹_›, h⟩
  · exact aa h
section
variable {X : Cx} {cls : Nat -> Option Addr} {pn : List Nat} {a b e de : Expr} {es : List Expr} {pos p p2 pos2 kp : Pos} {x : Str} {ma mb : MO}
theorem zjY (hc : X.calm = true) (hg : Gl X "len") (hm : X.mg "len" = none) (hg2 : Gl X "set") (hm2 : X.mg "set" = none) (ha : DO X cls pn a ma) (hs : am [a] X.env = [(false, eval a X.env)] := by kernel_rfl)
 (hs2 : am [.Call (.Name "set" p2) [a] [] pos2] X.env = [(false, eval (.Call (.Name "set" p2) [a] [] pos2) X.env)] := by kernel_rfl) : DE X cls pn (.Call (.Name "len" p) [.Call (.Name "set" p2) [a] [] pos2] [] pos) (J4 zgY ma) := by
 obtain ⟨ta, pa, ja⟩ := ha.h
 refine ⟨_, Za zdw hg hm (by kernel_rfl) (yK (YQ (zc3 hc) hg2 hm2 (by kernel_rfl) (yK pa jt hs) (by decide) (by decide) hs rfl) jt hs2) (by decide) (by decide) hs2 rfl, fun S σ ρ H τ Q q hp R hm hq => ja S σ ρ H τ _ _ hp R hm fun v r1 H1 ρ1 τ1 R1 o1 q1 => ?_⟩
 obtain ⟨dx, rx, q1⟩ := R1.read o1 q1
 obtain ⟨xs, h1, h2, h3⟩ := zfg q1
 obtain ⟨b, rfl, sq⟩ := Wj rx h1
 refine ⟨b, xs, rfl, sq, h2, fun l hl => ⟨l, xs, rfl, jD, ?_⟩⟩
 rw [← ze4]
 exact hq _ _ _ ρ1 (R1.grow (U0 hl _)).cut (.int _) h3
theorem zig (hc : X.calm = true) (hg : Gl X "sorted") (hm : X.mg "sorted" = none) (hg2 : Gl X "set") (hm2 : X.mg "set" = none) (ha : DO X cls pn a ma) (hs : am [a] X.env = [(false, eval a X.env)] := by kernel_rfl)
 (hs2 : am [.Call (.Name "set" p2) [a] [] pos2] X.env = [(false, eval (.Call (.Name "set" p2) [a] [] pos2) X.env)] := by kernel_rfl) : DF X cls pn (.Call (.Name "sorted" p) [.Call (.Name "set" p2) [a] [] pos2] [] pos) (Yb zff ma) := by
 obtain ⟨ta, pa, ja⟩ := ha.h
 refine ⟨_, Za (zci hc) hg hm (by kernel_rfl) (yK (YQ (zc3 hc) hg2 hm2 (by kernel_rfl) (yK pa jt hs) (by decide) (by decide) hs rfl) jt hs2) (by decide) (by decide) hs2 rfl, fun S σ ρ H τ Q q hp R hm hq => ja S σ ρ H τ _ _ hp R hm fun v r1 H1 ρ1 τ1 R1 o1 q1 => ?_⟩
 obtain ⟨dx, rx, q1⟩ := R1.read o1 q1
 obtain ⟨xs, h1, h2, h3⟩ := zfg q1
 obtain ⟨b, rfl, sq⟩ := Wj rx h1
 refine ⟨b, xs, rfl, sq, fF h2 (by decide), fun l hl => ⟨l, xs, rfl, jD, h2, fun l2 hl2 => ?_⟩⟩
 obtain ⟨w1, w2, w3, w4⟩ := JC (R1.grow (U0 hl _)) (zjX (Qv (dd xs))) hl2
 exact hq l2 _ _ ρ1 w1.cut w2 w3 w4 h3
end
section
variable {Γ : Cn} {pn : List Nat}
end
variable {z : Nat -> Env -> Prop}
section
variable {X : Cx} {cls : Nat -> Option Addr} {pn : List Nat} {a e o : Expr} {es tes : List Expr} {pos p apos tp : Pos} {kt : Nat} {m : MA} {x : Str}
end
structure HD (P : Program) (w : World) (K : ai) (mg : Str -> Option Value) (base : Heap) (cls : Nat -> Option Addr) (m : Str) (k : Nat) (ps : List Str) (tbl : Nat -> Option Fn) : Prop where
 nf : ∀ n, yS n ≠ m
 has : ∀ c C F, cls c = some C -> tbl c = some F -> Cls K C /\ ∃ f fd, zkP K C m f /\ FnOk P w K mg base yd k f fd ps (z7 ⟨K, cls⟩ [] false ps.length (zp F)) /\ Binds K fd ps []
 len : ∀ c F ss q, tbl c = some F -> zp F ss q Z0 -> ss.length = ps.length
section
variable {X : Cx} {cls : Nat -> Option Addr} {pn : List Nat} {e o : Expr} {es : List Expr} {pos apos : Pos} {m : Str} {k : Nat} {ps : List Str} {tbl : Nat -> Option Fn} {ma : ME} {mr : MA}
theorem HD.disp (h : HD X.prog X.w X.K X.mg X.base cls m k ps tbl) (hr : Room k X.A) : zer X m (zjo ⟨X.K, cls⟩ (fun c => (tbl c).map zp) ps.length) := fun C sp ⟨c, p, hc, hp, e⟩ => by
 have hp : (tbl c).map zp = some p := hp
 cases ht : tbl c with
 | none => rw [ht] at hp; cases hp
 | some F =>
  rw [ht] at hp; cases hp
  obtain ⟨cl, f, fd, a, b, d⟩ := h.has c C F hc ht
  subst e
  exact ⟨cl, k, f, fd, ps, a, b, hr, d⟩
theorem HD.ln (h : HD X.prog X.w X.K X.mg X.base cls m k ps tbl) : ∀ c p ss q, (tbl c).map zp = some p -> p ss q Z0 -> ss.length = ps.length := fun c p ss q hp hq => by
 cases ht : tbl c with
 | none => rw [ht] at hp; cases hp
 | some F => rw [ht] at hp; cases hp; exact h.len c F ss q ht hq
theorem Zm (h : HD X.prog X.w X.K X.mg X.base cls m k ps tbl) (hr : Room k X.A) (ho : DE X cls pn o ma) (ha : DA X cls pn (e :: es) mr)
 (hst : am (e :: es) X.env = (false, eval e X.env) :: am es X.env := by kernel_rfl) (hpl : (backTo pos (am es X.env)).any (·.1) = false := by kernel_rfl)
 (ht : eval (.Call (.Attribute o m apos) (e :: es) [] pos) X.env = (do
  let ov ← eval o X.env
  eN apos.atName
  let (f, first) ← cH [ov] (fA ov m (do return (← importBound o X.env).getD true))
  iU pos f first (backTo pos (am (e :: es) X.env)) (dz pos (cp [] X.env))) := by kernel_rfl) :
 DE X cls pn (.Call (.Attribute o m apos) (e :: es) [] pos) (zaC (fun c => (tbl c).map zp) ma mr) :=
 let ⟨_, pa, ja⟩ := ho.h; let ⟨_, pb, jb⟩ := ha.h; ⟨_, zlf pa (h.disp hr) pb hst hpl ht, zgp h.nf ja jb h.ln⟩
theorem jR (h : HD X.prog X.w X.K X.mg X.base cls m k ps tbl) (hr : Room k X.A) (ho : DE X cls pn o ma)
 (ht : eval (.Call (.Attribute o m apos) [] [] pos) X.env = (do
  let ov ← eval o X.env
  eN apos.atName
  let (f, first) ← cH [ov] (fA ov m (do return (← importBound o X.env).getD true))
  iU pos f first (backTo pos (am [] X.env)) (dz pos (cp [] X.env))) := by kernel_rfl) :
 DE X cls pn (.Call (.Attribute o m apos) [] [] pos) (zaC (fun c => (tbl c).map zp) ma zhA) :=
 let ⟨_, pa, ja⟩ := ho.h; ⟨_, zjp pa (h.disp hr) ht, zgp h.nf ja zjf h.ln⟩
end
def zaX (j : Nat) (p : UG) : ME := fun ρ q => WG ρ[j]? fun o => p [.val o] (fun d _ => JL d = true /\ q d ρ) Z0
section
variable {Γ : Cn} {pn : List Nat}
theorem zlD (hn : ∀ ss q, p ss q Z0 -> ss.length = 1) : JE Γ pn (WF (z7 Γ [] false 1 p) [] E0 (Qg (QL j) ZU)) (zaX j p) := fun S σ ρ H τ Q q hp R hm hq => by
 have hm : WG ρ[j]? _ := hm
 cases e : ρ[j]? with
 | none => rw [e] at hm; exact aa hm
 | some s =>
  rw [e] at hm
  cases s with
  | no => exact aa hm
  | val d =>
   obtain ⟨v, e1, r⟩ := R.val j d e
   refine ⟨v, e1, ?_⟩
   show z7 Γ [] false 1 p ([v] ++ []) H Q E0
   rw [aW]
   refine ⟨rfl, ⟨zI S σ ρ, H, fun _ => none⟩, [.val d], _, fun _ _ => rfl, rfl, U7 R (.cons r .nil), hm, fun w d' H' σ' ρ' os ⟨R', r'⟩ _ q' => ?_⟩
   obtain ⟨a, b⟩ := U8 R R' r'
   exact hq w d' H' ρ a b q'.2
  | own o =>
   obtain ⟨x, e1, ow, nC, _⟩ := R.own j o e
   refine ⟨_, e1, ?_⟩
   show z7 Γ [] false 1 p ([.ref x] ++ []) H Q E0
   rw [aW]
   have R0 : Rel Γ ⟨fun a => zI S σ ρ a /\ a ≠ x, H, fun _ => none⟩ H ([V.ref x].map some) [.val o] [] := by
    have no : ∀ i, ¬ yZ [Slot.val o] i := fun i ⟨u, h⟩ => by
     cases i with
     | zero => simp at h
     | succ i => simp at h
    have he : ∀ b, zI ⟨fun a => zI S σ ρ a /\ a ≠ x, H, fun _ => none⟩ ([V.ref x].map some) [.val o] b -> zI S σ ρ b /\ b ≠ x := fun b h => h.elim id fun ⟨i, hi, _⟩ => absurd hi (no i)
    have ow' := ow.up (E' := zI ⟨fun a => zI S σ ρ a /\ a ≠ x, H, fun _ => none⟩ ([V.ref x].map some) [.val o]) (H' := H) (fun _ z => z) (fun b _ z => (he b z).1) fun _ _ _ z => z
    exact {
     len := rfl
     val := fun i d h => by
      cases i with
      | zero => simp at h; subst h; exact ⟨_, rfl, ow'.rep fun z => (he x z).2 rfl⟩
      | succ i => simp at h
     own := fun i o h => absurd ⟨o, h⟩ (no i)
     pin := fun i p h => by cases h
     inj := fun i j p hi => absurd hi (no i)
     dom := fun a h => y9 R h.1
     fr := fun b o h _ => h
     tmp := fun x h => nomatch h }
   refine ⟨rfl, _, [.val o], _, fun _ _ => rfl, rfl, R0, hm, fun w d' H' σ' ρ' os ⟨R', r'⟩ _ q' => ?_⟩
   have R2 : Rel Γ S H' σ ρ τ := R.grow fun b o h => R'.fr b o h fun i => by simp
   rw [r'.flat q'.1]
   exact hq _ d' H' ρ R2 (Zd q'.1) q'.2
end
def Vj (r : RF) (ρ : Env) : O D := match r with | .ok d _ => (if JL d = true then .ok d ρ else .no) | _ => .no
def YE (j : Nat) (F : Fn) : G D := fun ρ => (jr (Zz ρ[j]?) ρ).bind fun o ρ => Vj (F [.val o]) ρ
theorem zlE {k : D -> Prop} (h : jq k (Zz s)) : WG s k := by
 unfold Zz at h
 split at h
 · exact h
 · exact h
 · exact aa h
instance {j : Nat} {F : Fn} : Ag z (zaX j (zp F)) (YE j F) := ⟨fun ρ q h => by
 unfold YE at h
 unfold zaX
 refine zlE (yO (Jk (O.on_bind h)) fun o h => ?_)
 unfold zp
 unfold Vj at h
 cases e : F [.val o] with
 | no => rw [e] at h; exact aa h
 | ex k => rw [e] at h; exact aa h
 | ok d os =>
  rw [e] at h
  dsimp only at h ⊢
  split at h
  · exact ⟨‹_›, h⟩
  · exact aa h⟩
section
variable {X : Cx} {cls : Nat -> Option Addr} {pn : List Nat} {pos p py : Pos} {x y : Str}
theorem Vk (h : HM X.prog X.w X.K X.mg X.base cls x k [a0] [] false F) (hr : Room k X.A) (hg : Gl X x) (j' : X.N[j]? = some y := by kernel_rfl)
 (hvis : Ys X.env.scope y := by first | exact Or.inl rfl | exact Or.inr (Or.inl rfl) | exact Or.inr (Or.inr rfl)) (hyd : (y == ("__debug__" : Str)) = false := by decide) (hcd : (y == ("__classdict__" : Str)) = false := by decide) (hd : (x == ("__debug__" : Str)) = false := by decide)
 (hs : am [.Name y py] X.env = [(false, eval (.Name y py) X.env)] := by kernel_rfl) : DE X cls pn (.Call (.Name x p) [.Name y py] [] pos) (zaX j F) :=
 ⟨_, UX h.has hr hg (yK (QM j' hvis hyd hcd) jt hs) hd hs rfl, zlD h.len⟩
end
end M
namespace M
open PySem L2
def tbo (l : List Nat) : Nat -> Option Bool := fun c => if 11 <= c then some (l.contains c) else none
def noF : Fn := fun _ => .no
theorem FnOk.no {mg : Str -> Option Value} : FnOk P w K mg base yd k f fd ps (z7 Γ pn fr n (zp noF)) :=
 ⟨fun vs H Q E ⟨_, _, _, _, _, _, _, h, _⟩ => aa h, fun A outer s H args us vs Q E _ _ _ _ ⟨_, _, _, _, _, _, _, h, _⟩ => aa h⟩
theorem zgZ {q z : D -> List D -> Prop} {P : Prop} (h : zp noF ss q z) : P := aa h
def zaY (z : Str) (y : D) : Option D := (ZC y).bind fun ys => if (ys.map (·.length)).sum + ys.length * z.length <= 100000 then some (.str (ey z ys)) else none
def zih (a : ME) (b : MO) : ME := fun ρ q => a ρ fun x ρ1 => match x with | .str z => b ρ1 fun r ρ2 => r.on ρ2 fun y => jq (fun d => q d ρ2) (zaY z y) | _ => False
def zaZ (a : G D) (b : G Opd) : G D := fun ρ => (a ρ).bind fun x ρ1 => match x with | .str z => (b ρ1).bind fun r ρ2 => jr ((r.get ρ2).bind fun y => zaY z y) ρ2 | _ => .no
variable {z : Nat -> Env -> Prop}
instance {a : ME} {b : MO} {ga : G D} {gb : G Opd} [Ag z a ga] [Ag z b gb] : Ag z (zih a b) (zaZ ga gb) := ⟨fun ρ q h => by
 unfold zaZ at h
 unfold zih
 exact Ag.step h fun x ρ1 h => by
  cases x with
  | str w => exact Ag.step h fun r ρ2 h => QS (yO (Jr (Jk h)) fun _ h => h)
  | _ => exact aa h⟩
section
variable {X : Cx} {cls : Nat -> Option Addr} {pn : List Nat} {a e : Expr} {cpos apos : Pos} {ma : ME} {mb : MO}
theorem zn6 (ha : DE X cls pn a ma) (hb : DO X cls pn e mb) (hbase : bQ a "join" X.env (eval a X.env) = eval a X.env := by kernel_rfl) (hfew : ((backTo cpos (am [e] X.env)).all (fun x => !x.1) && (dz cpos (cp [] X.env)).all (fun x => x.1.isSome)
      && decide (([e] : List Expr).length + ([] : List Keyword).length + (if ([] : List Keyword).isEmpty then 0 else 1) < 30)) = true := by kernel_rfl) (hline : (apos.endLine == cpos.line) = true := by kernel_rfl) (hs : am [e] X.env = [(false, eval e X.env)] := by kernel_rfl) :
    DE X cls pn (.Call (.Attribute a "join" apos) [e] [] cpos) (zih ma mb) := by
  obtain ⟨ta, pa, ja⟩ := ha.h
  obtain ⟨tb, pb, jb⟩ := hb.h
  refine ⟨_, zhw PySem.F.plainAttrs_str PySem.F.slot_str_join PySem.F.type_str_join zno pa (yK pb jt hs) hbase hfew hline hs rfl, fun S σ ρ H τ Q q hp R hm hq => ja S σ ρ H τ _ _ hp R hm fun v d H1 ρ1 R1 r1 q1 => ?_⟩
  cases d with
  | str w =>
    cases zgm r1
    refine ⟨rfl, jb S σ ρ1 H1 τ _ _ hp R1 q1 fun v2 r2 H2 ρ2 τ2 R2 o2 q2 => ?_⟩
    obtain ⟨dy, ry, q2⟩ := R2.read o2 q2
    unfold zaY at q2
    cases e : ZC dy with
    | none => rw [e] at q2; exact aa q2
    | some ys =>
      rw [e] at q2
      dsimp only [aG] at q2
      split at q2
      · rename_i hl
        obtain ⟨b, rfl, sq⟩ := Wj ry e
        exact ⟨w, b, ys, rfl, rfl, sq, aV hl (by decide), hq _ _ H2 ρ2 R2.cut (.str _) q2⟩
      · exact aa q2
  | _ => exact aa q1
end
end M
namespace M
open PySem L2
theorem J0 (h : (("" : Str) :: fNames).contains m = false) (n : Nat) : yS n ≠ m := fun z => by
 have h : ∀ y ∈ (("" : Str) :: fNames), y ≠ m := fun y hy e => by
  subst e
  have := List.contains_iff_mem.mpr hy
  rw [h] at this; cases this
 refine h (yS n) ?_ z
 unfold yS
 rw [aC]
 cases e : fNames[n]? with
 | none => exact ao
 | some y => exact af _ (eA e)
theorem zG (h : t = some F) (e : t = some X) : F = X := bc (h.symm.trans e)
theorem Qd (h : t = some F) (e : t = none) : False := by rw [e] at h; cases h
end M
namespace L2
open PySem PySem.Spec PyProof.Rows
def za0 (i j : Int) : Prop := 0 < j /\ j < 18446744073709551616
theorem zlF : jz X (dw .FloorDiv) (rI za0 fun i j => .int (i / j)) := opI fun i j _ _ _ _ _ hc q => by
  have h1 : (0 : Int) < j := hc.1
  have h2 : j < 18446744073709551616 := hc.2
  refine floordiv_int (by omega) (by rw [Int.fdiv_eq_ediv_of_nonneg i (by omega)]; exact q) (.inl (PyProof.noPylong_of_log2 ?_))
  have hn : j.natAbs ≠ 0 := by omega
  have hl : j.natAbs < 2 ^ 64 := by have : (2 : Nat) ^ 64 = 18446744073709551616 := by decide
                                    omega
  exact fF ((Nat.log2_lt hn).mpr hl) (by decide)
end L2
namespace M
open PySem L2
def zjZ : F2 := fI za0 fun i j => .int (i / j)
instance {i j : Int} : Decidable (za0 i j) := inferInstanceAs (Decidable (_ /\ _))
def YF := hI za0 fun i j => .int (i / j)
instance : yN zjZ YF := inferInstanceAs (yN (fI _ _) (hI _ _))
theorem Vl {cls : Nat -> Option Addr} (ha : DO X cls pn a ma) (hb : DO X cls pn b mb) : DE X cls pn (.BinOp a .FloorDiv b pos) (QF zjZ ma mb) := U9 zlF (zhQ (fun _ _ => rfl) fun _ _ => rfl) ha hb
abbrev FI (K : ai) (C : Addr) (m : Str) (f : Addr) : Prop := aJ K (.ref C) m = some (some (.ref f))
abbrev FN0 (K : ai) (C : Addr) (m : Str) : Prop := aJ K (.ref C) m = some none
abbrev NI (K : ai) (x : Str) (f : Addr) : Prop := bq K aS x = some (some (.ref f))
abbrev NZ (K : ai) (x : Str) : Prop := bq K aS x = some none
abbrev CI (K : ai) (cd : Value) (x : Str) : Prop := eR K cd x = true
abbrev KI (K : ai) (f : Addr) : Prop := ba K (.ref f) = true
abbrev LK (K : ai) (f : Addr) (oc : Value) (od : Option Addr) (x q : Str) (st : Stmt) (kV dc pm : Value) (an : Option Addr) (cd ct : Value) (sl : Array (Option Value)) : Prop := K.lookup f = some ⟨oc, od, .func (cO x q (Yg st) (QE st) (zq st) .none kV dc pm an cd ct), sl⟩
end M
namespace PySem
open Sem (wp)
section
variable {prog : Program} {w : World} {A : Around} {E : Value -> Shared -> Prop} {s : Shared}
end
end PySem
namespace L2
open PySem PySem.Spec PyProof.Rows
end L2
namespace PySem.AutoSeq1
open PySem PySem.Spec PyProof.Rows
end PySem.AutoSeq1
namespace PyProof.Rows.KTD
open PySem PySem.Spec PySem.Calls PyProof.V
section
variable {prog : Program} {w : World} {A : Around} {E : Value -> Shared -> Prop} {s : Shared} {δ : Type} {R : δ -> Value -> Prop} {D : List (Str × δ)} {a : Addr} {k : Str} {tk : Tok}
end
end PyProof.Rows.KTD
namespace L2
open PySem PySem.Spec PyProof.Rows
variable {X : Cx}
end L2
namespace M
open PySem L2
section
variable {Γ : Cn} {pn : List Nat} {X : Cx} {cls : Nat -> Option Addr} {a b e : Expr} {pos p apos cpos : Pos} {x : Str} {ma mb : MO} {z : Nat -> Env -> Prop}
theorem vals_strs : ∀ {vs : List Value} {ss : List Str}, cA vs ss = true -> Vals (ss.map V.str) vs
 | [], [], _ => .nil
 | [], _ :: _, h => by simp [cA] at h
 | _ :: _, [], h => by simp [cA] at h
 | v :: vs, s :: ss, h => by
  unfold cA at h
  cases v with
  | str y t =>
   simp only [aN] at h
   have e : y = s := by simpa using h.1
   exact .cons ⟨t, by rw [e]⟩ (vals_strs h.2)
  | _ => simp at h
end
end M
namespace L2
open PySem PySem.Spec PyProof.Rows
section
variable {X : Cx} {e k : Expr} {te tk : TE} {pos p2 : Pos}
def zrI (K : ai) (te tk : TE) : TE := fun σ H Q => te σ H fun x H1 => tk σ H1 fun y H2 => ∃ a xs, x = .ref a /\ y = .int (-1) /\ y8 K H2 a xs /\ ∀ p, H2 p = none -> Q (.ref p) (yc H2 p (.lst xs.reverse))
theorem zp_ (he : PE X e te) (hk : PE X k tk) : PE X (.Subscript e (.Slice none none (some k) p2) pos) (zrI X.K te tk) := by
 intro pins s σ H Q I h
 refine Subscript_ (zP (he pins s σ H _ I h) fun v s1 ⟨x, H1, I1, r1, q1⟩ => ?_)
 refine wpAny_Slice ?_
 rw [gQ]
 refine aj (aj ?_)
 rw [evalPart_some]
 refine zP (hk pins s1 σ H1 _ I1 q1) fun u s2 ⟨y, H2, I2, r2, q2⟩ => ?_
 obtain ⟨a, xs, rfl, rfl, hx, q⟩ := q2
 cases r1
 obtain ⟨t, rfl⟩ := r2
 have I4 : Inv X pins σ H2 { s2 with heap := s2.heap.push { cls := .type "slice", data := .fields #[.none, .none, .int (-1) t] } } := I2.kept (t' := s2.toks) fun b ob q => ae _ q
 obtain ⟨its, r, ht, hz⟩ := I4.list hx
 have hl := r.length
 show wpAny (model X.prog X.w) X.A (gR e (.Slice none none (some k) p2) (.ref a) (.ref s2.heap.objs.size)) (EP X pins σ Q) X.xe { s2 with heap := s2.heap.push { cls := .type "slice", data := .fields #[.none, .none, .int (-1) t] } }
 refine tail_any (ops := [.ref a, .ref s2.heap.objs.size]) ht.isList.typeIs fh.lookup (wpAny_getItem_list_slice ht.isList (g0 ..) .none .none (.int (-1) t) (by decide) ?_ (by rw [ak]; omega)) (by with_unfolding_all rfl)
 rw [PySem.W.krv_pick]
 refine ⟨.ref (s2.heap.push { cls := .type "slice", data := .fields #[.none, .none, .int (-1) t] }).objs.size, _, I4.laid (t' := s2.toks) (o := .lst xs.reverse) (fun b ob q => ae _ q) (ax _) ?_, rfl, q _ (I4.hok.fresh (ax _))⟩
 exact ⟨by rw [gI]; exact hz, _, 0, r.reverse, ay _ rfl⟩
def zn7 (K : ai) : V -> List V -> Hp -> VK -> Prop := fun x vs H Q => ∃ (a : Addr) (bs : List Bool) (j : Nat), x = .ref a /\ vs = [.bl true] /\ y8 K H a (bs.map V.bl) /\ bs[j]? = some true /\ (∀ m, m < j -> bs[m]? = some false) /\ j < 100000 /\ Q (.int j) H
theorem zfh : ∀ {bs : List Bool} {us : List Value}, Vals (bs.map V.bl) us -> us = bs.map Value.bool
 | [], _, h => by cases h; rfl
 | b :: r, _, h => by
  rw [aq] at h
  cases h with
  | cons h1 h2 => cases h1; rw [aq, zfh h2]
theorem zj0 : MtR X "list.index" (zn7 X.K) := by
 intro pins s σ H x vs v us Q I rx rv h
 obtain ⟨a, bs, j, rfl, rfl, hq, h1, h2, h3, q⟩ := h
 cases rx
 obtain ⟨u, rfl, ru⟩ := rv.one
 cases ru
 obtain ⟨its, r, ⟨o, n, ho, hc, hdc, hd⟩, hz⟩ := I.list hq
 have e := zfh r
 subst e
 obtain ⟨cl, dc, dt, sl⟩ := o
 cases hc
 cases hd
 have hj : j < bs.length := (aD.mp h1).1
 have hfl : (bs.map V.bl).all J8 = true := by rw [dg, aR]; intro _ _; rfl
 have gj : (bs.map Value.bool).toArray[j]'(by simpa using hj) = .bool true := by
  have := (aD.mp h1).2
  simp [this]
 refine g7 F.slot_list_index ⟨_, ho, rfl⟩ F.entry_list_index (F.args_list_index_2 _ _) (SeqAt.list_indexAt a _ n dc sl (.bool true) (ZH (.bl true)) j (by simpa using hj) (by omega) (by rw [gj]; rfl) ?_) ⟨ho, fun y hy => Zb (x := .bl true) rfl rfl r hfl y (by simpa using hy), ?_⟩
 · intro m hm hmj
   have := (aD.mp (h2 m hmj)).2
   simp [this, ZH, QN]
 · exact ⟨.int j, H, I.tok _, ⟨_, rfl⟩, q⟩
end
def bN (b : Bool) : Nat := if b then 1 else 0
@[reducible] def boolKind : KeyKind where
 α := Nat
 blt a b := decide (a < b)
 irrefl a := by simp
 trans a b c h1 h2 := by simp only [decide_eq_true_eq] at *; omega
 negTrans a b c h := by simp only [decide_eq_true_eq] at *; omega
 total a b h1 h2 := by simp only [decide_eq_false_iff_not] at *; omega
 keyOf v := match v with | .bool b => some (bN b) | _ => none
 dflt := 0
theorem zcj : boolKind.OneLt := by
 intro prog w A E s x y a b Q ha hb h
 cases x <;> simp only [boolKind, reduceCtorEq, ff] at ha
 cases y <;> simp only [boolKind, reduceCtorEq, ff] at hb
 rename_i p q
 cases ha; cases hb
 rw [oneLt'_eq]
 simp only [if_true]
 refine ab (wpAny_cRoomFor_byValue rfl (ab (wpAny_callSpecialIfBound?_slot (typeIs_bool' s p) F.slot_bool_lt ?_)))
 refine cu F.slot_bool_lt (typeIs_bool' s p) F.entry_int_lt ?_ (F.args_int_lt_2 _ _)
 refine aj ⟨_, rfl, aX ?_⟩
 revert h
 cases p <;> cases q <;> exact id
def upB (l : List Bool) : Prop := l.Pairwise fun a b => bN a <= bN b
theorem zqa {l m : List Bool} (hp : l.Perm m) (h1 : upB l) (h2 : upB m) : l = m :=
 hp.eq_of_pairwise (fun a b _ _ x y => by cases a <;> cases b <;> first | rfl | (exact absurd x (by decide)) | (exact absurd y (by decide))) h1 h2
def VL : Value -> Bool | .bool b => b | _ => false
theorem UN : ∀ (bs : List Bool), (bs.map Value.bool).mapM firstOfTuple' = pure ((bs.map Value.bool).map fun _ => none)
 | [] => by simp
 | b :: r => by rw [aq, iR, show firstOfTuple' (Value.bool b) = pure none from rfl, UN r]; simp
theorem Y1 : ∀ (bs : List Bool), (bs.map Value.bool).mapM typeOf = pure ((bs.map Value.bool).map fun _ => Value.type "bool")
 | [] => by simp
 | b :: r => by
  rw [aq, iR, Y1 r]
  show (pure (Value.type "bool") >>= fun b => pure _ >>= fun bs => pure (b :: bs)) = _
  simp
theorem zfP : keyKind' ((a :: b :: r).map Value.bool).toArray = pure oneType' := by
 rw [keyKind'_eq, ib, UN]
 simp only [map_pure, pure_bind]
 rw [if_neg (by simp), if_neg (by simp), oneTypeOnly'_eq, ib, Y1]
 simp only [map_pure, pure_bind]
 have h1 : ((List.map (fun _ => Value.type "bool") ((a :: b :: r).map Value.bool)).toArray.all fun x => x == Value.type "bool") = true := by
  simp only [List.all_toArray, dg, aR]
  intro _ _; rfl
 have h0 : (List.map (fun _ => Value.type "bool") ((a :: b :: r).map Value.bool)).toArray[0]? = some (Value.type "bool") := by simp
 rw [h0]
 simp only [h1, if_true, pure_bind, Option.isSome_some]
section
variable {X : Cx}
theorem zdx : jB X (.builtin "sorted") (fun vs H Q => ∃ (a : Addr) (bs : List Bool), vs = [.ref a] /\ y8 X.K H a (bs.map V.bl) /\ bs.length < 64 /\ upB bs /\ ∀ l, H l = none -> Q (.ref l) (yc H l (.lst (bs.map V.bl)))) := by
 intro pins s σ H vs us Q I rv h
 obtain ⟨a, bs, rfl, hq, hz, hu, q⟩ := h
 obtain ⟨u, rfl, ru⟩ := rv.one
 cases ru
 obtain ⟨its, r, pl, _⟩ := I.list hq
 have e0 := zfh r
 subst e0
 refine sortedK zcj pl.isList ?_ ?_ (by simpa using hz) fun st' hp hs => ?_
 · intro p hp
   rw [pairsOf_toList] at hp
   obtain ⟨b, _, e⟩ := aE.mp (mem_zip_self hp).2
   exact ⟨bN b, by rw [← e]⟩
 · intro v₁ v₂ rest e
   match bs, e with
   | x :: y :: z, e => rw [← e]; exact zfP
 · generalize arrOf st' = xs at *
   have hl : xs.toList.Perm ((bs.map Value.bool).zip (bs.map Value.bool)) := by rw [← pairsOf_toList]; exact Array.perm_iff_toList_perm.mp hp
   have hm : ∀ p, p ∈ xs.toList -> p.1 = p.2 /\ p.1 ∈ bs.map Value.bool := fun p hp' => mem_zip_self (hl.mem_iff.mp hp')
   have hb : ∀ p, p ∈ xs.toList -> p.1 = .bool (VL p.1) /\ p.2 = .bool (VL p.1) := fun p hp' => by
    obtain ⟨b, _, e⟩ := aE.mp (hm p hp').2
    have e1 := (hm p hp').1
    rw [← e] at e1 ⊢
    exact ⟨rfl, e1.symm⟩
   have e2 : (xs.map (·.2)).toList = (xs.toList.map fun p => VL p.1).map Value.bool := by
    rw [iy, cP]
    exact eL fun p hp' => (hb p hp').2
   have pm : (xs.toList.map fun p => VL p.1).Perm bs := by
    have h1 := hl.map (fun p => VL p.1)
    have e3 : ((bs.map Value.bool).zip (bs.map Value.bool)).map (fun p => VL p.1) = bs := by
     rw [show (fun p : Value × Value => VL p.1) = VL ∘ Prod.fst from rfl, ← cP, List.map_fst_zip (ax _), cP]
     exact List.map_id' bs
    rwa [e3] at h1
   have up : upB (xs.toList.map fun p => VL p.1) := by
    unfold upB
    rw [List.pairwise_iff_getElem]
    intro i j hi hj hij
    have hi' : i < xs.size := by simpa using hi
    have hj' : j < xs.size := by simpa using hj
    have h1 := hs i j (cM hij) (by rw [← hp.size_eq]; exact hj')
    have kk : ∀ {i : Nat} (hi : i < xs.size), KK boolKind xs i = bN (VL xs[i].1) := fun {i} hi => by
     unfold KK
     rw [getElem?_pos xs i hi]
     show (boolKind.keyOf xs[i].1).getD 0 = _
     rw [(hb xs[i] (by simp)).1]; rfl
    rw [kk hi', kk hj'] at h1
    change decide (bN (VL xs[j].1) < bN (VL xs[i].1)) = false at h1
    simp only [List.getElem_map, Array.getElem_toList]
    simpa using h1
   have eq := zqa pm up hu
   rw [eq] at e2
   obtain ⟨e, he⟩ := sortedAll_at s.heap (bs.map Value.bool) (xs.map (·.2))
   rw [show xs.map (·.2) = (bs.map Value.bool).toArray from by rw [← e2]] at he ⊢
   refine ⟨.ref (s.heap.objs.size + 1), _, I.laid (t' := s.toks) (fun _ _ => sortedAll_old) (cL _) (show ObjOk X.prog X.w _ _ _ (.lst (bs.map V.bl)) from ⟨?_, bs.map Value.bool, e, r, he⟩), rfl, q _ (I.hok.fresh (cL _))⟩
   rw [ap, dG]; omega
end
end L2
namespace M
open PySem L2
section
variable {Γ : Cn} {pn : List Nat} {X : Cx} {cls : Nat -> Option Addr} {a b e : Expr} {pos p apos cpos p2 p3 p4 : Pos} {x : Str} {ma mb : MO} {z : Nat -> Env -> Prop} {c3 : Nat}
def zlG : D -> Option (List D) | .lst ds => some ds.reverse | _ => none
def zqb : Rf := fun x q => jq q (zlG x)
instance : zeH zqb zlG := ⟨fun _ _ h => h⟩
theorem zqc (ha : DO X cls pn a ma) : DF X cls pn (.Subscript a (.Slice none none (some (.UnaryOp .USub (.Constant (.int 1) c3 p3) p4)) p2) pos) (Yb zqb ma) := by
 obtain ⟨ta, pa, ja⟩ := ha.h
 refine ⟨_, zp_ pa (zms ziV ziL), fun S σ ρ H τ Q q hp R hm hq => ja S σ ρ H τ _ _ hp R hm fun v r1 H1 ρ1 τ1 R1 o1 q1 => ?_⟩
 obtain ⟨dx, rx, q1⟩ := R1.read o1 q1
 cases dx with
 | lst ds =>
  obtain ⟨b, xs, rfl, hb, rs⟩ := rx
  refine ⟨1, rfl, b, xs, rfl, rfl, .inl (.inl hb), fun p hn => ?_⟩
  obtain ⟨k1, k2, k3, k4⟩ := JC R1 rs.reverse hn
  exact hq p _ _ ρ1 k1.cut k2 k3 k4 q1
 | _ => exact aa q1
instance {l : List Bool} : Decidable (upB l) := inferInstanceAs (Decidable (List.Pairwise _ _))
def zck (x : D) : Option (List Bool) := (Jx x).bind QQ
theorem zfi {E : Addr -> Prop} {bs : List Bool} (r : jV Γ E H v d) (h : zck d = some bs) : ∃ a, v = .ref a /\ y8 Γ.K H a (bs.map V.bl) := by
 cases d with
 | lst ds =>
  obtain ⟨a, xs, rfl, ha, rs⟩ := r
  have e := zb7 rs h
  subst e
  exact ⟨a, rfl, .inl (.inl ha)⟩
 | _ => cases h
theorem zlH {E : Addr -> Prop} (bs : List Bool) : Reps Γ E H (bs.map V.bl) (bs.map D.bl) := ⟨by simp, fun i v d h1 h2 => by
 rw [ar] at h1 h2
 cases e : bs[i]? with
 | none => rw [e] at h1; cases h1
 | some n => rw [e] at h1 h2; cases h1; cases h2; exact .bl n⟩
def YG (x : D) : Option (List D) := (zck x).bind fun bs => if bs.length < 64 /\ upB bs then some (bs.map D.bl) else none
def za2 : Rf := fun x q => jq q (YG x)
instance : zeH za2 YG := ⟨fun _ _ h => h⟩
theorem zlI : VU Γ (fun x H Q => ∃ (a : Addr) (bs : List Bool), [x] = [.ref a] /\ y8 Γ.K H a (bs.map V.bl) /\ bs.length < 64 /\ upB bs /\ ∀ l, H l = none -> Q (.ref l) (yc H l (.lst (bs.map V.bl)))) za2 := fun E H x dx Q q rx h k => by
 unfold za2 YG at h
 cases e : zck dx with
 | none => rw [e] at h; exact aa h
 | some bs =>
  rw [e] at h
  dsimp only [aG] at h
  split at h
  · rename_i c
    obtain ⟨a, rfl, sq⟩ := zfi rx e
    exact ⟨a, bs, rfl, sq, c.1, c.2, fun p hp => k p _ _ H (Same.refl H) hp (zlH bs) h⟩
  · exact aa h
theorem zlJ (hg : Gl X "sorted") (hm : X.mg "sorted" = none) (ha : DO X cls pn a ma) (hs : am [a] X.env = [(false, eval a X.env)] := by kernel_rfl) : DF X cls pn (.Call (.Name "sorted" p) [a] [] pos) (Yb za2 ma) := zqR zdx zlI hg hm (by kernel_rfl) ha hs
def Zn (x : D) : Option D := (zck x).bind fun bs => (bs.findIdx? id).bind fun j => if j < 100000 then some (.int j) else none
def zcl : F1 := fun x q => jq q (Zn x)
instance : Zi zcl Zn := ⟨fun _ _ h => h⟩
theorem zj1 (ha : DO X cls pn a ma) (hbase : bQ a "index" X.env (eval a X.env) = eval a X.env := by kernel_rfl) (hfew : ((backTo cpos (am [.Constant (.bool true) c3 p3] X.env)).all (fun x => !x.1) && (dz cpos (cp [] X.env)).all (fun x => x.1.isSome)
      && decide (([.Constant (.bool true) c3 p3] : List Expr).length + ([] : List Keyword).length + (if ([] : List Keyword).isEmpty then 0 else 1) < 30)) = true := by kernel_rfl) (hline : (apos.endLine == cpos.line) = true := by kernel_rfl) (hs : am [.Constant (.bool true) c3 p3] X.env = [(false, eval (.Constant (.bool true) c3 p3) X.env)] := by kernel_rfl) :
    DE X cls pn (.Call (.Attribute a "index" apos) [.Constant (.bool true) c3 p3] [] cpos) (J4 zcl ma) := by
  obtain ⟨ta, pa, ja⟩ := ha.h
  refine ⟨_, zhw fu PySem.F.slot_list_index PySem.F.type_list_index zj0 pa (yK zmj jt hs) hbase hfew hline hs rfl, fun S σ ρ H τ Q q hp R hm hq => ja S σ ρ H τ _ _ hp R hm fun v r1 H1 ρ1 τ1 R1 o1 q1 => ?_⟩
  obtain ⟨dx, rx, q1⟩ := R1.read o1 q1
  unfold zcl Zn at q1
  cases e : zck dx with
  | none => rw [e] at q1; exact aa q1
  | some bs =>
    rw [e] at q1
    dsimp only [aG] at q1
    cases ej : bs.findIdx? id with
    | none => rw [ej] at q1; exact aa q1
    | some j =>
      rw [ej] at q1
      dsimp only [aG] at q1
      split at q1
      · rename_i hj
        obtain ⟨b, rfl, sq⟩ := zfi rx e
        obtain ⟨h1, h2, h3⟩ := dJ.mp ej
        refine ⟨.inl ⟨rfl, _, sq⟩, b, bs, j, rfl, rfl, sq, ?_, ?_, hj, hq _ _ H1 ρ1 R1.cut (.int _) q1⟩
        · rw [ac h1]; exact congrArg some h2
        · intro m hm
          have := h3 m hm
          rw [ac (fF hm h1)]
          exact congrArg some (by simpa using this)
      · exact aa q1
end
def RV : G End := (yQ (j9 (RO (zg 0)))
 zeO
 yP)
def zZ : Fn := zO [] 2 0 false RV
def zc6 : G End := (zK (zB (zlA (tbo [12, 13, 14, 15, 16, 17])) (zg 0)))
def Jm : Fn := zO [] 1 0 false zc6
def ZX : G End := (zK (jn jW (gO (zB (jp 1) (zg 0)))))
def Ql : Fn := zO [] 1 0 false ZX
def ZY : G End := (zK (zU (zJ (zB (jp 3) (zg 0))) [none] (zt 0) yJ (zj zF (zg 0) (gO (gC (.int 0))))))
def Qm : Fn := zO [] 1 0 false ZY
def QY : G End := (zw (Qk (zJ (zB (jp 5) (zg 0))) (zt 2)
 (yh (jo Zj 1 (zd 2))))
 (zK (V9 1)))
def ZR : G End := (zw (j5 1 (yx gNil))
 QY)
def Jn : Fn := zO [] 1 2 false ZR
def Qz : G End := (zK (yx gNil))
def yz : Fn := zO [] 1 0 false Qz
def Qe (c : Nat) : Option Fn := match c with | 12 => some Ql | 13 => some Qm | 14 => some Jn | 15 => some yz | 16 => some yz | 17 => some yz | _ => none
def Zo : G End := (zK (jn jW (gO (zB (jp 6) (zg 0)))))
def j6 : Fn := zO [] 1 0 false Zo
def UO : G End := (zK (yx (gCons (zB (jp 7) (zg 0)) (gCons (zB (jp 8) (zg 0)) gNil))))
def Zp : Fn := zO [] 1 0 false UO
def jH (c : Nat) : Option Fn := match c with | 12 => some yz | 13 => some yz | 14 => some yz | 15 => some j6 | 16 => some j6 | 17 => some Zp | _ => none
def ZZ (R : Nat -> Option Fn) : G End := (zw (Qk (zJ (zR jH (zd 0) gNil)) (zt 2)
 (yi 1 (Qx Jv (zg 1) (gO (zR R (zd 2) gNil)))))
 (zK (jn Zl (zg 1))))
def Y2 (R : Nat -> Option Fn) : G End := (zw (yi 1 (zR Qe (zd 0) gNil))
 (ZZ R))
def je (R : Nat -> Option Fn) : Fn := zO [] 1 2 false (Y2 R)
def YH (R : Nat -> Option Fn) (c : Nat) : Option Fn := match c with | 12 => some (je R) | 13 => some (je R) | 14 => some (je R) | 15 => some (je R) | 16 => some (je R) | 17 => some (je R) | _ => none
def zT : Nat -> Nat -> Option Fn
 | 0 => fun _ => none
 | n + 1 => YH (zT n)
def Wk (R : Nat -> Option Fn) : G End := (zK (zj yH (gO (gC (.int 1))) (gO (zj zdX (gO (zU (zJ (zR jH (zd 0) gNil)) [none] (zt 0) yJ (zR R (zd 0) gNil))) (gO (gC (.int 0)))))))
def jJ (R : Nat -> Option Fn) : Fn := zO [] 1 0 false (Wk R)
def Wl (R : Nat -> Option Fn) (c : Nat) : Option Fn := match c with | 12 => some (jJ R) | 13 => some (jJ R) | 14 => some (jJ R) | 15 => some (jJ R) | 16 => some (jJ R) | 17 => some (jJ R) | _ => none
def jS : Nat -> Nat -> Option Fn
 | 0 => fun _ => none
 | n + 1 => Wl (jS n)
def Z1 (R : Nat -> Option Fn) : G End := (zK (zj yH (gO (gC (.int 1))) (gO (zB YD (gO (zU (zJ (zR jH (zd 0) gNil)) [none] (zt 0) yJ (zR R (zd 0) gNil)))))))
def yT (R : Nat -> Option Fn) : Fn := zO [] 1 0 false (Z1 R)
def Zq (R : Nat -> Option Fn) (c : Nat) : Option Fn := match c with | 12 => some (yT R) | 13 => some (yT R) | 14 => some (yT R) | 15 => some (yT R) | 16 => some (yT R) | 17 => some (yT R) | _ => none
def jh : Nat -> Nat -> Option Fn
 | 0 => fun _ => none
 | n + 1 => Zq (jh n)
def Y3 : G End := (yh (zv zZ (gCons (zj VI (gO (zR (jh 6) (zd 0) gNil)) (gO (gC (.int 12)))) (gCons (gC (.str "a wish has at most twelve parts")) gNil))))
def Y4 : G End := (zw (yh (zv zZ (gCons (zj VI (gO (zR (jS 6) (zd 0) gNil)) (gO (gC (.int 4)))) (gCons (gC (.str "a wish is at most four deep")) gNil))))
 Y3)
def VM : G End := (zw (yh (zv zZ (gCons (zj VI (gO (zB yv (gO (zR (zT 6) (zd 0) gNil)))) (gO (gC (.int 5)))) (gCons (gC (.str "a wish has at most five names in all")) gNil))))
 Y4)
def ya : Fn := zO [] 1 0 false VM
def zfj : G End := (zw (JR 0 8 (zd 2))
 (yh (YE 0 ya)))
def zj2 : G End := (zw (yh (zv zZ (gCons (JP (zv Jm (gCons (zd 1) gNil)) (zv Jm (gCons (zd 2) gNil))) (gCons (gC (.str "what is to come one behind the other are no wishes")) gNil))))
 (zw (JR 0 7 (zd 1))
 zfj))
def Qf : Fn := zO [0] 3 0 false zj2
def Uh : G End := (zK (zB YC (gO (zU (WQ (zd 0)) [none] (zt 0) yJ (Qp ZW ZW (gC (.str "a")) (zd 0) (gC (.str "z")))))))
def Wm : G End := (zw (yQ (QU (j9 (gB (zj Zy (zg 0) (gO (gC (.ty "str")))))) (j9 (gB (Qp VI VI (gC (.int 1)) (zB yv (zg 0)) (gC (.int 8))))))
 (zK (gC (.bl false)))
 yP)
 Uh)
def jK : Fn := zO [] 1 0 false Wm
def Ye : G End := (zK (JP (zB YC (gO (zU (zJ (zd 0)) [none] (zt 0) yJ (zv jK (gCons (zd 0) gNil))))) (zj jL (gO (zB UM (zg 0))) (gO (zB yv (zg 0))))))
def RW : G End := (zw (yQ (j9 (gB (zj Zy (zg 0) (gO (gC (.ty "list"))))))
 (zK (gC (.bl false)))
 yP)
 Ye)
def jv : Fn := zO [] 1 0 false RW
def QZ : G End := (zK (JP (zj Zy (zg 0) (gO (gC (.ty "list")))) (Qp VI VI (gC (.int 1)) (zB yv (zg 0)) (gC (.int 5)))))
def zY : Fn := zO [] 1 0 false QZ
def UP : G End := (zK (JP (zv zY (gCons (zd 0) gNil)) (zv jv (gCons (zd 0) gNil))))
def jE : Fn := zO [] 1 0 false UP
def Vm : G End := (zK (JP (zj Zy (zg 0) (gO (gC (.ty "int")))) (zaO (zj Zy (zg 0) (gO (gC (.ty "bool")))))))
def Qi : Fn := zO [] 1 0 false Vm
def Vn : G End := (zK (JP (zv Qi (gCons (zd 0) gNil)) (Qp VI VI (gC (.int 1)) (zd 0) (zd 1))))
def yX : Fn := zO [] 2 0 false Vn
def Wn : G End := (zw (JR 0 0 (zd 1))
 (JR 0 1 (jn jW (zg 2))))
def zc7 : G End := (zw (yh (zv zZ (gCons (zv yX (gCons (zd 1) (gCons (zB yv (zg 2)) gNil))) (gCons (gC (.str "many is not from 1 to how many names there are")) gNil))))
 Wn)
def zg0 : G End := (zw (yh (zv zZ (gCons (zv jE (gCons (zd 2) gNil)) (gCons (gC (.str "the names are no list of one to five unlike names")) gNil))))
 zc7)
def jl : Fn := zO [0] 3 0 false zg0
def Ui : G End := (zw (yQ (gB (zj VH (zg 1) (gO (zB yv (zg 0)))))
 (zK (zj zF (zg 0) (zg 1)))
 yP)
 (zK (gC (.int 0))))
def jY : Fn := zO [] 2 0 false Ui
def RX : G End := (zK (yx (gCons (zj zdT (gO (gC (.int 0))) (gO (zj Ue (zg 0) (gO (zj V7 (gO (gC (.int 10))) (gO (gC (.int 18)))))))) (gCons (zj Vb (zg 0) (gO (gC (.int 2147483647)))) (gCons (gC (.int 0)) gNil)))))
def Zr : Fn := zO [] 1 0 true RX
def Vo : G End := (zw (UK 0 (gC (.int 0)) (zj YF (gO (zj zF (zg 0) (gO (gC (.int 0))))) (zg 1)))
 (zK (zd 2)))
def Vp : G End := (zK (zj Vb (gO (zj YF (zg 3) (gO (gC (.int 7))))) (zg 1)))
def Vq : G End := (zw (yi 3 (zj Vb (gO (zj V6 (zg 3) (gO (zj yH (gO (zj YF (zg 3) (gO (gC (.int 2003))))) (gO (gC (.int 40692))))))) (gO (gC (.int 2147483399)))))
 Vp)
def Vr : G End := (zw (yi 3 (zj Vb (gO (zj V6 (zg 3) (gO (zj yH (gO (zj YF (zg 3) (gO (gC (.int 1009))))) (gO (gC (.int 69621))))))) (gO (gC (.int 2147483647)))))
 Vq)
def Vs : G End := (zw (yi 3 (zj Vb (gO (zj V6 (gO (zj yH (gO (zj yH (gO (zj zF (zg 0) (gO (gC (.int 1))))) (gO (zj V6 (gO (gC (.int 7919))) (gO (zj zF (zg 0) (gO (gC (.int 2))))))))) (gO (gC (.int 1))))) (gO (gC (.int 48271))))) (gO (gC (.int 2147483647)))))
 Vr)
def Vt : G End := (zw (UK 0 (gC (.int 2)) (zj yH (gO (zj zF (zg 0) (gO (gC (.int 2))))) (gO (gC (.int 1)))))
 Vs)
def RY : G End := (zw (yQ (gB (zj Rj (gO (zj zF (zg 0) (gO (gC (.int 0))))) (gO (gC (.int 0)))))
 (zw (yi 2 (zj Vb (gO (zj zF (zg 0) (gO (gC (.int 0))))) (zg 1)))
 Vo)
  yP)
 Vt)
def zr : Fn := zO [0] 2 2 false RY
def Vu : G End := (zK (zj zaN (zg 3) (gO (zaZ (gC (.str "")) (gO (zU (jd (gCons (zu 0 zr (gCons (gC (.int 8)) gNil)) gNil)) [none, some 2, some 0] (zt 0) yJ (zj zF (zg 1) (gO (zu 2 zr (gCons (gC (.int 26)) gNil))))))))))
def Vv : G End := (zw (yi 3 (zj zF (zg 2) (gO (zj yH (gO (zj V6 (gO (gC (.int 2))) (zg 1))) (gO (zu 0 zr (gCons (gC (.int 2)) gNil)))))))
 Vu)
def RZ : G End := (zw (yi 2 (gC (.str "abcdefghijklmnopqrstuvwxyz")))
 Vv)
def QA : Fn := zO [0] 2 2 false RZ
def Uj : G End := (yh (jo j3 3 (jo Zk 2 (zu 0 zr (gCons (zB yv (zg 2)) gNil)))))
def Uk : G End := (zw (Qk (jd (gCons (zd 1) gNil)) (zt 4)
 Uj)
 (zK (V9 3)))
def Ul : G End := (zw (yQ (gB (zj jL (gO (zu 0 zr (gCons (gC (.int 2)) gNil))) (gO (gC (.int 0)))))
 (j5 2 (zU (jd (gCons (zd 1) gNil)) [none, some 0] (zt 0) yJ (zu 1 QA (gCons (zd 0) gNil))))
 yP)
 (zw (j5 3 (yx gNil))
 Uk))
def Wo : G End := (zw (j5 2 (yx (zdU ["a", "ab", "abc", "b", "ba", "z", "zzzzzzzz", "aa", "c", "count", "y", "counts"])))
 Ul)
def QH : Fn := zO [0] 2 3 false Wo
def Rr : G End := (zK (JP (zv jK (gCons (zj zF (zg 0) (gO (gC (.int 0)))) gNil)) (zv yX (gCons (zj zF (zg 0) (gO (gC (.int 1)))) (gCons (gC (.int 1000000000)) gNil)))))
def zc8 : G End := (zw (yQ (QU (j9 (gB (zj Zy (zg 0) (gO (gC (.ty "tuple")))))) (gB (zj V8 (gO (zB yv (zg 0))) (gO (gC (.int 2))))))
 (zK (gC (.bl false)))
 yP)
 Rr)
def ZS : Fn := zO [] 1 0 false zc8
def Wp : G End := (zw (JR 0 2 (zd 1))
 (JR 0 3 (jn jW (zg 2))))
def zc9 : G End := (zw (yh (zv zZ (gCons (zv yX (gCons (zd 1) (gCons (zB YD (gO (zU (zJ (zd 2)) [none] (zt 0) yJ (zj zF (zg 0) (gO (gC (.int 1))))))) gNil))) (gCons (gC (.str "least is not from 1 to the sum of the weights")) gNil))))
 Wp)
def zc_ : G End := (zw (yh (zv zZ (gCons (zv jv (gCons (zU (zJ (zd 2)) [none] (zt 0) yJ (zj zF (zg 0) (gO (gC (.int 0))))) gNil)) (gCons (gC (.str "a name stands twice among the pairs")) gNil))))
 zc9)
def zda : G End := (zw (yh (zv zZ (gCons (zB YC (gO (zU (zJ (zd 2)) [none] (zt 0) yJ (zv ZS (gCons (zd 0) gNil))))) (gCons (gC (.str "a pair is no tuple of a name and a weight")) gNil))))
 zc_)
def zg1 : G End := (zw (yh (zv zZ (gCons (zv zY (gCons (zd 2) gNil)) (gCons (gC (.str "the pairs are no list of one to five")) gNil))))
 zda)
def Yq : Fn := zO [0] 3 0 false zg1
def za3 : G End := (zw (JR 0 5 (zU (zJ (zd 3)) [none] (zt 0) yJ (jn jW (zg 0))))
 (yh (YE 0 ya)))
def za4 : G End := (zw (JR 0 0 (zd 1))
 (zw (JR 0 4 (zd 2))
 za3))
def za5 : G End := (zw (yh (zv zZ (gCons (zv yX (gCons (zd 2) (gCons (zB WT (gO (zU (zJ (zd 3)) [none] (zt 0) yJ (zB yv (zg 0))))) gNil))) (gCons (gC (.str "each is not from 1 to the smallest house")) gNil))))
 za4)
def za6 : G End := (zw (yh (zv zZ (gCons (zv yX (gCons (zd 1) (gCons (zB yv (zg 3)) gNil))) (gCons (gC (.str "many is not from 1 to how many houses there are")) gNil))))
 za5)
def za7 : G End := (zw (yh (zv zZ (gCons (zB YC (gO (zU (zJ (zd 3)) [none] (zt 0) yJ (zv jE (gCons (zd 0) gNil))))) (gCons (gC (.str "a house is no list of one to five unlike names")) gNil))))
 za6)
def zfk : G End := (zw (yh (zv zZ (gCons (zv zY (gCons (zd 3) gNil)) (gCons (gC (.str "the houses are no list of one to five")) gNil))))
 za7)
def Zs : Fn := zO [0] 4 0 false zfk
def Z2 : G End := (yh (zv zZ (gCons (zB YC (gO (zU (zJ (zd 0)) [none] (zt 0) yJ (zv Jm (gCons (zd 0) gNil))))) (gCons (gC (.str "what stands among the wishes is none")) gNil))))
def Y5 : G End := (zw (yh (zv zZ (gCons (zv zY (gCons (zd 0) gNil)) (gCons (gC (.str "the wishes are no list of one to five")) gNil))))
 Z2)
def jM : Fn := zO [] 1 0 false Y5
def R6 : G End := (zw (JR 0 6 (jn jW (zg 1)))
 (yh (YE 0 ya)))
def zfl : G End := (zw (yh (zv jM (gCons (zd 1) gNil)))
 R6)
def J1 : Fn := zO [0] 2 0 false zfl
def za8 (R : Fn) : G End := (zw (yQ (gB (zj jL (gO (zj zF (zg 0) (gO (gC (.int 0))))) (gO (gC (.str "both")))))
 (zK (jG 15 J1 (gCons (zd 1) gNil)))
 yP)
 (zK (jG 16 J1 (gCons (zd 1) gNil))))
def za9 (R : Fn) : G End := (zw (yi 1 (zU (zJ (zj zF (zg 0) (gO (gC (.int 1))))) [none] (zt 0) yJ (zv R (gCons (zd 0) gNil))))
 (za8 R))
def za_ (R : Fn) : G End := (zw (yQ (gB (zj jL (gO (zj zF (zg 0) (gO (gC (.int 0))))) (gO (gC (.str "then")))))
 (zK (jG 17 Qf (gCons (zv R (gCons (zj zF (zg 0) (gO (gC (.int 1)))) gNil)) (gCons (zv R (gCons (zj zF (zg 0) (gO (gC (.int 2)))) gNil)) gNil))))
 yP)
 (za9 R))
def zba (R : Fn) : G End := (zw (yQ (gB (zj jL (gO (zj zF (zg 0) (gO (gC (.int 0))))) (gO (gC (.str "houses")))))
 (zK (jG 14 Zs (gCons (zj zF (zg 0) (gO (gC (.int 1)))) (gCons (zj zF (zg 0) (gO (gC (.int 2)))) (gCons (zU (zJ (zj zF (zg 0) (gO (gC (.int 3))))) [none] (zt 0) yJ (jn jW (zg 0))) gNil)))))
 yP)
 (za_ R))
def zbb (R : Fn) : G End := (zw (yQ (gB (zj jL (gO (zj zF (zg 0) (gO (gC (.int 0))))) (gO (gC (.str "weigh")))))
 (zK (jG 13 Yq (gCons (zj zF (zg 0) (gO (gC (.int 1)))) (gCons (jn jW (gO (zj zF (zg 0) (gO (gC (.int 2)))))) gNil))))
 yP)
 (zba R))
def Vw (R : Fn) : G End := (zw (yQ (gB (zj jL (gO (zj zF (zg 0) (gO (gC (.int 0))))) (gO (gC (.str "count")))))
 (zK (jG 12 jl (gCons (zj zF (zg 0) (gO (gC (.int 1)))) (gCons (jn jW (gO (zj zF (zg 0) (gO (gC (.int 2)))))) gNil))))
 yP)
 (zbb R))
def jT : Nat -> Fn
 | 0 => noF
 | n + 1 => zO [] 1 1 false (Vw (jT n))
def Vx : G End := (yh (jo j3 3 (jo Zk 2 (zu 0 zr (gCons (zB yv (zg 2)) gNil)))))
def Vy : G End := (zw (Qk (jd (gCons (zj yH (gO (gC (.int 1))) (gO (zu 0 zr (gCons (zB yv (zg 1)) gNil)))) gNil)) (zt 4)
 Vx)
 (zK (V9 3)))
def R7 : G End := (zw (j5 2 (jn jW (zg 1)))
 (zw (j5 3 (yx gNil))
 Vy))
def jU : Fn := zO [0] 2 3 false R7
def ZD : G End := (zK (gTup (gCons (gC (.str "count")) (gCons (zj yH (gO (gC (.int 1))) (gO (zu 0 zr (gCons (zB yv (zg 3)) gNil)))) (gCons (zd 3) gNil)))))
def ZE : G End := (zK (gTup (gCons (gC (.str "weigh")) (gCons (zj yH (gO (gC (.int 1))) (gO (zu 0 zr (gCons (zB YD (gO (zU (zJ (zd 5)) [none, none] (YU (Qc (zt 0) (Qc (zt 1) Vd)) 2) yJ (zd 1)))) gNil)))) (gCons (zd 5) gNil)))))
def Um : G End := (zw (yi 5 (zU (zJ (zu 0 jU (gCons (zd 1) gNil))) [none, some 0, some 4] (zt 0) yJ (gTup (gCons (zd 0) (gCons (zj yH (gO (gC (.int 1))) (gO (zu 1 zr (gCons (zd 2) gNil)))) gNil)))))
 ZE)
def ZF : G End := (zK (gTup (gCons (gC (.str "houses")) (gCons (zj yH (gO (gC (.int 1))) (gO (zu 0 zr (gCons (zB yv (zg 6)) gNil)))) (gCons (zd 7) (gCons (zd 6) gNil))))))
def Uo : G End := (zw (yi 7 (zj yH (gO (gC (.int 1))) (gO (zu 0 zr (gCons (zB WT (gO (zU (zJ (zd 6)) [none] (zt 0) yJ (zB yv (zg 0))))) gNil)))))
 ZF)
def Up : G End := (zw (yi 6 (zU (jd (gCons (zj yH (gO (gC (.int 1))) (gO (zu 0 zr (gCons (zj zF (gO (yx (gCons (gC (.int 2)) (gCons (gC (.int 4)) (gCons (gC (.int 5)) gNil))))) (gO (zu 0 zr (gCons (gC (.int 3)) gNil)))) gNil)))) gNil)) [none, some 0, some 1] (zt 0) yJ (zu 1 jU (gCons (zd 2) gNil))))
 Uo)
def Rs : G End := (zw (yQ (gB (zj jL (zg 2) (gO (gC (.int 1)))))
 (zw (yi 4 (zj zF (gO (yx (gCons (gC (.int 3)) (gCons (gC (.int 3)) (gCons (zj V7 (gO (gC (.int 10))) (gO (gC (.int 9)))) gNil))))) (gO (zu 0 zr (gCons (gC (.int 3)) gNil)))))
 Um)
  yP)
 Up)
def Rt : G End := (zw (yQ (gB (zj jL (zg 2) (gO (gC (.int 0)))))
 (zw (yi 3 (zu 0 jU (gCons (zd 1) gNil)))
 ZD)
  yP)
 Rs)
def zdb : G End := (zw (yi 2 (zu 0 zr (gCons (gC (.int 3)) gNil)))
 Rt)
def ZT : Fn := zO [0] 2 6 false zdb
def zbc (R : Fn) : G End := (zK (gTup (gCons (zd 4) (gCons (zU (jd (gCons (zd 5) gNil)) [none, some 0, some 1, some 2] (zt 0) yJ (zu 1 R (gCons (zd 2) (gCons (zj Ue (zg 3) (gO (gC (.int 1)))) gNil)))) gNil))))
def zbd (R : Fn) : G End := (zw (yQ (gB (zj Rj (zg 2) (gO (gC (.int 2)))))
 (yi 5 (zj yH (gO (gC (.int 1))) (gO (zB zeK (gO (JP (zj jL (zg 2) (gO (gC (.int 3)))) (zj Rj (zg 5) (gO (gC (.int 1))))))))))
 yP)
 (zbc R))
def zbe (R : Fn) : G End := (zw (yi 5 (zj zF (gO (yx (gCons (gC (.int 2)) (gCons (gC (.int 4)) (gCons (gC (.int 3)) (gCons (gC (.int 1)) gNil)))))) (gO (zu 0 zr (gCons (gC (.int 4)) gNil)))))
 (zbd R))
def zbf (R : Fn) : G End := (zK (gTup (gCons (gC (.str "then")) (gCons (zd 6) (gCons (zu 0 R (gCons (zd 1) (gCons (zj Ue (zg 2) (gO (gC (.int 1)))) gNil))) gNil)))))
def zbg (R : Fn) : G End := (zw (yi 6 (zu 0 R (gCons (zd 1) (gCons (zj Ue (zg 2) (gO (gC (.int 1)))) gNil))))
 (zbf R))
def zbh (R : Fn) : G End := (zw (yQ (QU (gB (zj VH (zg 3) (gO (gC (.int 5))))) (gB (zj jL (zg 2) (gO (gC (.int 4))))))
 (zw (yi 4 (zj zF (gO (yx (gCons (gC (.str "both")) (gCons (gC (.str "either")) gNil)))) (gO (zu 0 zr (gCons (gC (.int 2)) gNil)))))
 (zbe R))
  yP)
 (zbg R))
def zbi (R : Fn) : G End := (zw (yQ (QU (gB (zj jL (zg 2) (gO (gC (.int 1))))) (QT (gB (zj VH (zg 3) (gO (gC (.int 2))))) (gB (zj VH (zg 2) (gO (gC (.int 4)))))))
 (zK (zu 0 ZT (gCons (zd 1) gNil)))
 yP)
 (zbh R))
def YI (R : Fn) : G End := (zw (yi 3 (zu 0 zr (gCons (gC (.int 8)) gNil)))
 (zbi R))
def Js : Nat -> Fn
 | 0 => noF
 | n + 1 => zO [0] 3 4 false (YI (Js n))
def Wq : G End := (yh (jo j3 3 (jo Zk 2 (zu 0 zr (gCons (zB yv (zg 2)) gNil)))))
def Wr : G End := (zw (Qk (jd (gCons (zu 0 zr (gCons (zj yH (gO (zB yv (zg 1))) (gO (gC (.int 1)))) gNil)) gNil)) (zt 4)
 Wq)
 (zK (V9 3)))
def zcm : G End := (zw (j5 2 (jn jW (zg 1)))
 (zw (j5 3 (yx gNil))
 Wr))
def Yr : Fn := zO [0] 2 3 false zcm
def UQ : G End := (zK (zj hGe (gO (zB yv (gO (zU (zJ (zB (jp 1) (zg 0))) [none, some 1] (zt 0) (gB (zj (JJ false) (zg 0) (zg 1))) (zd 0))))) (gO (zB (jp 0) (zg 0)))))
def Zt : Fn := zO [] 2 0 false UQ
def UR : G End := (zK (zj hGe (gO (zB YD (gO (zU (zJ (zB (jp 3) (zg 0))) [none, some 1] (zt 0) (gB (zj (JJ false) (gO (zj zF (zg 0) (gO (gC (.int 0))))) (zg 1))) (zj zF (zg 0) (gO (gC (.int 1)))))))) (gO (zB (jp 2) (zg 0)))))
def Zu : Fn := zO [] 2 0 false UR
def QI : G End := (zK (zj hGe (gO (zB yv (gO (zU (zJ (zd 1)) [none, some 2] (zt 0) (gB (zj (JJ false) (zg 0) (zg 1))) (zd 0))))) (gO (zB (jp 4) (zg 0)))))
def jN : Fn := zO [] 3 0 false QI
def jO (c : Nat) : Option Fn := match c with | 14 => some jN | _ => none
def Y6 : G End := (zK (zj hGe (gO (zB yv (gO (zU (zJ (zB (jp 5) (zg 0))) [none, some 1, some 0] (zt 0) (gB (zR jO (zd 2) (gCons (zd 0) (gCons (zd 1) gNil)))) (zd 0))))) (gO (zB (jp 0) (zg 0)))))
def Q0 : Fn := zO [] 2 0 false Y6
def QJ (c : Nat) : Option Fn := match c with | 12 => some Zt | 13 => some Zu | 14 => some Q0 | _ => none
def jj : G End := (yQ (gB (zR QJ (zd 0) (gCons (Ja (zg 1) yY (jg (zd 2))) gNil)))
 (zK (zd 2))
 yP)
def US : G End := (zw (Qk (JQ (gCons (gC (.int 1)) (gCons (zj yH (gO (zB yv (zg 1))) (gO (gC (.int 1)))) gNil))) (zt 2)
 jj)
 (zK (gC .non)))
def jF : Fn := zO [] 2 1 false US
def JV : G End := (zK (zv jF (gCons (zd 0) (gCons (zd 1) gNil))))
def jk : Fn := zO [] 2 0 false JV
def Z3 (R : Nat -> Option Fn) : G End := (zK (gIf (gB (zj zb_ (zg 3) (gO (gC .non)))) (gC .non) (zj yH (zg 2) (zg 3))))
def Z4 (R : Nat -> Option Fn) : G End := (zw (yi 3 (zR R (zB (jp 8) (zg 0)) (gCons (Ja (zg 1) (jg (zd 2)) yY) gNil)))
 (Z3 R))
def Z5 (R : Nat -> Option Fn) : G End := (zw (yQ (gB (zj zb_ (zg 2) (gO (gC .non))))
 (zK (gC .non))
 yP)
 (Z4 R))
def Y7 (R : Nat -> Option Fn) : G End := (zw (yi 2 (zR R (zB (jp 7) (zg 0)) (gCons (zd 1) gNil)))
 (Z5 R))
def Q2 (R : Nat -> Option Fn) : Fn := zO [] 2 2 false (Y7 R)
def Q8 (R : Nat -> Option Fn) : G End := (zK (zj zid (gO (zU (zJ (zd 2)) [none] (zt 0) (gB (zj YT (zg 0) (gO (gC .non)))) (zd 0))) (gO (gC .non))))
def Z6 (R : Nat -> Option Fn) : G End := (zw (yi 2 (zU (zJ (zB (jp 6) (zg 0))) [none, some 1] (zt 0) yJ (zR R (zd 0) (gCons (zd 1) gNil))))
 (Q8 R))
def Qn (R : Nat -> Option Fn) : Fn := zO [] 2 1 false (Z6 R)
def Z7 (R : Nat -> Option Fn) : G End := (zK (gIf (gB (zj (JJ false) (gO (gC .non)) (zg 2))) (gC .non) (zB WS (zg 2))))
def Y8 (R : Nat -> Option Fn) : G End := (zw (yi 2 (zU (zJ (zB (jp 6) (zg 0))) [none, some 1] (zt 0) yJ (zR R (zd 0) (gCons (zd 1) gNil))))
 (Z7 R))
def Q3 (R : Nat -> Option Fn) : Fn := zO [] 2 1 false (Y8 R)
def YJ (R : Nat -> Option Fn) (c : Nat) : Option Fn := match c with | 12 => some jk | 13 => some jk | 14 => some jk | 15 => some (Q3 R) | 16 => some (Qn R) | 17 => some (Q2 R) | _ => none
def yI : Nat -> Nat -> Option Fn
 | 0 => fun _ => none
 | n + 1 => YJ (yI n)
def Ws : G End := (zK (zR (yI 6) (zd 0) (gCons (zd 1) gNil)))
def zbj : G End := (zw (yQ (j9 (gB (zv jv (gCons (zd 1) gNil))))
 zeO
 yP)
 Ws)
def JW : Fn := zO [] 2 0 false zbj
def zg2 : G End := (zK (zj YT (gO (zv JW (gCons (zd 0) (gCons (zd 1) gNil)))) (gO (gC .non))))
def yo : Fn := zO [] 2 0 false zg2
def zbk : G End := (yQ (QT (gB (zj (JJ true) (zg 4) (zg 2))) (QT (gB (zv yo (gCons (zd 1) (gCons (zd 2) gNil)))) (j9 (gB (zv yo (gCons (zd 1) (gCons (Qx Jv (gO (Qx Jv (gO (Ja (zg 2) yY (jg (zd 5)))) (gO (yx (gCons (zd 4) gNil))))) (gO (Ja (zg 2) (jg (zd 5)) yY))) gNil)))))))
 (zK (gC (.bl false)))
 yP)
def Yf : G End := (zw (yi 5 (zu 0 zr (gCons (zj yH (gO (zB yv (zg 2))) (gO (gC (.int 1)))) gNil)))
 zbk)
def zfm : G End := (zw (Qk (zJ (zd 3)) (zt 4)
 Yf)
 (zK (gC (.bl true))))
def QB : Fn := zO [0] 4 2 false zfm
def Ru : G End := (zK (zcc (zj zb_ (zg 3) (gO (gC .non))) (zj jL (gO (zB Zn (zg 2))) (zg 3))))
def Uq : G End := (zw (yQ (gB (zj V8 (gO (zj YT (zg 3) (gO (gC .non)))) (gO (zj zF (zg 2) (gO (zB zeJ (gO (gC (.int 1)))))))))
 (zK (gC (.bl false)))
 yP)
 Ru)
def Rv : G End := (zw (yi 3 (zv JW (gCons (zd 0) (gCons (zd 1) gNil))))
 Uq)
def Rw : G End := (zw (yQ (QU (RO (gO (zj zF (zg 2) (gO (gC (.int 0)))))) (gB (zj (zca true) (gO (jn YG (zg 2))) (zg 2))))
 (zK (gC (.bl false)))
 yP)
 Rv)
def zdc : G End := (zw (yi 2 (zU (jd (gCons (zj yH (gO (zB yv (zg 1))) (gO (gC (.int 1)))) gNil)) [none, some 0, some 1] (zt 0) yJ (zv yo (gCons (zd 1) (gCons (Ja (zg 2) yY (jg (zd 0))) gNil)))))
 Rw)
def QK : Fn := zO [] 2 2 false zdc
def Rx : G End := (yQ (QT (gB (zj jL (gO (zR (jS 6) (zd 6) gNil)) (gO (gC (.int 1))))) (gB (zj V8 (gO (zv yo (gCons (zd 6) (gCons (jn zlG (zg 7)) gNil)))) (zg 8))))
 (zK (gC (.bl false)))
 yP)
def Ry : G End := (zw (yQ (gB (zj V8 (gO (zv yo (gCons (zd 6) (gCons (zU (zJ (zd 7)) [none, some 6] (zt 0) (gB (zj (JJ false) (zg 0) (gO (zR (zT 6) (zd 1) gNil)))) (zd 0)) gNil)))) (zg 8)))
 (zK (gC (.bl false)))
 yP)
 Rx)
def Ur : G End := (zw (yQ (QU (gB (zv yo (gCons (zd 1) (gCons (yx (gCons (gC (.str "b")) (gCons (gC (.str "a")) gNil))) gNil)))) (QU (j9 (gB (zv yo (gCons (zd 1) (gCons (yx (gCons (gC (.str "a")) (gCons (gC (.str "b")) gNil))) gNil))))) (gB (zj V8 (gO (zv yo (gCons (zd 6) (gCons (zd 7) gNil)))) (zg 8)))))
 (zK (gC (.bl false)))
 yP)
 Ry)
def Rz : G End := (zw (yi 8 (zv yo (gCons (zd 6) (gCons (zd 7) gNil))))
 Ur)
def Us : G End := (zw (yQ (QU (j9 (gB (zv QK (gCons (zd 6) (gCons (zd 7) gNil))))) (j9 (gB (zu 3 QB (gCons (zd 6) (gCons (zd 7) (gCons (zd 4) gNil)))))))
 (zK (gC (.bl false)))
 yP)
 Rz)
def RA : G End := (zw (yi 7 (zu 3 Yr (gCons (zd 4) gNil)))
 Us)
def RB : G End := (zw (yi 6 (zv (jT 6) (gCons (zu 3 (Js 6) (gCons (Ja (zg 4) yY (jg (zj yH (gO (gC (.int 1))) (gO (zu 3 zr (gCons (gC (.int 5)) gNil)))))) (gCons (zd 5) gNil))) gNil)))
 RA)
def RC : G End := (zw (yi 5 (zj yH (gO (gC (.int 1))) (gO (zu 3 zr (gCons (gC (.int 4)) gNil)))))
 RB)
def RD : G End := (zw (yi 4 (zu 3 QH (gCons (gC (.int 8)) gNil)))
 RC)
def Q4 : G End := (zw (j5 3 (zv Zr (gCons (zd 2) gNil)))
 RD)
def Wt : G End := (zw (Qk (zJ (Qx Jv (gO (yx (gCons (zv jY (gCons (zd 0) (gCons (gC (.int 0)) gNil))) gNil))) (gO (Ja (zg 0) (jg (gC (.int 1))) (jg (gC (.int 5))))))) (zt 2)
 Q4)
 (zK (gC (.bl true))))
def zdd : G End := (zw (yi 1 (jG 17 Qf (gCons (jG 12 jl (gCons (gC (.int 1)) (gCons (yx (gCons (gC (.str "a")) gNil)) gNil))) (gCons (jG 12 jl (gCons (gC (.int 1)) (gCons (yx (gCons (gC (.str "b")) gNil)) gNil))) gNil))))
 Wt)
def zde : Fn := zO [] 1 8 false zdd
theorem zfn : Ji ρ none s = ρ := by cases s <;> rfl
theorem zbl : Ji ρ (some j) (.own o) = Qb ρ j o := rfl
theorem zbm : Ji ρ x (.val d) = ρ := by cases x <;> rfl
theorem zdf : Ji ρ x .no = ρ := by cases x <;> rfl
theorem zbn : ye [] ρb ρ = ρ := rfl
theorem RE : ye (x :: js) (s :: ρb) ρ = ye js ρb (Ji ρ x s) := rfl
local macro_rules | `(tactic| walk_at "gs") => `(tactic| simp only [zO, eq_self, zw, yQ, yi, j5, zK, yh, yP, gC, zd, V9, zg, gO, zj, zB, Qx, jn, gCons, gNil, zdU, yx, gTup, gB, j9, QT, QU, JP, zcc, zaO, gIf, Qp, RO, zh0, zhU, UK, JR, zt, Vd, Qc, YU, Qk, jd, JQ, zJ, WQ, itL, itS, zv, zu, jG, jo, yY, zR, RE, zbn, zfn, zbl, zbm, zdf, Qb, YE, Vj, zaZ, YF, jg, Ja, yJ, zC, zgz, zgA, yR, zeQ, zgB, zgC, zgD, zgE, zgF, zgG, zeR, zeS, zeT, zeU, zh6, zmP, zcV, zcW, Vg, zcX, zcY, zeV, zgH, zeW, YW, zeX, zgI, zce, zgJ, RQ, zjC, Option.bind_some, Option.map_some, Option.bind_none, Option.map_none, yH, Ue, V6, Vb, V7, VH, VI, Rj, hGe, zdT, Q7, hI, zeJ, jL, V8, Rh, zb_, YT, zgM, zgN, zgO, zgP, zgQ, zgR, zgS, zaN, yv, Jv, jW, zeK, jp, Vc, Yx, ix0, ix1, ix2, ix3, ix4, ix5, ix6, ix7, it0, it1, it2, it3, it4, it5, it6, it7, Zy, Qt, Yy, zlm, List.cons_append, List.nil_append, List.append_nil, List.replicate, List.map_cons, List.map_nil, List.getElem?_cons_zero, List.getElem?_cons_succ, List.set_cons_zero, List.set_cons_succ, List.length_cons, List.length_nil, Nat.reduceAdd, Nat.reduceSub, Nat.reduceLeDiff, Nat.reduceEqDiff, Nat.reduceLT, Nat.zero_add, if_true, if_false, reduceIte, Bool.false_eq_true, Bool.not_true, Bool.not_false, true_and, and_true, and_self, reduceCtorEq, Int.reduceToNat, List.getD_cons_zero, List.getD_cons_succ, Int.reduceLE, Int.reduceLT, Int.reduceNeg, Int.reduceEq, decide_true, decide_false, Bool.true_and, Bool.false_and, Bool.and_true, Bool.and_false, Bool.or_true, Bool.true_or, Bool.or_false, Bool.false_or, List.contains_cons, List.contains_nil, Nat.reduceBEq, String.reduceBEq, Wc, String.reduceEq, List.isEmpty_cons, List.isEmpty_nil, beq_self_eq_true, Int.cast_ofNat_Int])
local macro_rules | `(tactic| walk_at "gsa") => `(tactic| simp only [zO, eq_self, zw, yQ, yi, j5, zK, yh, yP, gC, zd, V9, zg, gO, zj, zB, Qx, jn, gCons, gNil, zdU, yx, gTup, gB, j9, QT, QU, JP, zcc, zaO, gIf, Qp, RO, zh0, zhU, UK, JR, zt, Vd, Qc, YU, Qk, jd, JQ, zJ, WQ, itL, itS, zv, zu, jG, jo, yY, zR, RE, zbn, zfn, zbl, zbm, zdf, Qb, YE, Vj, zaZ, YF, jg, Ja, yJ, zC, zgz, zgA, yR, zeQ, zgB, zgC, zgD, zgE, zgF, zgG, zeR, zeS, zeT, zeU, zh6, zmP, zcV, zcW, Vg, zcX, zcY, zeV, zgH, zeW, YW, zeX, zgI, zce, zgJ, RQ, zjC, Option.bind_some, Option.map_some, Option.bind_none, Option.map_none, yH, Ue, V6, Vb, V7, VH, VI, Rj, hGe, zdT, Q7, hI, zeJ, jL, V8, Rh, zb_, YT, zgM, zgN, zgO, zgP, zgQ, zgR, zgS, zaN, yv, Jv, jW, zeK, jp, Vc, Yx, ix0, ix1, ix2, ix3, ix4, ix5, ix6, ix7, it0, it1, it2, it3, it4, it5, it6, it7, Zy, Qt, Yy, zlm, List.cons_append, List.nil_append, List.append_nil, List.replicate, List.map_cons, List.map_nil, List.getElem?_cons_zero, List.getElem?_cons_succ, List.set_cons_zero, List.set_cons_succ, List.length_cons, List.length_nil, Nat.reduceAdd, Nat.reduceSub, Nat.reduceLeDiff, Nat.reduceEqDiff, Nat.reduceLT, Nat.zero_add, if_true, if_false, reduceIte, Bool.false_eq_true, Bool.not_true, Bool.not_false, true_and, and_true, and_self, reduceCtorEq, Int.reduceToNat, List.getD_cons_zero, List.getD_cons_succ, Int.reduceLE, Int.reduceLT, Int.reduceNeg, Int.reduceEq, decide_true, decide_false, Bool.true_and, Bool.false_and, Bool.and_true, Bool.and_false, Bool.or_true, Bool.true_or, Bool.or_false, Bool.false_or, List.contains_cons, List.contains_nil, Nat.reduceBEq, String.reduceBEq, Wc, String.reduceEq, List.isEmpty_cons, List.isEmpty_nil, beq_self_eq_true, Int.cast_ofNat_Int, *])
inductive All2 {α β : Type} (P : α -> β -> Prop) : List α -> List β -> Prop where
 | nil : All2 P [] []
 | cons {a b l m} (h : P a b) (r : All2 P l m) : All2 P (a :: l) (b :: m)
theorem All2.len {α β : Type} {P : α -> β -> Prop} {l : List α} {m : List β} (h : All2 P l m) : m.length = l.length := by
 induction h with
 | nil => rfl
 | cons _ _ ih => simp [ih]
theorem zdg {g : D -> Env -> Option Env} (I : Env -> Prop) (P : D -> D -> Prop) (hs : ∀ d ρ, I ρ -> ∃ ρ1 y ρ2, g d ρ = some ρ1 /\ e ρ1 = .ok y ρ2 /\ P d y /\ I ρ2) :
 ∀ (ds : List D) (ρ : Env), I ρ -> ∃ ys ρ', z9 g yJ e ds ρ = .ok ys ρ' /\ I ρ' /\ All2 P ds ys
 | [], ρ, h => ⟨[], ρ, rfl, h, .nil⟩
 | d :: r, ρ, h => by
  obtain ⟨ρ1, y, ρ2, e1, e2, hp, h2⟩ := hs d ρ h
  obtain ⟨ys, ρ', e3, h3, h4⟩ := zdg I P hs r ρ2 h2
  refine ⟨y :: ys, ρ', ?_, h3, .cons hp h4⟩
  unfold z9
  rw [e1, yR, zC]
  show (O.bind (.ok true ρ1) _) = _
  rw [zC, if_pos rfl, e2, zC, e3, zC]
theorem R8 {g : D -> Env -> Option Env} (I : Env -> Prop) (f : D -> D) (P : D -> Prop) (hs : ∀ d ρ, P d -> I ρ -> ∃ ρ1 ρ2, g d ρ = some ρ1 /\ e ρ1 = .ok (f d) ρ2 /\ I ρ2) :
 ∀ (ds : List D) (ρ : Env), (∀ d ∈ ds, P d) -> I ρ -> ∃ ρ', z9 g yJ e ds ρ = .ok (ds.map f) ρ' /\ I ρ'
 | [], ρ, _, h => ⟨ρ, rfl, h⟩
 | d :: r, ρ, hd, h => by
  obtain ⟨ρ1, ρ2, e1, e2, h2⟩ := hs d ρ (hd d ao) h
  obtain ⟨ρ', e3, h3⟩ := R8 I f P hs r ρ2 (fun x hx => hd x (af _ hx)) h2
  refine ⟨ρ', ?_, h3⟩
  unfold z9
  rw [e1, yR, zC]
  show (O.bind (.ok true ρ1) _) = _
  rw [zC, if_pos rfl, e2, zC, e3, zC]; rfl
theorem jw {g : D -> Env -> Option Env} (h1 : g d ρ = some ρ1) (h2 : e ρ1 = .ok y ρ2) (h3 : z9 g yJ e r ρ2 = .ok ys ρ3) : z9 g yJ e (d :: r) ρ = .ok (y :: ys) ρ3 := by
 unfold z9
 rw [h1, yR, zC]
 show (O.bind (.ok true ρ1) _) = _
 rw [zC, if_pos rfl, h2, zC, h3, zC]
theorem YK {g : D -> Env -> Option Env} (h1 : g d ρ = some ρ1) (hc : c ρ1 = .ok b ρ1) (h2 : e ρ1 = .ok y ρ1) (h3 : z9 g c e r ρ1 = .ok ys ρ2) : z9 g c e (d :: r) ρ = .ok (if b = true then y :: ys else ys) ρ2 := by
 unfold z9
 rw [h1, yR, zC, hc, zC]
 cases b with
 | true => rw [if_pos rfl, if_pos rfl, h2, zC, h3, zC]
 | false => rw [if_neg ah, if_neg ah, h3]
theorem WU {g : D -> Env -> Option Env} (h1 : g d ρ = some ρ1) (h2 : b ρ1 = .ok .nx ρ2) : Jf g b (d :: r) ρ = Jf g b r ρ2 := by
 have e : Jf g b (d :: r) ρ = (jr (g d ρ) ρ).bind fun ρ1 _ => YV (b ρ1) (Jf g b r) := rfl
 rw [e, h1, yR, zC, h2]; rfl
theorem ji : (yB lo n).length = n := by simp [yB]
theorem zii (h : d ∈ yB lo n) : ∃ i : Nat, i < n /\ d = .int (lo + i) := by
 unfold yB at h
 obtain ⟨i, hi, e⟩ := aE.mp h
 exact ⟨i, bm.mp hi, e.symm⟩
theorem WV (a : Str) : a.length = a.cps.toList.length := by simp [Str.length]
theorem zn8 (a b : Str) : (a ++ b).cps.toList = a.cps.toList ++ b.cps.toList := by
 show (a.cps ++ b.cps).toList = _
 simp
theorem zfo {g : D -> Env -> Option Env} {ds ys : List D} (hi : gi ρ = .ok ds ρ1) (hl : ds.length <= 100000) (h : z9 g c e ds (Qj js ρ1) = .ok ys ρb) : zU gi js g c e ρ = .ok (.lst ys) (ye js ρb ρ1) := by
 unfold zU; rw [hi, zC, UL hl, h]; rfl
theorem jx (hi : ρ[i]? = some (.val (.lst ds))) : zJ (zd i) ρ = .ok ds ρ := by
 unfold zJ zd; rw [hi]; rfl
theorem jA (hi : g ρ = .ok (.lst ds) ρ1) : zJ g ρ = .ok ds ρ1 := by
 unfold zJ; rw [hi]; rfl
theorem j7 (hi : ρ[i]? = some (.val (.obj c fs))) (hc : 11 <= c) (hf : Vc fs f = some d) : zB (jp f) (zg i) ρ = .ok d ρ := by
 unfold zB zg jp; rw [hi]; simp only [zC, Opd.get, hi, Zz, aG, if_pos hc, hf, yR]
theorem QC (h : a ρ = .ok (.bl k) ρ1) : JP a b ρ = if k = true then b ρ1 else .ok (.bl false) ρ1 := by
 unfold JP; rw [h]; rfl
theorem YL {g : D -> Env -> Option Env} (I : Env -> Prop) (t : D -> Bool) (f : D -> D) (P : D -> Prop) (hs : ∀ d ρ, P d -> I ρ -> ∃ ρ1 ρ2, g d ρ = some ρ1 /\ c ρ1 = .ok (t d) ρ2 /\ I ρ2 /\ (t d = true -> ∃ ρ3, e ρ2 = .ok (f d) ρ3 /\ I ρ3)) :
 ∀ (ds : List D) (ρ : Env), (∀ d ∈ ds, P d) -> I ρ -> ∃ ρ', z9 g c e ds ρ = .ok ((ds.filter t).map f) ρ' /\ I ρ'
 | [], ρ, _, h => ⟨ρ, rfl, h⟩
 | d :: r, ρ, hd, h => by
  obtain ⟨ρ1, ρ2, e1, e2, h2, h3⟩ := hs d ρ (hd d ao) h
  unfold z9
  rw [e1, yR, zC, e2, zC]
  cases ht : t d with
  | true =>
   obtain ⟨ρ3, e3, h4⟩ := h3 ht
   obtain ⟨ρ', e5, h5⟩ := YL I t f P hs r ρ3 (fun x hx => hd x (af _ hx)) h4
   exact ⟨ρ', by rw [if_pos rfl, e3, zC, e5, zC, cq, if_pos ht]; rfl, h5⟩
  | false =>
   obtain ⟨ρ', e5, h5⟩ := YL I t f P hs r ρ2 (fun x hx => hd x (af _ hx)) h2
   exact ⟨ρ', by rw [if_neg ah, e5, cq, if_neg (by rw [ht]; exact ah)], h5⟩
theorem zg3 {f : D -> Option D} (h : a ρ = .ok x ρ1) : zB f (gO a) ρ = jr (f x) ρ1 := by
 unfold zB gO; rw [h]; rfl
theorem yt (h : a ρ = .ok x ρ1) : zK a ρ = .ok (.rt x) ρ1 := by
 unfold zK; rw [h]; rfl
theorem z0 (h : a ρ = .ok x ρ1) : gCons a r ρ = (r ρ1).bind fun ds ρ2 => .ok (x :: ds) ρ2 := by
 unfold gCons; rw [h]; rfl
theorem z6 {g : D -> Env -> Option Env} {ds ys : List D} (hi : gi ρ = .ok ds ρ1) (hl : ds.length <= 100000) (h : z9 g c e ds (Qj js ρ1) = .ok ys ρb) (hm : ye js ρb ρ1 = ρ2) : zU gi js g c e ρ = .ok (.lst ys) ρ2 := by
 rw [zfo hi hl h, hm]
theorem zqd {f : D -> D -> Option D} (h1 : a ρ = .ok x ρ1) (h2 : b ρ1 = .ok y ρ2) : zj f (gO a) (gO b) ρ = jr (f x y) ρ2 := by
 unfold zj gO; rw [h1]; show O.bind ((b ρ1).bind _) _ = _; rw [h2]; rfl
theorem yu {ss : List Slot} (hl : ss.length = n) (h : g (ss ++ aY nl .no) = .ok (.rt d) ρ) : zO [] n nl false g ss = .ok d [] := by
 unfold zO; rw [if_pos hl, h]; rfl
theorem JX {ds os : List D} (h1 : a ρ = .ok ds ρ1) (h2 : F (ds.map .val) = .ok d os) : zv F a ρ = .ok d ρ1 := by
 unfold zv; rw [h1, zC, h2]; rfl
theorem Qw (h : a ρ = .ok (.bl b) ρ1) : gB a ρ = .ok b ρ1 := by unfold gB; rw [h]; rfl
theorem yq {f : D -> D -> Option D} (h1 : a ρ = .ok x ρ1) (h2 : b ρ1 = .ok y ρ2) (h : f x y = some d) : zj f (gO a) (gO b) ρ = .ok d ρ2 := by
 rw [zqd h1 h2, h]; rfl
theorem j8 {f : D -> Option D} (h1 : a ρ = .ok x ρ1) (h : f x = some d) : zB f (gO a) ρ = .ok d ρ1 := by
 rw [zg3 h1, h]; rfl
theorem zcn {j : Int} (h : -1000000 <= j /\ j <= 1000000) : Uf [.int j] = some (yB 0 j.toNat) := if_pos h
theorem zn9 (h : -1000000 <= i /\ i <= 1000000 /\ -1000000 <= j /\ j <= 1000000) : zeN [.int i, .int j] = some (yB i (j - i).toNat) := if_pos h
theorem Ut (h : g ρ = .ok ds ρ1) (h2 : Uf ds = some xs) : jd g ρ = .ok xs ρ1 := by
 unfold jd; rw [h, zC, h2, yR]
theorem zfQ (h : g ρ = .ok ds ρ1) (h2 : zeN ds = some xs) : JQ g ρ = .ok xs ρ1 := by
 unfold JQ; rw [h, zC, h2, yR]
theorem WW {g : D -> Env -> Option Env} (h : gi ρ = .ok ds ρ1) : Qk gi g b ρ = Jf g b ds ρ1 := by
 unfold Qk; rw [h, zC]
theorem zn (h : a ρ = .ok .nx ρ1) : zw a b ρ = b ρ1 := by unfold zw; rw [h]; rfl
theorem Jy (h : a ρ = .ok (.rt d) ρ1) : zw a b ρ = .ok (.rt d) ρ1 := by unfold zw; rw [h]; rfl
theorem J2 (h : c ρ = .ok true ρ1) : yQ c a b ρ = a ρ1 := by unfold yQ; rw [h]; rfl
theorem yy (h : c ρ = .ok false ρ1) : yQ c a b ρ = b ρ1 := by unfold yQ; rw [h]; rfl
theorem yg {ρ ρ1 : Env} (h : a ρ = .ok d ρ1) : yi i a ρ = .ok .nx (ρ1.set i (.val d)) := by unfold yi; rw [h]; rfl
theorem YM (h : a ρ = .ok d ρ1) : yh a ρ = .ok .nx ρ1 := by unfold yh; rw [h]; rfl
theorem Zv {ss : List Slot} (hl : ss.length = n) (h : g (ss ++ aY nl .no) = .ok (.rt d) (.own o :: ρ)) : zO [0] n nl false g ss = .ok d [o] := by
 unfold zO; rw [if_pos hl, h]; rfl
theorem YN {ss : List Slot} (hl : ss.length = n) (h : g (ss ++ aY nl .no) = .ok .nx (.own o :: ρ)) : zO [0] n nl false g ss = .ok .non [o] := by
 unfold zO; rw [if_pos hl, h]; rfl
theorem zj3 {ss : List Slot} (hl : ss.length = n) (h : g (ss ++ aY nl .no) = .ok .nx ρ) : zO [] n nl false g ss = .ok .non [] := by
 unfold zO; rw [if_pos hl, h]; rfl
def zfp : D -> Bool | .int _ => true | _ => false
theorem zfR (h : Qt d = some k) : Qi [.val d] = .ok (.bl (zfp d)) [] := by
 unfold Qi Vm
 cases d <;> first | (cases h; done) | (walk_at "gs"; rfl)
def ZG (c : Nat) : Bool := decide (97 <= c) && decide (c <= 122)
def Jo (x : Str) : Bool := decide (1 <= x.length) && decide (x.length <= 8) && x.cps.toList.all ZG
def Vz : D -> Bool | .str x => Jo x | _ => false
theorem zj4 (a b : Nat) : (!decide (([b] : List Nat) < [a])) = decide (a <= b) := by
 by_cases h : a <= b
 · rw [decide_eq_true h, decide_eq_false]; rfl
   intro z
   rw [gf] at z
   rcases z with z | ⟨_, z⟩
   · omega
   · exact absurd z (List.not_lt_nil _)
 · rw [decide_eq_false h, decide_eq_true]; rfl
   rw [gf]
   exact .inl (by omega)
theorem zqe : (bp "a").cps.toList = [97] := by decide +kernel
theorem zqf : (bp "z").cps.toList = [122] := by decide +kernel
theorem R9 {f : Nat -> Bool} : ∀ (l : List Nat), QQ (l.map fun c => D.bl (f c)) = some (l.map f)
 | [] => rfl
 | c :: r => by rw [aq, QQ, R9 r]; rfl
theorem zqg {f : Nat -> Bool} (l : List Nat) : (l.map f).all id = l.all f := by
 induction l with
 | nil => rfl
 | cons a r ih => rw [aq, bP, bP, ih]; rfl
theorem zij (x : Str) : ∃ ρ', z9 (zt 0) yJ (Qp ZW ZW (gC (.str "a")) (zd 0) (gC (.str "z"))) (x.cps.toList.map fun c => D.str ⟨#[c]⟩) [s] = .ok (x.cps.toList.map fun c => D.bl (ZG c)) ρ' /\ ρ'.length = 1 := by
 have h := R8 (g := zt 0) (e := Qp ZW ZW (gC (.str "a")) (zd 0) (gC (.str "z"))) (fun ρ => ρ.length = 1) (fun d => match d with | .str y => .bl (ZG (y.cps.toList.getD 0 0)) | d => d) (fun d => ∃ c, d = .str ⟨#[c]⟩) (fun d ρ ⟨c, hc⟩ hl => by
  subst hc
  match ρ, hl with
  | [t], _ =>
   refine ⟨_, [.val (.str ⟨#[c]⟩)], rfl, ?_, rfl⟩
   walk_at "gs"
   have e1 : ZW (.str "a") (.str ⟨#[c]⟩) = some (.bl (decide (97 <= c))) := by
    unfold ZW
    dsimp only
    simp only [zqe, zj4]
   have e2 : ZW (.str ⟨#[c]⟩) (.str "z") = some (.bl (decide (c <= 122))) := by
    unfold ZW
    dsimp only
    simp only [zqf, zj4]
   rw [e1, yR, zC, zeV, zC]
   show _ = O.ok (D.bl (ZG c)) _
   unfold ZG
   by_cases h : 97 <= c
   · rw [decide_eq_true h, if_pos rfl, e2, fj]; rfl
   · rw [decide_eq_false h, if_neg ah, dL]) (x.cps.toList.map fun c => D.str ⟨#[c]⟩) [s] (fun d hd => by
  obtain ⟨c, _, e⟩ := aE.mp hd
  exact ⟨c, e.symm⟩) rfl
 obtain ⟨ρ', e, hl⟩ := h
 refine ⟨ρ', ?_, hl⟩
 rw [e, cP]
 rfl
theorem zik (h : Qt d = some k) (hx : ∀ x, d = .str x -> x.length <= 100000) : jK [.val d] = .ok (.bl (Vz d)) [] := by
 unfold jK Wm
 cases d with
 | str x =>
  have hx := hx x rfl
  walk_at "gsa"
  unfold Vz Jo
  dsimp only
  by_cases p0 : 1 <= x.length
  · by_cases p1 : x.length <= 8
    · rw [decide_eq_true (show (1 : Int) <= x.length by omega), decide_eq_true (show (x.length : Int) <= 8 by omega), decide_eq_true p0, decide_eq_true p1]
      unfold Uh
      obtain ⟨ρ', e, _⟩ := zij (s := .no) x
      have hl : (x.cps.toList.map fun c => D.str ⟨#[c]⟩).length <= 100000 := by rw [ap, ← WV]; exact hx
      walk_at "gs"
      simp only [zU, WQ, zd, bU, zC, itS, yR, UL hl, Qj, aq, cC, e, zh2]
      simp only [zh6, aG, YC, R9, cB, yR, zC, zce, RQ, zqg, fj]
    · rw [decide_eq_true (show (1 : Int) <= x.length by omega), decide_eq_false (show ¬ (x.length : Int) <= 8 by omega), decide_eq_false p1]
      walk_at "gs"
  · rw [decide_eq_false (show ¬ (1 : Int) <= x.length by omega), decide_eq_false p0]
    walk_at "gs"
 | _ => first | (cases h; done) | (walk_at "gs"; rfl)
theorem zil (h : 0 <= k) : ∃ i, jY [.val (.fz ns), .val (.int k)] = .ok (.int i) [] := by
 unfold jY Ui
 by_cases h1 : k < ns.length
 · refine ⟨ns.getD k.toNat 0, ?_⟩
   walk_at "gs"
   rw [decide_eq_true h1]
   walk_at "gs"
   rw [zqS h h1]
   walk_at "gs"
 · refine ⟨0, ?_⟩
   walk_at "gs"
   rw [decide_eq_false h1]
   walk_at "gs"
def yb (o : D) : Prop := ∃ a b c, o = .lst [.int a, .int b, .int c] /\ 0 <= a /\ 0 <= b /\ b < 2147483647 /\ 0 <= c
theorem zn_ : ∃ o, Zr [.val (.int c)] = .ok o [] /\ yb o := by
 unfold Zr RX
 have hp : zbT 10 18 := ⟨by decide, by decide, by decide⟩
 refine ⟨.lst [.int (if c - 10 ^ (18 : Nat) > 0 then c - 10 ^ (18 : Nat) else 0), .int (c % 2147483647), .int 0], ?_, _, _, _, rfl, by split <;> omega, dB _ (by decide), cR _ (by decide), by decide⟩
 walk_at "gs"
 simp only [if_pos hp]
 walk_at "gs"
theorem zdY (h : -18446744073709551616 < i /\ i < 18446744073709551616) : CMul i j := .inl ⟨by omega, by omega⟩
theorem zmT (h : -18446744073709551616 < j /\ j < 18446744073709551616) : CMul i j := .inr ⟨by omega, by omega⟩
theorem zdZ (h : 0 < j /\ j < 18446744073709551616) : za0 i j := h
def zmU (b c : Int) : Int := (b + 7919 * (c + 1) + 1) * 48271 % 2147483647 * ((b + 7919 * (c + 1) + 1) * 48271 % 2147483647 / 1009 + 69621) % 2147483647 * ((b + 7919 * (c + 1) + 1) * 48271 % 2147483647 * ((b + 7919 * (c + 1) + 1) * 48271 % 2147483647 / 1009 + 69621) % 2147483647 / 2003 + 40692) % 2147483399
theorem yL (hw : yb o) (h0 : 0 < n) (h1 : n < 18446744073709551616) : ∃ r o', zr [.own o, .val (.int n)] = .ok (.int r) [o'] /\ 0 <= r /\ r < n /\ yb o' := by
 obtain ⟨a, b, c, rfl, ha, hb, hb', hc⟩ := hw
 unfold zr RY
 by_cases h : 0 < a
 · refine ⟨a % n, .lst [.int (a / n), .int b, .int c], ?_, dB _ (by omega), cR _ h0, _, _, _, rfl, Int.ediv_nonneg ha (by omega), hb, hb', hc⟩
   walk_at "gs"
   simp only [decide_eq_true h, h0]
   unfold Vo
   walk_at "gs"
   simp only [if_pos (zdZ (i := a) ⟨h0, h1⟩)]
   walk_at "gs"
 · refine ⟨zmU b c / 7 % n, .lst [.int a, .int b, .int (c + 1)], ?_, dB _ (by omega), cR _ h0, _, _, _, rfl, ha, hb, hb', by omega⟩
   unfold zmU
   walk_at "gs"
   simp only [decide_eq_false h]
   unfold Vt Vs
   walk_at "gs"
   simp only [if_pos (zdY (i := 7919) (j := c + 1) (by decide)), if_pos (zmT (i := b + 7919 * (c + 1) + 1) (j := 48271) (by decide))]
   walk_at "gs"
   simp only [if_pos (zmT (i := b + 7919 * (c + 1) + 1) (j := 48271) (by decide))]
   walk_at "gs"
   generalize hn : (b + 7919 * (c + 1) + 1) * 48271 % 2147483647 = n1
   have n1a : 0 <= n1 := by rw [← hn]; exact dB _ (by decide)
   have n1b : n1 < 2147483647 := by rw [← hn]; exact cR _ (by decide)
   unfold Vr
   walk_at "gs"
   simp only [if_pos (zdZ (i := n1) (j := 1009) (by decide))]
   walk_at "gs"
   simp only [if_pos (zdY (i := n1) (j := n1 / 1009 + 69621) ⟨by omega, by omega⟩)]
   walk_at "gs"
   generalize hn2 : n1 * (n1 / 1009 + 69621) % 2147483647 = n2
   have n2a : 0 <= n2 := by rw [← hn2]; exact dB _ (by decide)
   have n2b : n2 < 2147483647 := by rw [← hn2]; exact cR _ (by decide)
   unfold Vq
   walk_at "gs"
   simp only [if_pos (zdZ (i := n2) (j := 2003) (by decide))]
   walk_at "gs"
   simp only [if_pos (zdY (i := n2) (j := n2 / 2003 + 40692) ⟨by omega, by omega⟩)]
   walk_at "gs"
   unfold Vp
   generalize n2 * (n2 / 2003 + 40692) % 2147483399 = n3
   walk_at "gs"
   simp only [if_pos (zdZ (i := n3) (j := 7) (by decide)), if_pos h0]
   walk_at "gs"
   simp only [if_pos h0]
   walk_at "gs"
def letters : Str := "abcdefghijklmnopqrstuvwxyz"
theorem zdh : letters.cps.toList = List.range' 97 26 := by decide +kernel
theorem RG : letters.cps.toList.length = 26 := by rw [zdh]; simp
theorem zim (h : j < 26) : letters.cps.toList.getD j 0 = 97 + j := by
 rw [zdh, aC, List.getElem?_range' (by omega)]; simp
theorem zdi {r : Int} (h0 : 0 <= r) (h1 : r < 26) : zF (.str letters) (.int r) = some (.str ⟨#[97 + r.toNat]⟩) := by
 rw [zqT (by rw [WV, RG]; omega) h0 (by rw [RG]; exact h1), zim (by omega)]
theorem zg4 (h : r < 26) : ZG (97 + r) = true := by simp [ZG]; omega
def Jg (c : Nat) : Str := ⟨#[c]⟩
theorem zdj : ∀ (cs : List Nat) (acc : Array Nat), ((cs.map Jg).foldl (fun acc p => acc ++ (bp "").cps ++ p.cps) acc).toList = acc.toList ++ cs
 | [], acc => by simp
 | c :: r, acc => by
  rw [aq, eI, zdj r]
  have e : (bp "").cps = #[] := by decide +kernel
  simp [e, Jg]
theorem zdk (cs : List Nat) : (ey "" (cs.map Jg)).cps.toList = cs := by
 unfold ey Builtin.Str.glued
 cases cs with
 | nil => rfl
 | cons c r =>
  show (((r.map Jg).foldl (fun acc p => acc ++ (bp "").cps ++ p.cps) (Jg c).cps)).toList = _
  rw [zdj]; rfl
theorem zj5 {ds ys : List D} (h : All2 (fun _ y => ∃ c, y = .str (Jg c) /\ ZG c = true) ds ys) : ∃ cs : List Nat, ys = (cs.map Jg).map D.str /\ cs.length = ds.length /\ cs.all ZG = true := by
 induction h with
 | nil => exact ⟨[], rfl, rfl, rfl⟩
 | cons p _ ih =>
  obtain ⟨c, rfl, hc⟩ := p
  obtain ⟨cs, rfl, hl, ha⟩ := ih
  exact ⟨c :: cs, rfl, by simp [hl], by simp [hc, ha]⟩
theorem zlK (cs : List Nat) : ((cs.map Jg).map (·.length)).sum = cs.length := by
 induction cs with
 | nil => rfl
 | cons c r ih => rw [aq, aq, eo, ih, au]; show 1 + _ = _; omega
theorem zoa (hw : yb o) (h0 : 0 <= k) (h1 : k <= 12) : ∃ x o', QA [.own o, .val (.int k)] = .ok (.str x) [o'] /\ Jo x = true /\ yb o' /\ ∃ c r, x.cps.toList = c :: r /\ 97 + 2 * k <= c /\ c <= 98 + 2 * k := by
 unfold QA RZ Vv
 obtain ⟨b, o1, e, b0, b1, hw1⟩ := yL hw (n := 2) (by decide) (by decide)
 have e2 := zdi (r := 2 * k + b) (by omega) (by omega)
 have hm : CMul 2 k := zdY (by decide)
 walk_at "gs"
 simp only [if_pos hm]
 walk_at "gs"
 simp only [e]
 walk_at "gs"
 simp only [show (bp "abcdefghijklmnopqrstuvwxyz") = letters from rfl, e2]
 unfold Vu
 obtain ⟨r, o2, e3, r0, r1, hw2⟩ := yL hw1 (n := 8) (by decide) (by decide)
 have hr : -1000000 <= r /\ r <= 1000000 := by omega
 walk_at "gs"
 simp only [zU, jd, gCons, gNil, gC, zC, zu, bU, Vg, yR, aq, cC, e3, YW, Uf, if_pos hr, dF, Qj, bh, iC]
 obtain ⟨ys, ρ', e4, ⟨s0, o3, hw3, rfl⟩, hall⟩ := zdg (g := zt 0) (e := zj zF (zg 1) (gO (zu 2 zr (gCons (gC (.int 26)) gNil)))) (fun ρ => ∃ s0 o, yb o /\ ρ = [s0, .val (.str letters), .own o]) (fun _ y => ∃ c, y = .str (Jg c) /\ ZG c = true)
  (fun d ρ ⟨s0, o, hw, e⟩ => by
   subst e
   obtain ⟨r, o1, e, r0, r1, hw1⟩ := yL hw (n := 26) (by decide) (by decide)
   refine ⟨_, .str (Jg (97 + r.toNat)), [.val d, .val (.str letters), .own o1], rfl, ?_, ⟨_, rfl, zg4 (by omega)⟩, _, _, hw1, rfl⟩
   walk_at "gs"
   simp only [e]
   walk_at "gs"
   simp only [zdi r0 r1, Jg]
   walk_at "gs") (yB 0 r.toNat) [.no, .val (.str letters), .own o2] ⟨_, _, hw2, rfl⟩
 obtain ⟨cs, rfl, hl, hs⟩ := zj5 hall
 rw [ji] at hl
 have hc7 : cs.length <= 7 := by omega
 have hj : ((cs.map Jg).map (·.length)).sum + (cs.map Jg).length * (bp "").length <= 100000 := by
  rw [zlK, show (bp "").length = 0 from by decide]; omega
 have hx : ((Jg (97 + (2 * k + b).toNat)) ++ ey "" (cs.map Jg) : Str).cps.toList = (97 + (2 * k + b).toNat) :: cs := by
  rw [zn8, zdk]; rfl
 have hlen : (Jg (97 + (2 * k + b).toNat)).length + (ey "" (cs.map Jg)).length <= 100000 := by
  rw [WV (ey _ _), zdk]; show 1 + _ <= _; omega
 refine ⟨Jg (97 + (2 * k + b).toNat) ++ ey "" (cs.map Jg), o3, ?_, ?_, hw3, _, cs, hx, by omega, by omega⟩
 · simp only [ji, UL (show r.toNat <= 100000 by omega), e4, zh2, zC]
   have ej : zaY "" (.lst ((cs.map Jg).map D.str)) = some (.str (ey "" (cs.map Jg))) := by
    unfold zaY ZC Jx; simp only [aG, ZP, if_pos hj]
   walk_at "gs"
   simp only [ej]
   walk_at "gs"
   simp only [show ({ cps := #[97 + (2 * k + b).toNat] } : Str) = Jg (97 + (2 * k + b).toNat) from rfl, if_pos hlen]
   walk_at "gs"
 · unfold Jo
   rw [WV, hx]
   have := zg4 (r := (2 * k + b).toNat) (by omega)
   simp [hs, this]; omega
def sL (xs : List Str) : List D := xs.map D.str
theorem zX {xs : List Str} : (sL xs).length = xs.length := by unfold sL; simp
theorem zqh {xs : List Str} (h : j < xs.length) : (sL xs).getD j .non = .str xs[j] := by
 unfold sL; rw [aC, ar, ac h]; rfl
theorem zlL {xs : List Str} : (sL xs).eraseIdx j = sL (xs.eraseIdx j) := by unfold sL; rw [bi, bi]; simp
theorem zbo : sL xs ++ sL ys = sL (xs ++ ys) := by unfold sL; simp
theorem All2.get {α β : Type} {P : α -> β -> Prop} {l : List α} {m : List β} (h : All2 P l m) : ∀ (i : Nat) b, m[i]? = some b -> ∃ a, l[i]? = some a /\ P a b := by
 induction h with
 | nil => intro i b e; simp at e
 | cons p _ ih =>
  intro i b e
  cases i with
  | zero => simp at e; subst e; exact ⟨_, rfl, p⟩
  | succ i => simp at e; exact ih i b e
theorem zbp {g : D -> Env -> Option Env} (I : Env -> Prop) (Q : D -> Prop) (P : D -> D -> Prop) (hs : ∀ d ρ, Q d -> I ρ -> ∃ ρ1 y ρ2, g d ρ = some ρ1 /\ e ρ1 = .ok y ρ2 /\ P d y /\ I ρ2) :
 ∀ (ds : List D) (ρ : Env), (∀ d ∈ ds, Q d) -> I ρ -> ∃ ys ρ', z9 g yJ e ds ρ = .ok ys ρ' /\ I ρ' /\ All2 P ds ys
 | [], ρ, _, h => ⟨[], ρ, rfl, h, .nil⟩
 | d :: r, ρ, hd, h => by
  obtain ⟨ρ1, y, ρ2, e1, e2, hp, h2⟩ := hs d ρ (hd d ao) h
  obtain ⟨ys, ρ', e3, h3, h4⟩ := zbp I Q P hs r ρ2 (fun x hx => hd x (af _ hx)) h2
  refine ⟨y :: ys, ρ', ?_, h3, .cons hp h4⟩
  exact jw e1 e2 e3
theorem zin (h : (yB lo n)[i]? = some d) : i < n /\ d = .int (lo + i) := by
 unfold yB at h
 rw [ar] at h
 by_cases hi : i < n
 · rw [dl hi] at h; cases h; exact ⟨hi, rfl⟩
 · rw [bz (by simpa using hi)] at h; cases h
theorem zlM {rest found : List Str} (hw : yb o) (hne : rest ≠ []) (hl : rest.length <= 1000) (hf : found.length <= 1000) :
 ∃ (j : Nat) (hj : j < rest.length) (o' : D), yb o' /\ yh (jo j3 3 (jo Zk 2 (zu 0 zr (gCons (zB yv (zg 2)) gNil)))) (.own o :: s1 :: .own (.lst (sL rest)) :: .own (.lst (sL found)) :: tl)
  = .ok .nx (.own o' :: s1 :: .own (.lst (sL (rest.eraseIdx j))) :: .own (.lst (sL (found ++ [rest[j]]))) :: tl) := by
 have hp := bv.mpr hne
 obtain ⟨r, o1, e, r0, r1, hw1⟩ := yL hw (n := rest.length) (by omega) (by omega)
 have hj : r.toNat < rest.length := by omega
 refine ⟨r.toNat, hj, o1, hw1, ?_⟩
 have h1 : Zk (sL rest) (.int r) = some (.str rest[r.toNat], sL (rest.eraseIdx r.toNat)) := by
  unfold Zk; dsimp only
  rw [if_pos ⟨r0, by rw [zX]; exact hj, by rw [zX]; omega⟩, zqh hj, zlL]
 have h2 : j3 (sL found) (.str rest[r.toNat]) = some (.non, sL (found ++ [rest[r.toNat]])) := by
  unfold j3
  rw [if_pos (by rw [zX]; omega), ← zbo]; rfl
 walk_at "gs"
 simp only [zX, e]
 walk_at "gs"
 simp only [h1]
 walk_at "gs"
 simp only [h2]
 walk_at "gs"
theorem zlN {rest found : List Str} (hj : j < rest.length) : (found ++ [rest[j]] ++ rest.eraseIdx j).Perm (found ++ rest) := by
 rw [bT]
 refine List.Perm.append_left found ?_
 have e : rest = rest.take j ++ rest[j] :: rest.drop (j + 1) := by rw [← dk hj, da]
 rw [bi]
 have p : (rest[j] :: (rest.take j ++ rest.drop (j + 1))).Perm (rest.take j ++ rest[j] :: rest.drop (j + 1)) := List.perm_middle.symm
 rw [← e] at p
 exact p
def Names (xs : List Str) : Prop := xs.Nodup /\ ∀ x ∈ xs, Jo x = true
theorem Names.left (h : Names (xs ++ ys)) : Names xs := ⟨(List.nodup_append.mp h.1).1, fun x hx => h.2 x (aL _ hx)⟩
theorem Names.perm {xs ys : List Str} (h : Names xs) (p : ys.Perm xs) : Names ys := ⟨p.nodup_iff.mpr h.1, fun x hx => h.2 x (p.mem_iff.mp hx)⟩
theorem Names.sub {xs ys : List Str} (h : Names xs) (s : ys.Sublist xs) : Names ys := ⟨h.1.sublist s, fun x hx => h.2 x (s.subset hx)⟩
theorem pops {rest found : List Str} (n : Nat) (ds : List D) (hn : ds.length = n) (hw : yb o) (hr : n <= rest.length) (hl : rest.length + found.length <= 1000) :
 ∃ o' rest' found' s4', yb o' /\ found'.length = found.length + n /\ (found' ++ rest').Perm (found ++ rest) /\ Jf (zt 4) (yh (jo j3 3 (jo Zk 2 (zu 0 zr (gCons (zB yv (zg 2)) gNil))))) ds (.own o :: s1 :: .own (.lst (sL rest)) :: .own (.lst (sL found)) :: s4 :: tl)
  = .ok .nx (.own o' :: s1 :: .own (.lst (sL rest')) :: .own (.lst (sL found')) :: s4' :: tl) := by
 induction n generalizing ds o rest found s4 with
 | zero =>
  have : ds = [] := bS hn
  subst this
  exact ⟨o, rest, found, s4, hw, rfl, bE _, rfl⟩
 | succ n ih =>
  match ds, hn with
  | d :: ds, hn =>
   obtain ⟨j, hj, o1, hw1, e⟩ := zlM (rest := rest) (found := found) (s1 := s1) (tl := .val d :: tl) hw (fun z => by subst z; simp at hr) (by omega) (by omega : found.length <= 1000)
   have hle : (rest.eraseIdx j).length = rest.length - 1 := List.length_eraseIdx_of_lt hj
   obtain ⟨o', rest', found', s4', a, b, c, e2⟩ := ih (o := o1) (rest := rest.eraseIdx j) (found := found ++ [rest[j]]) (s4 := .val d) ds (by simpa using hn) hw1 (by rw [hle]; omega) (by simp [hle]; omega)
   refine ⟨o', rest', found', s4', a, by rw [b]; simp; omega, c.trans (zlN hj), ?_⟩
   unfold Jf
   show (O.bind (jr (some _) _) _) = _
   rw [yR, zC]
   simp only [eW, dF]
   rw [e]
   exact e2
def zj6 : List Str := ["a", "ab", "abc", "b", "ba", "z", "zzzzzzzz", "aa", "c", "count", "y", "counts"]
theorem zj7 : Names zj6 := ⟨by decide +kernel, by decide +kernel⟩
theorem zlO {ys : List D} {n : Nat} (h : All2 (fun d y => ∃ k : Int, d = .int k /\ ∃ x, y = .str x /\ Jo x = true /\ ∃ c r, x.cps.toList = c :: r /\ 97 + 2 * k <= c /\ c <= 98 + 2 * k) (yB 0 n) ys) : ∃ xs, ys = sL xs /\ xs.length = n /\ Names xs := by
 have hlen := h.len
 rw [ji] at hlen
 have hx : ∀ (l : List D) m, All2 (fun d y => ∃ k : Int, d = .int k /\ ∃ x, y = .str x /\ Jo x = true /\ ∃ c r, x.cps.toList = c :: r /\ 97 + 2 * k <= c /\ c <= 98 + 2 * k) l m -> ∃ xs, m = sL xs := fun l m h => by
  induction h with
  | nil => exact ⟨[], rfl⟩
  | cons p _ ih => obtain ⟨k, _, x, rfl, _⟩ := p; obtain ⟨xs, rfl⟩ := ih; exact ⟨x :: xs, rfl⟩
 obtain ⟨xs, rfl⟩ := hx _ _ h
 rw [zX] at hlen
 have at_ : ∀ (i : Nat) x, xs[i]? = some x -> Jo x = true /\ ∃ c r, x.cps.toList = c :: r /\ 97 + 2 * i <= c /\ c <= 98 + 2 * i := fun i x e => by
  obtain ⟨a, h1, k, rfl, y, e2, hn, c, r, e3, h2, h3⟩ := h.get i (.str x) (by unfold sL; rw [ar, e]; rfl)
  obtain ⟨hi, ek⟩ := zin h1
  cases e2; cases ek
  exact ⟨hn, c, r, e3, by omega, by omega⟩
 refine ⟨xs, rfl, hlen, ?_, fun x hx => ?_⟩
 · refine List.pairwise_iff_getElem.mpr fun i j hi hj hij z => ?_
   obtain ⟨_, c, r, e, h1, h2⟩ := at_ i xs[i] (ac hi)
   obtain ⟨_, c', r', e', h1', h2'⟩ := at_ j xs[j] (ac hj)
   rw [z, e'] at e
   have := (List.cons.inj e).1
   omega
 · obtain ⟨i, hi, e⟩ := List.getElem_of_mem hx
   exact (at_ i x (by rw [ac hi, e])).1
theorem zlP {o : D} {n : Nat} (hw : yb o) (hn : n <= 12) : ∃ xs o', QH [.own o, .val (.int n)] = .ok (.lst (sL xs)) [o'] /\ xs.length = n /\ Names xs /\ yb o' := by
 unfold QH Wo Ul Uk Uj
 obtain ⟨b, o1, e, b0, b1, hw1⟩ := yL hw (n := 2) (by decide) (by decide)
 have hr : -1000000 <= (n : Int) /\ (n : Int) <= 1000000 := by omega
 have fin : ∀ o2 L, yb o2 -> Names L -> n <= L.length -> L.length <= 100 -> ∃ xs o', Jf (zt 4) (yh (jo j3 3 (jo Zk 2 (zu 0 zr (gCons (zB yv (zg 2)) gNil))))) (yB 0 n) [.own o2, .val (.int n), .own (.lst (sL L)), .own (.lst []), .no] = .ok .nx o' /\ ∃ o3 L3 s4, o' = [.own o3, .val (.int n), .own (.lst (sL L3)), .own (.lst (sL xs)), s4] /\ xs.length = n /\ Names xs /\ yb o3 := fun o2 L h2 hL h3 h4 => by
  obtain ⟨o', rest', found', s4', a, b, c, e2⟩ := pops (s1 := .val (.int n)) (s4 := .no) (tl := []) (found := []) n (yB 0 n) ji h2 h3 (by simp; omega)
  exact ⟨found', _, e2, _, _, _, rfl, by simpa using b, (hL.perm (by simpa using c)).left, a⟩
 walk_at "gs"
 simp only [e]
 walk_at "gs"
 by_cases hb : b = 0
 · subst hb
   walk_at "gs"
   simp only [zU, jd, gCons, gNil, zd, zC, bU, bh, Uf, if_pos hr, yR, bf, ji, UL (show n <= 100000 by omega), Qj, aq, cC, iC]
   obtain ⟨ys, ρ', e4, ⟨s0, o3, hw3, rfl⟩, hall⟩ := zbp (g := zt 0) (e := zu 1 QA (gCons (zd 0) gNil)) (fun ρ => ∃ s0 o, yb o /\ ρ = [s0, .own o]) (fun d => ∃ k : Int, d = .int k /\ 0 <= k /\ k <= 12) (fun d y => ∃ k : Int, d = .int k /\ ∃ x, y = .str x /\ Jo x = true /\ ∃ c r, x.cps.toList = c :: r /\ 97 + 2 * k <= c /\ c <= 98 + 2 * k)
    (fun d ρ ⟨k, hd, k0, k1⟩ ⟨s0, o, hw, e⟩ => by
     subst e hd
     obtain ⟨x, o1, e, hx, hw1, hc⟩ := zoa hw k0 k1
     refine ⟨_, .str x, [.val (.int k), .own o1], rfl, ?_, ⟨k, rfl, x, rfl, hx, hc⟩, _, _, hw1, rfl⟩
     walk_at "gs"
     simp only [e]
     walk_at "gs") (yB 0 n) [.no, .own o1] (fun d hd => by obtain ⟨i, hi, rfl⟩ := zii hd; exact ⟨_, rfl, by omega, by omega⟩) ⟨_, _, hw1, rfl⟩
   obtain ⟨xs, rfl, hl, hx⟩ := zlO hall
   simp only [e4, zh2]
   obtain ⟨ys, ρ2, e5, o4, L3, s4, rfl, h1, h2, h3⟩ := fin o3 xs hw3 hx (by omega) (by omega)
   walk_at "gs"
   simp only [Uf, if_pos hr, bf]
   walk_at "gs"
   simp only [e5]
   exact ⟨ys, o4, by walk_at "gs", h1, h2, h3⟩
 · obtain ⟨ys, ρ2, e5, o4, L3, s4, rfl, h1, h2, h3⟩ := fin o1 zj6 hw1 zj7 (by show n <= 12; omega) (by decide)
   simp only [decide_eq_false hb]
   walk_at "gs"
   simp only [Uf, if_pos hr, bf]
   walk_at "gs"
   have e6 : Jf (zt 4) (yh (jo j3 3 (jo Zk 2 (zu 0 zr (gCons (zB yv (zg 2)) gNil))))) (yB 0 n) [.own o1, .val (.int n), .own (.lst [.str "a", .str "ab", .str "abc", .str "b", .str "ba", .str "z", .str "zzzzzzzz", .str "aa", .str "c", .str "count", .str "y", .str "counts"]), .own (.lst []), .no] = _ := e5
   simp only [e6]
   exact ⟨ys, o4, by walk_at "gs", h1, h2, h3⟩
theorem zco {xs : List Str} (hw : yb o) (h1 : 1 <= xs.length) (h2 : xs.length <= 100) : ∃ ys rest o', jU [.own o, .val (.lst (sL xs))] = .ok (.lst (sL ys)) [o'] /\ 1 <= ys.length /\ (ys ++ rest).Perm xs /\ yb o' := by
 unfold jU R7 Vy Vx
 obtain ⟨b, o1, e, b0, b1, hw1⟩ := yL hw (n := xs.length) (by omega) (by omega)
 have hr : -1000000 <= 1 + b /\ 1 + b <= 1000000 := by omega
 walk_at "gs"
 simp only [zX, e]
 walk_at "gs"
 simp only [Uf, if_pos hr]
 walk_at "gs"
 obtain ⟨o', rest', found', s4', a, hb, c, e2⟩ := pops (s1 := .val (.lst (sL xs))) (s4 := .no) (tl := []) (found := []) (rest := xs) (1 + b).toNat (yB 0 (1 + b).toNat) ji hw1 (by omega) (by simp; omega)
 have e2 : Jf (zt 4) (yh (jo j3 3 (jo Zk 2 (zu 0 zr (gCons (zB yv (zg 2)) gNil))))) (yB 0 (1 + b).toNat) [.own o1, .val (.lst (sL xs)), .own (.lst (sL xs)), .own (.lst []), .no] = _ := e2
 refine ⟨found', rest', o', ?_, by rw [hb]; simp; omega, by simpa using c, a⟩
 simp only [e2]
 walk_at "gs"
theorem zob {xs : List Str} (hw : yb o) (h2 : xs.length <= 100) : ∃ ys rest o', Yr [.own o, .val (.lst (sL xs))] = .ok (.lst (sL ys)) [o'] /\ (ys ++ rest).Perm xs /\ yb o' := by
 unfold Yr zcm Wr Wq
 obtain ⟨b, o1, e, b0, b1, hw1⟩ := yL hw (n := xs.length + 1) (by omega) (by omega)
 have hr : -1000000 <= b /\ b <= 1000000 := by omega
 walk_at "gs"
 simp only [zX, e]
 walk_at "gs"
 simp only [Uf, if_pos hr]
 walk_at "gs"
 obtain ⟨o', rest', found', s4', a, hb, c, e2⟩ := pops (s1 := .val (.lst (sL xs))) (s4 := .no) (tl := []) (found := []) (rest := xs) b.toNat (yB 0 b.toNat) ji hw1 (by omega) (by simp; omega)
 have e2 : Jf (zt 4) (yh (jo j3 3 (jo Zk 2 (zu 0 zr (gCons (zB yv (zg 2)) gNil))))) (yB 0 b.toNat) [.own o1, .val (.lst (sL xs)), .own (.lst (sL xs)), .own (.lst []), .no] = _ := e2
 refine ⟨found', rest', o', ?_, by simpa using c, a⟩
 simp only [e2]
 walk_at "gs"
def Y9 (d : D) : Prop := (∃ k, Qt d = some k) /\ ∀ x, d = .str x -> x.length <= 100000
theorem zfq (h : Y9 d) : jK [.val d] = .ok (.bl (Vz d)) [] := let ⟨⟨_, k⟩, hx⟩ := h; zik k hx
theorem zlQ {x : Str} (h : Jo x = true) : 1 <= x.length /\ x.length <= 8 := by
 unfold Jo at h
 rw [aN, aN, decide_eq_true_eq, decide_eq_true_eq] at h
 exact h.1
theorem VA (h : Jo x = true) : Y9 (.str x) := ⟨⟨_, rfl⟩, fun y e => by cases e; have := zlQ h; omega⟩
theorem zj8 : Y9 (.int i) := ⟨⟨_, rfl⟩, fun y e => by cases e⟩
theorem Ua : Y9 (.lst i) := ⟨⟨_, rfl⟩, fun y e => by cases e⟩
theorem zj9 : zZ [.val (.bl true), .val w] = .ok .non [] := by
 unfold zZ RV
 walk_at "gs"
def upD (d : D) (m : Int) : Bool := match d with | .int i => decide (1 <= i) && decide (i <= m) | _ => false
theorem zfS (h : Y9 d) : yX [.val d, .val (.int m)] = .ok (.bl (upD d m)) [] := by
 obtain ⟨⟨k, hk⟩, _⟩ := h
 unfold yX Vn
 walk_at "gs"
 simp only [zfR hk]
 cases d with
 | int i =>
  simp only [zfp]
  walk_at "gs"
  unfold upD
  dsimp only
  by_cases h : (1 : Int) <= i
  · rw [decide_eq_true h]; walk_at "gs"
  · rw [decide_eq_false h]; walk_at "gs"
 | _ => simp only [zfp]; walk_at "gs"; rfl
def zbq (d : D) : Bool := match d with | .lst ds => decide (1 <= ds.length) && decide (ds.length <= 5) | _ => false
theorem YO (h : Y9 d) : zY [.val d] = .ok (.bl (zbq d)) [] := by
 obtain ⟨⟨k, hk⟩, _⟩ := h
 unfold zY QZ
 cases d with
 | lst ds =>
  walk_at "gs"
  unfold zbq
  dsimp only
  by_cases h : 1 <= ds.length
  · by_cases h2 : ds.length <= 5
    · rw [decide_eq_true h, decide_eq_true h2]
      have e1 : decide ((1 : Int) <= ds.length) = true := decide_eq_true (by omega)
      have e2 : decide ((ds.length : Int) <= 5) = true := decide_eq_true (by omega)
      walk_at "gsa"
    · rw [decide_eq_true h, decide_eq_false h2]
      have e1 : decide ((1 : Int) <= ds.length) = true := decide_eq_true (by omega)
      have e2 : decide ((ds.length : Int) <= 5) = false := decide_eq_false (by omega)
      walk_at "gsa"
  · rw [decide_eq_false h]
    have e1 : decide ((1 : Int) <= ds.length) = false := decide_eq_false (by omega)
    walk_at "gsa"
 | _ => first | (cases hk; done) | (walk_at "gs"; rfl)
theorem zg5 (f : D -> Bool) : ∀ (l : List D), QQ (l.map fun c => D.bl (f c)) = some (l.map f)
 | [] => rfl
 | c :: r => by rw [aq, QQ, zg5 f r]; rfl
theorem zqj (f : D -> Bool) (l : List D) : (l.map f).all id = l.all f := by
 induction l with
 | nil => rfl
 | cons a r ih => rw [aq, bP, bP, ih]; rfl
theorem zlR {f : D -> Bool} {ds : List D} (hF : ∀ d ∈ ds, F [.val d] = .ok (.bl (f d)) []) : ∃ ρ', z9 (zt 0) yJ (zv F (gCons (zd 0) gNil)) ds [s] = .ok (ds.map fun d => D.bl (f d)) ρ' /\ ρ'.length = 1 := by
 obtain ⟨ρ', e, h⟩ := R8 (g := zt 0) (e := zv F (gCons (zd 0) gNil)) (fun ρ => ρ.length = 1) (fun d => .bl (f d)) (fun d => F [.val d] = .ok (.bl (f d)) []) (fun d ρ hd hl => by
  match ρ, hl with
  | [t], _ =>
   refine ⟨_, [.val d], rfl, ?_, rfl⟩
   walk_at "gs"
   simp only [hd]
   walk_at "gs") ds [s] hF rfl
 exact ⟨ρ', e, h⟩
theorem zdl {f : D -> Bool} {ds : List D} (hi : ρ[i]? = some (.val (.lst ds))) (hl : ds.length <= 100000) (hF : ∀ d ∈ ds, F [.val d] = .ok (.bl (f d)) []) :
 zB YC (gO (zU (zJ (zd i)) [none] (zt 0) yJ (zv F (gCons (zd 0) gNil)))) ρ = .ok (.bl (ds.all f)) ρ := by
 obtain ⟨ρ', e, h⟩ := zlR (s := .no) hF
 rw [zg3 (zfo (jx hi) hl e)]
 simp only [zjE, YC, zg5, cB, zqj, yR]
theorem zfT {xs : List Str} (h : xs.Nodup) : (dd xs).length = xs.length := ((List.perm_ext_iff_of_nodup Vi h).mpr fun y => dd_mem).length_eq
def zaa (ds : List D) : Bool := ds.all Vz && (match ZB ds with | some xs => decide ((dd xs).length = xs.length) | none => false)
theorem zbr (h : Names xs) : zaa (sL xs) = true := by
 unfold zaa sL
 rw [ZP]
 dsimp only
 rw [decide_eq_true (zfT h.1), gN, aR]
 intro d hd
 obtain ⟨x, hx, rfl⟩ := aE.mp hd
 exact h.2 x hx
theorem zbs : ∀ {ds : List D}, ds.all Vz = true -> ∃ xs, ds = sL xs /\ ∀ x ∈ xs, Jo x = true
 | [], _ => ⟨[], rfl, fun x h => by cases h⟩
 | d :: r, h => by
  rw [bP, aN] at h
  obtain ⟨xs, rfl, hx⟩ := zbs h.2
  cases d with
  | str x => exact ⟨x :: xs, rfl, fun y hy => (aB.mp hy).elim (fun e => by subst e; exact h.1) (hx y)⟩
  | _ => exact absurd h.1 ah
def zrJ (d : D) : Bool := match d with | .lst ds => zaa ds | _ => false
theorem zdm (h : Y9 d) (hd : ∀ ds, d = .lst ds -> ds.length < 1000 /\ ∀ e ∈ ds, Y9 e) : jv [.val d] = .ok (.bl (zrJ d)) [] := by
 obtain ⟨⟨k, hk⟩, _⟩ := h
 unfold jv RW
 cases d with
 | lst ds =>
  obtain ⟨hl, hp⟩ := hd ds rfl
  have e1 := zdl (F := jK) (f := Vz) (ds := ds) (ρ := [.val (.lst ds)]) (i := 0) rfl (by omega) fun d hd => zfq (hp d hd)
  have e2 : Ye [.val (.lst ds)] = .ok (.rt (.bl (zaa ds))) [.val (.lst ds)] := by
   unfold Ye zK
   rw [QC e1]
   unfold zaa
   cases h : ds.all Vz with
   | false => rfl
   | true =>
    obtain ⟨xs, rfl, _⟩ := zbs h
    have hx : UM (.lst (sL xs)) = some (.int (dd xs).length) := by
     unfold UM ZC Jx sL
     rw [zX] at hl
     simp only [aG, ZP, if_pos hl]
    rw [if_pos rfl, show ZB (sL xs) = some xs from ZP xs]
    walk_at "gs"
    simp only [hx, zX]
    walk_at "gs"
    by_cases hx2 : (dd xs).length = xs.length
    · simp [hx2, zX]
    · have : ¬ ((dd xs).length : Int) = xs.length := by omega
      simp [hx2, this, zX]
  walk_at "gs"
  rw [e2]
  walk_at "gs"
  rfl
 | _ => first | (cases hk; done) | (walk_at "gs"; rfl)
def inr (row : List Str) (x : Str) : Bool := decide (x ∈ row)
theorem zfr (xs : List Str) : (sL xs).all JM = true := by
 rw [aR]; intro d hd; obtain ⟨x, _, rfl⟩ := aE.mp hd; rfl
theorem zmV (x : Str) (row : List Str) : Ri (.str x) (sL row) = inr row x := by
 unfold Ri sL inr
 rw [hV]
 by_cases h : x ∈ row
 · rw [decide_eq_true h, dZ]; exact ⟨x, h, beq_self_eq_true x⟩
 · rw [decide_eq_false h, fb]
   intro y hy
   show ¬ (y == x) = true
   intro z
   exact h (by rw [← eq_of_beq z]; exact hy)
theorem zio : JJ false (.str x) (.lst (sL row)) = some (.bl (inr row x)) := by
 unfold JJ UH; dsimp only; rw [if_pos ⟨rfl, zfr row⟩, zmV]; rfl
theorem zbt {α : Type} {xs : List α} (h : k <= xs.length) : Jt xs none (some (k : Int)) = xs.take k := by
 unfold Jt; rw [HT.sIx_none, HT.sIx_nat]; simp [fR h]
theorem zfs {α : Type} {xs : List α} (h : k <= xs.length) : Jt xs (some (k : Int)) none = xs.drop k := by
 unfold Jt; rw [HT.sIx_none, HT.sIx_nat, fR h]; exact List.take_of_length_le (by simp)
theorem WX {xs : List Str} : (sL xs).take k = sL (xs.take k) := by unfold sL; rw [ke]
theorem zg6 {xs : List Str} : (sL xs).drop k = sL (xs.drop k) := by unfold sL; rw [kf]
theorem zlS {tbl : Nat -> Option Fn} {ds : List D} (h1 : a ρ = .ok (.obj c fs) ρ1) (h2 : tbl c = some F) (h3 : r ρ1 = .ok ds ρ2) : zR tbl a r ρ = zdV (F (.val (.obj c fs) :: ds.map .val)) ρ2 := by
 unfold zR; rw [h1]; simp only [zC, h2, h3]
theorem zab {tbl : Nat -> Option Fn} {ds os : List D} (h1 : a ρ = .ok (.obj c fs) ρ1) (h2 : tbl c = some F) (h3 : r ρ1 = .ok ds ρ2) (h4 : F (.val (.obj c fs) :: ds.map .val) = .ok d os) : zR tbl a r ρ = .ok d ρ2 := by
 rw [zlS h1 h2 h3, h4]; rfl
inductive PW where
 | count (m : Int) (ys : List Str) | weigh (l : Int) (ps : List (Str × Int)) | houses (m e : Int) (hs : List (List Str))
def yU (p : Str × Int) : D := .tup [.str p.1, .int p.2]
def yC (h : List Str) : D := .lst (sL h)
def PW.cls : PW -> Nat | .count .. => 12 | .weigh .. => 13 | .houses .. => 14
def PW.fs : PW -> List (Nat × D)
 | .count m ys => [(0, .int m), (1, .lst (sL ys))]
 | .weigh l ps => [(2, .int l), (3, .lst (ps.map yU))]
 | .houses m e hs => [(0, .int m), (4, .int e), (5, .lst (hs.map yC))]
def PW.obj (p : PW) : D := .obj p.cls p.fs
def PW.told : PW -> D
 | .count m ys => .tup [.str "count", .int m, .lst (sL ys)]
 | .weigh l ps => .tup [.str "weigh", .int l, .lst (ps.map yU)]
 | .houses m e hs => .tup [.str "houses", .int m, .int e, .lst (hs.map yC)]
def PW.have : PW -> List Str -> Int
 | .count _ ys, row => (ys.filter (inr row)).length
 | .weigh _ ps, row => ((ps.filter fun p => inr row p.1).map (·.2)).sum
 | .houses _ e hs, row => (hs.filter fun h => decide (e <= ((h.filter (inr row)).length : Int))).length
def PW.need : PW -> Int | .count m _ => m | .weigh l _ => l | .houses m _ _ => m
def PW.enough (p : PW) (row : List Str) : Bool := decide (p.need <= p.have row)
def PW.Small : PW -> Prop
 | .count _ ys => ys.length <= 1000
 | .weigh _ ps => ps.length <= 1000
 | .houses _ _ hs => hs.length <= 1000 /\ ∀ h ∈ hs, h.length <= 1000
theorem zj_ {ys : List Str} {t : Str -> Bool} : ((sL ys).filter fun d => match d with | .str x => t x | _ => false).map id = sL (ys.filter t) := by
 unfold sL; rw [List.map_id, List.filter_map]; rfl
theorem zg7 {ys row : List Str} : ∃ ρ', z9 (zt 0) (gB (zj (JJ false) (zg 0) (zg 1))) (zd 0) (sL ys) (s :: .val (.lst (sL row)) :: tl) = .ok (sL (ys.filter (inr row))) ρ' /\ ∃ s', ρ' = s' :: .val (.lst (sL row)) :: tl := by
 obtain ⟨ρ', e, h⟩ := YL (g := zt 0) (c := gB (zj (JJ false) (zg 0) (zg 1))) (e := zd 0) (fun ρ => ∃ s', ρ = s' :: .val (.lst (sL row)) :: tl) (fun d => match d with | .str x => inr row x | _ => false) id (fun d => ∃ x, d = .str x) (fun d ρ ⟨x, hd⟩ ⟨s', hρ⟩ => by
  subst hd hρ
  refine ⟨.val (.str x) :: .val (.lst (sL row)) :: tl, .val (.str x) :: .val (.lst (sL row)) :: tl, rfl, ?_, ⟨_, rfl⟩, fun _ => ⟨_, rfl, _, rfl⟩⟩
  walk_at "gs"
  simp only [zio]
  walk_at "gs") (sL ys) (s :: .val (.lst (sL row)) :: tl) (fun d hd => by obtain ⟨x, _, rfl⟩ := aE.mp hd; exact ⟨x, rfl⟩) ⟨s, rfl⟩
 rw [zj_] at e
 exact ⟨ρ', e, h⟩
theorem zft {xs : List Str} : yv (.lst (sL xs)) = some (.int xs.length) := by show some (D.int (sL xs).length) = _; rw [zX]
theorem zfu {ys row : List Str} (h : ys.length <= 1000) : Zt [.val (PW.count m ys).obj, .val (.lst (sL row))] = .ok (.bl ((PW.count m ys).enough row)) [] := by
 obtain ⟨ρ', e, s', rfl⟩ := zg7 (ys := ys) (row := row) (s := .no) (tl := [])
 have e1 := z6 (ρ2 := [.val (PW.count m ys).obj, .val (.lst (sL row))]) (gi := zJ (zB (jp 1) (zg 0))) (js := [none, some 1]) (ρ := [.val (PW.count m ys).obj, .val (.lst (sL row))]) (jA (j7 (c := 12) (d := .lst (sL ys)) rfl (by decide) rfl)) (by rw [zX]; omega) e rfl
 have e2 := j8 (f := yv) e1 zft
 exact yu (ρ := [.val (PW.count m ys).obj, .val (.lst (sL row))]) rfl (yt (yq e2 (j7 (c := 12) (i := 0) (f := 0) (d := .int m) rfl (by decide) rfl) rfl))
theorem ziq {ps : List (Str × Int)} : ∃ ρ', z9 (zt 0) (gB (zj (JJ false) (gO (zj zF (zg 0) (gO (gC (.int 0))))) (zg 1))) (zj zF (zg 0) (gO (gC (.int 1)))) (ps.map yU) (s :: .val (.lst (sL row)) :: tl) = .ok (((ps.filter fun p => inr row p.1).map (·.2)).map D.int) ρ' /\ ∃ s', ρ' = s' :: .val (.lst (sL row)) :: tl := by
 induction ps generalizing s with
 | nil => exact ⟨_, rfl, s, rfl⟩
 | cons p r ih =>
  obtain ⟨ρ', e, h⟩ := ih (s := .val (yU p))
  have e1 : gB (zj (JJ false) (gO (zj zF (zg 0) (gO (gC (.int 0))))) (zg 1)) (.val (yU p) :: .val (.lst (sL row)) :: tl) = .ok (inr row p.1) (.val (yU p) :: .val (.lst (sL row)) :: tl) := by
   unfold yU
   walk_at "gs"
   simp only [zio]
   walk_at "gs"
  have e2 : zj zF (zg 0) (gO (gC (.int 1))) (.val (yU p) :: .val (.lst (sL row)) :: tl) = .ok (.int p.2) (.val (yU p) :: .val (.lst (sL row)) :: tl) := by
   unfold yU
   walk_at "gs"
  refine ⟨ρ', ?_, h⟩
  rw [aq, YK rfl e1 e2 e, cq]
  cases inr row p.1 <;> rfl
theorem sum_ints {ns : List Int} : YD (.lst (ns.map D.int)) = some (.int ns.sum) := by
 unfold YD Rq Jx; rw [aG, ZO]; rfl
theorem zfv {ps : List (Str × Int)} (h : ps.length <= 1000) : Zu [.val (PW.weigh l ps).obj, .val (.lst (sL row))] = .ok (.bl ((PW.weigh l ps).enough row)) [] := by
 obtain ⟨ρ', e, s', rfl⟩ := ziq (ps := ps) (row := row) (s := .no) (tl := [])
 have e1 := z6 (ρ2 := [.val (PW.weigh l ps).obj, .val (.lst (sL row))]) (gi := zJ (zB (jp 3) (zg 0))) (js := [none, some 1]) (ρ := [.val (PW.weigh l ps).obj, .val (.lst (sL row))]) (jA (j7 (c := 13) (d := .lst (ps.map yU)) rfl (by decide) rfl)) (by rw [ap]; omega) e rfl
 have e2 := j8 (f := YD) e1 sum_ints
 exact yu (ρ := [.val (PW.weigh l ps).obj, .val (.lst (sL row))]) rfl (yt (yq e2 (j7 (c := 13) (i := 0) (f := 2) (d := .int l) rfl (by decide) rfl) rfl))
theorem zfw {h row : List Str} (hl : h.length <= 1000) : jN [.val (PW.houses m e hs).obj, .val (yC h), .val (.lst (sL row))] = .ok (.bl (decide (e <= ((h.filter (inr row)).length : Int)))) [] := by
 obtain ⟨ρ', ec, s', rfl⟩ := zg7 (ys := h) (row := row) (s := .no) (tl := [])
 have e1 := z6 (ρ2 := [.val (PW.houses m e hs).obj, .val (yC h), .val (.lst (sL row))]) (gi := zJ (zd 1)) (js := [none, some 2]) (ρ := [.val (PW.houses m e hs).obj, .val (yC h), .val (.lst (sL row))]) (jx (ds := sL h) rfl) (by rw [zX]; omega) ec rfl
 have e2 := j8 (f := yv) e1 zft
 exact yu (ρ := [.val (PW.houses m e hs).obj, .val (yC h), .val (.lst (sL row))]) rfl (yt (yq e2 (j7 (c := 14) (i := 0) (f := 4) (d := .int e) rfl (by decide) rfl) rfl))
theorem zfU {all hs : List (List Str)} (hh : ∀ h ∈ hs, h.length <= 1000) : ∃ ρ', z9 (zt 0) (gB (zR jO (zd 2) (gCons (zd 0) (gCons (zd 1) gNil)))) (zd 0) (hs.map yC) [s, .val (.lst (sL row)), .val (PW.houses m e all).obj] = .ok ((hs.filter fun h => decide (e <= ((h.filter (inr row)).length : Int))).map yC) ρ' /\ ∃ s', ρ' = [s', .val (.lst (sL row)), .val (PW.houses m e all).obj] := by
 induction hs generalizing s with
 | nil => exact ⟨_, rfl, s, rfl⟩
 | cons h r ih =>
  obtain ⟨ρ', ec, hx⟩ := ih (s := .val (yC h)) fun y hy => hh y (af _ hy)
  have e1 : gB (zR jO (zd 2) (gCons (zd 0) (gCons (zd 1) gNil))) [.val (yC h), .val (.lst (sL row)), .val (PW.houses m e all).obj] = .ok (decide (e <= ((h.filter (inr row)).length : Int))) [.val (yC h), .val (.lst (sL row)), .val (PW.houses m e all).obj] := by
   refine Qw (zab (c := 14) (fs := (PW.houses m e all).fs) (ds := [yC h, .lst (sL row)]) (F := jN) rfl rfl rfl (zfw (m := m) (e := e) (hs := all) (hh h ao)))
  refine ⟨ρ', ?_, hx⟩
  rw [aq, YK (e := zd 0) rfl e1 (y := yC h) rfl ec, cq]
  cases decide (e <= ((h.filter (inr row)).length : Int)) <;> rfl
theorem zdy {hs : List (List Str)} (hl : hs.length <= 1000) (hh : ∀ h ∈ hs, h.length <= 1000) : Q0 [.val (PW.houses m e hs).obj, .val (.lst (sL row))] = .ok (.bl ((PW.houses m e hs).enough row)) [] := by
 obtain ⟨ρ', ec, s', rfl⟩ := zfU (m := m) (e := e) (all := hs) (hs := hs) (row := row) (s := .no) hh
 have e1 := z6 (ρ2 := [.val (PW.houses m e hs).obj, .val (.lst (sL row))]) (gi := zJ (zB (jp 5) (zg 0))) (js := [none, some 1, some 0]) (ρ := [.val (PW.houses m e hs).obj, .val (.lst (sL row))]) (jA (j7 (c := 14) (d := .lst (hs.map yC)) rfl (by decide) rfl)) (by rw [ap]; omega) ec rfl
 have e2 := j8 (f := yv) e1 (by show some (D.int (bR _)) = _; rw [ap])
 exact yu (ρ := [.val (PW.houses m e hs).obj, .val (.lst (sL row))]) rfl (yt (yq e2 (j7 (c := 14) (i := 0) (f := 0) (d := .int m) rfl (by decide) rfl) rfl))
theorem zka (p : PW) (h : p.Small) : ∃ F, QJ p.cls = some F /\ F [.val p.obj, .val (.lst (sL row))] = .ok (.bl (p.enough row)) [] := by
 cases p with
 | count m ys => exact ⟨_, rfl, zfu h⟩
 | weigh l ps => exact ⟨_, rfl, zfv h⟩
 | houses m e hs => exact ⟨_, rfl, zdy h.1 h.2⟩
def PW.first (p : PW) (row : List Str) : Option Nat := ((aT row.length).map (1 + ·)).find? fun k => p.enough (row.take k)
def yW : Option Nat -> D | some k => .int k | none => .non
theorem zbu {p : PW} {row : List Str} (h : p.Small) : ∀ (ks : List Nat) (s : Slot), (∀ k ∈ ks, k <= row.length) ->
 ∃ s', Jf (zt 2) jj (ks.map fun k : Nat => D.int (k : Int)) [.val p.obj, .val (.lst (sL row)), s] = .ok (match ks.find? fun k => p.enough (row.take k) with | some k => .rt (.int k) | none => .nx) [.val p.obj, .val (.lst (sL row)), s']
 | [], s, _ => ⟨s, rfl⟩
 | k :: r, s, hk => by
  have hk0 := hk k ao
  obtain ⟨s', e⟩ := zbu h r (.val (.int k)) fun x hx => hk x (af _ hx)
  obtain ⟨F, hF, eF⟩ := zka p (row := row.take k) h
  have es : Ja (zg 1) yY (jg (zd 2)) [.val p.obj, .val (.lst (sL row)), .val (.int k)] = .ok (.lst (sL (row.take k))) [.val p.obj, .val (.lst (sL row)), .val (.int k)] := by
   walk_at "gs"
   rw [zbt (by rw [zX]; exact hk0), WX]
  have e1 : gB (zR QJ (zd 0) (gCons (Ja (zg 1) yY (jg (zd 2))) gNil)) [.val p.obj, .val (.lst (sL row)), .val (.int k)] = .ok (p.enough (row.take k)) [.val p.obj, .val (.lst (sL row)), .val (.int k)] := by
   refine Qw (zab (c := p.cls) (fs := p.fs) (F := F) (ds := [.lst (sL (row.take k))]) (ρ1 := [.val p.obj, .val (.lst (sL row)), .val (.int k)]) rfl hF (by rw [z0 es]; rfl) eF)
  have e2 : jj [.val p.obj, .val (.lst (sL row)), .val (.int k)] = .ok (if p.enough (row.take k) = true then .rt (.int k) else .nx) [.val p.obj, .val (.lst (sL row)), .val (.int k)] := by
   unfold jj yQ
   rw [e1, zC]
   split <;> rfl
  rw [aq]
  unfold Jf
  show ∃ s', YV (jj [.val p.obj, .val (.lst (sL row)), .val (.int k)]) _ = _
  rw [e2, List.find?_cons]
  cases hb : p.enough (row.take k) with
  | true => exact ⟨_, rfl⟩
  | false => exact ⟨s', e⟩
theorem zrK (n : Nat) : yB 1 (((n : Int) + 1) - 1).toNat = ((aT n).map (1 + ·)).map fun k : Nat => D.int (k : Int) := by
 unfold yB
 rw [show (((n : Int) + 1) - 1).toNat = n by omega, cP]
 refine eL fun i _ => ?_
 show D.int (1 + (i : Int)) = D.int ((1 + i : Nat) : Int)
 rw [dC]; rfl
theorem zqk {n : Nat} (hr : n <= 1000) : zeN [.int 1, .int ((n : Int) + 1)] = some (((aT n).map (1 + ·)).map fun k : Nat => D.int (k : Int)) := by
 rw [zn9 ⟨by omega, by omega, by omega, by omega⟩, zrK]
theorem zir {row : List Str} (hr : row.length <= 1000) : JQ (gCons (gC (.int 1)) (gCons (zj yH (gO (zB yv (zg 1))) (gO (gC (.int 1)))) gNil)) [.val x, .val (.lst (sL row)), .no] = .ok (((aT row.length).map (1 + ·)).map fun k : Nat => D.int (k : Int)) [.val x, .val (.lst (sL row)), .no] := by
 refine zfQ ?_ (zqk hr)
 walk_at "gs"
 simp only [zX]
theorem zbv {p : PW} {row : List Str} (h : p.Small) (hr : row.length <= 1000) : jF [.val p.obj, .val (.lst (sL row))] = .ok (yW (p.first row)) [] := by
 obtain ⟨s', e⟩ := zbu h ((aT row.length).map (1 + ·)) .no (fun k hk => by obtain ⟨i, hi, rfl⟩ := aE.mp hk; have := bm.mp hi; omega) (row := row)
 have ef : Qk (JQ (gCons (gC (.int 1)) (gCons (zj yH (gO (zB yv (zg 1))) (gO (gC (.int 1)))) gNil))) (zt 2) jj [.val p.obj, .val (.lst (sL row)), .no] = .ok (match ((aT row.length).map (1 + ·)).find? fun k => p.enough (row.take k) with | some k => .rt (.int k) | none => .nx) [.val p.obj, .val (.lst (sL row)), s'] := by
  unfold Qk
  rw [zir hr, zC]
  exact e
 unfold PW.first
 cases hf : List.find? (fun k => p.enough (List.take k row)) ((aT row.length).map (1 + ·)) with
 | none => rw [hf] at ef; exact yu (ρ := [.val p.obj, .val (.lst (sL row)), s']) rfl ((zn ef).trans rfl)
 | some k => rw [hf] at ef; exact yu (ρ := [.val p.obj, .val (.lst (sL row)), s']) rfl (Jy ef)
theorem zfV {p : PW} {row : List Str} (h : p.Small) (hr : row.length <= 1000) : ∃ F, yI (n + 1) p.cls = some F /\ F [.val p.obj, .val (.lst (sL row))] = .ok (yW (p.first row)) [] := by
 have e : jk [.val p.obj, .val (.lst (sL row))] = .ok (yW (p.first row)) [] := yu rfl (yt (JX (ds := [p.obj, .lst (sL row)]) rfl (zbv h hr)))
 cases p <;> exact ⟨_, rfl, e⟩
def PW.names : PW -> List Str | .count _ ys => ys | .weigh _ ps => ps.map (·.1) | .houses _ _ hs => hs.flatten
def PW.Ok : PW -> Prop
 | .count m ys => Names ys /\ ys.length <= 5 /\ 1 <= m /\ m <= ys.length
 | .weigh l ps => Names (ps.map (·.1)) /\ ps.length <= 5 /\ (∀ p ∈ ps, 1 <= p.2 /\ p.2 <= 1000000000) /\ 1 <= l /\ l <= (ps.map (·.2)).sum
 | .houses m e hs => (∀ h ∈ hs, Names h /\ h.length <= 5 /\ e <= h.length) /\ hs.length <= 5 /\ 1 <= m /\ m <= hs.length /\ 1 <= e /\ (dd hs.flatten).length <= 5
theorem PW.Ok.small {p : PW} (h : p.Ok) : p.Small := by
 cases p with
 | count m ys => have h1 := h.2.1; show ys.length <= 1000; omega
 | weigh l ps => have h1 := h.2.1; show ps.length <= 1000; omega
 | houses m e hs => have h1 := h.2.1; exact ⟨by omega, fun x hx => by have := (h.1 x hx).2.1; omega⟩
theorem zg8 {ys r r' : List Str} (h : ∀ x, inr r x = true -> inr r' x = true) : (ys.filter (inr r)).length <= (ys.filter (inr r')).length := by
 rw [← cg, ← cg]
 exact gg fun x _ => h x
theorem zql {ps : List (Str × Int)} (h : ∀ x, inr r x = true -> inr r' x = true) (hp : ∀ p ∈ ps, 1 <= p.2) : ((ps.filter fun p => inr r p.1).map (·.2)).sum <= ((ps.filter fun p => inr r' p.1).map (·.2)).sum := by
 induction ps with
 | nil => exact gh _
 | cons p t ih =>
  have i1 := ih fun q hq => hp q (af _ hq)
  have i2 := hp p ao
  rw [cq, cq]
  cases h1 : inr r p.1 with
  | true => rw [h _ h1]; simp only [if_true, aq, eo]; omega
  | false =>
   cases h2 : inr r' p.1 with
   | true => simp only [aM, if_false, if_true, aq, eo]; omega
   | false => simp only [aM, if_false]; exact i1
theorem zg9 {p : PW} (hp : p.Ok) (h : ∀ x, inr r x = true -> inr r' x = true) : p.have r <= p.have r' := by
 cases p with
 | count m ys => exact kA.mpr (zg8 h)
 | weigh l ps => exact zql h fun p hx => (hp.2.2.1 p hx).1
 | houses m e hs =>
  show ((hs.filter _).length : Int) <= ((hs.filter _).length : Int)
  rw [← cg, ← cg]
  refine kA.mpr (gg fun x _ hx => ?_)
  rw [decide_eq_true_eq] at hx ⊢
  have := zg8 (ys := x) h
  omega
theorem zfx {p : PW} (hp : p.Ok) : p.have [] < p.need := by
 have e : ∀ ys : List Str, ys.filter (inr []) = [] := fun ys => dR.mpr fun x _ => by simp [inr]
 cases p with
 | count m ys => have := hp.2.2.1; show ((ys.filter (inr [])).length : Int) < m; rw [e]; exact eX (by decide) this
 | weigh l ps =>
  have := hp.2.2.2.1
  have e2 : (ps.filter fun p => inr [] p.1) = [] := dR.mpr fun x _ => by simp [inr]
  show ((ps.filter fun p => inr [] p.1).map (·.2)).sum < l
  rw [e2]; exact eX (by decide) this
 | houses m e' hs =>
  have h1 := hp.2.2.1
  have h2 := hp.2.2.2.2.1
  have e2 : (hs.filter fun h => decide (e' <= ((h.filter (inr [])).length : Int))) = [] := dR.mpr fun x _ => by rw [e]; simp; omega
  show ((hs.filter fun h => decide (e' <= ((h.filter (inr [])).length : Int))).length : Int) < m
  rw [e2]; exact eX (by decide) h1
theorem Jp {p : PW} (hp : p.Ok) (row : List Str) : (p.first row).isSome = p.enough row := by
 unfold PW.first
 cases h : p.enough row with
 | true =>
  rw [ig]
  have hne : row ≠ [] := fun z => by
   subst z
   have := zfx hp
   unfold PW.enough at h
   rw [decide_eq_true_eq] at h
   omega
  have hl := bv.mpr hne
  refine ⟨row.length, aE.mpr ⟨row.length - 1, bm.mpr (by omega), by omega⟩, ?_⟩
  rw [d6]; exact h
 | false =>
  rw [Bool.eq_false_iff]
  intro z
  rw [ig] at z
  obtain ⟨k, _, hk⟩ := z
  unfold PW.enough at h hk
  rw [decide_eq_true_eq] at hk
  rw [decide_eq_false_iff_not] at h
  have := zg9 hp (r := row.take k) (r' := row) fun x hx => by
   unfold inr at hx ⊢
   rw [decide_eq_true_eq] at hx ⊢
   exact eB hx
  omega
theorem zdn {ys : List Str} (hn : Names ys) (h1 : 1 <= ys.length) (h5 : ys.length <= 5) : jE [.val (.lst (sL ys))] = .ok (.bl true) [] := by
 have e1 : zY [.val (.lst (sL ys))] = .ok (.bl true) [] := by
  rw [YO Ua]
  unfold zbq; dsimp only
  rw [zX, decide_eq_true h1, decide_eq_true h5]; rfl
 have e2 : jv [.val (.lst (sL ys))] = .ok (.bl true) [] := by
  rw [zdm Ua fun ds hd => by cases hd; exact ⟨by rw [zX]; omega, fun e he => by obtain ⟨x, hx, rfl⟩ := aE.mp he; exact VA (hn.2 x hx)⟩]
  show RF.ok (.bl (zaa (sL ys))) [] = _
  rw [zbr hn]
 refine yu (ρ := [.val (.lst (sL ys))]) rfl (yt ?_)
 refine (QC (k := true) (JX (ds := [.lst (sL ys)]) rfl e1)).trans ?_
 rw [if_pos rfl]
 exact JX (ds := [.lst (sL ys)]) rfl e2
theorem zbw (h1 : 1 <= i) (h2 : i <= m) : yX [.val (.int i), .val (.int m)] = .ok (.bl true) [] := by
 rw [zfS zj8]
 unfold upD; dsimp only
 rw [decide_eq_true h1, decide_eq_true h2]; rfl
theorem yV (h : a ρ = .ok (.bl true) ρ1) : yh (zv zZ (gCons a (gCons (gC (.str w)) gNil))) ρ = .ok .nx ρ1 :=
 YM (JX (ds := [.bl true, .str w]) ((z0 h).trans rfl) zj9)
theorem Jz {F : Fn} {a : G D} {ρ ρ1 : Env} {x d : D} {os : List D} (h : a ρ = .ok x ρ1) (hF : F [.val x] = .ok d os) : zv F (gCons a gNil) ρ = .ok d ρ1 := JX (ds := [x]) ((z0 h).trans rfl) hF
theorem Jq {F : Fn} {a b : G D} {ρ ρ1 ρ2 : Env} {x y d : D} {os : List D} (h : a ρ = .ok x ρ1) (h2 : b ρ1 = .ok y ρ2) (hF : F [.val x, .val y] = .ok d os) : zv F (gCons a (gCons b gNil)) ρ = .ok d ρ2 := JX (ds := [x, y]) ((z0 h).trans (by rw [z0 h2]; rfl)) hF
theorem VB (h : (PW.count m ys).Ok) : jl [.own (.obj 12 []), .val (.int m), .val (.lst (sL ys))] = .ok .non [(PW.count m ys).obj] := by
 obtain ⟨hn, h5, h1, hm⟩ := h
 refine YN (ρ := [.val (.int m), .val (.lst (sL ys))]) rfl ?_
 refine (zn (yV (Jz (a := zd 2) rfl (zdn hn (by omega) h5)))).trans ?_
 refine (zn (yV (Jq (a := zd 1) (b := zB yv (zg 2)) (x := .int m) (y := .int ys.length) rfl (by walk_at "gs"; rw [zX]) (zbw h1 hm)))).trans ?_
 unfold Wn
 walk_at "gs"
 rfl
theorem zis (hx : Jo x = true) (h1 : 1 <= i) (h2 : i <= 1000000000) : ZS [.val (yU (x, i))] = .ok (.bl true) [] := by
 have e1 : jK [.val (.str x)] = .ok (.bl true) [] := by rw [zfq (VA hx)]; show RF.ok (.bl (Jo x)) [] = _; rw [hx]
 refine yu (ρ := [.val (yU (x, i))]) rfl ?_
 refine (zn (ρ1 := [.val (yU (x, i))]) (by unfold yU; walk_at "gs")).trans ?_
 refine yt ((QC (k := true) (Jz (a := zj zF (zg 0) (gO (gC (.int 0)))) (x := .str x) (ρ1 := [.val (yU (x, i))]) (by unfold yU; walk_at "gs") e1)).trans ?_)
 rw [if_pos rfl]
 exact Jq (a := zj zF (zg 0) (gO (gC (.int 1)))) (x := .int i) (y := .int 1000000000) (ρ1 := [.val (yU (x, i))]) (by unfold yU; walk_at "gs") rfl (zbw h1 h2)
theorem zfy {ps : List (Str × Int)} : ∃ s', z9 (zt 0) yJ (zj zF (zg 0) (gO (gC (.int 0)))) (ps.map yU) [s] = .ok (sL (ps.map (·.1))) [s'] := by
 induction ps generalizing s with
 | nil => exact ⟨s, rfl⟩
 | cons p r ih =>
  obtain ⟨s', e⟩ := ih (s := .val (yU p))
  have e2 : zj zF (zg 0) (gO (gC (.int 0))) [.val (yU p)] = .ok (.str p.1) [.val (yU p)] := by unfold yU; walk_at "gs"
  refine ⟨s', ?_⟩
  rw [aq]
  exact jw rfl e2 e
theorem zlT {ps : List (Str × Int)} : ∃ s', z9 (zt 0) yJ (zj zF (zg 0) (gO (gC (.int 1)))) (ps.map yU) [s] = .ok ((ps.map (·.2)).map D.int) [s'] := by
 induction ps generalizing s with
 | nil => exact ⟨s, rfl⟩
 | cons p r ih =>
  obtain ⟨s', e⟩ := ih (s := .val (yU p))
  have e2 : zj zF (zg 0) (gO (gC (.int 1))) [.val (yU p)] = .ok (.int p.2) [.val (yU p)] := by unfold yU; walk_at "gs"
  refine ⟨s', ?_⟩
  rw [aq]
  exact jw rfl e2 e
theorem zac {ds : List D} (hi : ρ[i]? = some (.val (.lst ds))) (hl : ds.length <= 1000) (hF : ∀ d ∈ ds, F [.val d] = .ok (.bl true) []) :
 zB YC (gO (zU (zJ (zd i)) [none] (zt 0) yJ (zv F (gCons (zd 0) gNil)))) ρ = .ok (.bl true) ρ := by
 rw [zdl (f := fun _ => true) hi (by omega) hF]; simp
theorem zad {ds : List D} (h1 : 1 <= ds.length) (h5 : ds.length <= 5) : zY [.val (.lst ds)] = .ok (.bl true) [] := by
 rw [YO Ua]
 unfold zbq; dsimp only
 rw [decide_eq_true h1, decide_eq_true h5]; rfl
theorem zkb {ys : List Str} (hn : Names ys) (h5 : ys.length < 1000) : jv [.val (.lst (sL ys))] = .ok (.bl true) [] := by
 rw [zdm Ua fun ds hd => by cases hd; exact ⟨by rw [zX]; omega, fun e he => by obtain ⟨x, hx, rfl⟩ := aE.mp he; exact VA (hn.2 x hx)⟩]
 show RF.ok (.bl (zaa (sL ys))) [] = _
 rw [zbr hn]
theorem zit {l : Int} {ps : List (Str × Int)} (h : (PW.weigh l ps).Ok) : Yq [.own (.obj 13 []), .val (.int l), .val (.lst (ps.map yU))] = .ok .non [(PW.weigh l ps).obj] := by
 obtain ⟨hn, h5, hw, h1, hl⟩ := h
 have hp : 1 <= ps.length := by
  cases ps with
  | nil => simp at hl; omega
  | cons _ _ => simp
 obtain ⟨s1, ec1⟩ := zfy (ps := ps) (s := .no)
 obtain ⟨s2, ec2⟩ := zlT (ps := ps) (s := .no)
 refine YN (ρ := [.val (.int l), .val (.lst (ps.map yU))]) rfl ?_
 refine (zn (yV (Jz (a := zd 2) rfl (zad (by simpa using hp) (by simpa using h5))))).trans ?_
 refine (zn (yV (zac (ds := ps.map yU) rfl (by rw [ap]; omega) fun d hd => by
  obtain ⟨p, hp, rfl⟩ := aE.mp hd
  exact zis (hn.2 _ (List.mem_map_of_mem hp)) (hw p hp).1 (hw p hp).2))).trans ?_
 refine (zn (yV (Jz (x := .lst (sL (ps.map (·.1)))) (ρ1 := [.own (.obj 13 []), .val (.int l), .val (.lst (ps.map yU))]) (z6 (jx (ds := ps.map yU) rfl) (by rw [ap]; omega) ec1 rfl) (zkb hn (by rw [ap]; omega))))).trans ?_
 refine (zn (yV (Jq (a := zd 1) (x := .int l) (y := .int (ps.map (·.2)).sum) (ρ2 := [.own (.obj 13 []), .val (.int l), .val (.lst (ps.map yU))]) rfl (j8 (z6 (jx (ds := ps.map yU) rfl) (by rw [ap]; omega) ec2 rfl) sum_ints) (zbw h1 hl)))).trans ?_
 unfold Wp
 walk_at "gs"
 rfl
theorem zfz {hs : List (List Str)} : ∃ s', z9 (zt 0) yJ (zB yv (zg 0)) (hs.map yC) [s] = .ok ((hs.map fun h => (h.length : Int)).map D.int) [s'] := by
 induction hs generalizing s with
 | nil => exact ⟨s, rfl⟩
 | cons p r ih =>
  obtain ⟨s', e⟩ := ih (s := .val (yC p))
  have e2 : zB yv (zg 0) [.val (yC p)] = .ok (.int p.length) [.val (yC p)] := by unfold yC; walk_at "gs"; rw [zX]
  refine ⟨s', ?_⟩
  rw [aq]
  exact jw rfl e2 e
theorem zdo {hs : List (List Str)} : ∃ s', z9 (zt 0) yJ (jn jW (zg 0)) (hs.map yC) [s] = .ok (hs.map yC) [s'] := by
 induction hs generalizing s with
 | nil => exact ⟨s, rfl⟩
 | cons p r ih =>
  obtain ⟨s', e⟩ := ih (s := .val (yC p))
  have e2 : jn jW (zg 0) [.val (yC p)] = .ok (yC p) [.val (yC p)] := by unfold yC; walk_at "gs"
  refine ⟨s', ?_⟩
  rw [aq]
  exact jw rfl e2 e
theorem zg_ : ∀ {ns : List Int}, ns ≠ [] -> (∀ n ∈ ns, e <= n) -> e <= Jb ns
 | [], h, _ => absurd rfl h
 | x :: xs, _, h => by
  show e <= xs.foldl (fun a b => if b < a then b else a) x
  have hx := h x ao
  have hs : ∀ n ∈ xs, e <= n := fun n hn => h n (af _ hn)
  clear h
  induction xs generalizing x with
  | nil => exact hx
  | cons y ys ih =>
   rw [eI]
   refine ih _ (by simp) ?_ (fun n hn => hs n (af _ hn))
   have := hs y ao
   split <;> omega
theorem zfA {ns : List Int} (h : ns ≠ []) : WT (.lst (ns.map D.int)) = some (.int (Jb ns)) := by
 unfold WT Rq Jx; rw [aG, ZO]
 show zaV ns = _
 unfold zaV; rw [if_neg h]
theorem ziu {hs : List (List Str)} (hl : hs.length <= 5) (hh : ∀ h ∈ hs, h.length <= 5) : Jn [.val (PW.houses m e hs).obj] = .ok (.lst (sL hs.flatten)) [] := by
 have loop : ∀ (l : List (List Str)) (f : List Str) (s : Slot), (∀ h ∈ l, h.length <= 5) -> f.length + 5 * l.length <= 100 -> ∃ s', Jf (zt 2) (yh (jo Zj 1 (zd 2))) (l.map yC) [.val (PW.houses m e hs).obj, .own (.lst (sL f)), s] = .ok .nx [.val (PW.houses m e hs).obj, .own (.lst (sL (f ++ l.flatten))), s'] := by
  intro l
  induction l with
  | nil => intro f s _ _; exact ⟨s, by simp [Jf]⟩
  | cons h r ih =>
   intro f s hh hf
   have h5 := hh h ao
   simp only [au] at hf
   obtain ⟨s', e1⟩ := ih (f ++ h) (.val (yC h)) (fun x hx => hh x (af _ hx)) (by rw [aP]; omega)
   refine ⟨s', ?_⟩
   rw [aq]
   have hx : Zj (sL f) (.lst (sL h)) = some (.non, sL (f ++ h)) := by
    unfold Zj; dsimp only
    rw [if_pos (by rw [zX, zX]; omega), zbo]
   have e2 : yh (jo Zj 1 (zd 2)) [.val (PW.houses m e hs).obj, .own (.lst (sL f)), .val (yC h)] = .ok .nx [.val (PW.houses m e hs).obj, .own (.lst (sL (f ++ h))), .val (yC h)] := by
    unfold yC
    walk_at "gs"
    simp only [hx]
    walk_at "gs"
   rw [WU rfl e2, e1, ii, bT]
 obtain ⟨s', e1⟩ := loop hs [] .no hh (by simp; omega)
 have e0 := jA (j7 (ρ := [.val (PW.houses m e hs).obj, .own (.lst []), .no]) (c := 14) (i := 0) (f := 5) (d := .lst (hs.map yC)) rfl (by decide) rfl)
 refine yu (ρ := [.val (PW.houses m e hs).obj, .val (.lst (sL hs.flatten)), s']) rfl ?_
 refine (zn (ρ1 := [.val (PW.houses m e hs).obj, .own (.lst []), .no]) rfl).trans ?_
 refine (zn ((WW e0).trans e1)).trans ?_
 rfl
theorem ziv {xs : List Str} (h : xs.length < 64) : Zl (.lst (sL xs)) = some (sL (Qv (dd xs))) := by
 unfold Zl ZC Jx sL
 simp only [aG, ZP, if_pos h]
theorem VC : ∀ {l m : List Str}, l.Nodup -> (∀ x ∈ l, x ∈ m) -> l.length <= m.length
 | [], _, _, _ => ck _
 | x :: r, m, hn, h => by
  have hx := h x ao
  have i := VC (l := r) (m := m.erase x) (bK.mp hn).2 fun y hy => (gp (a := y) (b := x) (fun z => (bK.mp hn).1 (by rw [← z]; exact hy))).mpr (h y (af _ hy))
  rw [fm hx] at i
  have := List.length_pos_of_mem hx
  rw [au]; omega
theorem zqX {xs ys : List Str} (h : ∀ x ∈ xs, x ∈ ys) : (dd xs).length <= ys.length := VC Vi fun x hx => h x (dd_mem.mp hx)
theorem zoc {ps : List (Str × Int)} (h : ∀ p ∈ ps, 1 <= p.2 /\ p.2 <= 1000000000) : (ps.length : Int) <= (ps.map (·.2)).sum /\ (ps.map (·.2)).sum <= 1000000000 * ps.length := by
 induction ps with
 | nil => simp
 | cons p r ih =>
  have i1 := ih fun q hq => h q (af _ hq)
  have i2 := h p ao
  simp only [aq, eo, au]
  omega
theorem Wu {ρ ρ1 : Env} {ds : List D} (h0 : ρ[j]? = some (.own o0)) (h1 : a ρ = .ok ds ρ1) (h2 : ρ1[j]? = some (.own o)) (h3 : F (.own o :: ds.map .val) = .ok d [o']) : zu j F a ρ = .ok d (ρ1.set j (.own o')) := by
 unfold zu; rw [h0]; simp only [Vg, yR, zC, h1, h2, h3, YW]
theorem Jc {ρ ρ1 ρ2 : Env} (h0 : ρ[j]? = some (.own o0)) (h1 : a ρ = .ok x ρ1) (h2 : ρ1[j]? = some (.own o)) (h3 : F [.own o, .val x] = .ok d [o']) (h4 : ρ1.set j (.own o') = ρ2) : zu j F (gCons a gNil) ρ = .ok d ρ2 := by
 rw [Wu (ds := [x]) h0 ((z0 h1).trans rfl) h2 h3, h4]
theorem zbx (ht : 0 < top /\ top <= 1000000000) : ∀ (xs : List Str) (s : Slot) (o : D), yb o -> ∃ (ws : List Int) (s' : Slot) (o' : D), yb o' /\ ws.length = xs.length /\ (∀ w ∈ ws, 1 <= w /\ w <= 1000000000) /\ z9 (zt 0) yJ (gTup (gCons (zd 0) (gCons (zj yH (gO (gC (.int 1))) (gO (zu 1 zr (gCons (zd 2) gNil)))) gNil))) (sL xs) [s, .own o, .val (.int top)] = .ok ((xs.zip ws).map yU) [s', .own o', .val (.int top)]
 | [], s, o, hw => ⟨[], s, o, hw, rfl, (fun w h => (nomatch h)), rfl⟩
 | x :: r, s, o, hw => by
  obtain ⟨b, o1, e, b0, b1, hw1⟩ := yL hw (n := top) ht.1 (by omega)
  obtain ⟨ws, s', o', hw', hl, hh, e2⟩ := zbx ht r (.val (.str x)) o1 hw1
  refine ⟨(1 + b) :: ws, s', o', hw', by simp [hl], fun w h => (aB.mp h).elim (fun z => by subst z; omega) (hh w), ?_⟩
  have e3 : gTup (gCons (zd 0) (gCons (zj yH (gO (gC (.int 1))) (gO (zu 1 zr (gCons (zd 2) gNil)))) gNil)) [.val (.str x), .own o, .val (.int top)] = .ok (yU (x, 1 + b)) [.val (.str x), .own o1, .val (.int top)] := by
   walk_at "gs"
   simp only [e]
   walk_at "gs"
   rfl
  show z9 _ _ _ (.str x :: sL r) _ = _
  exact jw rfl e3 e2
theorem RH {xs : List Str} (h1 : 1 <= xs.length) (h2 : xs.length <= 5) : ∀ (ds : List D) (s : Slot) (o : D), yb o -> ∃ (hs : List (List Str)) (s' : Slot) (o' : D), yb o' /\ hs.length = ds.length /\ (∀ h ∈ hs, 1 <= h.length /\ ∃ rest, (h ++ rest).Perm xs) /\ z9 (zt 0) yJ (zu 1 jU (gCons (zd 2) gNil)) ds [s, .own o, .val (.lst (sL xs))] = .ok (hs.map yC) [s', .own o', .val (.lst (sL xs))]
 | [], s, o, hw => ⟨[], s, o, hw, rfl, (fun w h => (nomatch h)), rfl⟩
 | d :: r, s, o, hw => by
  obtain ⟨ys, rest, o1, e, y1, yp, hw1⟩ := zco hw h1 (by omega)
  obtain ⟨hs, s', o', hw', hl, hh, e2⟩ := RH h1 h2 r (.val d) o1 hw1
  refine ⟨ys :: hs, s', o', hw', by simp [hl], fun w h => (aB.mp h).elim (fun z => by subst z; exact ⟨y1, rest, yp⟩) (hh w), ?_⟩
  have e3 : zu 1 jU (gCons (zd 2) gNil) [.val d, .own o, .val (.lst (sL xs))] = .ok (yC ys) [.val d, .own o1, .val (.lst (sL xs))] := by
   walk_at "gs"
   simp only [e]
   walk_at "gs"
   rfl
  exact jw rfl e3 e2
theorem Q5 {xs ys rest : List Str} (h : Names xs) (p : (ys ++ rest).Perm xs) : Names ys /\ ys.length <= xs.length /\ ∀ x ∈ ys, x ∈ xs :=
 ⟨(h.perm p).left, by have := p.length_eq; rw [aP] at this; omega, fun x hx => p.mem_iff.mp (aL _ hx)⟩
theorem zfW {xs : List Str} (hw : yb o) (hx : Names xs) (h1 : 1 <= xs.length) (h5 : xs.length <= 5) : ∃ p : PW, ∃ o' s3, (p.Ok /\ ∀ x ∈ p.names, x ∈ xs) /\ yb o' /\ zw (yi 3 (zu 0 jU (gCons (zd 1) gNil))) ZD [.own o, .val (.lst (sL xs)), .val k, .no, .no, .no, .no, .no] = .ok (.rt p.told) [.own o', .val (.lst (sL xs)), .val k, s3, .no, .no, .no, .no] := by
 obtain ⟨ys, rest, o1, e, y1, yp, hw1⟩ := zco hw h1 (by omega)
 obtain ⟨yn, yl, ym⟩ := Q5 hx yp
 obtain ⟨b, o2, e2, b0, b1, hw2⟩ := yL hw1 (n := ys.length) (by omega) (by omega)
 refine ⟨.count (1 + b) ys, o2, .val (.lst (sL ys)), ⟨⟨yn, by omega, by omega, by omega⟩, ym⟩, hw2, ?_⟩
 unfold ZD
 walk_at "gs"
 simp only [e]
 walk_at "gs"
 simp only [zX, e2]
 walk_at "gs"
 rfl
theorem zha : ∀ {xs : List Str} {ws : List Int}, ws.length = xs.length -> (xs.zip ws).map (·.1) = xs
 | [], [], _ => rfl
 | _ :: _, [], h => by simp at h
 | [], _ :: _, h => by simp at h
 | x :: xs, w :: ws, h => by simp only [List.zip_cons_cons, aq]; rw [zha (by simpa using h)]
theorem zkc {ps : List (Str × Int)} : ∃ s' t', z9 (YU (Qc (zt 0) (Qc (zt 1) Vd)) 2) yJ (zd 1) (ps.map yU) [s, t] = .ok ((ps.map (·.2)).map D.int) [s', t'] := by
 induction ps generalizing s t with
 | nil => exact ⟨s, t, rfl⟩
 | cons p r ih =>
  obtain ⟨s', t', e⟩ := ih (s := .val (.str p.1)) (t := .val (.int p.2))
  refine ⟨s', t', ?_⟩
  rw [aq]
  exact jw rfl rfl e
theorem zqm (hw : yb o) : ∃ top o', (0 < top /\ top <= 1000000000) /\ yb o' /\ zj zF (gO (yx (gCons (gC (.int 3)) (gCons (gC (.int 3)) (gCons (zj V7 (gO (gC (.int 10))) (gO (gC (.int 9)))) gNil))))) (gO (zu 0 zr (gCons (gC (.int 3)) gNil))) (.own o :: s1 :: k :: tl) = .ok (.int top) (.own o' :: s1 :: k :: tl) := by
 obtain ⟨b, o1, e, b0, b1, hw1⟩ := yL hw (n := 3) (by decide) (by decide)
 have hp : zbT 10 9 := ⟨by decide, by decide, by decide⟩
 have hb : b = 0 \/ b = 1 \/ b = 2 := by omega
 have el : yx (gCons (gC (.int 3)) (gCons (gC (.int 3)) (gCons (zj V7 (gO (gC (.int 10))) (gO (gC (.int 9)))) gNil))) (.own o :: s1 :: k :: tl) = .ok (.lst [.int 3, .int 3, .int 1000000000]) (.own o :: s1 :: k :: tl) := by
  walk_at "gs"
  simp only [if_pos hp]
  walk_at "gs"
  rfl
 have ec : zu 0 zr (gCons (gC (.int 3)) gNil) (.own o :: s1 :: k :: tl) = .ok (.int b) (.own o1 :: s1 :: k :: tl) := by
  walk_at "gs"
  simp only [e]
  walk_at "gs"
 rcases hb with rfl | rfl | rfl
 · exact ⟨3, o1, by omega, hw1, yq el ec ix0⟩
 · exact ⟨3, o1, by omega, hw1, yq el ec ix1⟩
 · exact ⟨1000000000, o1, by omega, hw1, yq el ec ix2⟩
theorem zfX {xs : List Str} (hw : yb o) (hx : Names xs) (h1 : 1 <= xs.length) (h5 : xs.length <= 5) : ∃ p : PW, ∃ o' s4 s5, (p.Ok /\ ∀ x ∈ p.names, x ∈ xs) /\ yb o' /\ zw (yi 4 (zj zF (gO (yx (gCons (gC (.int 3)) (gCons (gC (.int 3)) (gCons (zj V7 (gO (gC (.int 10))) (gO (gC (.int 9)))) gNil))))) (gO (zu 0 zr (gCons (gC (.int 3)) gNil))))) Um [.own o, .val (.lst (sL xs)), .val k, s3, .no, .no, .no, .no] = .ok (.rt p.told) [.own o', .val (.lst (sL xs)), .val k, s3, s4, s5, .no, .no] := by
 obtain ⟨top, o1, ht, hw1, et⟩ := zqm hw (s1 := .val (.lst (sL xs))) (k := .val k) (tl := [s3, .no, .no, .no, .no])
 obtain ⟨ys, rest, o2, e, y1, yp, hw2⟩ := zco hw1 h1 (by omega)
 obtain ⟨yn, yl, ym⟩ := Q5 hx yp
 obtain ⟨ws, s0', o3, hw3, wl, wh, ec⟩ := zbx ht ys .no o2 hw2
 have pf := zha (xs := ys) wl
 have pl : (ys.zip ws).length = ys.length := by rw [List.length_zip, wl, ku]
 have pw : ∀ p ∈ ys.zip ws, 1 <= p.2 /\ p.2 <= 1000000000 := fun p hp => wh p.2 (eE hp).2
 have ps := zoc pw
 obtain ⟨b, o4, e4, b0, b1, hw4⟩ := yL hw3 (n := ((ys.zip ws).map (·.2)).sum) (by omega) (by omega)
 obtain ⟨s', t', ec2⟩ := zkc (ps := ys.zip ws) (s := .no) (t := .no)
 refine ⟨.weigh (1 + b) (ys.zip ws), o4, .val (.int top), .val (.lst ((ys.zip ws).map yU)), ⟨⟨by rw [pf]; exact yn, by omega, pw, by omega, by omega⟩, by show ∀ x ∈ (ys.zip ws).map (·.1), x ∈ xs; rw [pf]; exact ym⟩, hw4, ?_⟩
 refine (zn (yg et)).trans ?_
 have ei : zJ (zu 0 jU (gCons (zd 1) gNil)) [.own o1, .val (.lst (sL xs)), .val k, s3, .val (.int top), .no, .no, .no] = .ok (sL ys) [.own o2, .val (.lst (sL xs)), .val k, s3, .val (.int top), .no, .no, .no] := by
  refine jA ?_
  walk_at "gs"
  simp only [e]
  walk_at "gs"
 have ecc := z6 (ρ2 := [.own o3, .val (.lst (sL xs)), .val k, s3, .val (.int top), .no, .no, .no]) (js := [none, some 0, some 4]) ei (by rw [zX]; omega) ec rfl
 refine (zn (yg ecc)).trans ?_
 show ZE [.own o3, .val (.lst (sL xs)), .val k, s3, .val (.int top), .val (.lst ((ys.zip ws).map yU)), .no, .no] = _
 have ecd := z6 (ρ2 := [.own o3, .val (.lst (sL xs)), .val k, s3, .val (.int top), .val (.lst ((ys.zip ws).map yU)), .no, .no]) (js := [none, none]) (jx (i := 5) (ρ := [.own o3, .val (.lst (sL xs)), .val k, s3, .val (.int top), .val (.lst ((ys.zip ws).map yU)), .no, .no]) (ds := (ys.zip ws).map yU) rfl) (by rw [ap]; omega) ec2 rfl
 have es := j8 (f := YD) ecd sum_ints
 have ek : zj yH (gO (gC (.int 1))) (gO (zu 0 zr (gCons (zB YD (gO (zU (zJ (zd 5)) [none, none] (YU (Qc (zt 0) (Qc (zt 1) Vd)) 2) yJ (zd 1)))) gNil))) [.own o3, .val (.lst (sL xs)), .val k, s3, .val (.int top), .val (.lst ((ys.zip ws).map yU)), .no, .no] = .ok (.int (1 + b)) [.own o4, .val (.lst (sL xs)), .val k, s3, .val (.int top), .val (.lst ((ys.zip ws).map yU)), .no, .no] :=
  yq (a := gC (.int 1)) (x := .int 1) (y := .int b) rfl (Jc (j := 0) rfl es rfl e4 rfl) rfl
 unfold ZE
 refine yt ?_
 show O.bind (O.bind (gCons (zj yH (gO (gC (.int 1))) (gO (zu 0 zr (gCons (zB YD (gO (zU (zJ (zd 5)) [none, none] (YU (Qc (zt 0) (Qc (zt 1) Vd)) 2) yJ (zd 1)))) gNil)))) (gCons (zd 5) gNil) [.own o3, .val (.lst (sL xs)), .val k, s3, .val (.int top), .val (.lst ((ys.zip ws).map yU)), .no, .no]) _) _ = _
 rw [z0 ek]
 rfl
theorem zod (hw : yb o) : ∃ n o', 1 <= n /\ n <= 5 /\ yb o' /\ zj yH (gO (gC (.int 1))) (gO (zu 0 zr (gCons (zj zF (gO (yx (gCons (gC (.int 2)) (gCons (gC (.int 4)) (gCons (gC (.int 5)) gNil))))) (gO (zu 0 zr (gCons (gC (.int 3)) gNil)))) gNil))) (.own o :: s1 :: k :: tl) = .ok (.int n) (.own o' :: s1 :: k :: tl) := by
 obtain ⟨b, o1, e, b0, b1, hw1⟩ := yL hw (n := 3) (by decide) (by decide)
 have hb : b = 0 \/ b = 1 \/ b = 2 := by omega
 have el : yx (gCons (gC (.int 2)) (gCons (gC (.int 4)) (gCons (gC (.int 5)) gNil))) (.own o :: s1 :: k :: tl) = .ok (.lst [.int 2, .int 4, .int 5]) (.own o :: s1 :: k :: tl) := by
  walk_at "gs"
 have ec : zu 0 zr (gCons (gC (.int 3)) gNil) (.own o :: s1 :: k :: tl) = .ok (.int b) (.own o1 :: s1 :: k :: tl) := by
  walk_at "gs"
  simp only [e]
  walk_at "gs"
 have fin : ∀ t : Int, 0 < t -> t <= 5 -> zF (.lst [.int 2, .int 4, .int 5]) (.int b) = some (.int t) -> ∃ n o', 1 <= n /\ n <= 5 /\ yb o' /\ zj yH (gO (gC (.int 1))) (gO (zu 0 zr (gCons (zj zF (gO (yx (gCons (gC (.int 2)) (gCons (gC (.int 4)) (gCons (gC (.int 5)) gNil))))) (gO (zu 0 zr (gCons (gC (.int 3)) gNil)))) gNil))) (.own o :: s1 :: k :: tl) = .ok (.int n) (.own o' :: s1 :: k :: tl) := fun t t0 t5 et => by
  obtain ⟨c, o2, e2, c0, c1, hw2⟩ := yL hw1 (n := t) t0 (by omega)
  exact ⟨1 + c, o2, by omega, by omega, hw2, yq (a := gC (.int 1)) (x := .int 1) (y := .int c) rfl (Jc (j := 0) rfl (yq el ec et) rfl e2 rfl) rfl⟩
 rcases hb with rfl | rfl | rfl
 · exact fin 2 (by decide) (by decide) ix0
 · exact fin 4 (by decide) (by decide) ix1
 · exact fin 5 (by decide) (by decide) ix2
theorem zfB : ∀ {ns : List Int}, ns ≠ [] -> ∀ n ∈ ns, Jb ns <= n
 | [], h, _, _ => absurd rfl h
 | x :: xs, _, n, hn => by
  have key : ∀ (l : List Int) (a : Int), (l.foldl (fun a b => if b < a then b else a) a) <= a /\ ∀ n ∈ l, (l.foldl (fun a b => if b < a then b else a) a) <= n := fun l => by
   induction l with
   | nil => intro a; exact ⟨gh _, fun n h => (nomatch h)⟩
   | cons y ys ih =>
    intro a
    obtain ⟨i1, i2⟩ := ih (if y < a then y else a)
    rw [eI]
    refine ⟨fG i1 (by split <;> omega), fun n hn => ?_⟩
    rcases aB.mp hn with e | e
    · subst e; exact fG i1 (by split <;> omega)
    · exact i2 n e
  obtain ⟨k1, k2⟩ := key xs x
  rcases aB.mp hn with e | e
  · subst e; exact k1
  · exact k2 n e
theorem zfC {xs : List Str} (hw : yb o) (hx : Names xs) (h1 : 1 <= xs.length) (h5 : xs.length <= 5) : ∃ p : PW, ∃ o' s6 s7, (p.Ok /\ ∀ x ∈ p.names, x ∈ xs) /\ yb o' /\ Up [.own o, .val (.lst (sL xs)), .val k, s3, .no, .no, .no, .no] = .ok (.rt p.told) [.own o', .val (.lst (sL xs)), .val k, s3, .no, .no, s6, s7] := by
 obtain ⟨n, o1, n1, n5, hw1, en⟩ := zod hw (s1 := .val (.lst (sL xs))) (k := .val k) (tl := [s3, .no, .no, .no, .no])
 obtain ⟨hs, s', o2, hw2, hl, hh, ec⟩ := RH h1 h5 (yB 0 n.toNat) .no o1 hw1
 rw [ji] at hl
 have ei := Ut ((z0 (r := gNil) en).trans rfl) (zcn (j := n) (by omega))
 have ecc := z6 (ρ2 := [.own o2, .val (.lst (sL xs)), .val k, s3, .no, .no, .no, .no]) (js := [none, some 0, some 1]) ei (by rw [ji]; omega) ec rfl
 have hn1 : 1 <= hs.length := by omega
 have hne : (hs.map fun h => (h.length : Int)) ≠ [] := fun z => by have := congrArg bR z; rw [ap, bB] at this; omega
 have hmin := zg_ (e := 1) hne fun n hn => by
  obtain ⟨h, hh', rfl⟩ := aE.mp hn
  have := (hh h hh').1
  omega
 have hmin5 : Jb (hs.map fun h => (h.length : Int)) <= 5 := by
  obtain ⟨h, hm⟩ := List.exists_mem_of_length_pos (show 0 < hs.length by omega)
  have i1 := zfB hne (h.length : Int) (aE.mpr ⟨h, hm, rfl⟩)
  obtain ⟨_, rest, p⟩ := hh h hm
  have := (Q5 hx p).2.1
  omega
 obtain ⟨b, o3, e3, b0, b1, hw3⟩ := yL hw2 (n := Jb (hs.map fun h => (h.length : Int))) (by omega) (by omega)
 obtain ⟨c, o4, e4, c0, c1, hw4⟩ := yL hw3 (n := hs.length) (by omega) (by omega)
 obtain ⟨s8, ec2⟩ := zfz (hs := hs) (s := .no)
 have sub : ∀ x ∈ hs.flatten, x ∈ xs := fun x hm => by
  obtain ⟨h, hm1, hm2⟩ := List.mem_flatten.mp hm
  obtain ⟨_, rest, p⟩ := hh h hm1
  exact (Q5 hx p).2.2 x hm2
 refine ⟨.houses (1 + c) (1 + b) hs, o4, .val (.lst (hs.map yC)), .val (.int (1 + b)), ⟨⟨fun h hm => ?_, by omega, by omega, by omega, by omega, aV (zqX sub) h5⟩, sub⟩, hw4, ?_⟩
 · obtain ⟨_, rest, p⟩ := hh h hm
   have i1 := zfB hne (h.length : Int) (aE.mpr ⟨h, hm, rfl⟩)
   obtain ⟨a, b', _⟩ := Q5 hx p
   exact ⟨a, by omega, by omega⟩
 refine (zn (yg ecc)).trans ?_
 show Uo [.own o2, .val (.lst (sL xs)), .val k, s3, .no, .no, .val (.lst (hs.map yC)), .no] = _
 have ecd := z6 (ρ2 := [.own o2, .val (.lst (sL xs)), .val k, s3, .no, .no, .val (.lst (hs.map yC)), .no]) (js := [none]) (jx (i := 6) (ρ := [.own o2, .val (.lst (sL xs)), .val k, s3, .no, .no, .val (.lst (hs.map yC)), .no]) (ds := hs.map yC) rfl) (by rw [ap]; omega) ec2 rfl
 have es := j8 (f := WT) ecd (zfA hne)
 have ek := yq (f := yH) (a := gC (.int 1)) (x := .int 1) (y := .int b) (d := .int (1 + b)) rfl (Jc (j := 0) (ρ2 := [.own o3, .val (.lst (sL xs)), .val k, s3, .no, .no, .val (.lst (hs.map yC)), .no]) rfl es rfl e3 rfl) rfl
 refine (zn (yg ek)).trans ?_
 show ZF [.own o3, .val (.lst (sL xs)), .val k, s3, .no, .no, .val (.lst (hs.map yC)), .val (.int (1 + b))] = _
 unfold ZF
 have e4' : zr [.own o3, .val (.int ((hs.map yC).length : Int))] = .ok (.int c) [o4] := by rw [ap]; exact e4
 walk_at "gs"
 simp only [e4']
 walk_at "gs"
 rfl
theorem zlU {xs : List Str} (hw : yb o) (hx : Names xs) (h1 : 1 <= xs.length) (h5 : xs.length <= 5) : ∃ p : PW, ∃ o', (p.Ok /\ ∀ x ∈ p.names, x ∈ xs) /\ yb o' /\ ZT [.own o, .val (.lst (sL xs))] = .ok p.told [o'] := by
 obtain ⟨b, o1, e, b0, b1, hw1⟩ := yL hw (n := 3) (by decide) (by decide)
 have hb : b = 0 \/ b = 1 \/ b = 2 := by omega
 have ec : yi 2 (zu 0 zr (gCons (gC (.int 3)) gNil)) [.own o, .val (.lst (sL xs)), .no, .no, .no, .no, .no, .no] = .ok .nx [.own o1, .val (.lst (sL xs)), .val (.int b), .no, .no, .no, .no, .no] := by
  walk_at "gs"
  simp only [e]
  walk_at "gs"
 have t0 : ∀ i : Int, gB (zj jL (zg 2) (gO (gC (.int i)))) [.own o1, .val (.lst (sL xs)), .val (.int b), .no, .no, .no, .no, .no] = .ok (decide (b = i)) [.own o1, .val (.lst (sL xs)), .val (.int b), .no, .no, .no, .no, .no] := fun i => by walk_at "gs"
 have i0 := t0 0
 have i1 := t0 1
 rcases hb with rfl | rfl | rfl
 · obtain ⟨p, o', s3, hp, hw', e2⟩ := zfW hw1 hx h1 h5 (k := .int 0)
   exact ⟨p, o', hp, hw', Zv rfl ((zn ec).trans (Jy ((J2 i0).trans e2)))⟩
 · obtain ⟨p, o', s4, s5, hp, hw', e2⟩ := zfX hw1 hx h1 h5 (k := .int 1) (s3 := .no)
   exact ⟨p, o', hp, hw', Zv rfl ((zn ec).trans ((zn ((yy i0).trans rfl)).trans (Jy ((J2 i1).trans e2))))⟩
 · obtain ⟨p, o', s6, s7, hp, hw', e2⟩ := zfC hw1 hx h1 h5 (k := .int 2) (s3 := .no)
   exact ⟨p, o', hp, hw', Zv rfl ((zn ec).trans ((zn ((yy i0).trans rfl)).trans ((zn ((yy i1).trans rfl)).trans e2)))⟩
abbrev Pl := List Str -> Option Nat
structure Good (f : Pl) (ns : List Str) : Prop where
 rng : ∀ row k, f row = some k -> 1 <= k /\ k <= row.length
 pre : ∀ row j, f (row.take j) = match f row with | some k => if k <= j then some k else none | none => none
 mono : ∀ row row' : List Str, row.Sublist row' -> (f row).isSome = true -> (f row').isSome = true
 only : ∀ (P : Str -> Bool) row, (∀ x ∈ ns, P x = true) -> (f row).isSome = true -> (f (row.filter P)).isSome = true
theorem Good.at (g : Good f ns) {row : List Str} (h : f row = some k) : f (row.take k) = some k := by
 rw [g.pre, h]; simp
theorem Good.le (g : Good f ns) {row : List Str} (h : f row = some k) (h2 : (f (row.take j)).isSome = true) : k <= j := by
 rw [g.pre, h] at h2
 dsimp only at h2
 split at h2
 · assumption
 · cases h2
theorem Good.filt (g : Good f ns) {P : Str -> Bool} {row : List Str} (h : ∀ x ∈ ns, P x = true) : (f (row.filter P)).isSome = (f row).isSome := by
 cases e : (f row).isSome with
 | true => exact g.only P row h e
 | false =>
  cases e2 : (f (row.filter P)).isSome with
  | false => rfl
  | true => rw [g.mono _ _ gL e2] at e; cases e
theorem VD {p : PW} {row : List Str} : p.first row = some k -> 1 <= k /\ k <= row.length /\ p.enough (row.take k) = true /\ ∀ i, 1 <= i -> i < k -> p.enough (row.take i) = false := by
 intro h
 unfold PW.first at h
 obtain ⟨h1, as, bs, h2, h3⟩ := List.find?_eq_some_iff_append.mp h
 have hm : k ∈ (aT row.length).map (1 + ·) := by rw [h2]; simp
 obtain ⟨i, hi, e⟩ := aE.mp hm
 have hi := bm.mp hi
 refine ⟨by omega, by omega, h1, fun i' h0 hlt => ?_⟩
 have hm' : i' ∈ (aT row.length).map (1 + ·) := aE.mpr ⟨i' - 1, bm.mpr (by omega), by omega⟩
 rw [h2] at hm'
 rcases a8.mp hm' with z | z
 · simpa using h3 i' z
 · exfalso
   have sorted : ((aT row.length).map (1 + ·)).Pairwise (· < ·) := by
    rw [ik]
    exact fL.imp fun h => by omega
   rw [h2] at sorted
   have := (List.pairwise_append.mp sorted).2.1
   rcases aB.mp z with z | z
   · omega
   · have := (cv.mp this).1 i' z; omega
theorem Qr {p : PW} (hp : p.Ok) (h : ∀ x ∈ r, x ∈ r') (e : p.enough r = true) : p.enough r' = true := by
 unfold PW.enough at e ⊢
 rw [decide_eq_true_eq] at e ⊢
 have := zg9 hp (r := r) (r' := r') fun x hx => by
  unfold inr at hx ⊢
  rw [decide_eq_true_eq] at hx ⊢
  exact h x hx
 omega
theorem ziw {p : PW} (hp : p.Ok) : p.enough [] = false := by
 unfold PW.enough
 rw [decide_eq_false_iff_not]
 have := zfx hp
 omega
theorem VE {P : Str -> Bool} {row : List Str} (h : P x = true) : inr (row.filter P) x = inr row x := by
 unfold inr
 rw [decide_eq_decide, iG]
 exact ⟨fun z => z.1, fun z => ⟨z, h⟩⟩
theorem zfY {p : PW} {P : Str -> Bool} {row : List Str} (h : ∀ x ∈ p.names, P x = true) : p.have (row.filter P) = p.have row := by
 cases p with
 | count m ys =>
  have e : ys.filter (inr (row.filter P)) = ys.filter (inr row) := dP fun x hx => VE (h x hx)
  show ((ys.filter (inr (row.filter P))).length : Int) = (ys.filter (inr row)).length
  rw [e]
 | weigh l ps =>
  have e : (ps.filter fun p => inr (row.filter P) p.1) = ps.filter fun p => inr row p.1 := dP fun q hq => VE (h q.1 (aE.mpr ⟨q, hq, rfl⟩))
  show ((ps.filter fun p => inr (row.filter P) p.1).map (·.2)).sum = ((ps.filter fun p => inr row p.1).map (·.2)).sum
  rw [e]
 | houses m e hs =>
  have e1 : (hs.filter fun h => decide (e <= ((h.filter (inr (row.filter P))).length : Int))) = hs.filter fun h => decide (e <= ((h.filter (inr row)).length : Int)) := dP fun y hy => by
   have e2 : y.filter (inr (row.filter P)) = y.filter (inr row) := dP fun x hx => VE (h x (List.mem_flatten.mpr ⟨y, hy, hx⟩))
   rw [e2]
  show ((hs.filter fun h => decide (e <= ((h.filter (inr (row.filter P))).length : Int))).length : Int) = (hs.filter fun h => decide (e <= ((h.filter (inr row)).length : Int))).length
  rw [e1]
theorem zoe {p : PW} (hp : p.Ok) : Good p.first p.names where
 rng := fun row k h => ⟨(VD h).1, (VD h).2.1⟩
 pre := fun row j => by
  have tk : ∀ i, i <= j -> (row.take j).take i = row.take i := fun i hi => by rw [List.take_take, fR hi]
  cases h : p.first row with
  | none =>
   have e : p.enough row = false := by rw [← Jp hp, h]; rfl
   cases h2 : p.first (row.take j) with
   | none => rfl
   | some k =>
    have e2 : p.enough (row.take j) = true := by rw [← Jp hp, h2]; rfl
    rw [Qr hp (fun x => eB) e2] at e; cases e
  | some k =>
   obtain ⟨a, b, c, d⟩ := VD h
   by_cases hk : k <= j
   · show _ = if k <= j then some k else none
     rw [if_pos hk]
     cases h2 : p.first (row.take j) with
     | none =>
      have e : p.enough (row.take j) = false := by rw [← Jp hp, h2]; rfl
      rw [Qr hp (fun x hx => by rw [← tk k hk] at hx; exact eB hx) c] at e; cases e
     | some k2 =>
      obtain ⟨a2, b2, c2, d2⟩ := VD h2
      rw [bu] at b2
      have k2j : k2 <= j := by omega
      rw [tk k2 k2j] at c2
      rcases Nat.lt_trichotomy k k2 with z | z | z
      · have := d2 k a z; rw [tk k hk, c] at this; cases this
      · rw [z]
      · have := d k2 a2 z; rw [c2] at this; cases this
   · show _ = if k <= j then some k else none
     rw [if_neg hk]
     cases h2 : p.first (row.take j) with
     | none => rfl
     | some k2 =>
      have e : p.enough (row.take j) = true := by rw [← Jp hp, h2]; rfl
      by_cases j0 : j = 0
      · subst j0; rw [List.take_zero, ziw hp] at e; cases e
      · rw [d j (by omega) (by omega)] at e; cases e
 mono := fun row row' h e => by
  rw [Jp hp] at e ⊢
  exact Qr hp (fun x hx => h.subset hx) e
 only := fun P row h e => by
  rw [Jp hp] at e ⊢
  unfold PW.enough at e ⊢
  rw [zfY h]; exact e
def RI (a b : Pl) : Pl := fun row => match a row with | none => none | some k => (b (row.drop k)).map (k + ·)
theorem zhb {row : List Str} (h : (RI a b row).isSome = true) : ∃ k, a row = some k /\ (b (row.drop k)).isSome = true := by
 unfold RI at h
 cases e : a row with
 | none => rw [e] at h; cases h
 | some k => rw [e] at h; exact ⟨k, rfl, by simpa using h⟩
theorem zfD (ga : Good a ns) (gb : Good b ms) (h1 : (a r1).isSome = true) (h2 : (b r2).isSome = true) : (RI a b (r1 ++ r2)).isSome = true := by
 have h3 := ga.mono r1 (r1 ++ r2) (List.sublist_append_left ..) h1
 obtain ⟨k, hk⟩ := fk.mp h3
 have hl : k <= r1.length := ga.le hk (by rw [List.take_left]; exact h1)
 unfold RI
 rw [hk]
 show ((b ((r1 ++ r2).drop k)).map (k + ·)).isSome = true
 rw [Option.isSome_map]
 refine gb.mono r2 _ ?_ h2
 rw [List.drop_append_of_le_length hl]
 exact e8 ..
theorem zof (ga : Good a ns) (gb : Good b ms) : Good (RI a b) (ns ++ ms) where
 rng := fun row k h => by
  unfold RI at h
  cases e : a row with
  | none => rw [e] at h; cases h
  | some i =>
   rw [e] at h
   obtain ⟨m, hm, rfl⟩ := Option.map_eq_some_iff.mp h
   have r1 := ga.rng row i e
   have r2 := gb.rng _ m hm
   rw [dY] at r2
   omega
 pre := fun row j => by
  unfold RI
  rw [ga.pre]
  cases e : a row with
  | none => rfl
  | some i =>
   dsimp only
   by_cases hi : i <= j
   · rw [if_pos hi]
     dsimp only
     rw [List.drop_take, gb.pre]
     cases e2 : b (row.drop i) with
     | none => rfl
     | some m =>
      dsimp only [iM]
      by_cases hm : m <= j - i
      · rw [if_pos hm, if_pos (by omega)]
      · rw [if_neg hm, if_neg (by omega)]
   · rw [if_neg hi]
     dsimp only
     cases e2 : b (row.drop i) with
     | none => rfl
     | some m => dsimp only [iM]; rw [if_neg (by omega)]
 mono := fun row row' h e => by
  obtain ⟨k, hk, h2⟩ := zhb e
  rw [← da k row] at h
  obtain ⟨r1, r2, rfl, s1, s2⟩ := List.append_sublist_iff.mp h
  exact zfD ga gb (ga.mono _ _ s1 (by rw [ga.at hk]; rfl)) (gb.mono _ _ s2 h2)
 only := fun P row h e => by
  obtain ⟨k, hk, h2⟩ := zhb e
  rw [← da k row, List.filter_append]
  exact zfD ga gb (ga.only P _ (fun x hx => h x (aL _ hx)) (by rw [ga.at hk]; rfl)) (gb.only P _ (fun x hx => h x (aA _ hx)) h2)
theorem Good.more (g : Good f ns) (h : ∀ x ∈ ns, x ∈ ms) : Good f ms := { g with only := fun P row hp => g.only P row fun x hx => hp x (h x hx) }
theorem zcp {r : Int -> Int -> Bool} {le : Int -> Int -> Prop} (hr : ∀ a, le a a) (ht : ∀ a b c, le a b -> le b c -> le a c) (h1 : ∀ a b, r b a = true -> le a b) (h2 : ∀ a b, r b a = false -> le b a) : ∀ (l : List Int) (a : Int), let m := l.foldl (fun a b => if r b a = true then b else a) a; (m = a \/ m ∈ l) /\ le a m /\ ∀ n ∈ l, le n m
 | [], a => ⟨.inl rfl, hr a, fun n h => by cases h⟩
 | y :: l, a => by
  obtain ⟨i1, i2, i3⟩ := zcp hr ht h1 h2 l (if r y a = true then y else a)
  simp only [eI]
  cases e : r y a with
  | true =>
   rw [e] at i1 i2 i3
   simp only [if_true] at i1 i2 i3 ⊢
   refine ⟨?_, ht _ _ _ (h1 a y e) i2, fun n hn => ?_⟩
   · rcases i1 with z | z
     · rw [z]; exact .inr ao
     · exact .inr (af _ z)
   · rcases aB.mp hn with z | z
     · subst z; exact i2
     · exact i3 n z
  | false =>
   rw [e] at i1 i2 i3
   simp only [aM, if_false] at i1 i2 i3 ⊢
   refine ⟨?_, i2, fun n hn => ?_⟩
   · rcases i1 with z | z
     · exact .inl z
     · exact .inr (af _ z)
   · rcases aB.mp hn with z | z
     · subst z; exact ht _ _ _ (h2 a n e) i2
     · exact i3 n z
theorem zcq (h : ns ≠ []) : Jw ns ∈ ns /\ ∀ n ∈ ns, n <= Jw ns := by
 cases ns with
 | nil => exact absurd rfl h
 | cons x xs =>
  have e : Jw (x :: xs) = xs.foldl (fun a b => if decide (b > a) = true then b else a) x := by show xs.foldl _ x = _; congr 1; funext a b; simp
  obtain ⟨a, b, c⟩ := zcp (r := fun b a => decide (b > a)) (le := (· <= ·)) gh (fun _ _ _ => fG) (fun a b h => by simp at h; omega) (fun a b h => by simp at h; omega) xs x
  rw [e]
  refine ⟨?_, fun n hn => ?_⟩
  · rcases a with z | z
    · rw [z]; exact ao
    · exact af _ z
  · rcases aB.mp hn with z | z
    · subst z; exact b
    · exact c n z
theorem zhc (h : ns ≠ []) : Jb ns ∈ ns /\ ∀ n ∈ ns, Jb ns <= n := by
 cases ns with
 | nil => exact absurd rfl h
 | cons x xs =>
  have e : Jb (x :: xs) = xs.foldl (fun a b => if decide (b < a) = true then b else a) x := by show xs.foldl _ x = _; congr 1; funext a b; simp
  obtain ⟨a, b, c⟩ := zcp (r := fun b a => decide (b < a)) (le := fun a b => b <= a) gh (fun _ _ _ h1 h2 => fG h2 h1) (fun a b h => by simp at h; omega) (fun a b h => by simp at h; omega) xs x
  rw [e]
  refine ⟨?_, fun n hn => ?_⟩
  · rcases a with z | z
    · rw [z]; exact ao
    · exact af _ z
  · rcases aB.mp hn with z | z
    · subst z; exact b
    · exact c n z
def boP (ps : List (Option Nat)) : Option Nat := if ps.any (·.isNone) = true then none else some (Jw (ps.map fun o => ((o.getD 0 : Nat) : Int))).toNat
def Ub (fs : List Pl) : Pl := fun row => boP (fs.map (· row))
theorem bo_none : Ub fs row = none ↔ ∃ f ∈ fs, f row = none := by
 unfold Ub boP
 constructor
 · intro h
   split at h
   · rename_i c
     rw [dZ] at c
     obtain ⟨o, ho, c⟩ := c
     obtain ⟨f, hf, rfl⟩ := aE.mp ho
     exact ⟨f, hf, by simpa using c⟩
   · cases h
 · rintro ⟨f, hf, h⟩
   rw [if_pos]
   rw [dZ]
   exact ⟨none, aE.mpr ⟨f, hf, h⟩, rfl⟩
theorem zcr (hne : fs ≠ []) : Ub fs row = some K ↔ (∀ f ∈ fs, ∃ k, f row = some k /\ k <= K) /\ ∃ f ∈ fs, f row = some K := by
 have all : ∀ {K}, Ub fs row = some K -> ∀ f ∈ fs, ∃ k, f row = some k := fun h f hf => by
  cases e : f row with
  | none => rw [bo_none.mpr ⟨f, hf, e⟩] at h; cases h
  | some k => exact ⟨k, rfl⟩
 have key : ∀ {K}, Ub fs row = some K -> (∀ f ∈ fs, ∃ k, f row = some k /\ k <= K) /\ ∃ f ∈ fs, f row = some K := fun {K} h => by
  have al := all h
  unfold Ub boP at h
  split at h
  · cases h
  · cases h
    obtain ⟨m1, m2⟩ := zcq (ns := (fs.map (· row)).map fun o => ((o.getD 0 : Nat) : Int)) (by simpa using hne)
    constructor
    · intro f hf
      obtain ⟨k, e⟩ := al f hf
      refine ⟨k, e, ?_⟩
      have := m2 (k : Int) (aE.mpr ⟨some k, aE.mpr ⟨f, hf, e⟩, rfl⟩)
      omega
    · obtain ⟨o, ho, e⟩ := aE.mp m1
      obtain ⟨f, hf, rfl⟩ := aE.mp ho
      obtain ⟨k, ek⟩ := al f hf
      refine ⟨f, hf, ?_⟩
      rw [← e, ek]
      simp
 refine ⟨key, fun ⟨h1, f, hf, e⟩ => ?_⟩
 cases c : Ub fs row with
 | none => obtain ⟨f, hf, e⟩ := bo_none.mp c; obtain ⟨k, e2, _⟩ := h1 f hf; rw [e] at e2; cases e2
 | some K' =>
  obtain ⟨k1, f', hf', e'⟩ := key c
  obtain ⟨k, ek, hk⟩ := h1 f' hf'
  obtain ⟨k', ek', hk'⟩ := k1 f hf
  rw [e'] at ek; cases ek
  rw [e] at ek'; cases ek'
  rw [show K' = K by omega]
theorem bo_is : (Ub fs row).isSome = true ↔ ∀ f ∈ fs, (f row).isSome = true := by
 cases c : Ub fs row with
 | none => obtain ⟨f, hf, e⟩ := bo_none.mp c; exact ⟨fun h => (by cases h), fun h => (by have := h f hf; rw [e] at this; cases this)⟩
 | some K =>
  refine ⟨fun _ f hf => ?_, fun _ => rfl⟩
  cases e : f row with
  | none => rw [bo_none.mpr ⟨f, hf, e⟩] at c; cases c
  | some k => rfl
theorem zog (hne : fs ≠ []) (g : ∀ f ∈ fs, Good f ns) : Good (Ub fs) ns where
 rng := fun row k h => by obtain ⟨_, f, hf, e⟩ := (zcr hne).mp h; exact (g f hf).rng row k e
 pre := fun row j => by
  cases c : Ub fs row with
  | none =>
   obtain ⟨f, hf, e⟩ := bo_none.mp c
   exact bo_none.mpr ⟨f, hf, by rw [(g f hf).pre, e]⟩
  | some K =>
   obtain ⟨h1, f, hf, e⟩ := (zcr hne).mp c
   by_cases hK : K <= j
   · show _ = if K <= j then some K else none
     rw [if_pos hK]
     refine (zcr hne).mpr ⟨fun f hf => ?_, f, hf, by rw [(g f hf).pre, e]; exact if_pos hK⟩
     obtain ⟨k, ek, hk⟩ := h1 f hf
     exact ⟨k, by rw [(g f hf).pre, ek]; exact if_pos (by omega), hk⟩
   · show _ = if K <= j then some K else none
     rw [if_neg hK]
     exact bo_none.mpr ⟨f, hf, by rw [(g f hf).pre, e]; exact if_neg hK⟩
 mono := fun row row' h e => bo_is.mpr fun f hf => (g f hf).mono row row' h (bo_is.mp e f hf)
 only := fun P row h e => bo_is.mpr fun f hf => (g f hf).only P row h (bo_is.mp e f hf)
def eiP (ps : List (Option Nat)) : Option Nat := if ps.filterMap id = [] then none else some (Jb ((ps.filterMap id).map fun k : Nat => (k : Int))).toNat
def UT (fs : List Pl) : Pl := fun row => eiP (fs.map (· row))
theorem ei_mem {fs : List Pl} : k ∈ (fs.map (· row)).filterMap id ↔ ∃ f ∈ fs, f row = some k := by
 rw [gX]
 constructor
 · rintro ⟨o, ho, e⟩
   obtain ⟨f, hf, rfl⟩ := aE.mp ho
   exact ⟨f, hf, e⟩
 · rintro ⟨f, hf, e⟩
   exact ⟨_, aE.mpr ⟨f, hf, rfl⟩, e⟩
theorem ei_none : UT fs row = none ↔ ∀ f ∈ fs, f row = none := by
 unfold UT eiP
 constructor
 · intro h f hf
   split at h
   · rename_i c
     cases e : f row with
     | none => rfl
     | some k => have := ei_mem.mpr ⟨f, hf, e⟩; rw [c] at this; cases this
   · cases h
 · intro h
   rw [if_pos]
   cases c : (fs.map (· row)).filterMap id with
   | nil => rfl
   | cons k r =>
    obtain ⟨f, hf, e⟩ := ei_mem.mp (show k ∈ (fs.map (· row)).filterMap id by rw [c]; exact ao)
    rw [h f hf] at e; cases e
theorem ei_some : UT fs row = some K ↔ (∃ f ∈ fs, f row = some K) /\ ∀ f ∈ fs, ∀ k, f row = some k -> K <= k := by
 have key : ∀ {K}, UT fs row = some K -> (∃ f ∈ fs, f row = some K) /\ ∀ f ∈ fs, ∀ k, f row = some k -> K <= k := fun {K} h => by
  unfold UT eiP at h
  split at h
  · cases h
  · rename_i c
    cases h
    obtain ⟨m1, m2⟩ := zhc (ns := ((fs.map (· row)).filterMap id).map fun k : Nat => (k : Int)) (by simpa using c)
    constructor
    · obtain ⟨k, hk, e⟩ := aE.mp m1
      rw [← e]
      exact ei_mem.mp hk
    · intro f hf k e
      have := m2 (k : Int) (aE.mpr ⟨k, ei_mem.mpr ⟨f, hf, e⟩, rfl⟩)
      omega
 refine ⟨key, fun ⟨⟨f, hf, e⟩, h2⟩ => ?_⟩
 cases c : UT fs row with
 | none => rw [ei_none.mp c f hf] at e; cases e
 | some K' =>
  obtain ⟨⟨f', hf', e'⟩, k2⟩ := key c
  have a1 := h2 f' hf' K' e'
  have a2 := k2 f hf K e
  rw [show K' = K by omega]
theorem ei_is : (UT fs row).isSome = true ↔ ∃ f ∈ fs, (f row).isSome = true := by
 cases c : UT fs row with
 | none =>
  refine ⟨fun h => (by cases h), fun ⟨f, hf, h⟩ => ?_⟩
  rw [ei_none.mp c f hf] at h; cases h
 | some K => obtain ⟨⟨f, hf, e⟩, _⟩ := ei_some.mp c; exact ⟨fun _ => ⟨f, hf, by rw [e]; rfl⟩, fun _ => rfl⟩
theorem zoh (g : ∀ f ∈ fs, Good f ns) : Good (UT fs) ns where
 rng := fun row k h => by obtain ⟨⟨f, hf, e⟩, _⟩ := ei_some.mp h; exact (g f hf).rng row k e
 pre := fun row j => by
  cases c : UT fs row with
  | none => exact ei_none.mpr fun f hf => by rw [(g f hf).pre, ei_none.mp c f hf]
  | some K =>
   obtain ⟨⟨f, hf, e⟩, h2⟩ := ei_some.mp c
   by_cases hK : K <= j
   · show _ = if K <= j then some K else none
     rw [if_pos hK]
     refine ei_some.mpr ⟨⟨f, hf, by rw [(g f hf).pre, e]; exact if_pos hK⟩, fun f hf k ek => ?_⟩
     rw [(g f hf).pre] at ek
     cases e2 : f row with
     | none => rw [e2] at ek; cases ek
     | some k' =>
      rw [e2] at ek
      dsimp only at ek
      split at ek
      · cases ek; exact h2 f hf k e2
      · cases ek
   · show _ = if K <= j then some K else none
     rw [if_neg hK]
     refine ei_none.mpr fun f hf => ?_
     rw [(g f hf).pre]
     cases e2 : f row with
     | none => rfl
     | some k' => have := h2 f hf k' e2; exact if_neg (by omega)
 mono := fun row row' h e => by obtain ⟨f, hf, h1⟩ := ei_is.mp e; exact ei_is.mpr ⟨f, hf, (g f hf).mono row row' h h1⟩
 only := fun P row h e => by obtain ⟨f, hf, h1⟩ := ei_is.mp e; exact ei_is.mpr ⟨f, hf, (g f hf).only P row h h1⟩
mutual
inductive W where | pl (p : PW) | bo (ws : WL) | ei (ws : WL) | th (a b : W)
inductive WL where | nil | cons (w : W) (r : WL)
end
mutual
def W.obj : W -> D | .pl p => p.obj | .bo ws => .obj 15 [(6, .lst ws.objs)] | .ei ws => .obj 16 [(6, .lst ws.objs)] | .th a b => .obj 17 [(7, a.obj), (8, b.obj)]
def WL.objs : WL -> List D | .nil => [] | .cons w r => w.obj :: r.objs
end
def W.cls : W -> Nat | .pl p => p.cls | .bo _ => 15 | .ei _ => 16 | .th .. => 17
def W.fs : W -> List (Nat × D) | .pl p => p.fs | .bo ws => [(6, .lst ws.objs)] | .ei ws => [(6, .lst ws.objs)] | .th a b => [(7, a.obj), (8, b.obj)]
theorem W.obj_is (w : W) : w.obj = .obj w.cls w.fs := by cases w <;> rfl
mutual
def W.told : W -> D | .pl p => p.told | .bo ws => .tup [.str "both", .lst ws.tolds] | .ei ws => .tup [.str "either", .lst ws.tolds] | .th a b => .tup [.str "then", a.told, b.told]
def WL.tolds : WL -> List D | .nil => [] | .cons w r => w.told :: r.tolds
end
mutual
def W.first : W -> Pl | .pl p => p.first | .bo ws => Ub ws.fns | .ei ws => UT ws.fns | .th a b => RI a.first b.first
def WL.fns : WL -> List Pl | .nil => [] | .cons w r => w.first :: r.fns
end
mutual
def W.names : W -> List Str | .pl p => p.names | .bo ws => ws.names | .ei ws => ws.names | .th a b => a.names ++ b.names
def WL.names : WL -> List Str | .nil => [] | .cons w r => w.names ++ r.names
end
mutual
def W.depth : W -> Nat | .pl _ => 1 | .bo ws => 1 + ws.depth | .ei ws => 1 + ws.depth | .th a b => 1 + max a.depth b.depth
def WL.depth : WL -> Nat | .nil => 0 | .cons w r => max w.depth r.depth
end
mutual
def W.parts : W -> Nat | .pl _ => 1 | .bo ws => 1 + ws.parts | .ei ws => 1 + ws.parts | .th a b => 1 + (a.parts + b.parts)
def WL.parts : WL -> Nat | .nil => 0 | .cons w r => w.parts + r.parts
end
mutual
def W.Ok : W -> Prop | .pl p => p.Ok | .bo ws => ws.Ok /\ 1 <= ws.objs.length /\ ws.objs.length <= 5 | .ei ws => ws.Ok /\ 1 <= ws.objs.length /\ ws.objs.length <= 5 | .th a b => a.Ok /\ b.Ok
def WL.Ok : WL -> Prop | .nil => True | .cons w r => w.Ok /\ r.Ok
end
theorem W.depth_pos (w : W) : 1 <= w.depth := by cases w <;> simp only [W.depth] <;> omega
theorem WL.fns_len : ∀ (ws : WL), ws.fns.length = ws.objs.length
 | .nil => rfl
 | .cons w r => by simp only [WL.fns, WL.objs, au, WL.fns_len r]
mutual
theorem W.good : ∀ (w : W), w.Ok -> Good w.first w.names
 | .pl p, h => zoe h
 | .bo ws, h => zog (fun z => by have h1 := h.2.1; have := ws.fns_len; rw [z] at this; simp at this; omega) (ws.goods h.1)
 | .ei ws, h => zoh (ws.goods h.1)
 | .th a b, h => zof (a.good h.1) (b.good h.2)
theorem WL.goods : ∀ (ws : WL), ws.Ok -> ∀ f ∈ ws.fns, Good f ws.names
 | .nil, _, f, hf => by cases hf
 | .cons w r, h, f, hf => by
  simp only [WL.fns, aB] at hf
  rcases hf with e | e
  · subst e; exact (w.good h.1).more fun x hx => by simp only [WL.names]; exact aL _ hx
  · exact (r.goods h.2 f e).more fun x hx => by simp only [WL.names]; exact aA _ hx
end
def UU (n : Nat) : Prop := ∀ (w : W) (row : List Str), w.Ok -> w.depth <= n -> row.length <= 1000 -> ∃ F, yI n w.cls = some F /\ F [.val w.obj, .val (.lst (sL row))] = .ok (yW (w.first row)) []
theorem Qa {T : Nat -> Option Fn} {a : G D} {r : G (List D)} {ρ ρ1 ρ2 : Env} {w : W} {ds : List D} {F : Fn} {d : D} {os : List D} (h1 : a ρ = .ok w.obj ρ1) (h2 : T w.cls = some F) (h3 : r ρ1 = .ok ds ρ2) (h4 : F (.val w.obj :: ds.map .val) = .ok d os) : zR T a r ρ = .ok d ρ2 := by
 rw [W.obj_is] at h1 h4
 exact zab h1 h2 h3 h4
theorem Uu (ih : UU n) {row : List Str} (hr : row.length <= 1000) : ∀ (ws : WL) (s : Slot), ws.Ok -> ws.depth <= n ->
 ∃ s', z9 (zt 0) yJ (zR (yI n) (zd 0) (gCons (zd 1) gNil)) ws.objs [s, .val (.lst (sL row))] = .ok ((ws.fns.map (· row)).map yW) [s', .val (.lst (sL row))]
 | .nil, s, _, _ => ⟨s, rfl⟩
 | .cons w r, s, h, hd => by
  simp only [WL.depth] at hd
  obtain ⟨s', e⟩ := Uu ih hr r (.val w.obj) h.2 (by omega)
  obtain ⟨F, hF, eF⟩ := ih w row h.1 (by omega) hr
  refine ⟨s', ?_⟩
  simp only [WL.objs, WL.fns, aq]
  exact jw rfl (Qa (a := zd 0) (r := gCons (zd 1) gNil) (w := w) (ρ1 := [.val w.obj, .val (.lst (sL row))]) (ds := [.lst (sL row)]) rfl hF rfl eF) e
theorem zkd (ps : List (Option Nat)) : (ps.map yW).all JM = true := by
 rw [dg, aR]; intro o _; cases o <;> rfl
theorem zqn (ps : List (Option Nat)) : JJ false .non (.lst (ps.map yW)) = some (.bl (ps.any (·.isNone))) := by
 have e : Ri .non (ps.map yW) = ps.any (·.isNone) := by
  unfold Ri
  rw [hV]
  congr 1
  funext o
  cases o <;> rfl
 unfold JJ
 show (if JM .non = true /\ (ps.map yW).all JM = true then _ else _) = _
 rw [if_pos ⟨rfl, zkd ps⟩, e]; rfl
theorem zke {ps : List (Option Nat)} (h : ps.any (·.isNone) = false) : ps.map yW = (ps.map fun o => ((o.getD 0 : Nat) : Int)).map D.int := by
 rw [cP]
 refine eL fun o ho => ?_
 rw [fb] at h
 cases o with
 | none => exact absurd rfl (h none ho)
 | some k => rfl
theorem zlV {ns : List Int} (h : ns ≠ []) : WS (.lst (ns.map D.int)) = some (.int (Jw ns)) := by
 unfold WS Rq Jx; rw [aG, ZO]
 show zaU ns = _
 unfold zaU; rw [if_neg h]
theorem zoi {ps : List (Option Nat)} (h : ps ≠ []) : ((Jw (ps.map fun o => ((o.getD 0 : Nat) : Int))).toNat : Int) = Jw (ps.map fun o => ((o.getD 0 : Nat) : Int)) := by
 obtain ⟨o, _, e⟩ := aE.mp (zcq (ns := ps.map fun o => ((o.getD 0 : Nat) : Int)) (by simpa using h)).1
 rw [← e]; rfl
theorem zlW (ih : UU n) {ws : WL} {row : List Str} (h : (W.bo ws).Ok) (hd : ws.depth <= n) (hr : row.length <= 1000) : Q3 (yI n) [.val (W.bo ws).obj, .val (.lst (sL row))] = .ok (yW (Ub ws.fns row)) [] := by
 obtain ⟨s', e⟩ := Uu ih hr ws .no h.1 hd
 have l1 := h.2.1
 have l2 := h.2.2
 have e1 := z6 (ρ2 := [.val (W.bo ws).obj, .val (.lst (sL row)), .no]) (gi := zJ (zB (jp 6) (zg 0))) (js := [none, some 1]) (ρ := [.val (W.bo ws).obj, .val (.lst (sL row)), .no]) (jA (j7 (c := 15) (d := .lst ws.objs) rfl (by decide) rfl)) (by omega) e rfl
 have hne : ws.fns.map (· row) ≠ [] := fun z => by have z2 := congrArg bR z; rw [ap, ws.fns_len] at z2; have z3 : ws.objs.length = 0 := z2; omega
 unfold Ub boP
 refine yu (ρ := [.val (W.bo ws).obj, .val (.lst (sL row)), .val (.lst ((ws.fns.map (· row)).map yW))]) rfl ((zn (yg e1)).trans ?_)
 generalize ws.fns.map (· row) = ps at *
 have e2 : gB (zj (JJ false) (gO (gC .non)) (zg 2)) [.val (W.bo ws).obj, .val (.lst (sL row)), .val (.lst (ps.map yW))] = .ok (ps.any (·.isNone)) [.val (W.bo ws).obj, .val (.lst (sL row)), .val (.lst (ps.map yW))] := by
  walk_at "gs"
  simp only [zqn]
  walk_at "gs"
 show zK (gIf (gB (zj (JJ false) (gO (gC .non)) (zg 2))) (gC .non) (zB WS (zg 2))) [.val (W.bo ws).obj, .val (.lst (sL row)), .val (.lst (ps.map yW))] = _
 refine yt ?_
 unfold gIf
 rw [e2, zC]
 cases c : ps.any (·.isNone) with
 | true => rfl
 | false =>
  rw [if_neg ah, if_neg ah]
  show jr (WS (.lst (ps.map yW))) _ = _
  rw [zke c, zlV (by simpa using hne)]
  show O.ok (D.int _) _ = O.ok (D.int _) _
  rw [zoi hne]
theorem zdp : ∀ (ps : List (Option Nat)) (s : Slot), ∃ s', z9 (zt 0) (gB (zj YT (zg 0) (gO (gC .non)))) (zd 0) (ps.map yW) [s] = .ok (((ps.filterMap id).map fun k : Nat => (k : Int)).map D.int) [s']
 | [], s => ⟨s, rfl⟩
 | o :: r, s => by
  obtain ⟨s', e⟩ := zdp r (.val (yW o))
  refine ⟨s', ?_⟩
  rw [aq]
  cases o with
  | none => exact YK (b := false) (d := .non) rfl rfl rfl e
  | some k => exact YK (b := true) (d := .int k) rfl rfl rfl e
theorem zlX (ih : UU n) {ws : WL} {row : List Str} (h : (W.ei ws).Ok) (hd : ws.depth <= n) (hr : row.length <= 1000) : Qn (yI n) [.val (W.ei ws).obj, .val (.lst (sL row))] = .ok (yW (UT ws.fns row)) [] := by
 obtain ⟨s', e⟩ := Uu ih hr ws .no h.1 hd
 have l2 := h.2.2
 have e1 := z6 (ρ2 := [.val (W.ei ws).obj, .val (.lst (sL row)), .no]) (gi := zJ (zB (jp 6) (zg 0))) (js := [none, some 1]) (ρ := [.val (W.ei ws).obj, .val (.lst (sL row)), .no]) (jA (j7 (c := 16) (d := .lst ws.objs) rfl (by decide) rfl)) (by omega) e rfl
 have hl : (ws.fns.map (· row)).length <= 5 := by rw [ap, ws.fns_len]; exact l2
 unfold UT eiP
 refine yu (ρ := [.val (W.ei ws).obj, .val (.lst (sL row)), .val (.lst ((ws.fns.map (· row)).map yW))]) rfl ((zn (yg e1)).trans ?_)
 generalize ws.fns.map (· row) = ps at *
 obtain ⟨s2, e2⟩ := zdp ps .no
 have e3 := z6 (ρ2 := [.val (W.ei ws).obj, .val (.lst (sL row)), .val (.lst (ps.map yW))]) (js := [none]) (jx (i := 2) (ρ := [.val (W.ei ws).obj, .val (.lst (sL row)), .val (.lst (ps.map yW))]) (ds := ps.map yW) rfl) (by rw [ap]; omega) e2 rfl
 refine yt (yq e3 (y := .non) rfl ?_)
 show ((Jx (.lst (((ps.filterMap id).map fun k : Nat => (k : Int)).map D.int))).bind jX).bind _ = _
 show (jX (((ps.filterMap id).map fun k : Nat => (k : Int)).map D.int)).bind _ = _
 rw [ZO, aG]
 by_cases c : ps.filterMap id = []
 · rw [if_pos c, c]; rfl
 · have c2 : (ps.filterMap id).map (fun k : Nat => (k : Int)) ≠ [] := by simpa using c
   rw [if_neg c, if_neg c2]
   obtain ⟨k, _, e4⟩ := aE.mp (zhc c2).1
   show some (D.int _) = some (D.int _)
   rw [← e4]; rfl
theorem zlY (ih : UU n) {a b : W} {row : List Str} (h : (W.th a b).Ok) (ha : a.depth <= n) (hb : b.depth <= n) (hr : row.length <= 1000) : Q2 (yI n) [.val (W.th a b).obj, .val (.lst (sL row))] = .ok (yW (RI a.first b.first row)) [] := by
 obtain ⟨F, hF, eF⟩ := ih a row h.1 ha hr
 have e1 : zR (yI n) (zB (jp 7) (zg 0)) (gCons (zd 1) gNil) [.val (W.th a b).obj, .val (.lst (sL row)), .no, .no] = .ok (yW (a.first row)) [.val (W.th a b).obj, .val (.lst (sL row)), .no, .no] :=
  Qa (w := a) (ds := [.lst (sL row)]) (j7 (c := 17) (d := a.obj) rfl (by decide) rfl) hF rfl eF
 unfold RI
 cases c : a.first row with
 | none =>
  rw [c] at e1
  refine yu (ρ := [.val (W.th a b).obj, .val (.lst (sL row)), .val .non, .no]) rfl ((zn (yg e1)).trans ?_)
  refine Jy ?_
  show yQ _ _ _ [.val (W.th a b).obj, .val (.lst (sL row)), .val .non, .no] = _
  walk_at "gs"
  rfl
 | some k =>
  rw [c] at e1
  have hk := ((a.good h.1).rng row k c).2
  obtain ⟨F2, hF2, eF2⟩ := ih b (row.drop k) h.2 hb (by rw [dY]; omega)
  have es : Ja (zg 1) (jg (zd 2)) yY [.val (W.th a b).obj, .val (.lst (sL row)), .val (.int k), .no] = .ok (.lst (sL (row.drop k))) [.val (W.th a b).obj, .val (.lst (sL row)), .val (.int k), .no] := by
   walk_at "gs"
   rw [zfs (by rw [zX]; exact hk), zg6]
  have e2 : zR (yI n) (zB (jp 8) (zg 0)) (gCons (Ja (zg 1) (jg (zd 2)) yY) gNil) [.val (W.th a b).obj, .val (.lst (sL row)), .val (.int k), .no] = .ok (yW (b.first (row.drop k))) [.val (W.th a b).obj, .val (.lst (sL row)), .val (.int k), .no] :=
   Qa (w := b) (ds := [.lst (sL (row.drop k))]) (j7 (c := 17) (d := b.obj) rfl (by decide) rfl) hF2 (by rw [z0 es]; rfl) eF2
  refine yu (ρ := [.val (W.th a b).obj, .val (.lst (sL row)), .val (.int k), .val (yW (b.first (row.drop k)))]) rfl ((zn (yg e1)).trans ?_)
  refine (zn (ρ1 := [.val (W.th a b).obj, .val (.lst (sL row)), .val (.int k), .no]) ?_).trans ?_
  · show yQ _ _ _ [.val (W.th a b).obj, .val (.lst (sL row)), .val (.int k), .no] = _
    walk_at "gs"
  refine (zn (yg e2)).trans ?_
  show zK _ [.val (W.th a b).obj, .val (.lst (sL row)), .val (.int k), .val (yW (b.first (row.drop k)))] = O.ok (End.rt (yW ((b.first (row.drop k)).map (k + ·)))) [.val (W.th a b).obj, .val (.lst (sL row)), .val (.int k), .val (yW (b.first (row.drop k)))]
  cases b.first (row.drop k) with
  | none => show zK _ [.val (W.th a b).obj, .val (.lst (sL row)), .val (.int k), .val .non] = _; walk_at "gs"; rfl
  | some m =>
   show zK _ [.val (W.th a b).obj, .val (.lst (sL row)), .val (.int k), .val (.int m)] = _
   walk_at "gs"
   show _ = O.ok (End.rt (.int ((k + m : Nat) : Int))) _
   rw [dC]; rfl
theorem zfE : ∀ n, UU n
 | 0, w, row, _, hd, _ => by have := w.depth_pos; omega
 | n + 1, w, row, h, hd, hr => by
  have ih := zfE n
  cases w with
  | pl p => exact zfV (PW.Ok.small h) hr
  | bo ws => simp only [W.depth] at hd; exact ⟨_, rfl, zlW ih h (by omega) hr⟩
  | ei ws => simp only [W.depth] at hd; exact ⟨_, rfl, zlX ih h (by omega) hr⟩
  | th a b => simp only [W.depth] at hd; exact ⟨_, rfl, zlY ih h (by omega) (by omega) hr⟩
def W.kids : W -> WL | .pl _ => .nil | .bo ws => ws | .ei ws => ws | .th a b => .cons a (.cons b .nil)
def W.own : W -> List Str | .pl p => p.names | _ => []
theorem W.names_is (w : W) : w.names = w.own ++ w.kids.names := by
 cases w with
 | th a b => simp only [W.names, W.own, W.kids, WL.names, eH, aW]
 | pl p => simp only [W.names, W.own, W.kids, WL.names, aW]
 | _ => simp only [W.names, W.own, W.kids, eH]
theorem W.depth_is (w : W) : w.depth = 1 + w.kids.depth := by
 cases w <;> simp only [W.depth, W.kids, WL.depth] <;> omega
theorem W.parts_is (w : W) : w.parts = 1 + w.kids.parts := by
 cases w <;> simp only [W.parts, W.kids, WL.parts] <;> omega
theorem W.kids_ok {w : W} (h : w.Ok) : w.kids.Ok /\ w.kids.objs.length <= 5 := by
 cases w with
 | pl p => exact ⟨trivial, ck _⟩
 | bo ws => exact ⟨h.1, h.2.2⟩
 | ei ws => exact ⟨h.1, h.2.2⟩
 | th a b => exact ⟨⟨h.1, h.2, trivial⟩, by simp [W.kids, WL.objs]⟩
theorem zfF : ∀ l : List (List Str), (∀ h ∈ l, h.length <= 5) -> l.flatten.length <= 5 * l.length
 | [], _ => by simp
 | h :: r, hh => by
  have := zfF r fun x hx => hh x (af _ hx)
  have := hh h ao
  simp only [ii, aP, au]; omega
theorem zqo {w : W} (h : w.Ok) : ∃ F, Qe w.cls = some F /\ F [.val w.obj] = .ok (.lst (sL w.own)) [] /\ w.own.length <= 25 := by
 cases w with
 | pl p =>
  cases p with
  | count m ys => exact ⟨Ql, rfl, rfl, by have := h.2.1; show ys.length <= 25; omega⟩
  | weigh l ps =>
   obtain ⟨s', e⟩ := zfy (ps := ps) (s := .no)
   have h5 := h.2.1
   refine ⟨Qm, rfl, ?_, by show (ps.map (·.1)).length <= 25; rw [ap]; omega⟩
   exact yu (ρ := [.val (PW.weigh l ps).obj]) rfl (yt (z6 (ρ2 := [.val (PW.weigh l ps).obj]) (js := [none]) (jA (j7 (ρ := [.val (PW.weigh l ps).obj]) (c := 13) (d := .lst (ps.map yU)) rfl (by decide) rfl)) (by rw [ap]; omega) e rfl))
  | houses m e hs =>
   have h5 := h.2.1
   have hh : ∀ x ∈ hs, x.length <= 5 := fun x hx => (h.1 x hx).2.1
   exact ⟨Jn, rfl, ziu h5 hh, by have := zfF hs hh; show hs.flatten.length <= 25; omega⟩
 | _ => exact ⟨yz, rfl, rfl, ck _⟩
theorem zlZ {w : W} : ∃ F, jH w.cls = some F /\ F [.val w.obj] = .ok (.lst w.kids.objs) [] := by
 cases w with
 | pl p => cases p <;> exact ⟨yz, rfl, rfl⟩
 | bo ws => exact ⟨j6, rfl, rfl⟩
 | ei ws => exact ⟨j6, rfl, rfl⟩
 | th a b => exact ⟨Zp, rfl, rfl⟩
theorem zfG {w : W} (h0 : ρ[0]? = some (.val w.obj)) : zJ (zR jH (zd 0) gNil) ρ = .ok w.kids.objs ρ := by
 obtain ⟨F, hF, e⟩ := zlZ (w := w)
 refine jA (Qa (a := zd 0) (r := gNil) (w := w) (ρ1 := ρ) (ds := []) ?_ hF rfl e)
 unfold zd; rw [h0]
def zhd (n : Nat) : Prop := ∀ (w : W) (xs : List Str), w.Ok -> w.depth <= n -> (∀ x ∈ w.names, x ∈ xs) -> xs.length <= 5 -> ∃ ys F, zT n w.cls = some F /\ F [.val w.obj] = .ok (.lst (sL ys)) [] /\ ys.Nodup /\ ∀ x, x ∈ ys ↔ x ∈ w.names
theorem zby (ih : zhd n) {xs : List Str} (h5 : xs.length <= 5) : ∀ (ws : WL) (acc : List Str) (s : Slot), ws.Ok -> ws.depth <= n -> (∀ x ∈ ws.names, x ∈ xs) -> acc.length + 5 * ws.objs.length <= 60 ->
 ∃ s' zs, Jf (zt 2) (yi 1 (Qx Jv (zg 1) (gO (zR (zT n) (zd 2) gNil)))) ws.objs [.val d, .val (.lst (sL acc)), s] = .ok .nx [.val d, .val (.lst (sL (acc ++ zs))), s'] /\ (∀ x, x ∈ zs ↔ x ∈ ws.names) /\ zs.length <= 5 * ws.objs.length
 | .nil, acc, s, _, _, _, _ => ⟨s, [], by rw [aW]; rfl, fun x => by simp [WL.names], by simp⟩
 | .cons w r, acc, s, h, hd, hn, hl => by
  simp only [WL.depth] at hd
  simp only [WL.names] at hn
  simp only [WL.objs, au] at hl
  obtain ⟨ys, F, hF, eF, nd, hm⟩ := ih w xs h.1 (by omega) (fun x hx => hn x (aL _ hx)) h5
  have yl : ys.length <= 5 := aV (VC nd fun x hx => hn x (aL _ ((hm x).mp hx))) h5
  obtain ⟨s', zs, e, hz, zl⟩ := zby ih (d := d) h5 r (acc ++ ys) (.val w.obj) h.2 (by omega) (fun x hx => hn x (aA _ hx)) (by rw [aP]; omega)
  refine ⟨s', ys ++ zs, ?_, fun x => by simp only [WL.names, a8, hm x, hz x], by simp only [WL.objs, au, aP]; omega⟩
  simp only [WL.objs]
  have em : zR (zT n) (zd 2) gNil [.val d, .val (.lst (sL acc)), .val w.obj] = .ok (.lst (sL ys)) [.val d, .val (.lst (sL acc)), .val w.obj] := Qa (w := w) (ds := []) rfl hF rfl eF
  have ec : Jv (.lst (sL acc)) (.lst (sL ys)) = some (sL (acc ++ ys)) := by
   unfold Jv; dsimp only; rw [zX, zX, if_pos (by omega), zbo]
  have e2 : yi 1 (Qx Jv (zg 1) (gO (zR (zT n) (zd 2) gNil))) [.val d, .val (.lst (sL acc)), .val w.obj] = .ok .nx [.val d, .val (.lst (sL (acc ++ ys))), .val w.obj] := by
   refine yg (ρ1 := [.val d, .val (.lst (sL acc)), .val w.obj]) (d := .lst (sL (acc ++ ys))) ?_
   unfold Qx gO
   show (O.bind (zR (zT n) (zd 2) gNil [.val d, .val (.lst (sL acc)), .val w.obj] |>.bind _) _) = _
   rw [em]
   show jr ((Jv (.lst (sL acc)) (.lst (sL ys))).map D.lst) _ = _
   rw [ec]; rfl
  rw [WU rfl e2, e, bT]
theorem Uv : ∀ n, zhd n
 | 0, w, _, _, hd, _, _ => by have := w.depth_pos; omega
 | n + 1, w, xs, h, hd, hn, h5 => by
  obtain ⟨F, hF, eF, ol⟩ := zqo h
  obtain ⟨ko, kl⟩ := W.kids_ok h
  rw [W.depth_is] at hd
  rw [W.names_is] at hn
  obtain ⟨s', zs, e, hz, zl⟩ := zby (Uv n) (d := w.obj) h5 w.kids w.own .no ko (by omega) (fun x hx => hn x (aA _ hx)) (by omega)
  refine ⟨Qv (dd (w.own ++ zs)), je (zT n), by cases w with | pl p => cases p <;> rfl | _ => rfl, ?_, ?_, fun x => ?_⟩
  · refine yu (ρ := [.val w.obj, .val (.lst (sL (w.own ++ zs))), s']) rfl ?_
    refine (zn (yg (Qa (a := zd 0) (r := gNil) (w := w) (ρ1 := [.val w.obj, .no, .no]) (ds := []) rfl hF rfl eF))).trans ?_
    refine (zn ((WW (zfG (w := w) (ρ := [.val w.obj, .val (.lst (sL w.own)), .no]) rfl)).trans e)).trans ?_
    refine yt ?_
    show jr ((Zl (.lst (sL (w.own ++ zs)))).map D.lst) _ = _
    rw [ziv (by rw [aP]; omega)]; rfl
  · exact (QX _).nodup_iff.mpr Vi
  · rw [(QX _).mem_iff, dd_mem, W.names_is, a8, a8, hz x]
def WL.deps : WL -> List Nat | .nil => [] | .cons w r => w.depth :: r.deps
theorem WL.depth_is : ∀ (ws : WL), (ws.deps = [] -> ws.depth = 0) /\ (ws.deps ≠ [] -> ws.depth ∈ ws.deps) /\ ∀ n ∈ ws.deps, n <= ws.depth
 | .nil => ⟨fun _ => rfl, fun h => absurd rfl h, fun n h => by cases h⟩
 | .cons w r => by
  obtain ⟨a, b, c⟩ := WL.depth_is r
  simp only [WL.deps, WL.depth]
  refine ⟨fun h => (by cases h), fun _ => ?_, fun n hn => ?_⟩
  · rcases Nat.le_total w.depth r.depth with z | z
    · rw [Nat.max_eq_right z]
      cases e : r.deps with
      | nil => have := a e; have := w.depth_pos; omega
      | cons x y => rw [← e]; exact af _ (b (by rw [e]; simp))
    · rw [Nat.max_eq_left z]; exact ao
  · rcases aB.mp hn with z | z
    · omega
    · have := c n z; omega
theorem zoj (ws : WL) : zdX (.lst ((ws.deps.map fun k : Nat => (k : Int)).map D.int)) (.int 0) = some (.int ws.depth) := by
 obtain ⟨a, b, c⟩ := ws.depth_is
 show ((jX ((ws.deps.map fun k : Nat => (k : Int)).map D.int)).bind _) = _
 rw [ZO, aG]
 by_cases e : ws.deps = []
 · rw [e, a e]; rfl
 · have e2 : ws.deps.map (fun k : Nat => (k : Int)) ≠ [] := by simpa using e
   rw [if_neg e2]
   obtain ⟨m1, m2⟩ := zcq e2
   obtain ⟨k, hk, ek⟩ := aE.mp m1
   have h1 := m2 (ws.depth : Int) (aE.mpr ⟨_, b e, rfl⟩)
   have h2 := c k hk
   rw [← ek] at h1 ⊢
   rw [show k = ws.depth by omega]
def zhe (n : Nat) : Prop := ∀ (w : W), w.Ok -> w.depth <= n -> ∃ F, jS n w.cls = some F /\ F [.val w.obj] = .ok (.int w.depth) []
theorem zdq (ih : zhe n) : ∀ (ws : WL) (s : Slot), ws.Ok -> ws.depth <= n -> ∃ s', z9 (zt 0) yJ (zR (jS n) (zd 0) gNil) ws.objs [s] = .ok ((ws.deps.map fun k : Nat => (k : Int)).map D.int) [s']
 | .nil, s, _, _ => ⟨s, rfl⟩
 | .cons w r, s, h, hd => by
  simp only [WL.depth] at hd
  obtain ⟨s', e⟩ := zdq ih r (.val w.obj) h.2 (by omega)
  obtain ⟨F, hF, eF⟩ := ih w h.1 (by omega)
  refine ⟨s', ?_⟩
  simp only [WL.objs, WL.deps, aq]
  exact jw rfl (Qa (a := zd 0) (r := gNil) (w := w) (ρ1 := [.val w.obj]) (ds := []) rfl hF rfl eF) e
theorem zae : ∀ n, zhe n
 | 0, w, _, hd => by have := w.depth_pos; omega
 | n + 1, w, h, hd => by
  obtain ⟨ko, kl⟩ := W.kids_ok h
  have hd' := hd
  rw [W.depth_is] at hd'
  obtain ⟨s', e⟩ := zdq (zae n) w.kids .no ko (by omega)
  refine ⟨jJ (jS n), by cases w with | pl p => cases p <;> rfl | _ => rfl, ?_⟩
  refine yu (ρ := [.val w.obj]) rfl (yt (yq (a := gC (.int 1)) (x := .int 1) (y := .int w.kids.depth) rfl (yq (z6 (ρ2 := [.val w.obj]) (js := [none]) (zfG (w := w) (ρ := [.val w.obj]) rfl) (by omega) e rfl) (y := .int 0) rfl (zoj w.kids)) ?_))
  show some (D.int (1 + (w.kids.depth : Int))) = _
  rw [W.depth_is, dC]; rfl
def WL.pts : WL -> List Nat | .nil => [] | .cons w r => w.parts :: r.pts
theorem zhf : ∀ (ws : WL), (ws.pts.map fun k : Nat => (k : Int)).sum = ws.parts
 | .nil => rfl
 | .cons w r => by simp only [WL.pts, WL.parts, aq, eo, zhf r, dC]
def zhg (n : Nat) : Prop := ∀ (w : W), w.Ok -> w.depth <= n -> ∃ F, jh n w.cls = some F /\ F [.val w.obj] = .ok (.int w.parts) []
theorem zfH (ih : zhg n) : ∀ (ws : WL) (s : Slot), ws.Ok -> ws.depth <= n -> ∃ s', z9 (zt 0) yJ (zR (jh n) (zd 0) gNil) ws.objs [s] = .ok ((ws.pts.map fun k : Nat => (k : Int)).map D.int) [s']
 | .nil, s, _, _ => ⟨s, rfl⟩
 | .cons w r, s, h, hd => by
  simp only [WL.depth] at hd
  obtain ⟨s', e⟩ := zfH ih r (.val w.obj) h.2 (by omega)
  obtain ⟨F, hF, eF⟩ := ih w h.1 (by omega)
  refine ⟨s', ?_⟩
  simp only [WL.objs, WL.pts, aq]
  exact jw rfl (Qa (a := zd 0) (r := gNil) (w := w) (ρ1 := [.val w.obj]) (ds := []) rfl hF rfl eF) e
theorem zfI : ∀ n, zhg n
 | 0, w, _, hd => by have := w.depth_pos; omega
 | n + 1, w, h, hd => by
  obtain ⟨ko, kl⟩ := W.kids_ok h
  have hd' := hd
  rw [W.depth_is] at hd'
  obtain ⟨s', e⟩ := zfH (zfI n) w.kids .no ko (by omega)
  refine ⟨yT (jh n), by cases w with | pl p => cases p <;> rfl | _ => rfl, ?_⟩
  refine yu (ρ := [.val w.obj]) rfl (yt (yq (a := gC (.int 1)) (x := .int 1) (y := .int w.kids.parts) rfl (j8 (z6 (ρ2 := [.val w.obj]) (js := [none]) (zfG (w := w) (ρ := [.val w.obj]) rfl) (by omega) e rfl) (sum_ints.trans (by rw [zhf]))) ?_))
  show some (D.int (1 + (w.kids.parts : Int))) = _
  rw [W.parts_is, dC]; rfl
structure W.Fits (w : W) (xs : List Str) : Prop where
 ok : w.Ok
 sub : ∀ x ∈ w.names, x ∈ xs
 deep : w.depth <= 4
 many : w.parts <= 12
theorem WY {w : W} {xs : List Str} (h : w.Fits xs) (h5 : xs.length <= 5) : ya [.val w.obj] = .ok .non [] := by
 have hd := h.deep
 have hp := h.many
 obtain ⟨ys, F1, hF1, e1, nd, hm⟩ := Uv 6 w xs h.ok (by omega) h.sub h5
 obtain ⟨F2, hF2, e2⟩ := zae 6 w h.ok (by omega)
 obtain ⟨F3, hF3, e3⟩ := zfI 6 w h.ok (by omega)
 have yl : ys.length <= 5 := aV (VC nd fun x hx => h.sub x ((hm x).mp hx)) h5
 refine zj3 (ρ := [.val w.obj]) rfl ?_
 refine (zn (yV (yq (x := .int ys.length) (y := .int 5) (j8 (Qa (a := zd 0) (r := gNil) (w := w) (ρ1 := [.val w.obj]) (ds := []) rfl hF1 rfl e1) zft) rfl ?_))).trans ?_
 · show some (D.bl (decide ((ys.length : Int) <= 5))) = _
   rw [decide_eq_true (by omega)]
 refine (zn (yV (yq (x := .int w.depth) (y := .int 4) (Qa (a := zd 0) (r := gNil) (w := w) (ρ1 := [.val w.obj]) (ds := []) rfl hF2 rfl e2) rfl ?_))).trans ?_
 · show some (D.bl (decide ((w.depth : Int) <= 4))) = _
   rw [decide_eq_true (by omega)]
 refine yV (yq (x := .int w.parts) (y := .int 12) (Qa (a := zd 0) (r := gNil) (w := w) (ρ1 := [.val w.obj]) (ds := []) rfl hF3 rfl e3) rfl ?_)
 show some (D.bl (decide ((w.parts : Int) <= 12))) = _
 rw [decide_eq_true (by omega)]
theorem VF (w : W) : Jm [.val w.obj] = .ok (.bl true) [] := by
 cases w with
 | pl p => cases p <;> rfl
 | _ => rfl
theorem zfZ {hs : List (List Str)} (h : (PW.houses m e hs).Ok) : Zs [.own (.obj 14 []), .val (.int m), .val (.int e), .val (.lst (hs.map yC))] = .ok .non [(PW.houses m e hs).obj] := by
 have hz := WY (w := .pl (.houses m e hs)) (xs := dd hs.flatten) ⟨h, fun x hx => dd_mem.mpr hx, by simp only [W.depth]; omega, by simp only [W.parts]; omega⟩ h.2.2.2.2.2
 obtain ⟨hh, h5, h1, hm, he, hd⟩ := h
 have hp : 1 <= hs.length := by omega
 have hne : (hs.map fun h => (h.length : Int)) ≠ [] := fun z => by have := congrArg bR z; rw [ap, bB] at this; omega
 obtain ⟨s1, ec1⟩ := zfz (hs := hs) (s := .no)
 obtain ⟨s2, ec2⟩ := zdo (hs := hs) (s := .no)
 refine YN (ρ := [.val (.int m), .val (.int e), .val (.lst (hs.map yC))]) rfl ?_
 refine (zn (yV (Jz (a := zd 3) rfl (zad (by simpa using hp) (by simpa using h5))))).trans ?_
 refine (zn (yV (zac (ds := hs.map yC) rfl (by rw [ap]; omega) fun d hd => by
  obtain ⟨p, hp, rfl⟩ := aE.mp hd
  obtain ⟨a, b, c⟩ := hh p hp
  exact zdn a (by omega) b))).trans ?_
 refine (zn (yV (Jq (a := zd 1) (b := zB yv (zg 3)) (x := .int m) (y := .int hs.length) rfl (by walk_at "gs"; rw [ap]) (zbw h1 hm)))).trans ?_
 refine (zn (yV (Jq (a := zd 2) (x := .int e) (y := .int (Jb (hs.map fun h => (h.length : Int)))) (ρ2 := [.own (.obj 14 []), .val (.int m), .val (.int e), .val (.lst (hs.map yC))]) rfl (j8 (z6 (jx (ds := hs.map yC) rfl) (by rw [ap]; omega) ec1 rfl) (zfA hne)) (zbw he (zg_ hne fun n hn => by
  obtain ⟨h, hh', rfl⟩ := aE.mp hn
  exact (hh h hh').2.2))))).trans ?_
 refine (zn (ρ1 := [.own (.obj 14 [(0, .int m)]), .val (.int m), .val (.int e), .val (.lst (hs.map yC))]) (by walk_at "gs")).trans ?_
 refine (zn (ρ1 := [.own (.obj 14 [(0, .int m), (4, .int e)]), .val (.int m), .val (.int e), .val (.lst (hs.map yC))]) (by walk_at "gs")).trans ?_
 have ec3 := z6 (ρ2 := [.own (.obj 14 [(0, .int m), (4, .int e)]), .val (.int m), .val (.int e), .val (.lst (hs.map yC))]) (js := [none]) (jx (i := 3) (ρ := [.own (.obj 14 [(0, .int m), (4, .int e)]), .val (.int m), .val (.int e), .val (.lst (hs.map yC))]) (ds := hs.map yC) rfl) (by rw [ap]; omega) ec2 rfl
 refine (zn (ρ1 := [.own (PW.houses m e hs).obj, .val (.int m), .val (.int e), .val (.lst (hs.map yC))]) ?_).trans ?_
 · unfold JR
   rw [ec3]
   walk_at "gs"
   rfl
 · refine YM (d := .non) ?_
   show Vj (ya [.val (W.pl (.houses m e hs)).obj]) _ = _
   rw [hz]; rfl
theorem zok (p : PW) (h : p.Ok) (n : Nat) : jT (n + 1) [.val p.told] = .ok p.obj [] := by
 show zO [] 1 1 false (Vw (jT n)) [.val p.told] = _
 have ne : ∀ (w : Str) (k : Bool), gB (zj jL (gO (zj zF (zg 0) (gO (gC (.int 0))))) (gO (gC (.str w)))) [.val p.told, .no] = .ok k [.val p.told, .no] -> gB (zj jL (gO (zj zF (zg 0) (gO (gC (.int 0))))) (gO (gC (.str w)))) [.val p.told, .no] = .ok k [.val p.told, .no] := fun _ _ h => h
 refine yu (ρ := [.val p.told, .no]) rfl ?_
 cases p with
 | count m ys =>
  have e1 : gB (zj jL (gO (zj zF (zg 0) (gO (gC (.int 0))))) (gO (gC (.str "count")))) [.val (PW.count m ys).told, .no] = .ok true [.val (PW.count m ys).told, .no] := by unfold PW.told; walk_at "gs"
  refine Jy ((J2 e1).trans (yt ?_))
  have e2 : gCons (zj zF (zg 0) (gO (gC (.int 1)))) (gCons (jn jW (gO (zj zF (zg 0) (gO (gC (.int 2)))))) gNil) [.val (PW.count m ys).told, .no] = .ok [.int m, .lst (sL ys)] [.val (PW.count m ys).told, .no] := by unfold PW.told; walk_at "gs"
  show O.bind (gCons _ _ [.val (PW.count m ys).told, .no]) _ = _
  rw [e2, zC]
  rw [show jl (.own (.obj 12 []) :: [D.int m, .lst (sL ys)].map .val) = _ from VB h]; rfl
 | weigh l ps =>
  have e0 : gB (zj jL (gO (zj zF (zg 0) (gO (gC (.int 0))))) (gO (gC (.str "count")))) [.val (PW.weigh l ps).told, .no] = .ok false [.val (PW.weigh l ps).told, .no] := by unfold PW.told; walk_at "gs"
  have e1 : gB (zj jL (gO (zj zF (zg 0) (gO (gC (.int 0))))) (gO (gC (.str "weigh")))) [.val (PW.weigh l ps).told, .no] = .ok true [.val (PW.weigh l ps).told, .no] := by unfold PW.told; walk_at "gs"
  refine (zn ((yy e0).trans rfl)).trans ?_
  refine Jy ((J2 e1).trans (yt ?_))
  have e2 : gCons (zj zF (zg 0) (gO (gC (.int 1)))) (gCons (jn jW (gO (zj zF (zg 0) (gO (gC (.int 2)))))) gNil) [.val (PW.weigh l ps).told, .no] = .ok [.int l, .lst (ps.map yU)] [.val (PW.weigh l ps).told, .no] := by unfold PW.told; walk_at "gs"
  show O.bind (gCons _ _ [.val (PW.weigh l ps).told, .no]) _ = _
  rw [e2, zC]
  rw [show Yq (.own (.obj 13 []) :: [D.int l, .lst (ps.map yU)].map .val) = _ from zit h]; rfl
 | houses m e hs =>
  have e0 : gB (zj jL (gO (zj zF (zg 0) (gO (gC (.int 0))))) (gO (gC (.str "count")))) [.val (PW.houses m e hs).told, .no] = .ok false [.val (PW.houses m e hs).told, .no] := by unfold PW.told; walk_at "gs"
  have e1 : gB (zj jL (gO (zj zF (zg 0) (gO (gC (.int 0))))) (gO (gC (.str "weigh")))) [.val (PW.houses m e hs).told, .no] = .ok false [.val (PW.houses m e hs).told, .no] := by unfold PW.told; walk_at "gs"
  have e3 : gB (zj jL (gO (zj zF (zg 0) (gO (gC (.int 0))))) (gO (gC (.str "houses")))) [.val (PW.houses m e hs).told, .no] = .ok true [.val (PW.houses m e hs).told, .no] := by unfold PW.told; walk_at "gs"
  refine (zn ((yy e0).trans rfl)).trans ?_
  refine (zn ((yy e1).trans rfl)).trans ?_
  refine Jy ((J2 e3).trans (yt ?_))
  obtain ⟨s2, ec2⟩ := zdo (hs := hs) (s := .no)
  have e5 : zj zF (zg 0) (gO (gC (.int 3))) [.val (PW.houses m e hs).told, .no] = .ok (.lst (hs.map yC)) [.val (PW.houses m e hs).told, .no] := by unfold PW.told; walk_at "gs"
  have ec3 := z6 (ρ2 := [.val (PW.houses m e hs).told, .no]) (js := [none]) (jA e5) (by have := h.2.1; rw [ap]; omega) ec2 rfl
  have e2 : gCons (zj zF (zg 0) (gO (gC (.int 1)))) (gCons (zj zF (zg 0) (gO (gC (.int 2)))) (gCons (zU (zJ (zj zF (zg 0) (gO (gC (.int 3))))) [none] (zt 0) yJ (jn jW (zg 0))) gNil)) [.val (PW.houses m e hs).told, .no] = .ok [.int m, .int e, .lst (hs.map yC)] [.val (PW.houses m e hs).told, .no] := by
   refine (z0 (x := .int m) (ρ1 := [.val (PW.houses m e hs).told, .no]) (by unfold PW.told; walk_at "gs")).trans ?_
   rw [z0 (x := .int e) (ρ1 := [.val (PW.houses m e hs).told, .no]) (by unfold PW.told; walk_at "gs"), z0 ec3]
   rfl
  show O.bind (gCons _ _ [.val (PW.houses m e hs).told, .no]) _ = _
  rw [e2, zC]
  rw [show Zs (.own (.obj 14 []) :: [D.int m, .int e, .lst (hs.map yC)].map .val) = _ from zfZ h]; rfl
theorem zbz : ∀ (ws : WL), ∀ d ∈ ws.objs, Jm [.val d] = .ok (.bl true) []
 | .nil, d, h => by cases h
 | .cons w r, d, h => by
  simp only [WL.objs, aB] at h
  rcases h with rfl | h
  · exact VF w
  · exact zbz r d h
theorem zkf {ws : WL} (h1 : 1 <= ws.objs.length) (h5 : ws.objs.length <= 5) : jM [.val (.lst ws.objs)] = .ok .non [] := by
 refine zj3 (ρ := [.val (.lst ws.objs)]) rfl ?_
 refine (zn (yV (Jz (a := zd 0) rfl (zad h1 h5)))).trans ?_
 exact yV (zac (ds := ws.objs) rfl (by omega) (zbz ws))
theorem zkg {ws : WL} {w : W} (hc : 11 <= c) (e : w.obj = .obj c [(6, .lst ws.objs)]) (h1 : 1 <= ws.objs.length) (h5 : ws.objs.length <= 5) (hs : ya [.val w.obj] = .ok .non []) : J1 [.own (.obj c []), .val (.lst ws.objs)] = .ok .non [w.obj] := by
 refine YN (ρ := [.val (.lst ws.objs)]) rfl ?_
 refine (zn (YM (Jz (a := zd 1) rfl (zkf h1 h5)))).trans ?_
 refine (zn (ρ1 := [.own w.obj, .val (.lst ws.objs)]) ?_).trans ?_
 · rw [e]; walk_at "gs"; exact UL hc
 · refine YM (d := .non) ?_
   show Vj (ya [.val w.obj]) _ = _
   rw [hs]; rfl
theorem zhh {a b : W} (hs : ya [.val (W.th a b).obj] = .ok .non []) : Qf [.own (.obj 17 []), .val a.obj, .val b.obj] = .ok .non [(W.th a b).obj] := by
 refine YN (ρ := [.val a.obj, .val b.obj]) rfl ?_
 refine (zn (yV ((QC (k := true) (Jz (a := zd 1) rfl (VF a))).trans (by rw [if_pos rfl]; exact Jz (a := zd 2) rfl (VF b))))).trans ?_
 refine (zn (ρ1 := [.own (.obj 17 [(7, a.obj)]), .val a.obj, .val b.obj]) (by walk_at "gs")).trans ?_
 refine (zn (ρ1 := [.own (W.th a b).obj, .val a.obj, .val b.obj]) (by simp only [W.obj]; walk_at "gs")).trans ?_
 refine YM (d := .non) ?_
 show Vj (ya [.val (W.th a b).obj]) _ = _
 rw [hs]; rfl
def zfJ (n : Nat) : Prop := ∀ (w : W) (xs : List Str), w.Fits xs -> xs.length <= 5 -> w.depth <= n -> jT n [.val w.told] = .ok w.obj []
theorem zdr (ih : zfJ n) {xs : List Str} (h5 : xs.length <= 5) : ∀ (ws : WL) (s : Slot), ws.Ok -> (∀ x ∈ ws.names, x ∈ xs) -> ws.depth <= n -> ws.depth <= 4 -> ws.parts <= 12 -> ∃ s', z9 (zt 0) yJ (zv (jT n) (gCons (zd 0) gNil)) ws.tolds [s] = .ok ws.objs [s']
 | .nil, s, _, _, _, _, _ => ⟨s, rfl⟩
 | .cons w r, s, h, hn, hd, hd4, hp => by
  simp only [WL.depth, WL.parts, WL.names] at hd hd4 hp hn
  obtain ⟨s', e⟩ := zdr ih h5 r (.val w.told) h.2 (fun x hx => hn x (aA _ hx)) (by omega) (by omega) (by omega)
  have e1 := ih w xs ⟨h.1, fun x hx => hn x (aL _ hx), by omega, by omega⟩ h5 (by omega)
  refine ⟨s', ?_⟩
  simp only [WL.tolds, WL.objs]
  exact jw rfl (Jz (a := zd 0) (x := w.told) (ρ1 := [.val w.told]) rfl e1) e
theorem zds (ih : zfJ n) {ws : WL} {xs : List Str} {w : W} (hc : 11 <= c) (h5 : xs.length <= 5) (e : w.obj = .obj c [(6, .lst ws.objs)]) (ho : ws.Ok) (l1 : 1 <= ws.objs.length) (l5 : ws.objs.length <= 5) (hf : w.Fits xs) (hn : ∀ x ∈ ws.names, x ∈ xs) (hd : ws.depth <= n) (hd4 : ws.depth <= 4) (hp : ws.parts <= 12) :
 yi 1 (zU (zJ (zj zF (zg 0) (gO (gC (.int 1))))) [none] (zt 0) yJ (zv (jT n) (gCons (zd 0) gNil))) [.val (.tup [.str k, .lst ws.tolds]), .no] = .ok .nx [.val (.tup [.str k, .lst ws.tolds]), .val (.lst ws.objs)] /\ jG c J1 (gCons (zd 1) gNil) [.val (.tup [.str k, .lst ws.tolds]), .val (.lst ws.objs)] = .ok w.obj [.val (.tup [.str k, .lst ws.tolds]), .val (.lst ws.objs)] := by
 obtain ⟨s', ec⟩ := zdr ih h5 ws .no ho hn hd hd4 hp
 have tl : ∀ ws : WL, ws.tolds.length = ws.objs.length := fun ws => by
  have := WL.rec (motive_1 := fun _ => True) (motive_2 := fun ws => ws.tolds.length = ws.objs.length) (fun _ => trivial) (fun _ _ => trivial) (fun _ _ => trivial) (fun _ _ _ _ => trivial) rfl (fun w r _ h => by simp only [WL.tolds, WL.objs, au, h]) ws
  exact this
 constructor
 · have e5 : zj zF (zg 0) (gO (gC (.int 1))) [.val (.tup [.str k, .lst ws.tolds]), .no] = .ok (.lst ws.tolds) [.val (.tup [.str k, .lst ws.tolds]), .no] := by walk_at "gs"
   exact yg (z6 (ρ2 := [.val (.tup [.str k, .lst ws.tolds]), .no]) (js := [none]) (jA e5) (by rw [tl]; omega) ec rfl)
 · have e6 := zkg hc e l1 l5 (WY hf h5)
   unfold jG
   rw [z0 (a := zd 1) (r := gNil) (x := .lst ws.objs) (ρ1 := [.val (.tup [.str k, .lst ws.tolds]), .val (.lst ws.objs)]) rfl]
   show ZA (J1 (.own (.obj c []) :: [D.lst ws.objs].map .val)) _ = _
   rw [show J1 (.own (.obj c []) :: [D.lst ws.objs].map .val) = _ from e6]; rfl
theorem zhi : ∀ n, zfJ n
 | 0, w, _, _, _, hd => by have := w.depth_pos; omega
 | n + 1, w, xs, hf, h5, hd => by
  have ih := zhi n
  have ho := hf.ok
  have hn := hf.sub
  have hd4 := hf.deep
  have hp := hf.many
  have tst : ∀ (k q : String) (r : List D) (s : Slot), gB (zj jL (gO (zj zF (zg 0) (gO (gC (.int 0))))) (gO (gC (.str q)))) [.val (.tup (.str k :: r)), s] = .ok (decide (k = q)) [.val (.tup (.str k :: r)), s] := fun k q r s => by
   walk_at "gs"
  cases w with
  | pl p => exact zok p ho n
  | bo ws =>
   simp only [W.names, W.depth, W.parts] at hn hd hd4 hp
   obtain ⟨a, b⟩ := zds ih (k := "both") (c := 15) (w := .bo ws) (by decide) h5 rfl ho.1 ho.2.1 ho.2.2 hf hn (by omega) (by omega) (by omega)
   refine yu (ρ := [.val (W.bo ws).told, .val (.lst ws.objs)]) rfl ?_
   refine (zn ((yy (tst "both" "count" _ _)).trans rfl)).trans ((zn ((yy (tst "both" "weigh" _ _)).trans rfl)).trans ((zn ((yy (tst "both" "houses" _ _)).trans rfl)).trans ((zn ((yy (tst "both" "then" _ _)).trans rfl)).trans ?_)))
   exact (zn a).trans (Jy ((J2 (tst "both" "both" _ _)).trans (yt b)))
  | ei ws =>
   simp only [W.names, W.depth, W.parts] at hn hd hd4 hp
   obtain ⟨a, b⟩ := zds ih (k := "either") (c := 16) (w := .ei ws) (by decide) h5 rfl ho.1 ho.2.1 ho.2.2 hf hn (by omega) (by omega) (by omega)
   refine yu (ρ := [.val (W.ei ws).told, .val (.lst ws.objs)]) rfl ?_
   refine (zn ((yy (tst "either" "count" _ _)).trans rfl)).trans ((zn ((yy (tst "either" "weigh" _ _)).trans rfl)).trans ((zn ((yy (tst "either" "houses" _ _)).trans rfl)).trans ((zn ((yy (tst "either" "then" _ _)).trans rfl)).trans ?_)))
   exact (zn a).trans ((zn ((yy (tst "either" "both" _ _)).trans rfl)).trans (yt b))
  | th a b =>
   simp only [W.names, W.depth, W.parts] at hn hd hd4 hp
   have ea := ih a xs ⟨ho.1, fun x hx => hn x (aL _ hx), by omega, by omega⟩ h5 (by omega)
   have eb := ih b xs ⟨ho.2, fun x hx => hn x (aA _ hx), by omega, by omega⟩ h5 (by omega)
   refine yu (ρ := [.val (W.th a b).told, .no]) rfl ?_
   refine (zn ((yy (tst "then" "count" _ _)).trans rfl)).trans ((zn ((yy (tst "then" "weigh" _ _)).trans rfl)).trans ((zn ((yy (tst "then" "houses" _ _)).trans rfl)).trans (Jy ((J2 (tst "then" "then" _ _)).trans (yt ?_)))))
   have e1 : zv (jT n) (gCons (zj zF (zg 0) (gO (gC (.int 1)))) gNil) [.val (W.th a b).told, .no] = .ok a.obj [.val (W.th a b).told, .no] := Jz (x := a.told) (by simp only [W.told]; walk_at "gs") ea
   have e2 : zv (jT n) (gCons (zj zF (zg 0) (gO (gC (.int 2)))) gNil) [.val (W.th a b).told, .no] = .ok b.obj [.val (W.th a b).told, .no] := Jz (x := b.told) (by simp only [W.told]; walk_at "gs") eb
   show O.bind (gCons _ _ [.val (W.th a b).told, .no]) _ = _
   rw [z0 e1, z0 (r := gNil) e2]
   show ZA (Qf (.own (.obj 17 []) :: [a.obj, b.obj].map .val)) _ = _
   rw [show Qf (.own (.obj 17 []) :: [a.obj, b.obj].map .val) = _ from zhh (WY hf h5)]; rfl
def mx : Nat -> Nat | 1 => 1 | 2 => 5 | 3 => 11 | _ => 12
def zqp (w : W) (xs : List Str) (d : Nat) : Prop := w.Ok /\ (∀ x ∈ w.names, x ∈ xs) /\ w.depth <= d /\ w.parts <= mx d
def zkh (R : Fn) (d : Nat) : Prop := ∀ o xs, yb o -> Names xs -> 1 <= xs.length -> xs.length <= 5 -> ∃ w o', zqp w xs d /\ yb o' /\ R [.own o, .val (.lst (sL xs)), .val (.int d)] = .ok w.told [o']
theorem VG {ρ ρ1 ρ2 ρ3 : Env} (h0 : ρ[j]? = some (.own o0)) (h1 : a ρ = .ok x ρ1) (h2 : b ρ1 = .ok y ρ2) (h3 : ρ2[j]? = some (.own o)) (h4 : F [.own o, .val x, .val y] = .ok d [o']) (h5 : ρ2.set j (.own o') = ρ3) : zu j F (gCons a (gCons b gNil)) ρ = .ok d ρ3 := by
 rw [Wu (ds := [x, y]) h0 ((z0 h1).trans (by rw [z0 h2]; rfl)) h3 h4, h5]
theorem zdt (ih : zkh R d) {xs : List Str} (hx : Names xs) (h1 : 1 <= xs.length) (h5 : xs.length <= 5) : ∀ (ds : List D) (s : Slot) (o : D), yb o -> ∃ (ws : WL) (s' : Slot) (o' : D), (ws.Ok /\ (∀ x ∈ ws.names, x ∈ xs) /\ ws.depth <= d /\ ws.parts <= ds.length * mx d /\ ws.objs.length = ds.length) /\ yb o' /\ z9 (zt 0) yJ (zu 1 R (gCons (zd 2) (gCons (zj Ue (zg 3) (gO (gC (.int 1)))) gNil))) ds [s, .own o, .val (.lst (sL xs)), .val (.int (d + 1))] = .ok ws.tolds [s', .own o', .val (.lst (sL xs)), .val (.int (d + 1))]
 | [], s, o, hw => ⟨.nil, s, o, ⟨trivial, fun x h => (by cases h), ck _, ck _, rfl⟩, hw, rfl⟩
 | y :: r, s, o, hw => by
  obtain ⟨w, o1, ⟨a1, a2, a3, a4⟩, hw1, e⟩ := ih o xs hw hx h1 h5
  obtain ⟨ws, s', o', ⟨b1, b2, b3, b4, b5⟩, hw', e2⟩ := zdt ih hx h1 h5 r (.val y) o1 hw1
  refine ⟨.cons w ws, s', o', ⟨⟨a1, b1⟩, ?_, ?_, ?_, ?_⟩, hw', ?_⟩
  · intro x hm
    simp only [WL.names, a8] at hm
    exact hm.elim (a2 x) (b2 x)
  · simp only [WL.depth]; omega
  · simp only [WL.parts, au, Nat.add_mul]; omega
  · simp only [WL.objs, au, b5]
  have es : zj Ue (zg 3) (gO (gC (.int 1))) [.val y, .own o, .val (.lst (sL xs)), .val (.int (d + 1))] = .ok (.int d) [.val y, .own o, .val (.lst (sL xs)), .val (.int (d + 1))] := by
   walk_at "gs"
   rw [show (d : Int) + 1 - 1 = d by omega]
  have e3 := VG (j := 1) (F := R) (a := zd 2) (ρ := [.val y, .own o, .val (.lst (sL xs)), .val (.int (d + 1))]) (ρ3 := [.val y, .own o1, .val (.lst (sL xs)), .val (.int (d + 1))]) rfl rfl es rfl e rfl
  exact jw rfl e3 e2
theorem zl0 (hw : yb o) : ∃ k o', (k = "both" \/ k = "either") /\ yb o' /\ zj zF (gO (yx (gCons (gC (.str "both")) (gCons (gC (.str "either")) gNil)))) (gO (zu 0 zr (gCons (gC (.int 2)) gNil))) (.own o :: ρ) = .ok (.str k) (.own o' :: ρ) := by
 obtain ⟨b, o1, e, b0, b1, hw1⟩ := yL hw (n := 2) (by decide) (by decide)
 have hb : b = 0 \/ b = 1 := by omega
 have ec : zu 0 zr (gCons (gC (.int 2)) gNil) (.own o :: ρ) = .ok (.int b) (.own o1 :: ρ) := Jc (j := 0) rfl rfl rfl e rfl
 rcases hb with rfl | rfl
 · exact ⟨"both", o1, .inl rfl, hw1, yq rfl ec ix0⟩
 · exact ⟨"either", o1, .inr rfl, hw1, yq rfl ec ix1⟩
theorem zol (hw : yb o) : ∃ (m : Int) (o' : D), 1 <= m /\ m <= 4 /\ yb o' /\ zj zF (gO (yx (gCons (gC (.int 2)) (gCons (gC (.int 4)) (gCons (gC (.int 3)) (gCons (gC (.int 1)) gNil)))))) (gO (zu 0 zr (gCons (gC (.int 4)) gNil))) (.own o :: ρ) = .ok (.int m) (.own o' :: ρ) := by
 obtain ⟨b, o1, e, b0, b1, hw1⟩ := yL hw (n := 4) (by decide) (by decide)
 have hb : b = 0 \/ b = 1 \/ b = 2 \/ b = 3 := by omega
 have ec : zu 0 zr (gCons (gC (.int 4)) gNil) (.own o :: ρ) = .ok (.int b) (.own o1 :: ρ) := Jc (j := 0) rfl rfl rfl e rfl
 rcases hb with rfl | rfl | rfl | rfl
 · exact ⟨2, o1, by decide, by decide, hw1, yq rfl ec ix0⟩
 · exact ⟨4, o1, by decide, by decide, hw1, yq rfl ec ix1⟩
 · exact ⟨3, o1, by decide, by decide, hw1, yq rfl ec ix2⟩
 · exact ⟨1, o1, by decide, by decide, hw1, yq rfl ec ix3⟩
theorem zqq (hd : 1 <= d) (h4 : d <= 3) (m1 : 1 <= m) (m4 : m <= 4) : ∃ j : Nat, 1 <= j /\ j <= 4 /\ 1 + j * mx d <= mx (d + 1) /\ yQ (gB (zj Rj (zg 2) (gO (gC (.int 2))))) (yi 5 (zj yH (gO (gC (.int 1))) (gO (zB zeK (gO (JP (zj jL (zg 2) (gO (gC (.int 3)))) (zj Rj (zg 5) (gO (gC (.int 1)))))))))) yP [.own o, .val x, .val (.int (d + 1)), .val k, .val w, .val (.int m), .no] = .ok .nx [.own o, .val x, .val (.int (d + 1)), .val k, .val w, .val (.int j), .no] := by
 have hc : d = 1 \/ d = 2 \/ d = 3 := by omega
 rcases hc with rfl | rfl | rfl
 · refine ⟨m.toNat, by omega, by omega, by simp only [mx]; omega, ?_⟩
   rw [show ((m.toNat : Nat) : Int) = m by omega]
   rfl
 · by_cases c : m > 1
   · refine ⟨2, by decide, by decide, by decide, ?_⟩
     have e : zj Rj (zg 5) (gO (gC (.int 1))) [.own o, .val x, .val (.int ((2 : Nat) + 1)), .val k, .val w, .val (.int m), .no] = .ok (.bl true) [.own o, .val x, .val (.int ((2 : Nat) + 1)), .val k, .val w, .val (.int m), .no] := by walk_at "gs"; rw [decide_eq_true c]
     refine (J2 (ρ1 := [.own o, .val x, .val (.int ((2 : Nat) + 1)), .val k, .val w, .val (.int m), .no]) rfl).trans (yg (yq (a := gC (.int 1)) (x := .int 1) (y := .int 1) rfl (j8 (x := .bl true) ((QC (k := true) rfl).trans ((if_pos rfl).trans e)) rfl) rfl))
   · refine ⟨1, by decide, by decide, by decide, ?_⟩
     have e : zj Rj (zg 5) (gO (gC (.int 1))) [.own o, .val x, .val (.int ((2 : Nat) + 1)), .val k, .val w, .val (.int m), .no] = .ok (.bl false) [.own o, .val x, .val (.int ((2 : Nat) + 1)), .val k, .val w, .val (.int m), .no] := by walk_at "gs"; rw [decide_eq_false c]
     refine (J2 (ρ1 := [.own o, .val x, .val (.int ((2 : Nat) + 1)), .val k, .val w, .val (.int m), .no]) rfl).trans (yg (yq (a := gC (.int 1)) (x := .int 1) (y := .int 0) rfl (j8 (x := .bl false) ((QC (k := true) rfl).trans ((if_pos rfl).trans e)) rfl) rfl))
 · refine ⟨1, by decide, by decide, by decide, ?_⟩
   exact (J2 (ρ1 := [.own o, .val x, .val (.int ((3 : Nat) + 1)), .val k, .val w, .val (.int m), .no]) rfl).trans (yg (yq (a := gC (.int 1)) (x := .int 1) (y := .int 0) rfl (j8 (x := .bl false) ((QC (k := false) rfl).trans (if_neg ah)) rfl) rfl))
theorem zmY : ∀ {d : Nat}, d <= 4 -> 1 <= mx d /\ mx d <= 12
 | 0, _ => by decide
 | 1, _ => by decide
 | 2, _ => by decide
 | 3, _ => by decide
 | 4, _ => by decide
 | _ + 5, h => by omega
theorem zix {R : Fn} {d : Nat} (h1 : 1 <= d) (h4 : d <= 4) {o o1 : D} {k : Int} {xs : List Str} (hw : yb o1) (hx : Names xs) (l1 : 1 <= xs.length) (l5 : xs.length <= 5) (e0 : yi 3 (zu 0 zr (gCons (gC (.int 8)) gNil)) [.own o, .val (.lst (sL xs)), .val (.int d), .no, .no, .no, .no] = .ok .nx [.own o1, .val (.lst (sL xs)), .val (.int d), .val (.int k), .no, .no, .no]) (e1 : QU (gB (zj jL (zg 2) (gO (gC (.int 1))))) (QT (gB (zj VH (zg 3) (gO (gC (.int 2))))) (gB (zj VH (zg 2) (gO (gC (.int 4)))))) [.own o1, .val (.lst (sL xs)), .val (.int d), .val (.int k), .no, .no, .no] = .ok true [.own o1, .val (.lst (sL xs)), .val (.int d), .val (.int k), .no, .no, .no]) : ∃ w o', zqp w xs d /\ yb o' /\ zO [0] 3 4 false (YI R) [.own o, .val (.lst (sL xs)), .val (.int d)] = .ok w.told [o'] := by
 obtain ⟨p, o', ⟨hp, hs⟩, hw', ep⟩ := zlU hw hx l1 l5
 exact ⟨.pl p, o', ⟨hp, hs, h1, (zmY h4).1⟩, hw', Zv rfl ((zn e0).trans (Jy ((J2 e1).trans (yt (Jc (j := 0) rfl rfl rfl ep rfl)))))⟩
theorem zhj : ∀ (n d : Nat), 1 <= d -> d <= n -> d <= 4 -> zkh (Js n) d
 | 0, d, h, h', _ => by omega
 | n + 1, d, h1, hdn, h4 => by
  intro o xs hw hx l1 l5
  obtain ⟨k, o1, ek, k0, k1, hw1⟩ := yL hw (n := 8) (by decide) (by decide)
  have e0 : yi 3 (zu 0 zr (gCons (gC (.int 8)) gNil)) [.own o, .val (.lst (sL xs)), .val (.int d), .no, .no, .no, .no] = .ok .nx [.own o1, .val (.lst (sL xs)), .val (.int d), .val (.int k), .no, .no, .no] := yg (Jc (j := 0) rfl rfl rfl ek rfl)
  have t1 : QU (gB (zj jL (zg 2) (gO (gC (.int 1))))) (QT (gB (zj VH (zg 3) (gO (gC (.int 2))))) (gB (zj VH (zg 2) (gO (gC (.int 4)))))) [.own o1, .val (.lst (sL xs)), .val (.int d), .val (.int k), .no, .no, .no] = .ok (decide ((d : Int) = 1) || (decide (k < 2) && decide ((d : Int) < 4))) [.own o1, .val (.lst (sL xs)), .val (.int d), .val (.int k), .no, .no, .no] := by
   walk_at "gs"
   cases decide ((d : Int) = 1) <;> cases decide (k < 2) <;> rfl
  cases c1 : (decide ((d : Int) = 1) || (decide (k < 2) && decide ((d : Int) < 4))) with
  | true => rw [c1] at t1; exact zix h1 h4 hw1 hx l1 l5 e0 t1
  | false =>
   rw [c1] at t1
   have hd2 : 2 <= d := by
    rw [gt, decide_eq_false_iff_not] at c1
    omega
   obtain ⟨d, rfl⟩ : ∃ e, d = e + 1 := ⟨d - 1, by omega⟩
   have ih := zhj n d (by omega) (by omega) (by omega)
   have ed : (((d + 1 : Nat) : Int)) = (d : Int) + 1 := by omega
   rw [ed] at e0 t1 ⊢
   have t2 : QU (gB (zj VH (zg 3) (gO (gC (.int 5))))) (gB (zj jL (zg 2) (gO (gC (.int 4))))) [.own o1, .val (.lst (sL xs)), .val (.int (d + 1)), .val (.int k), .no, .no, .no] = .ok (decide (k < 5) || decide ((d : Int) + 1 = 4)) [.own o1, .val (.lst (sL xs)), .val (.int (d + 1)), .val (.int k), .no, .no, .no] := by
    walk_at "gs"
    cases decide (k < 5) <;> rfl
   cases c2 : (decide (k < 5) || decide ((d : Int) + 1 = 4)) with
   | true =>
    rw [c2] at t2
    obtain ⟨q, o2, hq, hw2, eq⟩ := zl0 hw1 (ρ := [.val (.lst (sL xs)), .val (.int (d + 1)), .val (.int k), .no, .no, .no])
    obtain ⟨m, o3, m1, m4, hw3, em⟩ := zol hw2 (ρ := [.val (.lst (sL xs)), .val (.int (d + 1)), .val (.int k), .val (.str q), .no, .no])
    obtain ⟨j, j1, j4, jm, ej⟩ := zqq (o := o3) (x := .lst (sL xs)) (k := .int k) (w := .str q) (by omega : 1 <= d) (by omega) m1 m4
    obtain ⟨ws, s', o', ⟨b1, b2, b3, b4, b5⟩, hw', ec⟩ := zdt ih hx l1 l5 (yB 0 ((j : Int)).toNat) .no o3 hw3
    rw [ji, bf] at b4 b5
    have ei := Ut ((z0 (r := gNil) (a := zd 5) (x := .int j) (ρ := [.own o3, .val (.lst (sL xs)), .val (.int (d + 1)), .val (.int k), .val (.str q), .val (.int j), .no]) (ρ1 := [.own o3, .val (.lst (sL xs)), .val (.int (d + 1)), .val (.int k), .val (.str q), .val (.int j), .no]) rfl).trans rfl) (zcn (j := (j : Int)) (by omega))
    have ecc := z6 (ρ2 := [.own o', .val (.lst (sL xs)), .val (.int (d + 1)), .val (.int k), .val (.str q), .val (.int j), .no]) (js := [none, some 0, some 1, some 2]) ei (by rw [ji]; omega) ec rfl
    have fin : zO [0] 3 4 false (YI (Js n)) [.own o, .val (.lst (sL xs)), .val (.int (d + 1))] = .ok (.tup [.str q, .lst ws.tolds]) [o'] := by
     refine Zv rfl ((zn e0).trans ((zn ((yy t1).trans rfl)).trans (Jy ((J2 t2).trans ((zn (yg eq)).trans ((zn (yg em)).trans ((zn ej).trans (yt (ρ1 := [.own o', .val (.lst (sL xs)), .val (.int (d + 1)), .val (.int k), .val (.str q), .val (.int j), .no]) ?_))))))))
     unfold gTup
     rw [z0 (a := zd 4) (x := .str q) (ρ1 := [.own o3, .val (.lst (sL xs)), .val (.int (d + 1)), .val (.int k), .val (.str q), .val (.int j), .no]) rfl, z0 ecc]
     rfl
    rcases hq with rfl | rfl
    · exact ⟨.bo ws, o', ⟨⟨b1, by omega, by omega⟩, b2, by simp only [W.depth]; omega, by simp only [W.parts]; omega⟩, hw', fin⟩
    · exact ⟨.ei ws, o', ⟨⟨b1, by omega, by omega⟩, b2, by simp only [W.depth]; omega, by simp only [W.parts]; omega⟩, hw', fin⟩
   | false =>
    rw [c2] at t2
    have hd3 : d <= 2 := by
     rw [gt, decide_eq_false_iff_not, decide_eq_false_iff_not] at c2
     omega
    obtain ⟨a, o2, ⟨a1, a2, a3, a4⟩, hw2, ea⟩ := ih o1 xs hw1 hx l1 l5
    obtain ⟨b, o3, ⟨b1, b2, b3, b4⟩, hw3, eb⟩ := ih o2 xs hw2 hx l1 l5
    have es : ∀ (o : D) (s : Slot), zj Ue (zg 2) (gO (gC (.int 1))) [.own o, .val (.lst (sL xs)), .val (.int (d + 1)), .val (.int k), .no, .no, s] = .ok (.int d) [.own o, .val (.lst (sL xs)), .val (.int (d + 1)), .val (.int k), .no, .no, s] := fun o s => by
     walk_at "gs"
     rw [show (d : Int) + 1 - 1 = d by omega]
    have e3 := VG (j := 0) (F := Js n) (a := zd 1) (ρ := [.own o1, .val (.lst (sL xs)), .val (.int (d + 1)), .val (.int k), .no, .no, .no]) (ρ3 := [.own o2, .val (.lst (sL xs)), .val (.int (d + 1)), .val (.int k), .no, .no, .no]) rfl rfl (es o1 .no) rfl ea rfl
    have e4 := VG (j := 0) (F := Js n) (a := zd 1) (ρ := [.own o2, .val (.lst (sL xs)), .val (.int (d + 1)), .val (.int k), .no, .no, .val a.told]) (ρ3 := [.own o3, .val (.lst (sL xs)), .val (.int (d + 1)), .val (.int k), .no, .no, .val a.told]) rfl rfl (es o2 (.val a.told)) rfl eb rfl
    refine ⟨.th a b, o3, ⟨⟨a1, b1⟩, fun x hm => ?_, by simp only [W.depth]; omega, ?_⟩, hw3, ?_⟩
    · simp only [W.names, a8] at hm
      exact hm.elim (a2 x) (b2 x)
    · simp only [W.parts]
      have hc : d = 1 \/ d = 2 := by omega
      rcases hc with rfl | rfl <;> simp only [mx] at a4 b4 ⊢ <;> omega
    · refine Zv rfl ((zn e0).trans ((zn ((yy t1).trans rfl)).trans ((zn ((yy t2).trans rfl)).trans ((zn (yg e3)).trans (yt (ρ1 := [.own o3, .val (.lst (sL xs)), .val (.int (d + 1)), .val (.int k), .no, .no, .val a.told]) ?_)))))
      unfold gTup
      rw [z0 (a := gC (.str "then")) (x := .str "then") rfl]
      show O.bind (O.bind (gCons (zd 6) _ [.own o2, .val (.lst (sL xs)), .val (.int (d + 1)), .val (.int k), .no, .no, .val a.told]) _) _ = _
      rw [z0 (a := zd 6) (x := a.told) (ρ1 := [.own o2, .val (.lst (sL xs)), .val (.int (d + 1)), .val (.int k), .no, .no, .val a.told]) rfl, z0 (r := gNil) e4]
      rfl
theorem zcs {f : D -> D -> Option (List D)} (h1 : a ρ = .ok x ρ1) (h2 : b ρ1 = .ok y ρ2) (h : f x y = some ds) : Qx f (gO a) (gO b) ρ = .ok (.lst ds) ρ2 := by
 unfold Qx gO; rw [h1]; show O.bind ((b ρ1).bind _) _ = _; rw [h2]
 show jr ((f x y).map D.lst) _ = _
 rw [h]; rfl
theorem zom {ds : List D} (h : g ρ = .ok ds ρ1) (hl : ds.length <= 1000) : yx g ρ = .ok (.lst ds) ρ1 := by
 unfold yx; rw [h, zC, UL hl]
theorem zbA {w : W} {row : List Str} (h : w.Ok) (hd : w.depth <= 6) (hr : row.length < 1000) (hn : Names row) : JW [.val w.obj, .val (.lst (sL row))] = .ok (yW (w.first row)) [] := by
 obtain ⟨F, hF, e⟩ := zfE 6 w row h hd (cM hr)
 refine yu (ρ := [.val w.obj, .val (.lst (sL row))]) rfl ?_
 have e0 : j9 (gB (zv jv (gCons (zd 1) gNil))) [.val w.obj, .val (.lst (sL row))] = .ok false [.val w.obj, .val (.lst (sL row))] := by unfold j9; rw [Qw (JX (F := jv) (a := gCons (zd 1) gNil) (ds := [.lst (sL row)]) rfl (zkb hn hr))]; rfl
 exact (zn ((yy e0).trans rfl)).trans (yt (Qa (a := zd 0) (w := w) (ds := [.lst (sL row)]) (ρ1 := [.val w.obj, .val (.lst (sL row))]) rfl hF rfl e))
theorem Zw {w : W} {row : List Str} (h : w.Ok) (hd : w.depth <= 6) (hr : row.length < 1000) (hn : Names row) : yo [.val w.obj, .val (.lst (sL row))] = .ok (.bl (w.first row).isSome) [] := by
 refine yu (ρ := [.val w.obj, .val (.lst (sL row))]) rfl (yt ?_)
 refine yq (x := yW (w.first row)) (y := .non) (ρ1 := [.val w.obj, .val (.lst (sL row))]) (JX (ds := [w.obj, .lst (sL row)]) rfl (zbA h hd hr hn)) rfl ?_
 cases w.first row <;> rfl
def tr (o : Option Nat) (j : Nat) : Bool := match o with | some k => decide (k <= j) | none => false
def Jd (o : Option Nat) (n : Nat) : List D := (aT (n + 1)).map fun j => D.bl (tr o j)
theorem zct : (Jd o n).length = n + 1 := by simp [Jd]
theorem zki (h : j <= n) : (Jd o n).getD j .non = .bl (tr o j) := by
 unfold Jd
 rw [aC, ar, dl (by omega)]; rfl
theorem zqY : zF (.lst (Jd o n)) (.int 0) = some (.bl (tr o 0)) := by
 rw [Yd (by decide) (by rw [zct]; omega)]
 exact congrArg some (zki (ck n))
theorem zqr : zF (.lst (Jd o n)) (.int (-1)) = some (.bl (tr o n)) := by
 unfold zF
 dsimp only
 rw [znU (by decide) (by rw [zct]; omega), cB, zct, show (-1 + ((n + 1 : Nat) : Int)).toNat = n by omega, zki (ax n)]
theorem zkj : zck (.lst (Jd o n)) = some ((aT (n + 1)).map (tr o)) := by
 show QQ (Jd o n) = _
 exact R9 _
theorem zon (h : n < 60) : YG (.lst (Jd o n)) = some (Jd o n) := by
 unfold YG
 rw [zkj, aG, if_pos]
 · rw [cP]; rfl
 · refine ⟨by simp; omega, ?_⟩
   unfold upB
   rw [ik]
   refine fL.imp fun {i j} hij => ?_
   cases o with
   | none => exact ax _
   | some k =>
    show bN (decide (k <= i)) <= bN (decide (k <= j))
    by_cases c : k <= i
    · rw [decide_eq_true c, decide_eq_true (by omega : k <= j)]; exact ax _
    · rw [decide_eq_false c]; exact ck _
theorem zbB : ∀ {ds : List D}, (∀ d ∈ ds, ∃ b, d = .bl b) -> V4 (dh (J5 (n + 1)) ds ds) = some true
 | [], _ => rfl
 | d :: r, h => by
  obtain ⟨b, rfl⟩ := h d ao
  have e : J5 (n + 1) (.bl b) (.bl b) = some true := by cases b <;> rfl
  rw [List.zipWith_cons_cons, e]
  unfold V4
  rw [zbB fun d hd => h d (af _ hd)]; rfl
theorem zqZ : zca true (.lst (Jd o n)) (.lst (Jd o n)) = some (.bl false) := by
 have e : J5 40 (.lst (Jd o n)) (.lst (Jd o n)) = some true := by
  show (if (Jd o n).length = (Jd o n).length then V4 (dh (J5 39) (Jd o n) (Jd o n)) else some false) = _
  rw [if_pos rfl]
  exact zbB fun d hd => by obtain ⟨j, _, rfl⟩ := aE.mp hd; exact ⟨_, rfl⟩
 unfold zca
 rw [e]; rfl
theorem zqs (h : k <= n) (hn : n < 60) : Zn (.lst (Jd (some k) n)) = some (.int k) := by
 unfold Zn
 rw [zkj, aG]
 have e : ((aT (n + 1)).map (tr (some k))).findIdx? id = some k := by
  rw [dJ]
  refine ⟨by simp; omega, by simp [tr], fun j hj => ?_⟩
  simp [tr]; omega
 rw [e, aG, if_pos (by omega)]
theorem zbC {w : W} {row : List Str} (h : w.Ok) (hd : w.depth <= 6) (hr : row.length < 1000) (hn : Names row) : ∀ (ks : List Nat) (s : Slot), (∀ k ∈ ks, k <= row.length) -> ∃ s', z9 (zt 0) yJ (zv yo (gCons (zd 1) (gCons (Ja (zg 2) yY (jg (zd 0))) gNil))) (ks.map fun k : Nat => D.int (0 + (k : Int))) [s, .val w.obj, .val (.lst (sL row))] = .ok (ks.map fun k => D.bl (tr (w.first row) k)) [s', .val w.obj, .val (.lst (sL row))]
 | [], s, _ => ⟨s, rfl⟩
 | k :: r, s, hk => by
  have hk0 := hk k ao
  obtain ⟨s', e⟩ := zbC h hd hr hn r (.val (.int (0 + (k : Int)))) fun x hx => hk x (af _ hx)
  have es : Ja (zg 2) yY (jg (zd 0)) [.val (.int (0 + (k : Int))), .val w.obj, .val (.lst (sL row))] = .ok (.lst (sL (row.take k))) [.val (.int (0 + (k : Int))), .val w.obj, .val (.lst (sL row))] := by
   rw [Int.zero_add]
   walk_at "gs"
   rw [zbt (by rw [zX]; exact hk0), WX]
  have eh := Zw (row := row.take k) h hd (by rw [bu]; omega) (hn.sub (fe _ _))
  have et : (w.first (row.take k)).isSome = tr (w.first row) k := by
   rw [(w.good h).pre]
   cases w.first row with
   | none => rfl
   | some m =>
    show (if m <= k then some m else none).isSome = decide (m <= k)
    by_cases c : m <= k
    · rw [if_pos c, decide_eq_true c]; rfl
    · rw [if_neg c, decide_eq_false c]; rfl
  rw [et] at eh
  refine ⟨s', ?_⟩
  rw [aq, aq]
  exact jw rfl (Jq (a := zd 1) (x := w.obj) (ρ1 := [.val (.int (0 + (k : Int))), .val w.obj, .val (.lst (sL row))]) rfl es eh) e
theorem zl1 {w : W} {row : List Str} (h : w.Ok) (hd : w.depth <= 6) (hr : row.length < 60) (hn : Names row) : QK [.val w.obj, .val (.lst (sL row))] = .ok (.bl true) [] := by
 have g := w.good h
 obtain ⟨s', ec⟩ := zbC h hd (by omega) hn (aT (row.length + 1)) .no fun k hk => by have := bm.mp hk; omega
 have e1 := zbA h hd (by omega) hn
 have el : zj yH (gO (zB yv (zg 1))) (gO (gC (.int 1))) [.val w.obj, .val (.lst (sL row)), .no, .no] = .ok (.int (row.length + 1)) [.val w.obj, .val (.lst (sL row)), .no, .no] := by
  walk_at "gs"
  rw [zX]
 have ei := Ut ((z0 (r := gNil) el).trans rfl) (zcn (j := (row.length : Int) + 1) (by omega))
 rw [show ((row.length : Int) + 1).toNat = row.length + 1 by omega] at ei
 have ecc := z6 (ρ2 := [.val w.obj, .val (.lst (sL row)), .no, .no]) (js := [none, some 0, some 1]) ei (by rw [ji]; omega) ec rfl
 have h0 : tr (w.first row) 0 = false := by
  cases c : w.first row with
  | none => rfl
  | some k => have := g.rng row k c; exact decide_eq_false (by omega)
 have hl : tr (w.first row) row.length = (w.first row).isSome := by
  cases c : w.first row with
  | none => rfl
  | some k => have := g.rng row k c; exact decide_eq_true (by omega)
 refine yu (ρ := [.val w.obj, .val (.lst (sL row)), .val (.lst (Jd (w.first row) row.length)), .val (yW (w.first row))]) rfl ?_
 refine (zn (yg ecc)).trans ?_
 have c1 : QU (RO (gO (zj zF (zg 2) (gO (gC (.int 0)))))) (gB (zj (zca true) (gO (jn YG (zg 2))) (zg 2))) [.val w.obj, .val (.lst (sL row)), .val (.lst (Jd (w.first row) row.length)), .no] = .ok false [.val w.obj, .val (.lst (sL row)), .val (.lst (Jd (w.first row) row.length)), .no] := by
  walk_at "gs"
  simp only [zqY, h0]
  walk_at "gs"
  simp only [zon hr]
  walk_at "gs"
  simp only [zqZ]
  walk_at "gs"
 refine (zn ((yy c1).trans rfl)).trans ?_
 refine (zn (yg (Jq (a := zd 0) (b := zd 1) (x := w.obj) (y := .lst (sL row)) (ρ := [.val w.obj, .val (.lst (sL row)), .val (.lst (Jd (w.first row) row.length)), .no]) (ρ2 := [.val w.obj, .val (.lst (sL row)), .val (.lst (Jd (w.first row) row.length)), .no]) rfl rfl e1))).trans ?_
 show Uq [.val w.obj, .val (.lst (sL row)), .val (.lst (Jd (w.first row) row.length)), .val (yW (w.first row))] = _
 have c2 : gB (zj V8 (gO (zj YT (zg 3) (gO (gC .non)))) (gO (zj zF (zg 2) (gO (zB zeJ (gO (gC (.int 1)))))))) [.val w.obj, .val (.lst (sL row)), .val (.lst (Jd (w.first row) row.length)), .val (yW (w.first row))] = .ok false [.val w.obj, .val (.lst (sL row)), .val (.lst (Jd (w.first row) row.length)), .val (yW (w.first row))] := by
  refine Qw (yq (x := .bl (w.first row).isSome) (y := .bl (w.first row).isSome) (ρ1 := [.val w.obj, .val (.lst (sL row)), .val (.lst (Jd (w.first row) row.length)), .val (yW (w.first row))]) ?_ ?_ ?_)
  · cases w.first row <;> rfl
  · rw [← hl]
    show jr (zF (.lst (Jd (w.first row) row.length)) (.int (-1))) _ = _
    rw [zqr]; rfl
  · cases (w.first row).isSome <;> rfl
 refine (zn ((yy c2).trans rfl)).trans (yt ?_)
 unfold zcc
 cases c : w.first row with
 | none => rfl
 | some k =>
  show zj jL (gO (zB Zn (zg 2))) (zg 3) [.val w.obj, .val (.lst (sL row)), .val (.lst (Jd (some k) row.length)), .val (.int k)] = .ok (.bl true) [.val w.obj, .val (.lst (sL row)), .val (.lst (Jd (some k) row.length)), .val (.int k)]
  walk_at "gs"
  simp only [zqs (g.rng row k c).2 hr]
  walk_at "gs"
theorem zq0 : JJ true (.str x) (.lst (sL row)) = some (.bl (!inr row x)) := by
 unfold JJ UH; dsimp only; rw [if_pos ⟨rfl, zfr row⟩, zmV]; rfl
theorem ziy {xs row : List Str} (hx : Jo x = true) (hn : Names row) (h : x ∉ row) : Names (row.take k ++ [x] ++ row.drop k) := by
 have p : (row.take k ++ [x] ++ row.drop k).Perm (x :: row) := by
  rw [bT]
  refine (show (row.take k ++ x :: row.drop k).Perm _ from List.perm_middle).trans ?_
  rw [da]
 refine Names.perm ⟨bK.mpr ⟨h, hn.1⟩, fun y hy => ?_⟩ p
 rcases aB.mp hy with e | e
 · rw [e]; exact hx
 · exact hn.2 y e
theorem zl2 {row : List Str} : row.Sublist (row.take k ++ [x] ++ row.drop k) := by
 rw [bT]
 refine (by simp : row.Sublist (row.take k ++ row.drop k)).trans ?_
 exact List.Sublist.append (List.Sublist.refl _) (e8 ..)
theorem zdu {w : W} {row : List Str} (h : w.Ok) (hd : w.depth <= 6) (hr : row.length < 60) (hn : Names row) : ∀ (xs : List Str) (o : D) (s4 s5 : Slot), (∀ x ∈ xs, Jo x = true) -> yb o -> ∃ o' s4' s5', yb o' /\ Jf (zt 4) Yf (sL xs) [.own o, .val w.obj, .val (.lst (sL row)), .val all, s4, s5] = .ok .nx [.own o', .val w.obj, .val (.lst (sL row)), .val all, s4', s5']
 | [], o, s4, s5, _, hw => ⟨o, s4, s5, hw, rfl⟩
 | x :: r, o, s4, s5, hx, hw => by
  obtain ⟨b, o1, eb, b0, b1, hw1⟩ := yL hw (n := (row.length : Int) + 1) (by omega) (by omega)
  obtain ⟨o', s4', s5', hw', e⟩ := zdu h hd hr hn r o1 (.val (.str x)) (.val (.int b)) (fun y hy => hx y (af _ hy)) hw1
  refine ⟨o', s4', s5', hw', ?_⟩
  have el : zj yH (gO (zB yv (zg 2))) (gO (gC (.int 1))) [.own o, .val w.obj, .val (.lst (sL row)), .val all, .val (.str x), s5] = .ok (.int (row.length + 1)) [.own o, .val w.obj, .val (.lst (sL row)), .val all, .val (.str x), s5] := by
   walk_at "gs"
   rw [zX]
  have e0 : yi 5 (zu 0 zr (gCons (zj yH (gO (zB yv (zg 2))) (gO (gC (.int 1)))) gNil)) [.own o, .val w.obj, .val (.lst (sL row)), .val all, .val (.str x), s5] = .ok .nx [.own o1, .val w.obj, .val (.lst (sL row)), .val all, .val (.str x), .val (.int b)] := yg (Jc (j := 0) (ρ2 := [.own o1, .val w.obj, .val (.lst (sL row)), .val all, .val (.str x), s5]) rfl el rfl eb rfl)
  have hb : b = ((b.toNat : Nat) : Int) := by omega
  generalize b.toNat = k at hb
  subst hb
  have hk : k <= row.length := by omega
  generalize eρ : ([.own o1, .val w.obj, .val (.lst (sL row)), .val all, .val (.str x), .val (.int k)] : Env) = ρ at *
  have c : QT (gB (zj (JJ true) (zg 4) (zg 2))) (QT (gB (zv yo (gCons (zd 1) (gCons (zd 2) gNil)))) (j9 (gB (zv yo (gCons (zd 1) (gCons (Qx Jv (gO (Qx Jv (gO (Ja (zg 2) yY (jg (zd 5)))) (gO (yx (gCons (zd 4) gNil))))) (gO (Ja (zg 2) (jg (zd 5)) yY))) gNil)))))) ρ = .ok false ρ := by
   have d1 : gB (zj (JJ true) (zg 4) (zg 2)) ρ = .ok (!inr row x) ρ := by
    subst eρ
    walk_at "gs"
    simp only [zq0]
    walk_at "gs"
   have d2 : gB (zv yo (gCons (zd 1) (gCons (zd 2) gNil))) ρ = .ok (w.first row).isSome ρ := Qw (Jq (a := zd 1) (b := zd 2) (x := w.obj) (y := .lst (sL row)) (ρ1 := ρ) (by subst eρ; rfl) (by subst eρ; rfl) (Zw h hd (by omega) hn))
   unfold QT
   rw [d1, zC]
   by_cases m : x ∈ row
   · unfold inr; rw [decide_eq_true m]; rfl
   unfold inr
   rw [decide_eq_false m]
   show O.bind (gB (zv yo (gCons (zd 1) (gCons (zd 2) gNil))) ρ) _ = _
   rw [d2, zC]
   cases f : (w.first row).isSome with
   | false => rfl
   | true =>
    have s1 : Ja (zg 2) yY (jg (zd 5)) ρ = .ok (.lst (sL (row.take k))) ρ := by
     subst eρ
     walk_at "gs"
     rw [zbt (by rw [zX]; exact hk), WX]
    have s2 : Ja (zg 2) (jg (zd 5)) yY ρ = .ok (.lst (sL (row.drop k))) ρ := by
     subst eρ
     walk_at "gs"
     rw [zfs (by rw [zX]; exact hk), zg6]
    have s3 : yx (gCons (zd 4) gNil) ρ = .ok (.lst (sL [x])) ρ := by subst eρ; rfl
    have cat : ∀ a b : List Str, a.length + b.length <= 1000 -> Jv (.lst (sL a)) (.lst (sL b)) = some (sL (a ++ b)) := fun a b hl => by
     unfold Jv; dsimp only; rw [zX, zX, if_pos (by omega), zbo]
    have s4 := zcs (f := Jv) (zcs (f := Jv) s1 s3 (cat _ _ (by simp; omega))) s2 (cat _ _ (by simp; omega))
    have d3 := Zw (row := row.take k ++ [x] ++ row.drop k) h hd (by simp; omega) (ziy (xs := row) (hx x ao) hn m)
    rw [(w.good h).mono row _ zl2 f] at d3
    show j9 (gB (zv yo _)) ρ = _
    unfold j9
    rw [Qw (Jq (a := zd 1) (x := w.obj) (ρ1 := ρ) (by subst eρ; rfl) s4 d3)]; rfl
  show Jf _ _ (.str x :: sL r) _ = _
  rw [WU rfl (show Yf [.own o, .val w.obj, .val (.lst (sL row)), .val all, .val (.str x), s5] = .ok .nx ρ from (zn e0).trans ((yy c).trans rfl))]
  subst eρ
  exact e
theorem zoo {w : W} {row xs : List Str} (h : w.Ok) (hd : w.depth <= 6) (hr : row.length < 60) (hn : Names row) (hx : Names xs) (hw : yb o) : ∃ o', yb o' /\ QB [.own o, .val w.obj, .val (.lst (sL row)), .val (.lst (sL xs))] = .ok (.bl true) [o'] := by
 obtain ⟨o', s4, s5, hw', e⟩ := zdu (all := .lst (sL xs)) h hd hr hn xs o .no .no hx.2 hw
 exact ⟨o', hw', Zv (ρ := [.val w.obj, .val (.lst (sL row)), .val (.lst (sL xs)), s4, s5]) rfl ((zn ((WW (jx (i := 3) (ds := sL xs) rfl)).trans e)).trans rfl)⟩
namespace K08
def ca : PW := .count 1 ["a"]
def cb : PW := .count 1 ["b"]
def ot : W := .th (.pl ca) (.pl cb)
theorem zmZ : ca.Ok := ⟨⟨by decide +kernel, by decide +kernel⟩, by decide, by decide, by decide⟩
theorem zm0 : cb.Ok := ⟨⟨by decide +kernel, by decide +kernel⟩, by decide, by decide, by decide⟩
theorem ziz : ot.Ok := ⟨zmZ, zm0⟩
theorem zop : ot.Fits ["a", "b"] := ⟨ziz, by decide +kernel, by decide, by decide⟩
theorem zl3 : Names ["a", "b"] := ⟨by decide +kernel, by decide +kernel⟩
theorem zl4 : Names ["b", "a"] := ⟨by decide +kernel, by decide +kernel⟩
theorem zq1 : ot.first ["a", "b"] = some 2 := by decide +kernel
theorem zq2 : ot.first ["b", "a"] = none := by decide +kernel
theorem zl5 : yo [.val ot.obj, .val (.lst (sL ["b", "a"]))] = .ok (.bl false) [] := by
 have h := Zw (w := ot) (row := ["b", "a"]) ziz (by decide) (by simp) zl4
 rw [zq2] at h; exact h
theorem zl6 : yo [.val ot.obj, .val (.lst (sL ["a", "b"]))] = .ok (.bl true) [] := by
 have h := Zw (w := ot) (row := ["a", "b"]) ziz (by decide) (by simp) zl3
 rw [zq1] at h; exact h
theorem zoq : jG 17 Qf (gCons (jG 12 jl (gCons (gC (.int 1)) (gCons (yx (gCons (gC (.str "a")) gNil)) gNil))) (gCons (jG 12 jl (gCons (gC (.int 1)) (gCons (yx (gCons (gC (.str "b")) gNil)) gNil))) gNil)) ρ = .ok ot.obj ρ := by
 have e1 : jG 12 jl (gCons (gC (.int 1)) (gCons (yx (gCons (gC (.str "a")) gNil)) gNil)) ρ = .ok ca.obj ρ := by
  show ZA (jl [.own (.obj 12 []), .val (.int 1), .val (.lst (sL ["a"]))]) ρ = _
  rw [VB zmZ]; rfl
 have e2 : jG 12 jl (gCons (gC (.int 1)) (gCons (yx (gCons (gC (.str "b")) gNil)) gNil)) ρ = .ok cb.obj ρ := by
  show ZA (jl [.own (.obj 12 []), .val (.int 1), .val (.lst (sL ["b"]))]) ρ = _
  rw [VB zm0]; rfl
 unfold jG
 rw [show gCons (fun ρ => (gCons (gC (.int 1)) (gCons (yx (gCons (gC (.str "a")) gNil)) gNil) ρ).bind fun ds ρ1 => ZA (jl (.own (.obj 12 []) :: ds.map .val)) ρ1) _ ρ = _ from z0 e1, show gCons (fun ρ => (gCons (gC (.int 1)) (gCons (yx (gCons (gC (.str "b")) gNil)) gNil) ρ).bind fun ds ρ1 => ZA (jl (.own (.obj 12 []) :: ds.map .val)) ρ1) gNil ρ = _ from z0 e2]
 show ZA (Qf [.own (.obj 17 []), .val (W.pl ca).obj, .val (W.pl cb).obj]) ρ = _
 rw [zhh (a := .pl ca) (b := .pl cb) (WY zop (by decide))]; rfl
theorem zfK {w : W} {ys all : List Str} (hF : zT 6 w.cls = some F) (eF : F [.val w.obj] = .ok (.lst (sL all)) []) : ∀ (xs : List Str) (s : Slot), ∃ s', z9 (zt 0) (gB (zj (JJ false) (zg 0) (gO (zR (zT 6) (zd 1) gNil)))) (zd 0) (sL xs) [s, .val w.obj] = .ok (sL (xs.filter (inr all))) [s', .val w.obj]
 | [], s => ⟨s, rfl⟩
 | x :: r, s => by
  obtain ⟨s', e⟩ := zfK (ys := ys) hF eF r (.val (.str x))
  refine ⟨s', ?_⟩
  have em : zR (zT 6) (zd 1) gNil [.val (.str x), .val w.obj] = .ok (.lst (sL all)) [.val (.str x), .val w.obj] := Qa (w := w) (ds := []) rfl hF rfl eF
  have e1 : gB (zj (JJ false) (zg 0) (gO (zR (zT 6) (zd 1) gNil))) [.val (.str x), .val w.obj] = .ok (inr all x) [.val (.str x), .val w.obj] := by
   unfold gB zj gO
   show O.bind (O.bind (O.bind (zR (zT 6) (zd 1) gNil [.val (.str x), .val w.obj]) _) _) _ = _
   rw [em]
   show O.bind (jr (JJ false (.str x) (.lst (sL all))) _) _ = _
   rw [zio]; rfl
  refine (YK (e := zd 0) (d := .str x) (y := .str x) rfl e1 rfl e).trans ?_
  rw [cq]
  cases inr all x <;> rfl
theorem zqt {w : W} {row : List Str} (h : w.Ok) (hd : w.depth = 1) : (w.first row.reverse).isSome = (w.first row).isSome := by
 cases w with
 | pl p =>
  show (p.first row.reverse).isSome = (p.first row).isSome
  rw [Jp h, Jp h]
  have a := Qr (p := p) h (r := row) (r' := row.reverse) (fun x hx => by simpa using hx)
  have b := Qr (p := p) h (r := row.reverse) (r' := row) (fun x hx => by simpa using hx)
  cases e : p.enough row with
  | true => exact a e
  | false =>
   cases e2 : p.enough row.reverse with
   | true => rw [b e2] at e; cases e
   | false => rfl
 | bo ws =>
  cases ws with
  | nil => have := h.2.1; simp [WL.objs] at this
  | cons w r => have := w.depth_pos; simp only [W.depth, WL.depth] at hd; omega
 | ei ws =>
  cases ws with
  | nil => have := h.2.1; simp [WL.objs] at this
  | cons w r => have := w.depth_pos; simp only [W.depth, WL.depth] at hd; omega
 | th a b => have := a.depth_pos; simp only [W.depth] at hd; omega
def ziA (ns : List Int) (ρ : Env) : Prop := ∃ s2 s3 s4 s5 s6 s7 s8, ρ = [.val (.fz ns), .val ot.obj, s2, s3, s4, s5, s6, s7, s8]
theorem zq3 {xs row : List Str} {w : W} (hf : w.Fits (xs.take 5)) (hx : Names xs) (hn : Names row) (hr : row.length < 60) (hw : yb o) : ∃ ρ', Us [.val (.fz ns), .val ot.obj, .val (.int c), .own o, .val (.lst (sL xs)), .val d5, .val w.obj, .val (.lst (sL row)), s8] = .ok .nx ρ' /\ ziA ns ρ' := by
 have ho := hf.ok
 have hd : w.depth <= 6 := by have := hf.deep; omega
 have er := zl1 ho hd hr hn
 obtain ⟨o1, hw1, em⟩ := zoo ho hd hr hn hx hw
 have eh := Zw ho hd (by omega) hn
 obtain ⟨all, F, hF, eF, nd, ha⟩ := Uv 6 w (xs.take 5) ho hd hf.sub (by rw [bu]; omega)
 obtain ⟨F2, hF2, eF2⟩ := zae 6 w ho hd
 refine ⟨[.val (.fz ns), .val ot.obj, .val (.int c), .own o1, .val (.lst (sL xs)), .val d5, .val w.obj, .val (.lst (sL row)), .val (.bl (w.first row).isSome)], ?_, _, _, _, _, _, _, _, rfl⟩
 have c1 : QU (j9 (gB (zv QK (gCons (zd 6) (gCons (zd 7) gNil))))) (j9 (gB (zu 3 QB (gCons (zd 6) (gCons (zd 7) (gCons (zd 4) gNil)))))) [.val (.fz ns), .val ot.obj, .val (.int c), .own o, .val (.lst (sL xs)), .val d5, .val w.obj, .val (.lst (sL row)), s8] = .ok false [.val (.fz ns), .val ot.obj, .val (.int c), .own o1, .val (.lst (sL xs)), .val d5, .val w.obj, .val (.lst (sL row)), s8] := by
  have r1 := Qw (Jq (a := zd 6) (b := zd 7) (ρ := [.val (.fz ns), .val ot.obj, .val (.int c), .own o, .val (.lst (sL xs)), .val d5, .val w.obj, .val (.lst (sL row)), s8]) (ρ1 := [.val (.fz ns), .val ot.obj, .val (.int c), .own o, .val (.lst (sL xs)), .val d5, .val w.obj, .val (.lst (sL row)), s8]) rfl rfl er)
  have r2 := Qw (Wu (j := 3) (a := gCons (zd 6) (gCons (zd 7) (gCons (zd 4) gNil))) (ds := [w.obj, .lst (sL row), .lst (sL xs)]) (ρ := [.val (.fz ns), .val ot.obj, .val (.int c), .own o, .val (.lst (sL xs)), .val d5, .val w.obj, .val (.lst (sL row)), s8]) rfl rfl rfl em)
  unfold QU j9
  rw [r1]
  show O.bind (gB (zu 3 QB _) _) _ = _
  rw [r2]; rfl
 refine (zn ((yy c1).trans rfl)).trans ?_
 refine (zn (yg (Jq (a := zd 6) (b := zd 7) (x := w.obj) (y := .lst (sL row)) (ρ := [.val (.fz ns), .val ot.obj, .val (.int c), .own o1, .val (.lst (sL xs)), .val d5, .val w.obj, .val (.lst (sL row)), s8]) (ρ2 := [.val (.fz ns), .val ot.obj, .val (.int c), .own o1, .val (.lst (sL xs)), .val d5, .val w.obj, .val (.lst (sL row)), s8]) rfl rfl eh))).trans ?_
 generalize hfd : (w.first row).isSome = fd at *
 show Ur [.val (.fz ns), .val ot.obj, .val (.int c), .own o1, .val (.lst (sL xs)), .val d5, .val w.obj, .val (.lst (sL row)), .val (.bl fd)] = _
 generalize eρ : ([.val (.fz ns), .val ot.obj, .val (.int c), .own o1, .val (.lst (sL xs)), .val d5, .val w.obj, .val (.lst (sL row)), .val (.bl fd)] : Env) = ρ
 have ne : ∀ (r : List Str) (g : G D), g ρ = .ok (.lst (sL r)) ρ -> r.length < 60 -> Names r -> (w.first r).isSome = fd -> gB (zj V8 (gO (zv yo (gCons (zd 6) (gCons g gNil)))) (zg 8)) ρ = .ok false ρ := fun r g eg hl hr' ef => by
  have e1 := Jq (a := zd 6) (b := g) (x := w.obj) (ρ := ρ) (ρ1 := ρ) (by subst eρ; rfl) eg (Zw ho hd (by omega) hr')
  refine Qw ?_
  unfold zj gO
  rw [e1, ef]
  subst eρ
  cases fd <;> rfl
 have h1 : gB (zv yo (gCons (zd 1) (gCons (yx (gCons (gC (.str "b")) (gCons (gC (.str "a")) gNil))) gNil))) ρ = .ok false ρ := Qw (Jq (a := zd 1) (x := ot.obj) (y := .lst (sL ["b", "a"])) (ρ1 := ρ) (by subst eρ; rfl) rfl zl5)
 have h2 : gB (zv yo (gCons (zd 1) (gCons (yx (gCons (gC (.str "a")) (gCons (gC (.str "b")) gNil))) gNil))) ρ = .ok true ρ := Qw (Jq (a := zd 1) (x := ot.obj) (y := .lst (sL ["a", "b"])) (ρ1 := ρ) (by subst eρ; rfl) rfl zl6)
 have h3 := ne row (zd 7) (by subst eρ; rfl) hr hn hfd
 refine (zn ((yy (ρ1 := ρ) ?_).trans rfl)).trans ?_
 · unfold QU j9
   rw [h1]
   show O.bind (O.bind (gB (zv yo (gCons (zd 1) (gCons (yx (gCons (gC (.str "a")) (gCons (gC (.str "b")) gNil))) gNil))) ρ) _) _ = _
   rw [h2]
   exact h3
 have fl : (row.filter (inr all)).length < 60 := by have := List.length_filter_le (inr all) row; omega
 obtain ⟨s', ec⟩ := zfK (ys := row) hF eF row .no
 have ecc : zU (zJ (zd 7)) [none, some 6] (zt 0) (gB (zj (JJ false) (zg 0) (gO (zR (zT 6) (zd 1) gNil)))) (zd 0) ρ = .ok (.lst (sL (row.filter (inr all)))) ρ := z6 (jx (i := 7) (ρ := ρ) (ds := sL row) (by subst eρ; rfl)) (by rw [zX]; omega) (ρb := [s', .val w.obj]) (by subst eρ; exact ec) (by subst eρ; rfl)
 have h4 := ne _ _ ecc fl (hn.sub gL) (by rw [(w.good ho).filt (P := inr all) fun x hx => decide_eq_true ((ha x).mpr hx)]; exact hfd)
 refine (zn ((yy h4).trans rfl)).trans ((yy (ρ1 := ρ) ?_).trans rfl)
 have e5 : gB (zj jL (gO (zR (jS 6) (zd 6) gNil)) (gO (gC (.int 1)))) ρ = .ok (decide ((w.depth : Int) = 1)) ρ := Qw (yq (x := .int w.depth) (y := .int 1) (ρ1 := ρ) (Qa (w := w) (ρ1 := ρ) (ds := []) (by subst eρ; rfl) hF2 rfl eF2) rfl rfl)
 unfold QT
 rw [e5, zC]
 by_cases c5 : w.depth = 1
 · rw [decide_eq_true (by omega), if_pos rfl]
   refine ne row.reverse _ ?_ (by rw [gI]; exact hr) (hn.perm (List.reverse_perm row)) (by rw [zqt ho c5]; exact hfd)
   subst eρ
   show O.ok (D.lst (sL row).reverse) _ = _
   rw [show (sL row).reverse = sL row.reverse by unfold sL; rw [List.map_reverse]]
 · rw [decide_eq_false (by omega)]; rfl
theorem one : ∃ ρ', Q4 [.val (.fz ns), .val ot.obj, .val (.int c), s3, s4, s5, s6, s7, s8] = .ok .nx ρ' /\ ziA ns ρ' := by
 obtain ⟨o1, et, w1⟩ := zn_ (c := c)
 obtain ⟨xs, o2, en, xl, xn, w2⟩ := zlP w1 (n := 8) (by decide)
 obtain ⟨d, o3, ed, d0, d1, w3⟩ := yL w2 (n := 4) (by decide) (by decide)
 obtain ⟨b, o4, eb, b0, b1, w4⟩ := yL w3 (n := 5) (by decide) (by decide)
 have ol : (xs.take (1 + b).toNat).length = (1 + b).toNat := by rw [bu]; omega
 have on : Names (xs.take (1 + b).toNat) := xn.sub (fe _ _)
 obtain ⟨k, hk⟩ : ∃ k : Nat, 1 + d = k := ⟨(1 + d).toNat, by omega⟩
 obtain ⟨w, o5, ⟨a1, a2, a3, a4⟩, w5, ew⟩ := zhj 6 k (by omega) (by omega) (by omega) o4 _ w4 on (by omega) (by omega)
 have hf : w.Fits (xs.take 5) := ⟨a1, fun x hx => (List.take_sublist_take_left (l := xs) (by omega : (1 + b).toNat <= 5)).subset (a2 x hx), by omega, by have := (zmY (d := k) (by omega)).2; omega⟩
 obtain ⟨row, rest, o6, er, rp, w6⟩ := zob w5 (xs := xs) (by omega)
 have rn : Names row := (xn.perm rp).left
 have rl : row.length < 60 := by have := rp.length_eq; rw [aP] at this; omega
 obtain ⟨ρ', e, h⟩ := zq3 (ns := ns) (c := c) (d5 := .int k) (s8 := s8) hf xn rn rl w6
 refine ⟨ρ', ?_, h⟩
 refine (zn (ρ1 := [.val (.fz ns), .val ot.obj, .val (.int c), .own o1, s4, s5, s6, s7, s8]) (by walk_at "gs"; simp only [et]; walk_at "gs")).trans ?_
 refine (zn (yg (Jc (j := 3) (a := gC (.int 8)) (x := .int 8) (ρ := [.val (.fz ns), .val ot.obj, .val (.int c), .own o1, s4, s5, s6, s7, s8]) (ρ1 := [.val (.fz ns), .val ot.obj, .val (.int c), .own o1, s4, s5, s6, s7, s8]) (ρ2 := [.val (.fz ns), .val ot.obj, .val (.int c), .own o2, s4, s5, s6, s7, s8]) rfl rfl rfl en rfl))).trans ?_
 have e5 : zj yH (gO (gC (.int 1))) (gO (zu 3 zr (gCons (gC (.int 4)) gNil))) [.val (.fz ns), .val ot.obj, .val (.int c), .own o2, .val (.lst (sL xs)), s5, s6, s7, s8] = .ok (.int k) [.val (.fz ns), .val ot.obj, .val (.int c), .own o3, .val (.lst (sL xs)), s5, s6, s7, s8] := yq (a := gC (.int 1)) (x := .int 1) (y := .int d) rfl (Jc (j := 3) rfl rfl rfl ed rfl) (by rw [← hk]; rfl)
 refine (zn (yg e5)).trans ?_
 have es : Ja (zg 4) yY (jg (zj yH (gO (gC (.int 1))) (gO (zu 3 zr (gCons (gC (.int 5)) gNil))))) [.val (.fz ns), .val ot.obj, .val (.int c), .own o3, .val (.lst (sL xs)), .val (.int k), s6, s7, s8] = .ok (.lst (sL (xs.take (1 + b).toNat))) [.val (.fz ns), .val ot.obj, .val (.int c), .own o4, .val (.lst (sL xs)), .val (.int k), s6, s7, s8] := by
  walk_at "gs"
  simp only [eb]
  walk_at "gs"
  rw [show 1 + b = (((1 + b).toNat : Nat) : Int) by omega, zbt (by rw [zX]; omega), WX, bf]
 have e6 := VG (j := 3) (F := Js 6) (b := zd 5) (y := .int k) (ρ3 := [.val (.fz ns), .val ot.obj, .val (.int c), .own o5, .val (.lst (sL xs)), .val (.int k), s6, s7, s8]) rfl es rfl rfl ew rfl
 refine (zn (yg (Jz e6 (zhi 6 w _ hf (by rw [bu]; omega) (by have := hf.deep; omega))))).trans ?_
 refine (zn (yg (Jc (j := 3) (a := zd 4) (x := .lst (sL xs)) (ρ := [.val (.fz ns), .val ot.obj, .val (.int c), .own o5, .val (.lst (sL xs)), .val (.int k), .val w.obj, s7, s8]) (ρ1 := [.val (.fz ns), .val ot.obj, .val (.int c), .own o5, .val (.lst (sL xs)), .val (.int k), .val w.obj, s7, s8]) (ρ2 := [.val (.fz ns), .val ot.obj, .val (.int c), .own o6, .val (.lst (sL xs)), .val (.int k), .val w.obj, s7, s8]) rfl rfl rfl er rfl))).trans ?_
 exact e
theorem zm1 : ∀ (cs : List Int) (ρ : Env), ziA ns ρ -> ∃ ρ', Jf (zt 2) Q4 (cs.map D.int) ρ = .ok .nx ρ' /\ ziA ns ρ'
 | [], ρ, h => ⟨ρ, rfl, h⟩
 | c :: r, ρ, h => by
  obtain ⟨s2, s3, s4, s5, s6, s7, s8, rfl⟩ := h
  obtain ⟨ρ1, e1, h1⟩ := one (ns := ns) (c := c) (s3 := s3) (s4 := s4) (s5 := s5) (s6 := s6) (s7 := s7) (s8 := s8)
  obtain ⟨ρ', e, h'⟩ := zm1 r ρ1 h1
  refine ⟨ρ', ?_, h'⟩
  rw [aq, WU rfl e1]
  exact e
theorem lawF : ∀ ns : List Int, ns.length <= 63 -> zde [.val (.fz ns)] = .ok (.bl true) [] := fun ns hn => by
 obtain ⟨i, ei⟩ := zil (ns := ns) (k := 0) (by decide)
 have e0 : yx (gCons (zv jY (gCons (zd 0) (gCons (gC (.int 0)) gNil))) gNil) [.val (.fz ns), .val ot.obj, .no, .no, .no, .no, .no, .no, .no] = .ok (.lst [.int i]) [.val (.fz ns), .val ot.obj, .no, .no, .no, .no, .no, .no, .no] := by
  refine zom ?_ (by simp)
  rw [z0 (r := gNil) (JX (F := jY) (a := gCons (zd 0) (gCons (gC (.int 0)) gNil)) (ds := [.fz ns, .int 0]) (ρ := [.val (.fz ns), .val ot.obj, .no, .no, .no, .no, .no, .no, .no]) rfl ei)]
  rfl
 have e1 : Ja (zg 0) (jg (gC (.int 1))) (jg (gC (.int 5))) [.val (.fz ns), .val ot.obj, .no, .no, .no, .no, .no, .no, .no] = .ok (.lst ((Jt ns (some 1) (some 5)).map D.int)) [.val (.fz ns), .val ot.obj, .no, .no, .no, .no, .no, .no, .no] := rfl
 have hl : (Jt ns (some 1) (some 5)).length <= ns.length := by
  unfold Jt; rw [bu, dY]; omega
 have e2 := zcs (f := Jv) (ds := (i :: Jt ns (some 1) (some 5)).map D.int) e0 e1 (by
  show (if [D.int i].length + ((Jt ns (some 1) (some 5)).map D.int).length <= 100000 then some ([D.int i] ++ (Jt ns (some 1) (some 5)).map D.int) else none) = _
  rw [if_pos (by rw [ap]; show 1 + _ <= _; omega)]; rfl)
 obtain ⟨ρ', e3, h3⟩ := zm1 (ns := ns) (i :: Jt ns (some 1) (some 5)) [.val (.fz ns), .val ot.obj, .no, .no, .no, .no, .no, .no, .no] ⟨_, _, _, _, _, _, _, rfl⟩
 refine yu (ρ := ρ') rfl ?_
 refine (zn (yg zoq)).trans ?_
 refine (zn ((WW (jA e2)).trans e3)).trans ?_
 rfl
end K08
end M
namespace W_k08
open PySem L2 M
def top (i : Nat) : Stmt := PySem.Challenge.pw_enoughsaid_k08_whole_more_names_never_un.main.body.getD i (.Pass ⟨0, 0, 0, 0⟩)
structure z4 (K : ai) (mg : Str -> Option Value) (cls : Nat -> Option Addr) (ad : Nat -> Addr) : Prop where
 AS : mg "isinstance" = none
 AU : mg "list" = none
 Fm : mg "sorted" = none
 FM : mg "set" = none
 FB : mg "max" = none
 Fo : mg "sum" = none
 AQ : mg "len" = none
 FU : mg "str" = none
 Fc : mg "all" = none
 FN : mg "int" = none
 FT : mg "bool" = none
 Bb : mg "range" = none
 FO : mg "tuple" = none
 FC : mg "min" = none
 Fp : ∃ t, mg "MOST_NAMES" = some (.int 5 t)
 FA : ∃ t, mg "MOST_DEEP" = some (.int 4 t)
 Fq : ∃ t, mg "MOST_PARTS" = some (.int 12 t)
 Fd : ∃ t, mg "LONGEST_NAME" = some (.int 8 t)
 Fk : ∃ t, mg "MOST_LISTED" = some (.int 5 t)
 Fl : ∃ t, mg "MOST_WEIGHT" = some (.int 1000000000 t)
 BP : Ze ⟨K, cls⟩ (yS 1)
 BQ : Ze ⟨K, cls⟩ (yS 3)
 Bv : Ze ⟨K, cls⟩ (yS 5)
 AT : Ze ⟨K, cls⟩ (yS 6)
 Df : Ze ⟨K, cls⟩ (yS 7)
 BR : Ze ⟨K, cls⟩ (yS 8)
 BO : Ze ⟨K, cls⟩ (yS 0)
 CJ : Ze ⟨K, cls⟩ (yS 2)
 Ea : Ze ⟨K, cls⟩ (yS 4)
 FH : mg "Count" = some (.ref (ad 12))
 FJ : mg "Weigh" = some (.ref (ad 13))
 FD : mg "Houses" = some (.ref (ad 14))
 FP : mg "Both" = some (.ref (ad 15))
 FE : mg "Either" = some (.ref (ad 16))
 FQ : mg "Then" = some (.ref (ad 17))
 AC : IsO K cls [ad 12, ad 13, ad 14, ad 15, ad 16, ad 17] (tbo [12, 13, 14, 15, 16, 17])
local macro_rules | `(tactic| walk_at "s") => `(tactic| exact ⟨rfl, rfl, rfl, by decide +kernel, rfl, by decide +kernel, by decide +kernel⟩)
set_option hygiene false
local macro_rules | `(tactic| walk_at "p") => `(tactic| rcases sp _ _ hc with ⟨rfl, rfl⟩ | ⟨rfl, rfl⟩ | ⟨rfl, rfl⟩ | ⟨rfl, rfl⟩ | ⟨rfl, rfl⟩ | ⟨rfl, rfl⟩)
local macro_rules | `(tactic| walk_at "t") => `(tactic| cases zG hF (e := rfl))
local macro_rules | `(tactic| walk_at "q") => `(tactic| rcases sp _ _ h with ⟨rfl, rfl⟩ | ⟨rfl, rfl⟩ | ⟨rfl, rfl⟩ | ⟨rfl, rfl⟩ | ⟨rfl, rfl⟩ | ⟨rfl, rfl⟩)
section
variable {P : Program} {w : World} {K : ai} {mg : Str -> Option Value} {base : Heap} {cls : Nat -> Option Addr} {ad : Nat -> Addr} {f : Addr} {fd : FuncData}
theorem zkk : zy ["right", "words"] ["right", "words"] (zq (top 19)) := by walk_at "s"
theorem zl7 (F : Fun K "demand" "demand" (top 19) f fd) (M : z4 K mg cls ad) : FnOk P w K mg base yd 1 f fd ["right", "words"] (z7 ⟨K, cls⟩ [] false 2 (zp zZ)) := by
 have sc := zkk
 exact z5 F sc rfl fun c A o s H E hr => ⟨_, (zm (y7 (Qo (zjw (zo 0)))
  (zm zez)
  yk)), by unfold RV; infer_instance⟩
theorem ziB : zy ["thing"] ["thing"] (zq (top 14)) := by walk_at "s"
theorem zkl (F : Fun K "is_wish" "is_wish" (top 14) f fd) (M : z4 K mg cls ad) : FnOk P w K mg base yd 1 f fd ["thing"] (z7 ⟨K, cls⟩ [] false 1 (zp Jm)) := by
 have sc := ziB
 exact z5 F sc rfl fun c A o s H E hr => ⟨_, (zm (zA (znY (tb := (tbo [12, 13, 14, 15, 16, 17])) rfl M.AS (Yo rfl M.FH (Yo rfl M.FJ (Yo rfl M.FD (Yo rfl M.FP (Yo rfl M.FE (Yo rfl M.FQ zll)))))) (by simp) M.AC (zo 0)))), by unfold zc6; infer_instance⟩
theorem Wv : zy ["self"] ["self"] (zq (zi (top 24) 1)) := by walk_at "s"
theorem WZ (F : Fun K "own_names" "Count.own_names" (zi (top 24) 1) f fd) (M : z4 K mg cls ad) : FnOk P w K mg base yd 1 f fd ["self"] (z7 ⟨K, cls⟩ [] false 1 (zp Ql)) := by
 have sc := Wv
 exact z5 F sc rfl fun c A o s H E hr => ⟨_, (zm (zA (zM (jZ rfl M.AU (ze (jC (f := 1) (by kernel_rfl) (by decide) M.BP (zo 0))))))), by unfold ZX; infer_instance⟩
theorem Ww : zy ["self"] ["self"] (zq (zi (top 25) 1)) := by walk_at "s"
theorem W0 (F : Fun K "own_names" "Weigh.own_names" (zi (top 25) 1) f fd) (M : z4 K mg cls ad) : FnOk P w K mg base yd 1 f fd ["self"] (z7 ⟨K, cls⟩ [] false 1 (zp Qm)) := by
 have sc := Ww
 exact z5 F sc rfl fun c A o s H E hr => ⟨_, (zm (zA (zM (yG rfl (CompOk.of_b (N' := ["pair"]) (js := [none]) rfl (by kernel_rfl)) (by decide) (yf (jC (f := 3) (by kernel_rfl) (by decide) M.BQ (zo 0))) (fun _ _ _ _ _ => (zN (i := 0) (by decide) (show (["pair"] : List Str).Nodup by decide +kernel) rfl (Or.inl rfl) (Or.inr rfl))) (fun _ _ _ _ _ => yA) (fun _ _ _ _ _ => (zW (zo 0) (ze zk) (fun _ _ => rfl))))))), by unfold ZY; infer_instance⟩
theorem VO : zy ["self", "names", "house"] ["self"] (zq (zi (top 26) 1)) := by walk_at "s"
theorem Wx (F : Fun K "own_names" "Houses.own_names" (zi (top 26) 1) f fd) (M : z4 K mg cls ad) : FnOk P w K mg base yd 1 f fd ["self"] (z7 ⟨K, cls⟩ [] false 1 (zp Jn)) := by
 have sc := VO
 exact z5 F sc rfl fun c A o s H E hr => ⟨_, (zh (JD (i := 1) (by decide) sc.nd rfl (Or.inl rfl) (ju zf))
 (zh (ZN cf rfl (yf (jC (f := 5) (by kernel_rfl) (by decide) M.Bv (zo 0))) (zN (i := 2) (by decide) sc.nd rfl (Or.inl rfl))
  (zm (yr (zjy 1 (zz 2)))))
 (zm (zA (dv 1 (by decide)))))), by unfold ZR QY; infer_instance⟩
theorem W1 : zy ["self"] ["self"] (zq (zi (top 23) 0)) := by walk_at "s"
theorem QD (F : Fun K "own_names" "Wish.own_names" (zi (top 23) 0) f fd) (M : z4 K mg cls ad) : FnOk P w K mg base yd 1 f fd ["self"] (z7 ⟨K, cls⟩ [] false 1 (zp yz)) := by
 have sc := W1
 exact z5 F sc rfl fun c A o s H E hr => ⟨_, (zm (zA (zM (ju zf)))), by unfold Qz; infer_instance⟩
theorem zbD : zy ["self"] ["self"] (zq (zi (top 23) 1)) := by walk_at "s"
theorem Zx (F : Fun K "made_of" "Wish.made_of" (zi (top 23) 1) f fd) (M : z4 K mg cls ad) : FnOk P w K mg base yd 1 f fd ["self"] (z7 ⟨K, cls⟩ [] false 1 (zp yz)) := by
 have sc := zbD
 exact z5 F sc rfl fun c A o s H E hr => ⟨_, (zm (zA (zM (ju zf)))), by unfold Qz; infer_instance⟩
theorem zbE : zy ["self"] ["self"] (zq (zi (top 27) 1)) := by walk_at "s"
theorem zcu (F : Fun K "made_of" "Both.made_of" (zi (top 27) 1) f fd) (M : z4 K mg cls ad) : FnOk P w K mg base yd 1 f fd ["self"] (z7 ⟨K, cls⟩ [] false 1 (zp j6)) := by
 have sc := zbE
 exact z5 F sc rfl fun c A o s H E hr => ⟨_, (zm (zA (zM (jZ rfl M.AU (ze (jC (f := 6) (by kernel_rfl) (by decide) M.AT (zo 0))))))), by unfold Zo; infer_instance⟩
theorem W2 : zy ["self"] ["self"] (zq (zi (top 28) 1)) := by walk_at "s"
theorem zaf (F : Fun K "made_of" "Either.made_of" (zi (top 28) 1) f fd) (M : z4 K mg cls ad) : FnOk P w K mg base yd 1 f fd ["self"] (z7 ⟨K, cls⟩ [] false 1 (zp j6)) := by
 have sc := W2
 exact z5 F sc rfl fun c A o s H E hr => ⟨_, (zm (zA (zM (jZ rfl M.AU (ze (jC (f := 6) (by kernel_rfl) (by decide) M.AT (zo 0))))))), by unfold Zo; infer_instance⟩
theorem zbF : zy ["self"] ["self"] (zq (zi (top 29) 1)) := by walk_at "s"
theorem zcv (F : Fun K "made_of" "Then.made_of" (zi (top 29) 1) f fd) (M : z4 K mg cls ad) : FnOk P w K mg base yd 1 f fd ["self"] (z7 ⟨K, cls⟩ [] false 1 (zp Zp)) := by
 have sc := zbF
 exact z5 F sc rfl fun c A o s H E hr => ⟨_, (zm (zA (zM (ju (zc (jC (f := 7) (by kernel_rfl) (by decide) M.Df (zo 0)) (zc (jC (f := 8) (by kernel_rfl) (by decide) M.BR (zo 0)) zf)))))), by unfold UO; infer_instance⟩
theorem zag : zy ["self", "names", "wish"] ["self"] (zq (zi (top 23) 2)) := by walk_at "s"
theorem jP (F : Fun K "names_in" "Wish.names_in" (zi (top 23) 2) f fd) (M : z4 K mg cls ad) {n : Nat} {R : Nat -> Option Fn} (AN : HD P w K mg base cls "own_names" 1 ["self"] Qe) (Ai : HD P w K mg base cls "made_of" 1 ["self"] jH) (Ay : HD P w K mg base cls "names_in" (1 + 1 * n) ["self"] R) : FnOk P w K mg base yd (1 + 1 * n + 0 + 1) f fd ["self"] (z7 ⟨K, cls⟩ [] false 1 (zp (je R))) := by
 have sc := zag
 exact z5 F sc rfl fun c A o s H E hr => ⟨_, (zh (yF (i := 1) (by decide) sc.nd rfl (Or.inl rfl) (jR AN (hr.mono (by omega)) (zz 0)))
 (zh (ZN cf rfl (yf (jR Ai (hr.mono (by omega)) (zz 0))) (zN (i := 2) (by decide) sc.nd rfl (Or.inl rfl))
  (zm (yF (i := 1) (by decide) sc.nd rfl (Or.inl rfl) (zM (zaH (zo 1) (ze (jR Ay (hr.mono (by omega)) (zz 2))))))))
 (zm (zA (zM (zig rfl rfl M.Fm rfl M.FM (zo 1))))))), by unfold Y2 ZZ; infer_instance⟩
theorem zdz : zy ["self"] ["self"] (zq (zi (top 23) 3)) := by walk_at "s"
theorem JB (F : Fun K "depth" "Wish.depth" (zi (top 23) 3) f fd) (M : z4 K mg cls ad) {n : Nat} {R : Nat -> Option Fn} (Ai : HD P w K mg base cls "made_of" 1 ["self"] jH) (AJ : HD P w K mg base cls "depth" (1 + 1 * n) ["self"] R) : FnOk P w K mg base yd (1 + 1 * n + 0 + 1) f fd ["self"] (z7 ⟨K, cls⟩ [] false 1 (zp (jJ R))) := by
 have sc := zdz
 exact z5 F sc rfl fun c A o s H E hr => ⟨_, (zm (zA (y0 (ze zk) (ze (zn4 rfl rfl M.FB (ze (zM (yG rfl (CompOk.of_b (N' := ["wish"]) (js := [none]) rfl (by kernel_rfl)) (by decide) (yf (jR Ai (hr.mono (by omega)) (zz 0))) (fun _ _ _ _ _ => (zN (i := 0) (by decide) (show (["wish"] : List Str).Nodup by decide +kernel) rfl (Or.inl rfl) (Or.inr rfl))) (fun _ _ _ _ _ => yA) (fun _ _ _ _ _ => (jR AJ (hr.mono (by omega)) (zz 0)))))) (ze zk)))))), by unfold Wk; infer_instance⟩
theorem Wy : zy ["self"] ["self"] (zq (zi (top 23) 4)) := by walk_at "s"
theorem jy (F : Fun K "parts_many" "Wish.parts_many" (zi (top 23) 4) f fd) (M : z4 K mg cls ad) {n : Nat} {R : Nat -> Option Fn} (Ai : HD P w K mg base cls "made_of" 1 ["self"] jH) (AA : HD P w K mg base cls "parts_many" (1 + 1 * n) ["self"] R) : FnOk P w K mg base yd (1 + 1 * n + 0 + 1) f fd ["self"] (z7 ⟨K, cls⟩ [] false 1 (zp (yT R))) := by
 have sc := Wy
 exact z5 F sc rfl fun c A o s H E hr => ⟨_, (zm (zA (y0 (ze zk) (ze (zaW rfl rfl M.Fo (ze (zM (yG rfl (CompOk.of_b (N' := ["wish"]) (js := [none]) rfl (by kernel_rfl)) (by decide) (yf (jR Ai (hr.mono (by omega)) (zz 0))) (fun _ _ _ _ _ => (zN (i := 0) (by decide) (show (["wish"] : List Str).Nodup by decide +kernel) rfl (Or.inl rfl) (Or.inr rfl))) (fun _ _ _ _ _ => yA) (fun _ _ _ _ _ => (jR AA (hr.mono (by omega)) (zz 0))))))))))), by unfold Z1; infer_instance⟩
theorem zcw : zy ["wish"] ["wish"] (zq (top 21)) := by walk_at "s"
theorem zdA (F : Fun K "demand_size" "demand_size" (top 21) f fd) (M : z4 K mg cls ad) (Aj : HM P w K mg base cls "demand" 1 ["right", "words"] [] false (zp zZ)) (Ay : HD P w K mg base cls "names_in" 7 ["self"] (zT 6)) (AJ : HD P w K mg base cls "depth" 7 ["self"] (jS 6)) (AA : HD P w K mg base cls "parts_many" 7 ["self"] (jh 6)) : FnOk P w K mg base yd 8 f fd ["wish"] (z7 ⟨K, cls⟩ [] false 1 (zp ya)) := by
 have sc := zcw
 exact z5 F sc rfl fun c A o s H E hr => ⟨_, (zh (yr (zx Aj (hr.mono (by omega)) rfl (zc (Jj Z9 Yc (ze (y3 rfl M.AQ (ze (jR Ay (hr.mono (by omega)) (zz 0))))) (ze (Yj rfl M.Fp)) (zQ _)) (zc zV zf))))
 (zh (yr (zx Aj (hr.mono (by omega)) rfl (zc (Jj Z9 Yc (ze (jR AJ (hr.mono (by omega)) (zz 0))) (ze (Yj rfl M.FA)) (zQ _)) (zc zV zf))))
 (zm (yr (zx Aj (hr.mono (by omega)) rfl (zc (Jj Z9 Yc (ze (jR AA (hr.mono (by omega)) (zz 0))) (ze (Yj rfl M.Fq)) (zQ _)) (zc zV zf))))))), by unfold VM Y4 Y3; infer_instance⟩
theorem zah : zy ["self", "one", "other"] ["self", "one", "other"] (zq (zi (top 29) 0)) := by walk_at "s"
theorem zbG (F : Fun K "__init__" "Then.__init__" (zi (top 29) 0) f fd) (M : z4 K mg cls ad) (Aj : HM P w K mg base cls "demand" 1 ["right", "words"] [] false (zp zZ)) (AY : HM P w K mg base cls "is_wish" 1 ["thing"] [] false (zp Jm)) (AB : HM P w K mg base cls "demand_size" 8 ["wish"] [] false (zp ya)) : FnOk P w K mg base yd 9 f fd ["self", "one", "other"] (z7 ⟨K, cls⟩ [0] false 3 (zp Qf)) := by
 have sc := zah
 exact z5 F sc rfl fun c A o s H E hr => ⟨_, (zh (yr (zx Aj (hr.mono (by omega)) rfl (zc (ZM (zx AY (hr.mono (by omega)) rfl (zc (zz 1) zf)) (QR (zx AY (hr.mono (by omega)) rfl (zc (zz 2) zf)))) (zc zV zf))))
 (zh (Ju (f := 7) (i := 0) (by kernel_rfl) (by decide) M.Df (zz 1))
 (zh (Ju (f := 8) (i := 0) (by kernel_rfl) (by decide) M.BR (zz 2))
 (zm (yr (Vk (j := 0) AB (hr.mono (by omega)) rfl)))))), by unfold zj2 zfj; infer_instance⟩
theorem ziC : zy ["thing"] ["thing"] (zq (top 12)) := by walk_at "s"
theorem zkm (F : Fun K "is_name" "is_name" (top 12) f fd) (M : z4 K mg cls ad) : FnOk P w K mg base yd 1 f fd ["thing"] (z7 ⟨K, cls⟩ [] false 1 (zp jK)) := by
 have sc := ziC
 exact z5 F sc rfl fun c A o s H E hr => ⟨_, (zh (y7 (Ud (YS (Qo (JZ (Yl rfl M.AS (zo 0) (ze (WP (n := "str") rfl M.FU (by kernel_rfl)))))) (Yz (Qo (zlk Z9 Yc Z9 Yc zk (y3 rfl M.AQ (zo 0)) (Yj rfl M.Fd))))))
  (zm (zA Qu))
  yk)
 (zm (zA (V2 rfl rfl M.Fc (ze (zM (yG rfl (CompOk.of_b (N' := ["sign"]) (js := [none]) rfl (by kernel_rfl)) (by decide) (zpY (zz 0)) (fun _ _ _ _ _ => (zN (i := 0) (by decide) (show (["sign"] : List Str).Nodup by decide +kernel) rfl (Or.inl rfl) (Or.inr rfl))) (fun _ _ _ _ _ => yA) (fun _ _ _ _ _ => (RN zcK zjr zcK zjr zV (zz 0) zV))))))))), by unfold Wm Uh; infer_instance⟩
theorem zkn : zy ["thing"] ["thing"] (zq (top 13)) := by walk_at "s"
theorem zl8 (F : Fun K "is_row" "is_row" (top 13) f fd) (M : z4 K mg cls ad) (Ba : HM P w K mg base cls "is_name" 1 ["thing"] [] false (zp jK)) : FnOk P w K mg base yd 2 f fd ["thing"] (z7 ⟨K, cls⟩ [] false 1 (zp jv)) := by
 have sc := zkn
 exact z5 F sc rfl fun c A o s H E hr => ⟨_, (zh (y7 (Qo (JZ (Yl rfl M.AS (zo 0) (ze (WP (n := "list") rfl M.AU (by kernel_rfl))))))
  (zm (zA Qu))
  yk)
 (zm (zA (ZM (V2 rfl rfl M.Fc (ze (zM (yG rfl (CompOk.of_b (N' := ["name"]) (js := [none]) rfl (by kernel_rfl)) (by decide) (yf (zz 0)) (fun _ _ _ _ _ => (zN (i := 0) (by decide) (show (["name"] : List Str).Nodup by decide +kernel) rfl (Or.inl rfl) (Or.inr rfl))) (fun _ _ _ _ _ => yA) (fun _ _ _ _ _ => (zx Ba (hr.mono (by omega)) rfl (zc (zz 0) zf))))))) (QR (Jj J6 J9 (ze (zjY rfl rfl M.AQ rfl M.FM (zo 0))) (ze (y3 rfl M.AQ (zo 0))) (zQ _))))))), by unfold RW Ye; infer_instance⟩
theorem zai : zy ["thing"] ["thing"] (zq (top 16)) := by walk_at "s"
theorem zbH (F : Fun K "is_short_list" "is_short_list" (top 16) f fd) (M : z4 K mg cls ad) : FnOk P w K mg base yd 1 f fd ["thing"] (z7 ⟨K, cls⟩ [] false 1 (zp zY)) := by
 have sc := zai
 exact z5 F sc rfl fun c A o s H E hr => ⟨_, (zm (zA (ZM (Yl rfl M.AS (zo 0) (ze (WP (n := "list") rfl M.AU (by kernel_rfl)))) (QR (RN Z9 Yc Z9 Yc zk (y3 rfl M.AQ (zo 0)) (Yj rfl M.Fk)))))), by unfold QZ; infer_instance⟩
theorem zbI : zy ["thing"] ["thing"] (zq (top 17)) := by walk_at "s"
theorem zcx (F : Fun K "is_short_row" "is_short_row" (top 17) f fd) (M : z4 K mg cls ad) (AV : HM P w K mg base cls "is_row" 2 ["thing"] [] false (zp jv)) (Aq : HM P w K mg base cls "is_short_list" 1 ["thing"] [] false (zp zY)) : FnOk P w K mg base yd 3 f fd ["thing"] (z7 ⟨K, cls⟩ [] false 1 (zp jE)) := by
 have sc := zbI
 exact z5 F sc rfl fun c A o s H E hr => ⟨_, (zm (zA (ZM (zx Aq (hr.mono (by omega)) rfl (zc (zz 0) zf)) (QR (zx AV (hr.mono (by omega)) rfl (zc (zz 0) zf)))))), by unfold UP; infer_instance⟩
theorem zf0 : zy ["thing"] ["thing"] (zq (top 11)) := by walk_at "s"
theorem ziD (F : Fun K "is_whole" "is_whole" (top 11) f fd) (M : z4 K mg cls ad) : FnOk P w K mg base yd 1 f fd ["thing"] (z7 ⟨K, cls⟩ [] false 1 (zp Qi)) := by
 have sc := zf0
 exact z5 F sc rfl fun c A o s H E hr => ⟨_, (zm (zA (ZM (Yl rfl M.AS (zo 0) (ze (WP (n := "int") rfl M.FN (by kernel_rfl)))) (QR (zpW (Yl rfl M.AS (zo 0) (ze (WP (n := "bool") rfl M.FT (by kernel_rfl))))))))), by unfold Vm; infer_instance⟩
theorem zf1 : zy ["thing", "most"] ["thing", "most"] (zq (top 15)) := by walk_at "s"
theorem ziE (F : Fun K "is_up_to" "is_up_to" (top 15) f fd) (M : z4 K mg cls ad) (CK : HM P w K mg base cls "is_whole" 1 ["thing"] [] false (zp Qi)) : FnOk P w K mg base yd 2 f fd ["thing", "most"] (z7 ⟨K, cls⟩ [] false 2 (zp yX)) := by
 have sc := zf1
 exact z5 F sc rfl fun c A o s H E hr => ⟨_, (zm (zA (ZM (zx CK (hr.mono (by omega)) rfl (zc (zz 0) zf)) (QR (RN Z9 Yc Z9 Yc zk (zz 0) (zz 1)))))), by unfold Vn; infer_instance⟩
theorem W3 : zy ["self", "many", "names"] ["self", "many", "names"] (zq (zi (top 24) 0)) := by walk_at "s"
theorem zaj (F : Fun K "__init__" "Count.__init__" (zi (top 24) 0) f fd) (M : z4 K mg cls ad) (Aj : HM P w K mg base cls "demand" 1 ["right", "words"] [] false (zp zZ)) (AR : HM P w K mg base cls "is_short_row" 3 ["thing"] [] false (zp jE)) (AH : HM P w K mg base cls "is_up_to" 2 ["thing", "most"] [] false (zp yX)) : FnOk P w K mg base yd 4 f fd ["self", "many", "names"] (z7 ⟨K, cls⟩ [0] false 3 (zp jl)) := by
 have sc := W3
 exact z5 F sc rfl fun c A o s H E hr => ⟨_, (zh (yr (zx Aj (hr.mono (by omega)) rfl (zc (zx AR (hr.mono (by omega)) rfl (zc (zz 2) zf)) (zc zV zf))))
 (zh (yr (zx Aj (hr.mono (by omega)) rfl (zc (zx AH (hr.mono (by omega)) rfl (zc (zz 1) (zc (y3 rfl M.AQ (zo 2)) zf))) (zc zV zf))))
 (zh (Ju (f := 0) (i := 0) (by kernel_rfl) (by decide) M.BO (zz 1))
 (zm (Ju (f := 1) (i := 0) (by kernel_rfl) (by decide) M.BP (zM (jZ rfl M.AU (zo 2)))))))), by unfold zg0 zc7 Wn; infer_instance⟩
theorem zfL : zy ["_law_script", "_law_k"] ["_law_script", "_law_k"] (zq (top 33)) := by walk_at "s"
theorem zf2 (F : Fun K "_law_cell_at" "_law_cell_at" (top 33) f fd) (M : z4 K mg cls ad) : FnOk P w K mg base yd 1 f fd ["_law_script", "_law_k"] (z7 ⟨K, cls⟩ [] false 2 (zp jY)) := by
 have sc := zfL
 exact z5 F sc rfl fun c A o s H E hr => ⟨_, (zh (y7 (yj zdB zdQ (zo 1) (ze (y3 rfl M.AQ (zo 0))) (zQ _))
  (zm (zA (zW (zo 0) (zo 1) (fun _ _ => rfl))))
  yk)
 (zm (zA zk))), by unfold Ui; infer_instance⟩
theorem zko : zy ["_law_cell"] ["_law_cell"] (zq (top 34)) := by walk_at "s"
theorem zl9 (F : Fun K "_law_tape" "_law_tape" (top 34) f fd) (M : z4 K mg cls ad) : FnOk P w K mg base yd 1 f fd ["_law_cell"] (z7 ⟨K, cls⟩ [] true 1 (zp Zr)) := by
 have sc := zko
 exact z5 F sc rfl fun c A o s H E hr => ⟨_, (zm (znQ (ju (zc (znP rfl rfl M.FB (ze zk) (ze (zaG (zo 0) (ze (zjv (ze zk) (ze zk)))))) (zc (UJ (zo 0) (ze zk)) (zc zk zf)))))), by unfold RX; infer_instance⟩
theorem zkp : zy ["_law_tape_here", "_law_many", "_law_found", "_law_number"] ["_law_tape_here", "_law_many"] (zq (top 35)) := by walk_at "s"
theorem zl_ (F : Fun K "_law_take" "_law_take" (top 35) f fd) (M : z4 K mg cls ad) : FnOk P w K mg base yd 1 f fd ["_law_tape_here", "_law_many"] (z7 ⟨K, cls⟩ [0] false 2 (zp zr)) := by
 have sc := zkp
 exact z5 F sc rfl fun c A o s H E hr => ⟨_, (zh (y7 (yj zhn zhW (ze (zW (zo 0) (ze zk) (fun _ _ => rfl))) (ze zk) (zQ _))
  (zh (yF (i := 2) (by decide) sc.nd rfl (Or.inl rfl) (UJ (ze (zW (zo 0) (ze zk) (fun _ _ => rfl))) (zo 1)))
 (zh (zeF 0 (Vl (ze (zW (zo 0) (ze zk) (fun _ _ => rfl))) (zo 1)) zk)
 (zm (zA (zz 2)))))
  yk)
 (zh (zeF 0 (y0 (ze (zW (zo 0) (ze zk) (fun _ _ => rfl))) (ze zk)) zk)
 (zh (yF (i := 3) (by decide) sc.nd rfl (Or.inl rfl) (UJ (ze (V1 (ze (y0 (ze (y0 (ze (zW (zo 0) (ze zk) (fun _ _ => rfl))) (ze (V1 (ze zk) (ze (zW (zo 0) (ze zk) (fun _ _ => rfl))))))) (ze zk))) (ze zk))) (ze zk)))
 (zh (yF (i := 3) (by decide) sc.nd rfl (Or.inl rfl) (UJ (ze (V1 (zo 3) (ze (y0 (ze (Vl (zo 3) (ze zk))) (ze zk))))) (ze zk)))
 (zh (yF (i := 3) (by decide) sc.nd rfl (Or.inl rfl) (UJ (ze (V1 (zo 3) (ze (y0 (ze (Vl (zo 3) (ze zk))) (ze zk))))) (ze zk)))
 (zm (zA (UJ (ze (Vl (zo 3) (ze zk))) (zo 1))))))))), by unfold RY Vt Vs Vr Vq Vp Vo; infer_instance⟩
theorem zkq : zy ["_law_tape_here", "_law_k", "_law_letters", "_law_first"] ["_law_tape_here", "_law_k"] (zq (top 36)) := by walk_at "s"
theorem zma (F : Fun K "_law_word" "_law_word" (top 36) f fd) (M : z4 K mg cls ad) (Ae : HM P w K mg base cls "_law_take" 1 ["_law_tape_here", "_law_many"] [0] false (zp zr)) : FnOk P w K mg base yd 2 f fd ["_law_tape_here", "_law_k"] (z7 ⟨K, cls⟩ [0] false 2 (zp QA)) := by
 have sc := zkq
 exact z5 F sc rfl fun c A o s H E hr => ⟨_, (zh (yF (i := 2) (by decide) sc.nd rfl (Or.inr rfl) zV)
 (zh (yF (i := 3) (by decide) sc.nd rfl (Or.inl rfl) (zW (zo 2) (ze (y0 (ze (V1 (ze zk) (zo 1))) (ze (zL (j := 0) Ae (hr.mono (by omega)) rfl (zc zk zf))))) (fun _ _ => rfl)))
 (zm (zA (znN (zo 3) (ze (zn6 zV (ze (zM (yG rfl (CompOk.of_b (N' := ["_law_j", "_law_letters", "_law_tape_here"]) (js := [none, some 2, some 0]) rfl (by kernel_rfl)) (by decide) (JH rfl M.Bb (zc (zL (j := 0) Ae (hr.mono (by omega)) rfl (zc zk zf)) zf)) (fun _ _ _ _ _ => (zN (i := 0) (by decide) (show (["_law_j", "_law_letters", "_law_tape_here"] : List Str).Nodup by decide +kernel) rfl (Or.inl rfl) (Or.inr rfl))) (fun _ _ _ _ _ => yA) (fun _ _ _ _ _ => (zW (zo 1) (ze (zL (j := 2) Ae (hr.mono (by omega)) rfl (zc zk zf))) (fun _ _ => rfl))))))))))))), by unfold RZ Vv Vu; infer_instance⟩
theorem ziF : zy ["_law_tape_here", "_law_many", "_law_some_here", "_law_found", "_law_k"] ["_law_tape_here", "_law_many"] (zq (top 37)) := by walk_at "s"
theorem zkr (F : Fun K "_law_names" "_law_names" (top 37) f fd) (M : z4 K mg cls ad) (Ae : HM P w K mg base cls "_law_take" 1 ["_law_tape_here", "_law_many"] [0] false (zp zr)) (Ee : HM P w K mg base cls "_law_word" 2 ["_law_tape_here", "_law_k"] [0] false (zp QA)) : FnOk P w K mg base yd 3 f fd ["_law_tape_here", "_law_many"] (z7 ⟨K, cls⟩ [0] false 2 (zp QH)) := by
 have sc := ziF
 exact z5 F sc rfl fun c A o s H E hr => ⟨_, (zh (JD (i := 2) (by decide) sc.nd rfl (Or.inl rfl) (ju (znM (ss := ["a", "ab", "abc", "b", "ba", "z", "zzzzzzzz", "aa", "c", "count", "y", "counts"]) (by kernel_rfl))))
 (zh (y7 (yj J6 J9 (ze (zL (j := 0) Ae (hr.mono (by omega)) rfl (zc zk zf))) (ze zk) (zQ _))
  (zm (zhX (i := 2) (by decide) rfl sc.nd rfl rfl (CompOk.of_b (N' := ["_law_k", "_law_tape_here"]) (js := [none, some 0]) rfl (by kernel_rfl)) (by decide) (JH rfl M.Bb (zc (zz 1) zf)) (fun _ _ _ _ _ => (zN (i := 0) (by decide) (show (["_law_k", "_law_tape_here"] : List Str).Nodup by decide +kernel) rfl (Or.inl rfl) (Or.inr rfl))) (fun _ _ _ _ _ => yA) (fun _ _ _ _ _ => (zL (j := 1) Ee (hr.mono (by omega)) rfl (zc (zz 0) zf)))))
  yk)
 (zh (JD (i := 3) (by decide) sc.nd rfl (Or.inl rfl) (ju zf))
 (zh (ZN cf rfl (JH rfl M.Bb (zc (zz 1) zf)) (zN (i := 4) (by decide) sc.nd rfl (Or.inl rfl))
  (zm (yr (V3 3 (zeE 2 (zL (j := 0) Ae (hr.mono (by omega)) rfl (zc (y3 rfl M.AQ (zo 2)) zf)))))))
 (zm (zA (dv 3 (by decide)))))))), by unfold Wo Ul Uk Uj; infer_instance⟩
theorem ziG : zy ["thing"] ["thing"] (zq (top 18)) := by walk_at "s"
theorem zks (F : Fun K "is_pair" "is_pair" (top 18) f fd) (M : z4 K mg cls ad) (AH : HM P w K mg base cls "is_up_to" 2 ["thing", "most"] [] false (zp yX)) (Ba : HM P w K mg base cls "is_name" 1 ["thing"] [] false (zp jK)) : FnOk P w K mg base yd 3 f fd ["thing"] (z7 ⟨K, cls⟩ [] false 1 (zp ZS)) := by
 have sc := ziG
 exact z5 F sc rfl fun c A o s H E hr => ⟨_, (zh (y7 (Ud (YS (Qo (JZ (Yl rfl M.AS (zo 0) (ze (WP (n := "tuple") rfl M.FO (by kernel_rfl)))))) (Yz (yj zas zaD (ze (y3 rfl M.AQ (zo 0))) (ze zk) (zQ _)))))
  (zm (zA Qu))
  yk)
 (zm (zA (ZM (zx Ba (hr.mono (by omega)) rfl (zc (zW (zo 0) (ze zk) (fun _ _ => rfl)) zf)) (QR (zx AH (hr.mono (by omega)) rfl (zc (zW (zo 0) (ze zk) (fun _ _ => rfl)) (zc (Yj rfl M.Fl) zf)))))))), by unfold zc8 Rr; infer_instance⟩
theorem W4 : zy ["self", "least", "pairs"] ["self", "least", "pairs"] (zq (zi (top 25) 0)) := by walk_at "s"
theorem zak (F : Fun K "__init__" "Weigh.__init__" (zi (top 25) 0) f fd) (M : z4 K mg cls ad) (Aj : HM P w K mg base cls "demand" 1 ["right", "words"] [] false (zp zZ)) (Aq : HM P w K mg base cls "is_short_list" 1 ["thing"] [] false (zp zY)) (Dg : HM P w K mg base cls "is_pair" 3 ["thing"] [] false (zp ZS)) (AV : HM P w K mg base cls "is_row" 2 ["thing"] [] false (zp jv)) (AH : HM P w K mg base cls "is_up_to" 2 ["thing", "most"] [] false (zp yX)) : FnOk P w K mg base yd 4 f fd ["self", "least", "pairs"] (z7 ⟨K, cls⟩ [0] false 3 (zp Yq)) := by
 have sc := W4
 exact z5 F sc rfl fun c A o s H E hr => ⟨_, (zh (yr (zx Aj (hr.mono (by omega)) rfl (zc (zx Aq (hr.mono (by omega)) rfl (zc (zz 2) zf)) (zc zV zf))))
 (zh (yr (zx Aj (hr.mono (by omega)) rfl (zc (V2 rfl rfl M.Fc (ze (zM (yG rfl (CompOk.of_b (N' := ["pair"]) (js := [none]) rfl (by kernel_rfl)) (by decide) (yf (zz 2)) (fun _ _ _ _ _ => (zN (i := 0) (by decide) (show (["pair"] : List Str).Nodup by decide +kernel) rfl (Or.inl rfl) (Or.inr rfl))) (fun _ _ _ _ _ => yA) (fun _ _ _ _ _ => (zx Dg (hr.mono (by omega)) rfl (zc (zz 0) zf))))))) (zc zV zf))))
 (zh (yr (zx Aj (hr.mono (by omega)) rfl (zc (zx AV (hr.mono (by omega)) rfl (zc (zM (yG rfl (CompOk.of_b (N' := ["pair"]) (js := [none]) rfl (by kernel_rfl)) (by decide) (yf (zz 2)) (fun _ _ _ _ _ => (zN (i := 0) (by decide) (show (["pair"] : List Str).Nodup by decide +kernel) rfl (Or.inl rfl) (Or.inr rfl))) (fun _ _ _ _ _ => yA) (fun _ _ _ _ _ => (zW (zo 0) (ze zk) (fun _ _ => rfl))))) zf)) (zc zV zf))))
 (zh (yr (zx Aj (hr.mono (by omega)) rfl (zc (zx AH (hr.mono (by omega)) rfl (zc (zz 1) (zc (zaW rfl rfl M.Fo (ze (zM (yG rfl (CompOk.of_b (N' := ["pair"]) (js := [none]) rfl (by kernel_rfl)) (by decide) (yf (zz 2)) (fun _ _ _ _ _ => (zN (i := 0) (by decide) (show (["pair"] : List Str).Nodup by decide +kernel) rfl (Or.inl rfl) (Or.inr rfl))) (fun _ _ _ _ _ => yA) (fun _ _ _ _ _ => (zW (zo 0) (ze zk) (fun _ _ => rfl))))))) zf))) (zc zV zf))))
 (zh (Ju (f := 2) (i := 0) (by kernel_rfl) (by decide) M.CJ (zz 1))
 (zm (Ju (f := 3) (i := 0) (by kernel_rfl) (by decide) M.BQ (zM (jZ rfl M.AU (zo 2)))))))))), by unfold zg1 zda zc_ zc9 Wp; infer_instance⟩
theorem Wz : zy ["self", "many", "each", "houses"] ["self", "many", "each", "houses"] (zq (zi (top 26) 0)) := by walk_at "s"
theorem W5 (F : Fun K "__init__" "Houses.__init__" (zi (top 26) 0) f fd) (M : z4 K mg cls ad) (Aj : HM P w K mg base cls "demand" 1 ["right", "words"] [] false (zp zZ)) (Aq : HM P w K mg base cls "is_short_list" 1 ["thing"] [] false (zp zY)) (AR : HM P w K mg base cls "is_short_row" 3 ["thing"] [] false (zp jE)) (AH : HM P w K mg base cls "is_up_to" 2 ["thing", "most"] [] false (zp yX)) (AB : HM P w K mg base cls "demand_size" 8 ["wish"] [] false (zp ya)) : FnOk P w K mg base yd 9 f fd ["self", "many", "each", "houses"] (z7 ⟨K, cls⟩ [0] false 4 (zp Zs)) := by
 have sc := Wz
 exact z5 F sc rfl fun c A o s H E hr => ⟨_, (zh (yr (zx Aj (hr.mono (by omega)) rfl (zc (zx Aq (hr.mono (by omega)) rfl (zc (zz 3) zf)) (zc zV zf))))
 (zh (yr (zx Aj (hr.mono (by omega)) rfl (zc (V2 rfl rfl M.Fc (ze (zM (yG rfl (CompOk.of_b (N' := ["house"]) (js := [none]) rfl (by kernel_rfl)) (by decide) (yf (zz 3)) (fun _ _ _ _ _ => (zN (i := 0) (by decide) (show (["house"] : List Str).Nodup by decide +kernel) rfl (Or.inl rfl) (Or.inr rfl))) (fun _ _ _ _ _ => yA) (fun _ _ _ _ _ => (zx AR (hr.mono (by omega)) rfl (zc (zz 0) zf))))))) (zc zV zf))))
 (zh (yr (zx Aj (hr.mono (by omega)) rfl (zc (zx AH (hr.mono (by omega)) rfl (zc (zz 1) (zc (y3 rfl M.AQ (zo 3)) zf))) (zc zV zf))))
 (zh (yr (zx Aj (hr.mono (by omega)) rfl (zc (zx AH (hr.mono (by omega)) rfl (zc (zz 2) (zc (zgX rfl rfl M.FC (ze (zM (yG rfl (CompOk.of_b (N' := ["house"]) (js := [none]) rfl (by kernel_rfl)) (by decide) (yf (zz 3)) (fun _ _ _ _ _ => (zN (i := 0) (by decide) (show (["house"] : List Str).Nodup by decide +kernel) rfl (Or.inl rfl) (Or.inr rfl))) (fun _ _ _ _ _ => yA) (fun _ _ _ _ _ => (y3 rfl M.AQ (zo 0))))))) zf))) (zc zV zf))))
 (zh (Ju (f := 0) (i := 0) (by kernel_rfl) (by decide) M.BO (zz 1))
 (zh (Ju (f := 4) (i := 0) (by kernel_rfl) (by decide) M.Ea (zz 2))
 (zh (Ju (f := 5) (i := 0) (by kernel_rfl) (by decide) M.Bv (zM (yG rfl (CompOk.of_b (N' := ["house"]) (js := [none]) rfl (by kernel_rfl)) (by decide) (yf (zz 3)) (fun _ _ _ _ _ => (zN (i := 0) (by decide) (show (["house"] : List Str).Nodup by decide +kernel) rfl (Or.inl rfl) (Or.inr rfl))) (fun _ _ _ _ _ => yA) (fun _ _ _ _ _ => (zM (jZ rfl M.AU (zo 0)))))))
 (zm (yr (Vk (j := 0) AB (hr.mono (by omega)) rfl)))))))))), by unfold zfk za7 za6 za5 za4 za3; infer_instance⟩
theorem zal : zy ["wishes"] ["wishes"] (zq (top 20)) := by walk_at "s"
theorem zbJ (F : Fun K "demand_wishes" "demand_wishes" (top 20) f fd) (M : z4 K mg cls ad) (Aj : HM P w K mg base cls "demand" 1 ["right", "words"] [] false (zp zZ)) (Aq : HM P w K mg base cls "is_short_list" 1 ["thing"] [] false (zp zY)) (AY : HM P w K mg base cls "is_wish" 1 ["thing"] [] false (zp Jm)) : FnOk P w K mg base yd 2 f fd ["wishes"] (z7 ⟨K, cls⟩ [] false 1 (zp jM)) := by
 have sc := zal
 exact z5 F sc rfl fun c A o s H E hr => ⟨_, (zh (yr (zx Aj (hr.mono (by omega)) rfl (zc (zx Aq (hr.mono (by omega)) rfl (zc (zz 0) zf)) (zc zV zf))))
 (zm (yr (zx Aj (hr.mono (by omega)) rfl (zc (V2 rfl rfl M.Fc (ze (zM (yG rfl (CompOk.of_b (N' := ["wish"]) (js := [none]) rfl (by kernel_rfl)) (by decide) (yf (zz 0)) (fun _ _ _ _ _ => (zN (i := 0) (by decide) (show (["wish"] : List Str).Nodup by decide +kernel) rfl (Or.inl rfl) (Or.inr rfl))) (fun _ _ _ _ _ => yA) (fun _ _ _ _ _ => (zx AY (hr.mono (by omega)) rfl (zc (zz 0) zf))))))) (zc zV zf)))))), by unfold Y5 Z2; infer_instance⟩
theorem zam : zy ["self", "wishes"] ["self", "wishes"] (zq (zi (top 27) 0)) := by walk_at "s"
theorem zbK (F : Fun K "__init__" "Both.__init__" (zi (top 27) 0) f fd) (M : z4 K mg cls ad) (AO : HM P w K mg base cls "demand_wishes" 2 ["wishes"] [] false (zp jM)) (AB : HM P w K mg base cls "demand_size" 8 ["wish"] [] false (zp ya)) : FnOk P w K mg base yd 9 f fd ["self", "wishes"] (z7 ⟨K, cls⟩ [0] false 2 (zp J1)) := by
 have sc := zam
 exact z5 F sc rfl fun c A o s H E hr => ⟨_, (zh (yr (zx AO (hr.mono (by omega)) rfl (zc (zz 1) zf)))
 (zh (Ju (f := 6) (i := 0) (by kernel_rfl) (by decide) M.AT (zM (jZ rfl M.AU (zo 1))))
 (zm (yr (Vk (j := 0) AB (hr.mono (by omega)) rfl))))), by unfold zfl R6; infer_instance⟩
theorem WA : zy ["self", "wishes"] ["self", "wishes"] (zq (zi (top 28) 0)) := by walk_at "s"
theorem W6 (F : Fun K "__init__" "Either.__init__" (zi (top 28) 0) f fd) (M : z4 K mg cls ad) (AO : HM P w K mg base cls "demand_wishes" 2 ["wishes"] [] false (zp jM)) (AB : HM P w K mg base cls "demand_size" 8 ["wish"] [] false (zp ya)) : FnOk P w K mg base yd 9 f fd ["self", "wishes"] (z7 ⟨K, cls⟩ [0] false 2 (zp J1)) := by
 have sc := WA
 exact z5 F sc rfl fun c A o s H E hr => ⟨_, (zh (yr (zx AO (hr.mono (by omega)) rfl (zc (zz 1) zf)))
 (zh (Ju (f := 6) (i := 0) (by kernel_rfl) (by decide) M.AT (zM (jZ rfl M.AU (zo 1))))
 (zm (yr (Vk (j := 0) AB (hr.mono (by omega)) rfl))))), by unfold zfl R6; infer_instance⟩
theorem zkt : zy ["_law_told_here", "_law_some_here"] ["_law_told_here"] (zq (top 41)) := by walk_at "s"
theorem zmb (F : Fun K "_law_made" "_law_made" (top 41) f fd) (M : z4 K mg cls ad) {n : Nat} {R : Fn} (Bh : HK P w K mg base cls "Count" 12 4 ["self", "many", "names"] (zp jl)) (EG : HK P w K mg base cls "Weigh" 13 4 ["self", "least", "pairs"] (zp Yq)) (Ef : HK P w K mg base cls "Houses" 14 9 ["self", "many", "each", "houses"] (zp Zs)) (CH : HK P w K mg base cls "Then" 17 9 ["self", "one", "other"] (zp Qf)) (AW : HM P w K mg base cls "_law_made" (10 + 1 * n) ["_law_told_here"] [] false (zp R)) (Fe : HK P w K mg base cls "Both" 15 9 ["self", "wishes"] (zp J1)) (Eg : HK P w K mg base cls "Either" 16 9 ["self", "wishes"] (zp J1)) : FnOk P w K mg base yd (10 + 1 * n + 0 + 1) f fd ["_law_told_here"] (z7 ⟨K, cls⟩ [] false 1 (zp (zO [] 1 1 false (Vw R)))) := by
 have sc := zkt
 exact z5 F sc rfl fun c A o s H E hr => ⟨_, (zh (y7 (yj J6 J9 (ze (zW (zo 0) (ze zk) (fun _ _ => rfl))) (ze zV) (zQ _))
  (zm (zA (zM (Qh Bh (hr.mono (by omega)) rfl (zc (zW (zo 0) (ze zk) (fun _ _ => rfl)) (zc (zM (jZ rfl M.AU (ze (zW (zo 0) (ze zk) (fun _ _ => rfl))))) zf))))))
  yk)
 (zh (y7 (yj J6 J9 (ze (zW (zo 0) (ze zk) (fun _ _ => rfl))) (ze zV) (zQ _))
  (zm (zA (zM (Qh EG (hr.mono (by omega)) rfl (zc (zW (zo 0) (ze zk) (fun _ _ => rfl)) (zc (zM (jZ rfl M.AU (ze (zW (zo 0) (ze zk) (fun _ _ => rfl))))) zf))))))
  yk)
 (zh (y7 (yj J6 J9 (ze (zW (zo 0) (ze zk) (fun _ _ => rfl))) (ze zV) (zQ _))
  (zm (zA (zM (Qh Ef (hr.mono (by omega)) rfl (zc (zW (zo 0) (ze zk) (fun _ _ => rfl)) (zc (zW (zo 0) (ze zk) (fun _ _ => rfl)) (zc (zM (yG rfl (CompOk.of_b (N' := ["_law_house"]) (js := [none]) rfl (by kernel_rfl)) (by decide) (yf (zW (zo 0) (ze zk) (fun _ _ => rfl))) (fun _ _ _ _ _ => (zN (i := 0) (by decide) (show (["_law_house"] : List Str).Nodup by decide +kernel) rfl (Or.inl rfl) (Or.inr rfl))) (fun _ _ _ _ _ => yA) (fun _ _ _ _ _ => (zM (jZ rfl M.AU (zo 0)))))) zf)))))))
  yk)
 (zh (y7 (yj J6 J9 (ze (zW (zo 0) (ze zk) (fun _ _ => rfl))) (ze zV) (zQ _))
  (zm (zA (zM (Qh CH (hr.mono (by omega)) rfl (zc (zx AW (hr.mono (by omega)) rfl (zc (zW (zo 0) (ze zk) (fun _ _ => rfl)) zf)) (zc (zx AW (hr.mono (by omega)) rfl (zc (zW (zo 0) (ze zk) (fun _ _ => rfl)) zf)) zf))))))
  yk)
 (zh (Yn (i := 1) (by decide) rfl sc.nd rfl rfl (CompOk.of_b (N' := ["_law_one"]) (js := [none]) rfl (by kernel_rfl)) (by decide) (yf (zW (zo 0) (ze zk) (fun _ _ => rfl))) (fun _ _ _ _ _ => (zN (i := 0) (by decide) (show (["_law_one"] : List Str).Nodup by decide +kernel) rfl (Or.inl rfl) (Or.inr rfl))) (fun _ _ _ _ _ => yA) (fun _ _ _ _ _ => (zx AW (hr.mono (by omega)) rfl (zc (zz 0) zf))))
 (zh (y7 (yj J6 J9 (ze (zW (zo 0) (ze zk) (fun _ _ => rfl))) (ze zV) (zQ _))
  (zm (zA (zM (Qh Fe (hr.mono (by omega)) rfl (zc (zz 1) zf)))))
  yk)
 (zm (zA (zM (Qh Eg (hr.mono (by omega)) rfl (zc (zz 1) zf))))))))))), by unfold Vw zbb zba za_ za9 za8; infer_instance⟩
theorem zku : zy ["_law_tape_here", "_law_names_here", "_law_rest", "_law_found", "_law_k"] ["_law_tape_here", "_law_names_here"] (zq (top 38)) := by walk_at "s"
theorem zmc (F : Fun K "_law_some" "_law_some" (top 38) f fd) (M : z4 K mg cls ad) (Ae : HM P w K mg base cls "_law_take" 1 ["_law_tape_here", "_law_many"] [0] false (zp zr)) : FnOk P w K mg base yd 2 f fd ["_law_tape_here", "_law_names_here"] (z7 ⟨K, cls⟩ [0] false 2 (zp jU)) := by
 have sc := zku
 exact z5 F sc rfl fun c A o s H E hr => ⟨_, (zh (JD (i := 2) (by decide) sc.nd rfl (Or.inl rfl) (jZ rfl M.AU (zo 1)))
 (zh (JD (i := 3) (by decide) sc.nd rfl (Or.inl rfl) (ju zf))
 (zh (ZN cf rfl (JH rfl M.Bb (zc (y0 (ze zk) (ze (zL (j := 0) Ae (hr.mono (by omega)) rfl (zc (y3 rfl M.AQ (zo 1)) zf)))) zf)) (zN (i := 4) (by decide) sc.nd rfl (Or.inl rfl))
  (zm (yr (V3 3 (zeE 2 (zL (j := 0) Ae (hr.mono (by omega)) rfl (zc (y3 rfl M.AQ (zo 2)) zf)))))))
 (zm (zA (dv 3 (by decide))))))), by unfold R7 Vy Vx; infer_instance⟩
theorem ziH : zy ["_law_tape_here", "_law_names_here", "_law_kind", "_law_some_here", "_law_top", "_law_pairs", "_law_houses", "_law_each"] ["_law_tape_here", "_law_names_here"] (zq (top 39)) := by walk_at "s"
theorem zkv (F : Fun K "_law_plain" "_law_plain" (top 39) f fd) (M : z4 K mg cls ad) (Ae : HM P w K mg base cls "_law_take" 1 ["_law_tape_here", "_law_many"] [0] false (zp zr)) (BS : HM P w K mg base cls "_law_some" 2 ["_law_tape_here", "_law_names_here"] [0] false (zp jU)) : FnOk P w K mg base yd 3 f fd ["_law_tape_here", "_law_names_here"] (z7 ⟨K, cls⟩ [0] false 2 (zp ZT)) := by
 have sc := ziH
 exact z5 F sc rfl fun c A o s H E hr => ⟨_, (zh (yF (i := 2) (by decide) sc.nd rfl (Or.inl rfl) (zL (j := 0) Ae (hr.mono (by omega)) rfl (zc zk zf)))
 (zh (y7 (yj J6 J9 (zo 2) (ze zk) (zQ _))
  (zh (yF (i := 3) (by decide) sc.nd rfl (Or.inl rfl) (zL (j := 0) BS (hr.mono (by omega)) rfl (zc (zz 1) zf)))
 (zm (zA (UI (zc zV (zc (y0 (ze zk) (ze (zL (j := 0) Ae (hr.mono (by omega)) rfl (zc (y3 rfl M.AQ (zo 3)) zf)))) (zc (zz 3) zf)))))))
  yk)
 (zh (y7 (yj J6 J9 (zo 2) (ze zk) (zQ _))
  (zh (yF (i := 4) (by decide) sc.nd rfl (Or.inr rfl) (zW (ze (zM (ju (zc zk (zc zk (zc (zjv (ze zk) (ze zk)) zf)))))) (ze (zL (j := 0) Ae (hr.mono (by omega)) rfl (zc zk zf))) (fun _ _ => rfl)))
 (zh (Yn (i := 5) (by decide) rfl sc.nd rfl rfl (CompOk.of_b (N' := ["_law_name", "_law_tape_here", "_law_top"]) (js := [none, some 0, some 4]) rfl (by kernel_rfl)) (by decide) (yf (zL (j := 0) BS (hr.mono (by omega)) rfl (zc (zz 1) zf))) (fun _ _ _ _ _ => (zN (i := 0) (by decide) (show (["_law_name", "_law_tape_here", "_law_top"] : List Str).Nodup by decide +kernel) rfl (Or.inl rfl) (Or.inr rfl))) (fun _ _ _ _ _ => yA) (fun _ _ _ _ _ => (UI (zc (zz 0) (zc (y0 (ze zk) (ze (zL (j := 1) Ae (hr.mono (by omega)) rfl (zc (zz 2) zf)))) zf)))))
 (zm (zA (UI (zc zV (zc (y0 (ze zk) (ze (zL (j := 0) Ae (hr.mono (by omega)) rfl (zc (zaW rfl rfl M.Fo (ze (zM (yG rfl (CompOk.of_b (N' := ["_law_name", "_law_weight"]) (js := [none, none]) rfl (by kernel_rfl)) (by decide) (yf (zz 5)) (fun _ _ _ _ _ => (zpX (n := 2) rfl (zeA (zN (i := 0) (by decide) (show (["_law_name", "_law_weight"] : List Str).Nodup by decide +kernel) rfl (Or.inl rfl) (Or.inr rfl)) (zeA (zN (i := 1) (by decide) (show (["_law_name", "_law_weight"] : List Str).Nodup by decide +kernel) rfl (Or.inl rfl) (Or.inr rfl)) znR)))) (fun _ _ _ _ _ => yA) (fun _ _ _ _ _ => (zz 1)))))) zf)))) (zc (zz 5) zf))))))))
  yk)
 (zh (Yn (i := 6) (by decide) rfl sc.nd rfl rfl (CompOk.of_b (N' := ["_law_k", "_law_tape_here", "_law_names_here"]) (js := [none, some 0, some 1]) rfl (by kernel_rfl)) (by decide) (JH rfl M.Bb (zc (y0 (ze zk) (ze (zL (j := 0) Ae (hr.mono (by omega)) rfl (zc (zW (ze (zM (ju (zc zk (zc zk (zc zk zf)))))) (ze (zL (j := 0) Ae (hr.mono (by omega)) rfl (zc zk zf))) (fun _ _ => rfl)) zf)))) zf)) (fun _ _ _ _ _ => (zN (i := 0) (by decide) (show (["_law_k", "_law_tape_here", "_law_names_here"] : List Str).Nodup by decide +kernel) rfl (Or.inl rfl) (Or.inr rfl))) (fun _ _ _ _ _ => yA) (fun _ _ _ _ _ => (zL (j := 1) BS (hr.mono (by omega)) rfl (zc (zz 2) zf))))
 (zh (yF (i := 7) (by decide) sc.nd rfl (Or.inl rfl) (y0 (ze zk) (ze (zL (j := 0) Ae (hr.mono (by omega)) rfl (zc (zgX rfl rfl M.FC (ze (zM (yG rfl (CompOk.of_b (N' := ["_law_house"]) (js := [none]) rfl (by kernel_rfl)) (by decide) (yf (zz 6)) (fun _ _ _ _ _ => (zN (i := 0) (by decide) (show (["_law_house"] : List Str).Nodup by decide +kernel) rfl (Or.inl rfl) (Or.inr rfl))) (fun _ _ _ _ _ => yA) (fun _ _ _ _ _ => (y3 rfl M.AQ (zo 0))))))) zf)))))
 (zm (zA (UI (zc zV (zc (y0 (ze zk) (ze (zL (j := 0) Ae (hr.mono (by omega)) rfl (zc (y3 rfl M.AQ (zo 6)) zf)))) (zc (zz 7) (zc (zz 6) zf)))))))))))), by unfold zdb Rt Rs Up Uo ZF Um ZE ZD; infer_instance⟩
theorem zkw : zy ["_law_tape_here", "_law_names_here", "_law_deep", "_law_kind", "_law_word_here", "_law_many", "_law_one"] ["_law_tape_here", "_law_names_here", "_law_deep"] (zq (top 40)) := by walk_at "s"
theorem zmd (F : Fun K "_law_told" "_law_told" (top 40) f fd) (M : z4 K mg cls ad) {n : Nat} {R : Fn} (Ae : HM P w K mg base cls "_law_take" 1 ["_law_tape_here", "_law_many"] [0] false (zp zr)) (Dh : HM P w K mg base cls "_law_plain" 3 ["_law_tape_here", "_law_names_here"] [0] false (zp ZT)) (AX : HM P w K mg base cls "_law_told" (3 + 1 * n) ["_law_tape_here", "_law_names_here", "_law_deep"] [0] false (zp R)) : FnOk P w K mg base yd (3 + 1 * n + 0 + 1) f fd ["_law_tape_here", "_law_names_here", "_law_deep"] (z7 ⟨K, cls⟩ [0] false 3 (zp (zO [0] 3 4 false (YI R)))) := by
 have sc := zkw
 exact z5 F sc rfl fun c A o s H E hr => ⟨_, (zh (yF (i := 3) (by decide) sc.nd rfl (Or.inl rfl) (zL (j := 0) Ae (hr.mono (by omega)) rfl (zc zk zf)))
 (zh (y7 (Ud (YS (yj J6 J9 (zo 2) (ze zk) (zQ _)) (Yz (Ud (zaI (yj zdB zdQ (zo 3) (ze zk) (zQ _)) (zb8 (yj zdB zdQ (zo 2) (ze zk) (zQ _))))))))
  (zm (zA (zL (j := 0) Dh (hr.mono (by omega)) rfl (zc (zz 1) zf))))
  yk)
 (zh (y7 (Ud (YS (yj zdB zdQ (zo 3) (ze zk) (zQ _)) (Yz (yj J6 J9 (zo 2) (ze zk) (zQ _)))))
  (zh (yF (i := 4) (by decide) sc.nd rfl (Or.inl rfl) (zW (ze (zM (ju (zc zV (zc zV zf))))) (ze (zL (j := 0) Ae (hr.mono (by omega)) rfl (zc zk zf))) (fun _ _ => rfl)))
 (zh (yF (i := 5) (by decide) sc.nd rfl (Or.inl rfl) (zW (ze (zM (ju (zc zk (zc zk (zc zk (zc zk zf))))))) (ze (zL (j := 0) Ae (hr.mono (by omega)) rfl (zc zk zf))) (fun _ _ => rfl)))
 (zh (y7 (yj zhn zhW (zo 2) (ze zk) (zQ _))
  (zm (yF (i := 5) (by decide) sc.nd rfl (Or.inl rfl) (y0 (ze zk) (ze (znO rfl M.FN (ze (ZM (Jj J6 J9 (zo 2) (ze zk) (zQ _)) (QR (Jj zhn zhW (zo 5) (ze zk) (zQ _))))))))))
  yk)
 (zm (zA (UI (zc (zz 4) (zc (zM (yG rfl (CompOk.of_b (N' := ["_law_k", "_law_tape_here", "_law_names_here", "_law_deep"]) (js := [none, some 0, some 1, some 2]) rfl (by kernel_rfl)) (by decide) (JH rfl M.Bb (zc (zz 5) zf)) (fun _ _ _ _ _ => (zN (i := 0) (by decide) (show (["_law_k", "_law_tape_here", "_law_names_here", "_law_deep"] : List Str).Nodup by decide +kernel) rfl (Or.inl rfl) (Or.inr rfl))) (fun _ _ _ _ _ => yA) (fun _ _ _ _ _ => (zL (j := 1) AX (hr.mono (by omega)) rfl (zc (zz 2) (zc (zaG (zo 3) (ze zk)) zf)))))) zf))))))))
  yk)
 (zh (yF (i := 6) (by decide) sc.nd rfl (Or.inl rfl) (zL (j := 0) AX (hr.mono (by omega)) rfl (zc (zz 1) (zc (zaG (zo 2) (ze zk)) zf))))
 (zm (zA (UI (zc zV (zc (zz 6) (zc (zL (j := 0) AX (hr.mono (by omega)) rfl (zc (zz 1) (zc (zaG (zo 2) (ze zk)) zf))) zf)))))))))), by unfold YI zbi zbh zbg zbf zbe zbd zbc; infer_instance⟩
theorem zme : zy ["_law_tape_here", "_law_names_here", "_law_rest", "_law_found", "_law_k"] ["_law_tape_here", "_law_names_here"] (zq (top 42)) := by walk_at "s"
theorem zor (F : Fun K "_law_row" "_law_row" (top 42) f fd) (M : z4 K mg cls ad) (Ae : HM P w K mg base cls "_law_take" 1 ["_law_tape_here", "_law_many"] [0] false (zp zr)) : FnOk P w K mg base yd 2 f fd ["_law_tape_here", "_law_names_here"] (z7 ⟨K, cls⟩ [0] false 2 (zp Yr)) := by
 have sc := zme
 exact z5 F sc rfl fun c A o s H E hr => ⟨_, (zh (JD (i := 2) (by decide) sc.nd rfl (Or.inl rfl) (jZ rfl M.AU (zo 1)))
 (zh (JD (i := 3) (by decide) sc.nd rfl (Or.inl rfl) (ju zf))
 (zh (ZN cf rfl (JH rfl M.Bb (zc (zL (j := 0) Ae (hr.mono (by omega)) rfl (zc (y0 (ze (y3 rfl M.AQ (zo 1))) (ze zk)) zf)) zf)) (zN (i := 4) (by decide) sc.nd rfl (Or.inl rfl))
  (zm (yr (V3 3 (zeE 2 (zL (j := 0) Ae (hr.mono (by omega)) rfl (zc (y3 rfl M.AQ (zo 2)) zf)))))))
 (zm (zA (dv 3 (by decide))))))), by unfold zcm Wr Wq; infer_instance⟩
theorem zbL : zy ["self", "row"] ["self", "row"] (zq (zi (top 24) 2)) := by walk_at "s"
theorem zcy (F : Fun K "enough" "Count.enough" (zi (top 24) 2) f fd) (M : z4 K mg cls ad) : FnOk P w K mg base yd 1 f fd ["self", "row"] (z7 ⟨K, cls⟩ [] false 2 (zp Zt)) := by
 have sc := zbL
 exact z5 F sc rfl fun c A o s H E hr => ⟨_, (zm (zA (Jj zdC zdR (ze (y3 rfl M.AQ (ze (zM (yG rfl (CompOk.of_b (N' := ["name", "row"]) (js := [none, some 1]) rfl (by kernel_rfl)) (by decide) (yf (jC (f := 1) (by kernel_rfl) (by decide) M.BP (zo 0))) (fun _ _ _ _ _ => (zN (i := 0) (by decide) (show (["name", "row"] : List Str).Nodup by decide +kernel) rfl (Or.inl rfl) (Or.inr rfl))) (fun _ _ _ _ _ => (Ym (yj ZI WO (zo 0) (zo 1) (by with_unfolding_all rfl)))) (fun _ _ _ _ _ => (zz 0))))))) (ze (jC (f := 0) (by kernel_rfl) (by decide) M.BO (zo 0))) (zQ _)))), by unfold UQ; infer_instance⟩
theorem zbM : zy ["self", "row"] ["self", "row"] (zq (zi (top 25) 2)) := by walk_at "s"
theorem zcz (F : Fun K "enough" "Weigh.enough" (zi (top 25) 2) f fd) (M : z4 K mg cls ad) : FnOk P w K mg base yd 1 f fd ["self", "row"] (z7 ⟨K, cls⟩ [] false 2 (zp Zu)) := by
 have sc := zbM
 exact z5 F sc rfl fun c A o s H E hr => ⟨_, (zm (zA (Jj zdC zdR (ze (zaW rfl rfl M.Fo (ze (zM (yG rfl (CompOk.of_b (N' := ["pair", "row"]) (js := [none, some 1]) rfl (by kernel_rfl)) (by decide) (yf (jC (f := 3) (by kernel_rfl) (by decide) M.BQ (zo 0))) (fun _ _ _ _ _ => (zN (i := 0) (by decide) (show (["pair", "row"] : List Str).Nodup by decide +kernel) rfl (Or.inl rfl) (Or.inr rfl))) (fun _ _ _ _ _ => (Ym (yj ZI WO (ze (zW (zo 0) (ze zk) (fun _ _ => rfl))) (zo 1) (by with_unfolding_all rfl)))) (fun _ _ _ _ _ => (zW (zo 0) (ze zk) (fun _ _ => rfl)))))))) (ze (jC (f := 2) (by kernel_rfl) (by decide) M.CJ (zo 0))) (zQ _)))), by unfold UR; infer_instance⟩
theorem Uw : zy ["self", "house", "row"] ["self", "house", "row"] (zq (zi (top 26) 2)) := by walk_at "s"
theorem UV (F : Fun K "house_enough" "Houses.house_enough" (zi (top 26) 2) f fd) (M : z4 K mg cls ad) : FnOk P w K mg base yd 1 f fd ["self", "house", "row"] (z7 ⟨K, cls⟩ [] false 3 (zp jN)) := by
 have sc := Uw
 exact z5 F sc rfl fun c A o s H E hr => ⟨_, (zm (zA (Jj zdC zdR (ze (y3 rfl M.AQ (ze (zM (yG rfl (CompOk.of_b (N' := ["name", "row"]) (js := [none, some 2]) rfl (by kernel_rfl)) (by decide) (yf (zz 1)) (fun _ _ _ _ _ => (zN (i := 0) (by decide) (show (["name", "row"] : List Str).Nodup by decide +kernel) rfl (Or.inl rfl) (Or.inr rfl))) (fun _ _ _ _ _ => (Ym (yj ZI WO (zo 0) (zo 1) (by with_unfolding_all rfl)))) (fun _ _ _ _ _ => (zz 0))))))) (ze (jC (f := 4) (by kernel_rfl) (by decide) M.Ea (zo 0))) (zQ _)))), by unfold QI; infer_instance⟩
theorem zan : zy ["self", "row"] ["self", "row"] (zq (zi (top 26) 3)) := by walk_at "s"
theorem zbN (F : Fun K "enough" "Houses.enough" (zi (top 26) 3) f fd) (M : z4 K mg cls ad) (Bc : HD P w K mg base cls "house_enough" 1 ["self", "house", "row"] jO) : FnOk P w K mg base yd 2 f fd ["self", "row"] (z7 ⟨K, cls⟩ [] false 2 (zp Q0)) := by
 have sc := zan
 exact z5 F sc rfl fun c A o s H E hr => ⟨_, (zm (zA (Jj zdC zdR (ze (y3 rfl M.AQ (ze (zM (yG rfl (CompOk.of_b (N' := ["house", "row", "self"]) (js := [none, some 1, some 0]) rfl (by kernel_rfl)) (by decide) (yf (jC (f := 5) (by kernel_rfl) (by decide) M.Bv (zo 0))) (fun _ _ _ _ _ => (zN (i := 0) (by decide) (show (["house", "row", "self"] : List Str).Nodup by decide +kernel) rfl (Or.inl rfl) (Or.inr rfl))) (fun _ _ _ _ _ => (Ym (JZ (Zm Bc (hr.mono (by omega)) (zz 2) (zc (zz 0) (zc (zz 1) zf)))))) (fun _ _ _ _ _ => (zz 0))))))) (ze (jC (f := 0) (by kernel_rfl) (by decide) M.BO (zo 0))) (zQ _)))), by unfold Y6; infer_instance⟩
theorem zbO : zy ["wish", "row", "many"] ["wish", "row"] (zq (top 22)) := by walk_at "s"
theorem zcA (F : Fun K "first_enough" "first_enough" (top 22) f fd) (M : z4 K mg cls ad) (Di : HD P w K mg base cls "enough" 2 ["self", "row"] QJ) : FnOk P w K mg base yd 3 f fd ["wish", "row"] (z7 ⟨K, cls⟩ [] false 2 (zp jF)) := by
 have sc := zbO
 exact z5 F sc rfl fun c A o s H E hr => ⟨_, (zh (ZN cf rfl (zjx rfl M.Bb (zc zk (zc (y0 (ze (y3 rfl M.AQ (zo 1))) (ze zk)) zf))) (zN (i := 2) (by decide) sc.nd rfl (Or.inl rfl))
  (zm (y7 (JZ (Zm Di (hr.mono (by omega)) (zz 0) (zc (zM (YA (zo 1) Yk (QG (zz 2)))) zf)))
  (zm (zA (zz 2)))
  yk)))
 (zm (zA JY))), by unfold US jj; infer_instance⟩
theorem W7 : zy ["self", "row"] ["self", "row"] (zq (zi (top 24) 3)) := by walk_at "s"
theorem zao (F : Fun K "first_in" "Count.first_in" (zi (top 24) 3) f fd) (M : z4 K mg cls ad) (AI : HM P w K mg base cls "first_enough" 3 ["wish", "row"] [] false (zp jF)) : FnOk P w K mg base yd 4 f fd ["self", "row"] (z7 ⟨K, cls⟩ [] false 2 (zp jk)) := by
 have sc := W7
 exact z5 F sc rfl fun c A o s H E hr => ⟨_, (zm (zA (zx AI (hr.mono (by omega)) rfl (zc (zz 0) (zc (zz 1) zf))))), by unfold JV; infer_instance⟩
theorem W8 : zy ["self", "row"] ["self", "row"] (zq (zi (top 25) 3)) := by walk_at "s"
theorem zap (F : Fun K "first_in" "Weigh.first_in" (zi (top 25) 3) f fd) (M : z4 K mg cls ad) (AI : HM P w K mg base cls "first_enough" 3 ["wish", "row"] [] false (zp jF)) : FnOk P w K mg base yd 4 f fd ["self", "row"] (z7 ⟨K, cls⟩ [] false 2 (zp jk)) := by
 have sc := W8
 exact z5 F sc rfl fun c A o s H E hr => ⟨_, (zm (zA (zx AI (hr.mono (by omega)) rfl (zc (zz 0) (zc (zz 1) zf))))), by unfold JV; infer_instance⟩
theorem WB : zy ["self", "row"] ["self", "row"] (zq (zi (top 26) 4)) := by walk_at "s"
theorem W9 (F : Fun K "first_in" "Houses.first_in" (zi (top 26) 4) f fd) (M : z4 K mg cls ad) (AI : HM P w K mg base cls "first_enough" 3 ["wish", "row"] [] false (zp jF)) : FnOk P w K mg base yd 4 f fd ["self", "row"] (z7 ⟨K, cls⟩ [] false 2 (zp jk)) := by
 have sc := WB
 exact z5 F sc rfl fun c A o s H E hr => ⟨_, (zm (zA (zx AI (hr.mono (by omega)) rfl (zc (zz 0) (zc (zz 1) zf))))), by unfold JV; infer_instance⟩
theorem zaq : zy ["self", "row", "ahead", "behind"] ["self", "row"] (zq (zi (top 29) 2)) := by walk_at "s"
theorem zbP (F : Fun K "first_in" "Then.first_in" (zi (top 29) 2) f fd) (M : z4 K mg cls ad) {n : Nat} {R : Nat -> Option Fn} (AD : HD P w K mg base cls "first_in" (4 + 1 * n) ["self", "row"] R) : FnOk P w K mg base yd (4 + 1 * n + 0 + 1) f fd ["self", "row"] (z7 ⟨K, cls⟩ [] false 2 (zp (Q2 R))) := by
 have sc := zaq
 exact z5 F sc rfl fun c A o s H E hr => ⟨_, (zh (yF (i := 2) (by decide) sc.nd rfl (Or.inl rfl) (Zm AD (hr.mono (by omega)) (jC (f := 7) (by kernel_rfl) (by decide) M.Df (zo 0)) (zc (zz 1) zf)))
 (zh (y7 (yj zd7 zet (zo 2) (ze JY) (zQ _))
  (zm (zA JY))
  yk)
 (zh (yF (i := 3) (by decide) sc.nd rfl (Or.inl rfl) (Zm AD (hr.mono (by omega)) (jC (f := 8) (by kernel_rfl) (by decide) M.BR (zo 0)) (zc (zM (YA (zo 1) (QG (zz 2)) Yk)) zf)))
 (zm (zA (zmK (yj zd7 zet (zo 3) (ze JY) (zQ _)) JY (y0 (zo 2) (zo 3)))))))), by unfold Y7 Z5 Z4 Z3; infer_instance⟩
theorem WC : zy ["self", "row", "places"] ["self", "row"] (zq (zi (top 28) 2)) := by walk_at "s"
theorem Ra (F : Fun K "first_in" "Either.first_in" (zi (top 28) 2) f fd) (M : z4 K mg cls ad) {n : Nat} {R : Nat -> Option Fn} (AD : HD P w K mg base cls "first_in" (4 + 1 * n) ["self", "row"] R) : FnOk P w K mg base yd (4 + 1 * n + 0 + 1) f fd ["self", "row"] (z7 ⟨K, cls⟩ [] false 2 (zp (Qn R))) := by
 have sc := WC
 exact z5 F sc rfl fun c A o s H E hr => ⟨_, (zh (Yn (i := 2) (by decide) rfl sc.nd rfl rfl (CompOk.of_b (N' := ["wish", "row"]) (js := [none, some 1]) rfl (by kernel_rfl)) (by decide) (yf (jC (f := 6) (by kernel_rfl) (by decide) M.AT (zo 0))) (fun _ _ _ _ _ => (zN (i := 0) (by decide) (show (["wish", "row"] : List Str).Nodup by decide +kernel) rfl (Or.inl rfl) (Or.inr rfl))) (fun _ _ _ _ _ => yA) (fun _ _ _ _ _ => (Zm AD (hr.mono (by omega)) (zz 0) (zc (zz 1) zf))))
 (zm (zA (zn5 rfl rfl M.FC (ze (zM (yG rfl (CompOk.of_b (N' := ["place"]) (js := [none]) rfl (by kernel_rfl)) (by decide) (yf (zz 2)) (fun _ _ _ _ _ => (zN (i := 0) (by decide) (show (["place"] : List Str).Nodup by decide +kernel) rfl (Or.inl rfl) (Or.inr rfl))) (fun _ _ _ _ _ => (Ym (yj zbU zb5 (zo 0) (ze JY) (zQ _)))) (fun _ _ _ _ _ => (zz 0))))) (ze JY))))), by unfold Z6 Q8; infer_instance⟩
theorem zar : zy ["self", "row", "places"] ["self", "row"] (zq (zi (top 27) 2)) := by walk_at "s"
theorem zbQ (F : Fun K "first_in" "Both.first_in" (zi (top 27) 2) f fd) (M : z4 K mg cls ad) {n : Nat} {R : Nat -> Option Fn} (AD : HD P w K mg base cls "first_in" (4 + 1 * n) ["self", "row"] R) : FnOk P w K mg base yd (4 + 1 * n + 0 + 1) f fd ["self", "row"] (z7 ⟨K, cls⟩ [] false 2 (zp (Q3 R))) := by
 have sc := zar
 exact z5 F sc rfl fun c A o s H E hr => ⟨_, (zh (Yn (i := 2) (by decide) rfl sc.nd rfl rfl (CompOk.of_b (N' := ["wish", "row"]) (js := [none, some 1]) rfl (by kernel_rfl)) (by decide) (yf (jC (f := 6) (by kernel_rfl) (by decide) M.AT (zo 0))) (fun _ _ _ _ _ => (zN (i := 0) (by decide) (show (["wish", "row"] : List Str).Nodup by decide +kernel) rfl (Or.inl rfl) (Or.inr rfl))) (fun _ _ _ _ _ => yA) (fun _ _ _ _ _ => (Zm AD (hr.mono (by omega)) (zz 0) (zc (zz 1) zf))))
 (zm (zA (zmK (yj ZI WO (ze JY) (zo 2) (by with_unfolding_all rfl)) JY (zn1 rfl rfl M.FB (zo 2)))))), by unfold Y8 Z7; infer_instance⟩
theorem zf3 : zy ["wish", "row"] ["wish", "row"] (zq (top 30)) := by walk_at "s"
theorem ziI (F : Fun K "first_by" "first_by" (top 30) f fd) (M : z4 K mg cls ad) (AV : HM P w K mg base cls "is_row" 2 ["thing"] [] false (zp jv)) (AD : HD P w K mg base cls "first_in" 10 ["self", "row"] (yI 6)) : FnOk P w K mg base yd 11 f fd ["wish", "row"] (z7 ⟨K, cls⟩ [] false 2 (zp JW)) := by
 have sc := zf3
 exact z5 F sc rfl fun c A o s H E hr => ⟨_, (zh (y7 (Qo (JZ (zx AV (hr.mono (by omega)) rfl (zc (zz 1) zf))))
  (zm zez)
  yk)
 (zm (zA (Zm AD (hr.mono (by omega)) (zz 0) (zc (zz 1) zf))))), by unfold zbj Ws; infer_instance⟩
theorem zmf : zy ["wish", "row"] ["wish", "row"] (zq (top 31)) := by walk_at "s"
theorem zos (F : Fun K "holds" "holds" (top 31) f fd) (M : z4 K mg cls ad) (AZ : HM P w K mg base cls "first_by" 11 ["wish", "row"] [] false (zp JW)) : FnOk P w K mg base yd 12 f fd ["wish", "row"] (z7 ⟨K, cls⟩ [] false 2 (zp yo)) := by
 have sc := zmf
 exact z5 F sc rfl fun c A o s H E hr => ⟨_, (zm (zA (Jj zbU zb5 (ze (zx AZ (hr.mono (by omega)) rfl (zc (zz 0) (zc (zz 1) zf)))) (ze JY) (zQ _)))), by unfold zg2; infer_instance⟩
theorem zkx : zy ["_law_tape_here", "_law_wish", "_law_row_here", "_law_names_here", "_law_name", "_law_at"] ["_law_tape_here", "_law_wish", "_law_row_here", "_law_names_here"] (zq (top 44)) := by walk_at "s"
theorem zmg (F : Fun K "_law_more" "_law_more" (top 44) f fd) (M : z4 K mg cls ad) (Ae : HM P w K mg base cls "_law_take" 1 ["_law_tape_here", "_law_many"] [0] false (zp zr)) (AM : HM P w K mg base cls "holds" 12 ["wish", "row"] [] false (zp yo)) : FnOk P w K mg base yd 13 f fd ["_law_tape_here", "_law_wish", "_law_row_here", "_law_names_here"] (z7 ⟨K, cls⟩ [0] false 4 (zp QB)) := by
 have sc := zkx
 exact z5 F sc rfl fun c A o s H E hr => ⟨_, (zh (ZN cf rfl (yf (zz 3)) (zN (i := 4) (by decide) sc.nd rfl (Or.inl rfl))
  (zh (yF (i := 5) (by decide) sc.nd rfl (Or.inl rfl) (zL (j := 0) Ae (hr.mono (by omega)) rfl (zc (y0 (ze (y3 rfl M.AQ (zo 2))) (ze zk)) zf)))
 (zm (y7 (Ud (zaI (yj zeb WO (zo 4) (zo 2) (by with_unfolding_all rfl)) (zaI (JZ (zx AM (hr.mono (by omega)) rfl (zc (zz 1) (zc (zz 2) zf)))) (zb8 (Qo (JZ (zx AM (hr.mono (by omega)) rfl (zc (zz 1) (zc (zM (zaH (ze (zM (zaH (ze (zM (YA (zo 2) Yk (QG (zz 5))))) (ze (zM (ju (zc (zz 4) zf))))))) (ze (zM (YA (zo 2) (QG (zz 5)) Yk))))) zf)))))))))
  (zm (zA Qu))
  yk))))
 (zm (zA Qu))), by unfold zfm Yf zbk; infer_instance⟩
theorem ziJ : zy ["_law_wish", "_law_row_here", "_law_truths", "_law_first"] ["_law_wish", "_law_row_here"] (zq (top 43)) := by walk_at "s"
theorem zky (F : Fun K "_law_right" "_law_right" (top 43) f fd) (M : z4 K mg cls ad) (AM : HM P w K mg base cls "holds" 12 ["wish", "row"] [] false (zp yo)) (AZ : HM P w K mg base cls "first_by" 11 ["wish", "row"] [] false (zp JW)) : FnOk P w K mg base yd 13 f fd ["_law_wish", "_law_row_here"] (z7 ⟨K, cls⟩ [] false 2 (zp QK)) := by
 have sc := ziJ
 exact z5 F sc rfl fun c A o s H E hr => ⟨_, (zh (Yn (i := 2) (by decide) rfl sc.nd rfl rfl (CompOk.of_b (N' := ["_law_k", "_law_wish", "_law_row_here"]) (js := [none, some 0, some 1]) rfl (by kernel_rfl)) (by decide) (JH rfl M.Bb (zc (y0 (ze (y3 rfl M.AQ (zo 1))) (ze zk)) zf)) (fun _ _ _ _ _ => (zN (i := 0) (by decide) (show (["_law_k", "_law_wish", "_law_row_here"] : List Str).Nodup by decide +kernel) rfl (Or.inl rfl) (Or.inr rfl))) (fun _ _ _ _ _ => yA) (fun _ _ _ _ _ => (zx AM (hr.mono (by omega)) rfl (zc (zz 1) (zc (zM (YA (zo 2) Yk (QG (zz 0)))) zf)))))
 (zh (y7 (Ud (YS (zjw (ze (zW (zo 2) (ze zk) (fun _ _ => rfl)))) (Yz (yj (zpl (zrH hr)) zp2 (ze (zM (zlJ rfl M.Fm (zo 2)))) (zo 2) (zQ _)))))
  (zm (zA Qu))
  yk)
 (zh (yF (i := 3) (by decide) sc.nd rfl (Or.inl rfl) (zx AZ (hr.mono (by omega)) rfl (zc (zz 0) (zc (zz 1) zf))))
 (zh (y7 (yj zas zaD (ze (Jj zbU zb5 (zo 3) (ze JY) (zQ _))) (ze (zW (zo 2) (ze (zpV (ze zk))) (fun _ _ => rfl))) (zQ _))
  (zm (zA Qu))
  yk)
 (zm (zA (zqN (Jj zd7 zet (zo 3) (ze JY) (zQ _)) (QR (Jj J6 J9 (ze (zj1 (zo 2))) (zo 3) (zQ _)))))))))), by unfold zdc Rw Rv Uq Ru; infer_instance⟩
theorem zqu : zy ["_law_script", "_law_other", "_law_cell", "_law_tape_here", "_law_names_here", "_law_deep", "_law_wish", "_law_row_here", "_law_found"] ["_law_script"] (zq (top 45)) := by walk_at "s"
theorem zq4 (F : Fun K "law" "law" (top 45) f fd) (M : z4 K mg cls ad) (CH : HK P w K mg base cls "Then" 17 9 ["self", "one", "other"] (zp Qf)) (Bh : HK P w K mg base cls "Count" 12 4 ["self", "many", "names"] (zp jl)) (Cm : HM P w K mg base cls "_law_cell_at" 1 ["_law_script", "_law_k"] [] false (zp jY)) (Eh : HM P w K mg base cls "_law_tape" 1 ["_law_cell"] [] true (zp Zr)) (Dj : HM P w K mg base cls "_law_names" 3 ["_law_tape_here", "_law_many"] [0] false (zp QH)) (Ae : HM P w K mg base cls "_law_take" 1 ["_law_tape_here", "_law_many"] [0] false (zp zr)) (AW : HM P w K mg base cls "_law_made" 16 ["_law_told_here"] [] false (zp (jT 6))) (AX : HM P w K mg base cls "_law_told" 9 ["_law_tape_here", "_law_names_here", "_law_deep"] [0] false (zp (Js 6))) (EH : HM P w K mg base cls "_law_row" 2 ["_law_tape_here", "_law_names_here"] [0] false (zp Yr)) (Ei : HM P w K mg base cls "_law_more" 13 ["_law_tape_here", "_law_wish", "_law_row_here", "_law_names_here"] [0] false (zp QB)) (Dk : HM P w K mg base cls "_law_right" 13 ["_law_wish", "_law_row_here"] [] false (zp QK)) (AM : HM P w K mg base cls "holds" 12 ["wish", "row"] [] false (zp yo)) (Ay : HD P w K mg base cls "names_in" 7 ["self"] (zT 6)) (AJ : HD P w K mg base cls "depth" 7 ["self"] (jS 6)) : FnOk P w K mg base yd 17 f fd ["_law_script"] (z7 ⟨K, cls⟩ [] false 1 (zp zde)) := by
 have sc := zqu
 exact z5 F sc rfl fun c A o s H E hr => ⟨_, (zh (yF (i := 1) (by decide) sc.nd rfl (Or.inl rfl) (zM (Qh CH (hr.mono (by omega)) rfl (zc (zM (Qh Bh (hr.mono (by omega)) rfl (zc zk (zc (zM (ju (zc zV zf))) zf)))) (zc (zM (Qh Bh (hr.mono (by omega)) rfl (zc zk (zc (zM (ju (zc zV zf))) zf)))) zf)))))
 (zh (ZN cf rfl (yf (zM (zaH (ze (zM (ju (zc (zx Cm (hr.mono (by omega)) rfl (zc (zz 0) (zc zk zf))) zf)))) (ze (zM (YA (zo 0) (QG zk) (QG zk))))))) (zN (i := 2) (by decide) sc.nd rfl (Or.inl rfl))
  (zh (JD (i := 3) (by decide) sc.nd rfl (Or.inl rfl) (znS Eh (hr.mono (by omega)) rfl (zc (zz 2) zf)))
 (zh (yF (i := 4) (by decide) sc.nd rfl (Or.inl rfl) (zL (j := 3) Dj (hr.mono (by omega)) rfl (zc zk zf)))
 (zh (yF (i := 5) (by decide) sc.nd rfl (Or.inl rfl) (y0 (ze zk) (ze (zL (j := 3) Ae (hr.mono (by omega)) rfl (zc zk zf)))))
 (zh (yF (i := 6) (by decide) sc.nd rfl (Or.inr rfl) (zx AW (hr.mono (by omega)) rfl (zc (zL (j := 3) AX (hr.mono (by omega)) rfl (zc (zM (YA (zo 4) Yk (QG (y0 (ze zk) (ze (zL (j := 3) Ae (hr.mono (by omega)) rfl (zc zk zf))))))) (zc (zz 5) zf))) zf)))
 (zh (yF (i := 7) (by decide) sc.nd rfl (Or.inl rfl) (zL (j := 3) EH (hr.mono (by omega)) rfl (zc (zz 4) zf)))
 (zh (y7 (Ud (YS (Qo (JZ (zx Dk (hr.mono (by omega)) rfl (zc (zz 6) (zc (zz 7) zf))))) (Yz (Qo (JZ (zL (j := 3) Ei (hr.mono (by omega)) rfl (zc (zz 6) (zc (zz 7) (zc (zz 4) zf)))))))))
  (zm (zA Qu))
  yk)
 (zh (yF (i := 8) (by decide) sc.nd rfl (Or.inl rfl) (zx AM (hr.mono (by omega)) rfl (zc (zz 6) (zc (zz 7) zf))))
 (zh (y7 (Ud (YS (JZ (zx AM (hr.mono (by omega)) rfl (zc (zz 1) (zc (zM (ju (zc zV (zc zV zf)))) zf)))) (YS (Qo (JZ (zx AM (hr.mono (by omega)) rfl (zc (zz 1) (zc (zM (ju (zc zV (zc zV zf)))) zf))))) (Yz (yj zas zaD (ze (zx AM (hr.mono (by omega)) rfl (zc (zz 6) (zc (zz 7) zf)))) (zo 8) (zQ _))))))
  (zm (zA Qu))
  yk)
 (zh (y7 (yj zas zaD (ze (zx AM (hr.mono (by omega)) rfl (zc (zz 6) (zc (zM (yG rfl (CompOk.of_b (N' := ["_law_name", "_law_wish"]) (js := [none, some 6]) rfl (by kernel_rfl)) (by decide) (yf (zz 7)) (fun _ _ _ _ _ => (zN (i := 0) (by decide) (show (["_law_name", "_law_wish"] : List Str).Nodup by decide +kernel) rfl (Or.inl rfl) (Or.inr rfl))) (fun _ _ _ _ _ => (Ym (yj ZI WO (zo 0) (ze (jR Ay (hr.mono (by omega)) (zz 1))) (by with_unfolding_all rfl)))) (fun _ _ _ _ _ => (zz 0)))) zf)))) (zo 8) (zQ _))
  (zm (zA Qu))
  yk)
 (zm (y7 (Ud (zaI (yj J6 J9 (ze (jR AJ (hr.mono (by omega)) (zz 6))) (ze zk) (zQ _)) (zb8 (yj zas zaD (ze (zx AM (hr.mono (by omega)) rfl (zc (zz 6) (zc (zM (zqc (zo 7))) zf)))) (zo 8) (zQ _)))))
  (zm (zA Qu))
  yk))))))))))))
 (zm (zA Qu)))), by unfold zdd Wt Q4 RD RC RB RA Us Rz Ur Ry Rx; infer_instance⟩
end
theorem all_mk {l : PySem.W.OpenLaw} {w : World} {K : ai} {h : Heap} {mg : Str -> Option Value} {fa : Addr} (X : K.In h) (G : h.Ns aS mg) (hfa : mg "law" = some (.ref fa))
 (CL : bq K aS "Count" = some (some (.ref Ac)))
 (Ej : br K Ac eO = true)
 (Ek : bw K Ac = true)
 (El : bF K Ac = true)
 (Em : aJ K (.ref Ac) "__setattr__" = some (some (.builtin "object.__setattr__")))
 (En : ce K Ac = true)
 (Eo : ba K (.ref Ac) = true)
 (Bw : FN0 K Ac "names")
 (Bx : FN0 K Ac "pairs")
 (Bi : FN0 K Ac "houses")
 (Bj : FN0 K Ac "wishes")
 (Co : FN0 K Ac "one")
 (By : FN0 K Ac "other")
 (BT : FN0 K Ac "many")
 (Bz : FN0 K Ac "least")
 (BU : FN0 K Ac "each")
 (Ep : aJ K (.ref Ac) "__class__" = some (some (.builtin "object.__class__")))
 (Er : cE K Ac (.type "object") = some true)
 (CM : bq K aS "Weigh" = some (some (.ref Ad)))
 (Es : br K Ad eO = true)
 (Et : bw K Ad = true)
 (Eu : bF K Ad = true)
 (Ev : aJ K (.ref Ad) "__setattr__" = some (some (.builtin "object.__setattr__")))
 (Ew : ce K Ad = true)
 (Ex : ba K (.ref Ad) = true)
 (BA : FN0 K Ad "names")
 (BB : FN0 K Ad "pairs")
 (Bk : FN0 K Ad "houses")
 (Bl : FN0 K Ad "wishes")
 (Cp : FN0 K Ad "one")
 (BC : FN0 K Ad "other")
 (BV : FN0 K Ad "many")
 (BD : FN0 K Ad "least")
 (BW : FN0 K Ad "each")
 (Ey : aJ K (.ref Ad) "__class__" = some (some (.builtin "object.__class__")))
 (Ez : cE K Ad (.type "object") = some true)
 (Ck : bq K aS "Houses" = some (some (.ref Aa)))
 (Dl : br K Aa eO = true)
 (Dm : bw K Aa = true)
 (Do : bF K Aa = true)
 (Dp : aJ K (.ref Aa) "__setattr__" = some (some (.builtin "object.__setattr__")))
 (Dq : ce K Aa = true)
 (Dr : ba K (.ref Aa) = true)
 (Bm : FN0 K Aa "names")
 (Bn : FN0 K Aa "pairs")
 (Bd : FN0 K Aa "houses")
 (Be : FN0 K Aa "wishes")
 (BX : FN0 K Aa "one")
 (Bo : FN0 K Aa "other")
 (BE : FN0 K Aa "many")
 (Bp : FN0 K Aa "least")
 (BF : FN0 K Aa "each")
 (Ds : aJ K (.ref Aa) "__class__" = some (some (.builtin "object.__class__")))
 (Dt : cE K Aa (.type "object") = some true)
 (Eb : bq K aS "Both" = some (some (.ref Af)))
 (EI : br K Af eO = true)
 (EJ : bw K Af = true)
 (EL : bF K Af = true)
 (EM : aJ K (.ref Af) "__setattr__" = some (some (.builtin "object.__setattr__")))
 (EN : ce K Af = true)
 (EO : ba K (.ref Af) = true)
 (BY : FN0 K Af "names")
 (BZ : FN0 K Af "pairs")
 (BG : FN0 K Af "houses")
 (BH : FN0 K Af "wishes")
 (CN : FN0 K Af "one")
 (Ca : FN0 K Af "other")
 (Cq : FN0 K Af "many")
 (Cb : FN0 K Af "least")
 (Cr : FN0 K Af "each")
 (EQ : aJ K (.ref Af) "__class__" = some (some (.builtin "object.__class__")))
 (ER : cE K Af (.type "object") = some true)
 (Cl : bq K aS "Either" = some (some (.ref Ab)))
 (Du : br K Ab eO = true)
 (Dv : bw K Ab = true)
 (Dw : bF K Ab = true)
 (Dx : aJ K (.ref Ab) "__setattr__" = some (some (.builtin "object.__setattr__")))
 (Dy : ce K Ab = true)
 (Dz : ba K (.ref Ab) = true)
 (Bq : FN0 K Ab "names")
 (Br : FN0 K Ab "pairs")
 (Bf : FN0 K Ab "houses")
 (Bg : FN0 K Ab "wishes")
 (Cc : FN0 K Ab "one")
 (Bs : FN0 K Ab "other")
 (BI : FN0 K Ab "many")
 (Bt : FN0 K Ab "least")
 (BJ : FN0 K Ab "each")
 (DB : aJ K (.ref Ab) "__class__" = some (some (.builtin "object.__class__")))
 (DC : cE K Ab (.type "object") = some true)
 (Ec : bq K aS "Then" = some (some (.ref Ah)))
 (ES : br K Ah eO = true)
 (ET : bw K Ah = true)
 (EU : bF K Ah = true)
 (EV : aJ K (.ref Ah) "__setattr__" = some (some (.builtin "object.__setattr__")))
 (EW : ce K Ah = true)
 (EX : ba K (.ref Ah) = true)
 (Cd : FN0 K Ah "names")
 (Ce : FN0 K Ah "pairs")
 (BK : FN0 K Ah "houses")
 (BL : FN0 K Ah "wishes")
 (CO : FN0 K Ah "one")
 (Cf : FN0 K Ah "other")
 (Cs : FN0 K Ah "many")
 (Cg : FN0 K Ah "least")
 (Ct : FN0 K Ah "each")
 (EY : aJ K (.ref Ah) "__class__" = some (some (.builtin "object.__class__")))
 (EZ : cE K Ah (.type "object") = some true)
 (wg : fc K (.builtin "object.__class__") "__get__" = some (some (.builtin "getset_descriptor.__get__")))
 (wt : fP K (.builtin "object.__class__") = some true)
 (An : aU K (.ref Ac) ([Ac, Ad, Aa, Af, Ab, Ah].map Value.ref) = some true)
 (Ao : aU K (.ref Ad) ([Ac, Ad, Aa, Af, Ab, Ah].map Value.ref) = some true)
 (Al : aU K (.ref Aa) ([Ac, Ad, Aa, Af, Ab, Ah].map Value.ref) = some true)
 (Ar : aU K (.ref Af) ([Ac, Ad, Aa, Af, Ab, Ah].map Value.ref) = some true)
 (Am : aU K (.ref Ab) ([Ac, Ad, Aa, Af, Ab, Ah].map Value.ref) = some true)
 (As : aU K (.ref Ah) ([Ac, Ad, Aa, Af, Ab, Ah].map Value.ref) = some true)
 (Ak : aU K (.type "NoneType") ([Ac, Ad, Aa, Af, Ab, Ah].map Value.ref) = some false)
 (At : aU K (.type "bool") ([Ac, Ad, Aa, Af, Ab, Ah].map Value.ref) = some false)
 (Aw : aU K (.type "int") ([Ac, Ad, Aa, Af, Ab, Ah].map Value.ref) = some false)
 (Ax : aU K (.type "str") ([Ac, Ad, Aa, Af, Ab, Ah].map Value.ref) = some false)
 (Au : aU K (.type "list") ([Ac, Ad, Aa, Af, Ab, Ah].map Value.ref) = some false)
 (Ap : aU K (.type "tuple") ([Ac, Ad, Aa, Af, Ab, Ah].map Value.ref) = some false)
 (Av : aU K (.type "dict") ([Ac, Ad, Aa, Af, Ab, Ah].map Value.ref) = some false)
 (a1 : NI K "demand" f1) (l1 : LK K f1 oc1 od1 "demand" "demand" (top 19) kV1 dc1 pm1 an1 cd1 ct1 sl1) (c1 : CI K cd1 "demand") (k1 : KI K f1)
 (a2 : NI K "is_wish" f2) (l2 : LK K f2 oc2 od2 "is_wish" "is_wish" (top 14) kV2 dc2 pm2 an2 cd2 ct2 sl2) (c2 : CI K cd2 "is_wish") (k2 : KI K f2)
 (DD : FI K Ac "own_names" f3)
  (i3 : aI K (.ref f3) = true) (l3 : LK K f3 oc3 od3 "own_names" "Count.own_names" (zi (top 24) 1) kV3 dc3 pm3 an3 cd3 ct3 sl3) (c3 : CI K cd3 "Count.own_names") (k3 : KI K f3)
 (DH : FI K Ad "own_names" f4)
  (i4 : aI K (.ref f4) = true) (l4 : LK K f4 oc4 od4 "own_names" "Weigh.own_names" (zi (top 25) 1) kV4 dc4 pm4 an4 cd4 ct4 sl4) (c4 : CI K cd4 "Weigh.own_names") (k4 : KI K f4)
 (CP : FI K Aa "own_names" f5)
  (i5 : aI K (.ref f5) = true) (l5 : LK K f5 oc5 od5 "own_names" "Houses.own_names" (zi (top 26) 1) kV5 dc5 pm5 an5 cd5 ct5 sl5) (c5 : CI K cd5 "Houses.own_names") (k5 : KI K f5)
 (EA : FI K Af "own_names" f6)
 (CQ : FI K Ab "own_names" f6)
 (EB : FI K Ah "own_names" f6)
  (i6 : aI K (.ref f6) = true) (l6 : LK K f6 oc6 od6 "own_names" "Wish.own_names" (zi (top 23) 0) kV6 dc6 pm6 an6 cd6 ct6 sl6) (c6 : CI K cd6 "Wish.own_names") (k6 : KI K f6)
 (DJ : FI K Ac "made_of" f7)
 (DK : FI K Ad "made_of" f7)
 (CS : FI K Aa "made_of" f7)
  (i7 : aI K (.ref f7) = true) (l7 : LK K f7 oc7 od7 "made_of" "Wish.made_of" (zi (top 23) 1) kV7 dc7 pm7 an7 cd7 ct7 sl7) (c7 : CI K cd7 "Wish.made_of") (k7 : KI K f7)
 (EC : FI K Af "made_of" f8)
  (i8 : aI K (.ref f8) = true) (l8 : LK K f8 oc8 od8 "made_of" "Both.made_of" (zi (top 27) 1) kV8 dc8 pm8 an8 cd8 ct8 sl8) (c8 : CI K cd8 "Both.made_of") (k8 : KI K f8)
 (CT : FI K Ab "made_of" f9)
  (i9 : aI K (.ref f9) = true) (l9 : LK K f9 oc9 od9 "made_of" "Either.made_of" (zi (top 28) 1) kV9 dc9 pm9 an9 cd9 ct9 sl9) (c9 : CI K cd9 "Either.made_of") (k9 : KI K f9)
 (DL : FI K Ah "made_of" f10)
  (i10 : aI K (.ref f10) = true) (l10 : LK K f10 oc10 od10 "made_of" "Then.made_of" (zi (top 29) 1) kV10 dc10 pm10 an10 cd10 ct10 sl10) (c10 : CI K cd10 "Then.made_of") (k10 : KI K f10)
 (CU : FI K Ac "names_in" f11)
 (CV : FI K Ad "names_in" f11)
 (Cu : FI K Aa "names_in" f11)
 (DM : FI K Af "names_in" f11)
 (Cv : FI K Ab "names_in" f11)
 (DN : FI K Ah "names_in" f11)
  (i11 : aI K (.ref f11) = true) (l11 : LK K f11 oc11 od11 "names_in" "Wish.names_in" (zi (top 23) 2) kV11 dc11 pm11 an11 cd11 ct11 sl11) (c11 : CI K cd11 "Wish.names_in") (k11 : KI K f11)
 (CW : FI K Ac "depth" f12)
 (CY : FI K Ad "depth" f12)
 (Cw : FI K Aa "depth" f12)
 (DR : FI K Af "depth" f12)
 (Cy : FI K Ab "depth" f12)
 (DU : FI K Ah "depth" f12)
  (i12 : aI K (.ref f12) = true) (l12 : LK K f12 oc12 od12 "depth" "Wish.depth" (zi (top 23) 3) kV12 dc12 pm12 an12 cd12 ct12 sl12) (c12 : CI K cd12 "Wish.depth") (k12 : KI K f12)
 (CZ : FI K Ac "parts_many" f13)
 (Da : FI K Ad "parts_many" f13)
 (Cz : FI K Aa "parts_many" f13)
 (DV : FI K Af "parts_many" f13)
 (CA : FI K Ab "parts_many" f13)
 (DX : FI K Ah "parts_many" f13)
  (i13 : aI K (.ref f13) = true) (l13 : LK K f13 oc13 od13 "parts_many" "Wish.parts_many" (zi (top 23) 4) kV13 dc13 pm13 an13 cd13 ct13 sl13) (c13 : CI K cd13 "Wish.parts_many") (k13 : KI K f13)
 (a14 : NI K "demand_size" f14) (l14 : LK K f14 oc14 od14 "demand_size" "demand_size" (top 21) kV14 dc14 pm14 an14 cd14 ct14 sl14) (c14 : CI K cd14 "demand_size") (k14 : KI K f14)
 (a15 : FI K Ah "__init__" f15) (i15 : aI K (.ref f15) = true) (l15 : LK K f15 oc15 od15 "__init__" "Then.__init__" (zi (top 29) 0) kV15 dc15 pm15 an15 cd15 ct15 sl15) (c15 : CI K cd15 "Then.__init__") (k15 : KI K f15)
 (a16 : NI K "is_name" f16) (l16 : LK K f16 oc16 od16 "is_name" "is_name" (top 12) kV16 dc16 pm16 an16 cd16 ct16 sl16) (c16 : CI K cd16 "is_name") (k16 : KI K f16)
 (a17 : NI K "is_row" f17) (l17 : LK K f17 oc17 od17 "is_row" "is_row" (top 13) kV17 dc17 pm17 an17 cd17 ct17 sl17) (c17 : CI K cd17 "is_row") (k17 : KI K f17)
 (a18 : NI K "is_short_list" f18) (l18 : LK K f18 oc18 od18 "is_short_list" "is_short_list" (top 16) kV18 dc18 pm18 an18 cd18 ct18 sl18) (c18 : CI K cd18 "is_short_list") (k18 : KI K f18)
 (a19 : NI K "is_short_row" f19) (l19 : LK K f19 oc19 od19 "is_short_row" "is_short_row" (top 17) kV19 dc19 pm19 an19 cd19 ct19 sl19) (c19 : CI K cd19 "is_short_row") (k19 : KI K f19)
 (a20 : NI K "is_whole" f20) (l20 : LK K f20 oc20 od20 "is_whole" "is_whole" (top 11) kV20 dc20 pm20 an20 cd20 ct20 sl20) (c20 : CI K cd20 "is_whole") (k20 : KI K f20)
 (a21 : NI K "is_up_to" f21) (l21 : LK K f21 oc21 od21 "is_up_to" "is_up_to" (top 15) kV21 dc21 pm21 an21 cd21 ct21 sl21) (c21 : CI K cd21 "is_up_to") (k21 : KI K f21)
 (a22 : FI K Ac "__init__" f22) (i22 : aI K (.ref f22) = true) (l22 : LK K f22 oc22 od22 "__init__" "Count.__init__" (zi (top 24) 0) kV22 dc22 pm22 an22 cd22 ct22 sl22) (c22 : CI K cd22 "Count.__init__") (k22 : KI K f22)
 (a23 : NI K "_law_cell_at" f23) (l23 : LK K f23 oc23 od23 "_law_cell_at" "_law_cell_at" (top 33) kV23 dc23 pm23 an23 cd23 ct23 sl23) (c23 : CI K cd23 "_law_cell_at") (k23 : KI K f23)
 (a24 : NI K "_law_tape" f24) (l24 : LK K f24 oc24 od24 "_law_tape" "_law_tape" (top 34) kV24 dc24 pm24 an24 cd24 ct24 sl24) (c24 : CI K cd24 "_law_tape") (k24 : KI K f24)
 (a25 : NI K "_law_take" f25) (l25 : LK K f25 oc25 od25 "_law_take" "_law_take" (top 35) kV25 dc25 pm25 an25 cd25 ct25 sl25) (c25 : CI K cd25 "_law_take") (k25 : KI K f25)
 (a26 : NI K "_law_word" f26) (l26 : LK K f26 oc26 od26 "_law_word" "_law_word" (top 36) kV26 dc26 pm26 an26 cd26 ct26 sl26) (c26 : CI K cd26 "_law_word") (k26 : KI K f26)
 (a27 : NI K "_law_names" f27) (l27 : LK K f27 oc27 od27 "_law_names" "_law_names" (top 37) kV27 dc27 pm27 an27 cd27 ct27 sl27) (c27 : CI K cd27 "_law_names") (k27 : KI K f27)
 (a28 : NI K "is_pair" f28) (l28 : LK K f28 oc28 od28 "is_pair" "is_pair" (top 18) kV28 dc28 pm28 an28 cd28 ct28 sl28) (c28 : CI K cd28 "is_pair") (k28 : KI K f28)
 (a29 : FI K Ad "__init__" f29) (i29 : aI K (.ref f29) = true) (l29 : LK K f29 oc29 od29 "__init__" "Weigh.__init__" (zi (top 25) 0) kV29 dc29 pm29 an29 cd29 ct29 sl29) (c29 : CI K cd29 "Weigh.__init__") (k29 : KI K f29)
 (a30 : FI K Aa "__init__" f30) (i30 : aI K (.ref f30) = true) (l30 : LK K f30 oc30 od30 "__init__" "Houses.__init__" (zi (top 26) 0) kV30 dc30 pm30 an30 cd30 ct30 sl30) (c30 : CI K cd30 "Houses.__init__") (k30 : KI K f30)
 (a31 : NI K "demand_wishes" f31) (l31 : LK K f31 oc31 od31 "demand_wishes" "demand_wishes" (top 20) kV31 dc31 pm31 an31 cd31 ct31 sl31) (c31 : CI K cd31 "demand_wishes") (k31 : KI K f31)
 (a32 : FI K Af "__init__" f32) (i32 : aI K (.ref f32) = true) (l32 : LK K f32 oc32 od32 "__init__" "Both.__init__" (zi (top 27) 0) kV32 dc32 pm32 an32 cd32 ct32 sl32) (c32 : CI K cd32 "Both.__init__") (k32 : KI K f32)
 (a33 : FI K Ab "__init__" f33) (i33 : aI K (.ref f33) = true) (l33 : LK K f33 oc33 od33 "__init__" "Either.__init__" (zi (top 28) 0) kV33 dc33 pm33 an33 cd33 ct33 sl33) (c33 : CI K cd33 "Either.__init__") (k33 : KI K f33)
 (a34 : NI K "_law_made" f34) (l34 : LK K f34 oc34 od34 "_law_made" "_law_made" (top 41) kV34 dc34 pm34 an34 cd34 ct34 sl34) (c34 : CI K cd34 "_law_made") (k34 : KI K f34)
 (a35 : NI K "_law_some" f35) (l35 : LK K f35 oc35 od35 "_law_some" "_law_some" (top 38) kV35 dc35 pm35 an35 cd35 ct35 sl35) (c35 : CI K cd35 "_law_some") (k35 : KI K f35)
 (a36 : NI K "_law_plain" f36) (l36 : LK K f36 oc36 od36 "_law_plain" "_law_plain" (top 39) kV36 dc36 pm36 an36 cd36 ct36 sl36) (c36 : CI K cd36 "_law_plain") (k36 : KI K f36)
 (a37 : NI K "_law_told" f37) (l37 : LK K f37 oc37 od37 "_law_told" "_law_told" (top 40) kV37 dc37 pm37 an37 cd37 ct37 sl37) (c37 : CI K cd37 "_law_told") (k37 : KI K f37)
 (a38 : NI K "_law_row" f38) (l38 : LK K f38 oc38 od38 "_law_row" "_law_row" (top 42) kV38 dc38 pm38 an38 cd38 ct38 sl38) (c38 : CI K cd38 "_law_row") (k38 : KI K f38)
 (Db : FI K Ac "enough" f39)
  (i39 : aI K (.ref f39) = true) (l39 : LK K f39 oc39 od39 "enough" "Count.enough" (zi (top 24) 2) kV39 dc39 pm39 an39 cd39 ct39 sl39) (c39 : CI K cd39 "Count.enough") (k39 : KI K f39)
 (Dc : FI K Ad "enough" f40)
  (i40 : aI K (.ref f40) = true) (l40 : LK K f40 oc40 od40 "enough" "Weigh.enough" (zi (top 25) 2) kV40 dc40 pm40 an40 cd40 ct40 sl40) (c40 : CI K cd40 "Weigh.enough") (k40 : KI K f40)
 (CB : FI K Aa "house_enough" f41)
  (i41 : aI K (.ref f41) = true) (l41 : LK K f41 oc41 od41 "house_enough" "Houses.house_enough" (zi (top 26) 2) kV41 dc41 pm41 an41 cd41 ct41 sl41) (c41 : CI K cd41 "Houses.house_enough") (k41 : KI K f41)
 (CC : FI K Aa "enough" f42)
  (i42 : aI K (.ref f42) = true) (l42 : LK K f42 oc42 od42 "enough" "Houses.enough" (zi (top 26) 3) kV42 dc42 pm42 an42 cd42 ct42 sl42) (c42 : CI K cd42 "Houses.enough") (k42 : KI K f42)
 (a43 : NI K "first_enough" f43) (l43 : LK K f43 oc43 od43 "first_enough" "first_enough" (top 22) kV43 dc43 pm43 an43 cd43 ct43 sl43) (c43 : CI K cd43 "first_enough") (k43 : KI K f43)
 (Dd : FI K Ac "first_in" f44)
  (i44 : aI K (.ref f44) = true) (l44 : LK K f44 oc44 od44 "first_in" "Count.first_in" (zi (top 24) 3) kV44 dc44 pm44 an44 cd44 ct44 sl44) (c44 : CI K cd44 "Count.first_in") (k44 : KI K f44)
 (De : FI K Ad "first_in" f45)
  (i45 : aI K (.ref f45) = true) (l45 : LK K f45 oc45 od45 "first_in" "Weigh.first_in" (zi (top 25) 3) kV45 dc45 pm45 an45 cd45 ct45 sl45) (c45 : CI K cd45 "Weigh.first_in") (k45 : KI K f45)
 (CD : FI K Aa "first_in" f46)
  (i46 : aI K (.ref f46) = true) (l46 : LK K f46 oc46 od46 "first_in" "Houses.first_in" (zi (top 26) 4) kV46 dc46 pm46 an46 cd46 ct46 sl46) (c46 : CI K cd46 "Houses.first_in") (k46 : KI K f46)
 (DY : FI K Ah "first_in" f47)
  (i47 : aI K (.ref f47) = true) (l47 : LK K f47 oc47 od47 "first_in" "Then.first_in" (zi (top 29) 2) kV47 dc47 pm47 an47 cd47 ct47 sl47) (c47 : CI K cd47 "Then.first_in") (k47 : KI K f47)
 (CF : FI K Ab "first_in" f48)
  (i48 : aI K (.ref f48) = true) (l48 : LK K f48 oc48 od48 "first_in" "Either.first_in" (zi (top 28) 2) kV48 dc48 pm48 an48 cd48 ct48 sl48) (c48 : CI K cd48 "Either.first_in") (k48 : KI K f48)
 (DZ : FI K Af "first_in" f49)
  (i49 : aI K (.ref f49) = true) (l49 : LK K f49 oc49 od49 "first_in" "Both.first_in" (zi (top 27) 2) kV49 dc49 pm49 an49 cd49 ct49 sl49) (c49 : CI K cd49 "Both.first_in") (k49 : KI K f49)
 (a50 : NI K "first_by" f50) (l50 : LK K f50 oc50 od50 "first_by" "first_by" (top 30) kV50 dc50 pm50 an50 cd50 ct50 sl50) (c50 : CI K cd50 "first_by") (k50 : KI K f50)
 (a51 : NI K "holds" f51) (l51 : LK K f51 oc51 od51 "holds" "holds" (top 31) kV51 dc51 pm51 an51 cd51 ct51 sl51) (c51 : CI K cd51 "holds") (k51 : KI K f51)
 (a52 : NI K "_law_more" f52) (l52 : LK K f52 oc52 od52 "_law_more" "_law_more" (top 44) kV52 dc52 pm52 an52 cd52 ct52 sl52) (c52 : CI K cd52 "_law_more") (k52 : KI K f52)
 (a53 : NI K "_law_right" f53) (l53 : LK K f53 oc53 od53 "_law_right" "_law_right" (top 43) kV53 dc53 pm53 an53 cd53 ct53 sl53) (c53 : CI K cd53 "_law_right") (k53 : KI K f53)
 (a54 : NI K "law" f54) (l54 : LK K f54 oc54 od54 "law" "law" (top 45) kV54 dc54 pm54 an54 cd54 ct54 sl54) (c54 : CI K cd54 "law") (k54 : KI K f54)
 (Ch : NZ K "isinstance")
 (Ff : NZ K "list")
 (ED : NZ K "sorted")
 (Fr : NZ K "set")
 (Ft : NZ K "max")
 (Fu : NZ K "sum")
 (Fv : NZ K "len")
 (Fw : NZ K "str")
 (Fx : NZ K "all")
 (Fy : NZ K "int")
 (Fg : NZ K "bool")
 (Fa : NZ K "range")
 (Fb : NZ K "tuple")
 (Fz : NZ K "min")
 {t_MOST_NAMES t_MOST_DEEP t_MOST_PARTS t_LONGEST_NAME t_MOST_LISTED t_MOST_WEIGHT : Tok}
 (Ci : bq K aS "MOST_NAMES" = some (some (.int 5 t_MOST_NAMES)))
 (CG : bq K aS "MOST_DEEP" = some (some (.int 4 t_MOST_DEEP)))
 (Cj : bq K aS "MOST_PARTS" = some (some (.int 12 t_MOST_PARTS)))
 (Bu : bq K aS "LONGEST_NAME" = some (some (.int 8 t_LONGEST_NAME)))
 (BM : bq K aS "MOST_LISTED" = some (some (.int 5 t_MOST_LISTED)))
 (BN : bq K aS "MOST_WEIGHT" = some (some (.int 1000000000 t_MOST_WEIGHT)))
 : ∃ fd : FuncData, (∀ (s : Shared) (v : Value), BindsTo s fd ⟨[v], []⟩ [("_law_script", v)]) /\ ∀ base : Heap, K.In base -> base.Ns aS mg -> FnOk l.prog w K mg base yd 17 fa fd ["_law_script"] (zaM K) := by
 have e := hfa.symm.trans (av X G a54)
 cases e
 obtain ⟨cls, hcls⟩ : ∃ c : Nat -> Option Addr, c = (fun n : Nat => cK n [(12, Ac), (13, Ad), (14, Aa), (15, Af), (16, Ab), (17, Ah)]) := ⟨_, rfl⟩
 have sp : ∀ c C, cls c = some C -> (c = 12 /\ C = Ac) \/ (c = 13 /\ C = Ad) \/ (c = 14 /\ C = Aa) \/ (c = 15 /\ C = Af) \/ (c = 16 /\ C = Ab) \/ (c = 17 /\ C = Ah) := fun c C h => by
  rw [hcls] at h
  have hm := zjB h
  simpa only [aB, Prod.mk.injEq, bO, or_false] using hm
 have FK : cls 12 = some Ac := by rw [hcls]; rfl
 have FL : cls 13 = some Ad := by rw [hcls]; rfl
 have FF : cls 14 = some Aa := by rw [hcls]; rfl
 have FR : cls 15 = some Af := by rw [hcls]; rfl
 have FG : cls 16 = some Ab := by rw [hcls]; rfl
 have FS : cls 17 = some Ah := by rw [hcls]; rfl
 have F1 := zE (st := (top 19)) l1 c1 k1
 have b1 := F1.binds (ps := ["right", "words"]) fun _ _ _ _ _ _ u h => match u, h with | [_, _], _ => rfl
 have F2 := zE (st := (top 14)) l2 c2 k2
 have b2 := F2.binds (ps := ["thing"]) fun _ _ _ _ _ _ u h => match u, h with | [_], _ => rfl
 have F3 := zE (st := (zi (top 24) 1)) l3 c3 k3
 have b3 := F3.binds (ps := ["self"]) fun _ _ _ _ _ _ u h => match u, h with | [_], _ => rfl
 have F4 := zE (st := (zi (top 25) 1)) l4 c4 k4
 have b4 := F4.binds (ps := ["self"]) fun _ _ _ _ _ _ u h => match u, h with | [_], _ => rfl
 have F5 := zE (st := (zi (top 26) 1)) l5 c5 k5
 have b5 := F5.binds (ps := ["self"]) fun _ _ _ _ _ _ u h => match u, h with | [_], _ => rfl
 have F6 := zE (st := (zi (top 23) 0)) l6 c6 k6
 have b6 := F6.binds (ps := ["self"]) fun _ _ _ _ _ _ u h => match u, h with | [_], _ => rfl
 have F7 := zE (st := (zi (top 23) 1)) l7 c7 k7
 have b7 := F7.binds (ps := ["self"]) fun _ _ _ _ _ _ u h => match u, h with | [_], _ => rfl
 have F8 := zE (st := (zi (top 27) 1)) l8 c8 k8
 have b8 := F8.binds (ps := ["self"]) fun _ _ _ _ _ _ u h => match u, h with | [_], _ => rfl
 have F9 := zE (st := (zi (top 28) 1)) l9 c9 k9
 have b9 := F9.binds (ps := ["self"]) fun _ _ _ _ _ _ u h => match u, h with | [_], _ => rfl
 have F10 := zE (st := (zi (top 29) 1)) l10 c10 k10
 have b10 := F10.binds (ps := ["self"]) fun _ _ _ _ _ _ u h => match u, h with | [_], _ => rfl
 have F11 := zE (st := (zi (top 23) 2)) l11 c11 k11
 have b11 := F11.binds (ps := ["self"]) fun _ _ _ _ _ _ u h => match u, h with | [_], _ => rfl
 have F12 := zE (st := (zi (top 23) 3)) l12 c12 k12
 have b12 := F12.binds (ps := ["self"]) fun _ _ _ _ _ _ u h => match u, h with | [_], _ => rfl
 have F13 := zE (st := (zi (top 23) 4)) l13 c13 k13
 have b13 := F13.binds (ps := ["self"]) fun _ _ _ _ _ _ u h => match u, h with | [_], _ => rfl
 have F14 := zE (st := (top 21)) l14 c14 k14
 have b14 := F14.binds (ps := ["wish"]) fun _ _ _ _ _ _ u h => match u, h with | [_], _ => rfl
 have F15 := zE (st := (zi (top 29) 0)) l15 c15 k15
 have b15 := F15.binds (ps := ["self", "one", "other"]) fun _ _ _ _ _ _ u h => match u, h with | [_, _, _], _ => rfl
 have F16 := zE (st := (top 12)) l16 c16 k16
 have b16 := F16.binds (ps := ["thing"]) fun _ _ _ _ _ _ u h => match u, h with | [_], _ => rfl
 have F17 := zE (st := (top 13)) l17 c17 k17
 have b17 := F17.binds (ps := ["thing"]) fun _ _ _ _ _ _ u h => match u, h with | [_], _ => rfl
 have F18 := zE (st := (top 16)) l18 c18 k18
 have b18 := F18.binds (ps := ["thing"]) fun _ _ _ _ _ _ u h => match u, h with | [_], _ => rfl
 have F19 := zE (st := (top 17)) l19 c19 k19
 have b19 := F19.binds (ps := ["thing"]) fun _ _ _ _ _ _ u h => match u, h with | [_], _ => rfl
 have F20 := zE (st := (top 11)) l20 c20 k20
 have b20 := F20.binds (ps := ["thing"]) fun _ _ _ _ _ _ u h => match u, h with | [_], _ => rfl
 have F21 := zE (st := (top 15)) l21 c21 k21
 have b21 := F21.binds (ps := ["thing", "most"]) fun _ _ _ _ _ _ u h => match u, h with | [_, _], _ => rfl
 have F22 := zE (st := (zi (top 24) 0)) l22 c22 k22
 have b22 := F22.binds (ps := ["self", "many", "names"]) fun _ _ _ _ _ _ u h => match u, h with | [_, _, _], _ => rfl
 have F23 := zE (st := (top 33)) l23 c23 k23
 have b23 := F23.binds (ps := ["_law_script", "_law_k"]) fun _ _ _ _ _ _ u h => match u, h with | [_, _], _ => rfl
 have F24 := zE (st := (top 34)) l24 c24 k24
 have b24 := F24.binds (ps := ["_law_cell"]) fun _ _ _ _ _ _ u h => match u, h with | [_], _ => rfl
 have F25 := zE (st := (top 35)) l25 c25 k25
 have b25 := F25.binds (ps := ["_law_tape_here", "_law_many"]) fun _ _ _ _ _ _ u h => match u, h with | [_, _], _ => rfl
 have F26 := zE (st := (top 36)) l26 c26 k26
 have b26 := F26.binds (ps := ["_law_tape_here", "_law_k"]) fun _ _ _ _ _ _ u h => match u, h with | [_, _], _ => rfl
 have F27 := zE (st := (top 37)) l27 c27 k27
 have b27 := F27.binds (ps := ["_law_tape_here", "_law_many"]) fun _ _ _ _ _ _ u h => match u, h with | [_, _], _ => rfl
 have F28 := zE (st := (top 18)) l28 c28 k28
 have b28 := F28.binds (ps := ["thing"]) fun _ _ _ _ _ _ u h => match u, h with | [_], _ => rfl
 have F29 := zE (st := (zi (top 25) 0)) l29 c29 k29
 have b29 := F29.binds (ps := ["self", "least", "pairs"]) fun _ _ _ _ _ _ u h => match u, h with | [_, _, _], _ => rfl
 have F30 := zE (st := (zi (top 26) 0)) l30 c30 k30
 have b30 := F30.binds (ps := ["self", "many", "each", "houses"]) fun _ _ _ _ _ _ u h => match u, h with | [_, _, _, _], _ => rfl
 have F31 := zE (st := (top 20)) l31 c31 k31
 have b31 := F31.binds (ps := ["wishes"]) fun _ _ _ _ _ _ u h => match u, h with | [_], _ => rfl
 have F32 := zE (st := (zi (top 27) 0)) l32 c32 k32
 have b32 := F32.binds (ps := ["self", "wishes"]) fun _ _ _ _ _ _ u h => match u, h with | [_, _], _ => rfl
 have F33 := zE (st := (zi (top 28) 0)) l33 c33 k33
 have b33 := F33.binds (ps := ["self", "wishes"]) fun _ _ _ _ _ _ u h => match u, h with | [_, _], _ => rfl
 have F34 := zE (st := (top 41)) l34 c34 k34
 have b34 := F34.binds (ps := ["_law_told_here"]) fun _ _ _ _ _ _ u h => match u, h with | [_], _ => rfl
 have F35 := zE (st := (top 38)) l35 c35 k35
 have b35 := F35.binds (ps := ["_law_tape_here", "_law_names_here"]) fun _ _ _ _ _ _ u h => match u, h with | [_, _], _ => rfl
 have F36 := zE (st := (top 39)) l36 c36 k36
 have b36 := F36.binds (ps := ["_law_tape_here", "_law_names_here"]) fun _ _ _ _ _ _ u h => match u, h with | [_, _], _ => rfl
 have F37 := zE (st := (top 40)) l37 c37 k37
 have b37 := F37.binds (ps := ["_law_tape_here", "_law_names_here", "_law_deep"]) fun _ _ _ _ _ _ u h => match u, h with | [_, _, _], _ => rfl
 have F38 := zE (st := (top 42)) l38 c38 k38
 have b38 := F38.binds (ps := ["_law_tape_here", "_law_names_here"]) fun _ _ _ _ _ _ u h => match u, h with | [_, _], _ => rfl
 have F39 := zE (st := (zi (top 24) 2)) l39 c39 k39
 have b39 := F39.binds (ps := ["self", "row"]) fun _ _ _ _ _ _ u h => match u, h with | [_, _], _ => rfl
 have F40 := zE (st := (zi (top 25) 2)) l40 c40 k40
 have b40 := F40.binds (ps := ["self", "row"]) fun _ _ _ _ _ _ u h => match u, h with | [_, _], _ => rfl
 have F41 := zE (st := (zi (top 26) 2)) l41 c41 k41
 have b41 := F41.binds (ps := ["self", "house", "row"]) fun _ _ _ _ _ _ u h => match u, h with | [_, _, _], _ => rfl
 have F42 := zE (st := (zi (top 26) 3)) l42 c42 k42
 have b42 := F42.binds (ps := ["self", "row"]) fun _ _ _ _ _ _ u h => match u, h with | [_, _], _ => rfl
 have F43 := zE (st := (top 22)) l43 c43 k43
 have b43 := F43.binds (ps := ["wish", "row"]) fun _ _ _ _ _ _ u h => match u, h with | [_, _], _ => rfl
 have F44 := zE (st := (zi (top 24) 3)) l44 c44 k44
 have b44 := F44.binds (ps := ["self", "row"]) fun _ _ _ _ _ _ u h => match u, h with | [_, _], _ => rfl
 have F45 := zE (st := (zi (top 25) 3)) l45 c45 k45
 have b45 := F45.binds (ps := ["self", "row"]) fun _ _ _ _ _ _ u h => match u, h with | [_, _], _ => rfl
 have F46 := zE (st := (zi (top 26) 4)) l46 c46 k46
 have b46 := F46.binds (ps := ["self", "row"]) fun _ _ _ _ _ _ u h => match u, h with | [_, _], _ => rfl
 have F47 := zE (st := (zi (top 29) 2)) l47 c47 k47
 have b47 := F47.binds (ps := ["self", "row"]) fun _ _ _ _ _ _ u h => match u, h with | [_, _], _ => rfl
 have F48 := zE (st := (zi (top 28) 2)) l48 c48 k48
 have b48 := F48.binds (ps := ["self", "row"]) fun _ _ _ _ _ _ u h => match u, h with | [_, _], _ => rfl
 have F49 := zE (st := (zi (top 27) 2)) l49 c49 k49
 have b49 := F49.binds (ps := ["self", "row"]) fun _ _ _ _ _ _ u h => match u, h with | [_, _], _ => rfl
 have F50 := zE (st := (top 30)) l50 c50 k50
 have b50 := F50.binds (ps := ["wish", "row"]) fun _ _ _ _ _ _ u h => match u, h with | [_, _], _ => rfl
 have F51 := zE (st := (top 31)) l51 c51 k51
 have b51 := F51.binds (ps := ["wish", "row"]) fun _ _ _ _ _ _ u h => match u, h with | [_, _], _ => rfl
 have F52 := zE (st := (top 44)) l52 c52 k52
 have b52 := F52.binds (ps := ["_law_tape_here", "_law_wish", "_law_row_here", "_law_names_here"]) fun _ _ _ _ _ _ u h => match u, h with | [_, _, _, _], _ => rfl
 have F53 := zE (st := (top 43)) l53 c53 k53
 have b53 := F53.binds (ps := ["_law_wish", "_law_row_here"]) fun _ _ _ _ _ _ u h => match u, h with | [_, _], _ => rfl
 have F54 := zE (st := (top 45)) l54 c54 k54
 have b54 := F54.binds (ps := ["_law_script"]) fun _ _ _ _ _ _ u h => match u, h with | [_], _ => rfl
 have AF : Cls K Ac := ⟨Ej, Ek, El, Em⟩
 have AG : Cls K Ad := ⟨Es, Et, Eu, Ev⟩
 have Az : Cls K Aa := ⟨Dl, Dm, Do, Dp⟩
 have AK : Cls K Af := ⟨EI, EJ, EL, EM⟩
 have AE : Cls K Ab := ⟨Du, Dv, Dw, Dx⟩
 have AL : Cls K Ah := ⟨ES, ET, EU, EV⟩
 have ow_Count : Wi K Ac := ⟨AF, Ep, wg, wt, Er⟩
 have ow_Weigh : Wi K Ad := ⟨AG, Ey, wg, wt, Ez⟩
 have ow_Houses : Wi K Aa := ⟨Az, Ds, wg, wt, Dt⟩
 have ow_Both : Wi K Af := ⟨AK, EQ, wg, wt, ER⟩
 have ow_Either : Wi K Ab := ⟨AE, DB, wg, wt, DC⟩
 have ow_Then : Wi K Ah := ⟨AL, EY, wg, wt, EZ⟩
 have M : z4 K mg cls (fun n : Nat => [0, 0, 0, 0, 0, 0, 0, 0, 0, 0, 0, 0, Ac, Ad, Aa, Af, Ab, Ah, 0, 0, 0, 0].getD n 0) := by
  refine ⟨aQ X G Ch, aQ X G Ff, aQ X G ED, aQ X G Fr, aQ X G Ft, aQ X G Fu, aQ X G Fv, aQ X G Fw, aQ X G Fx, aQ X G Fy, aQ X G Fg, aQ X G Fa, aQ X G Fb, aQ X G Fz, ⟨t_MOST_NAMES, av X G Ci⟩, ⟨t_MOST_DEEP, av X G CG⟩, ⟨t_MOST_PARTS, av X G Cj⟩, ⟨t_LONGEST_NAME, av X G Bu⟩, ⟨t_MOST_LISTED, av X G BM⟩, ⟨t_MOST_WEIGHT, av X G BN⟩, ?BP, ?BQ, ?Bv, ?AT, ?Df, ?BR, ?BO, ?CJ, ?Ea, av X G CL, av X G CM, av X G Ck, av X G Eb, av X G Cl, av X G Ec, ?AC⟩
  case BP =>
   intro c C h11 h
   walk_at "q"
   · exact ⟨AF, Bw⟩
   · exact ⟨AG, BA⟩
   · exact ⟨Az, Bm⟩
   · exact ⟨AK, BY⟩
   · exact ⟨AE, Bq⟩
   · exact ⟨AL, Cd⟩
  case BQ =>
   intro c C h11 h
   walk_at "q"
   · exact ⟨AF, Bx⟩
   · exact ⟨AG, BB⟩
   · exact ⟨Az, Bn⟩
   · exact ⟨AK, BZ⟩
   · exact ⟨AE, Br⟩
   · exact ⟨AL, Ce⟩
  case Bv =>
   intro c C h11 h
   walk_at "q"
   · exact ⟨AF, Bi⟩
   · exact ⟨AG, Bk⟩
   · exact ⟨Az, Bd⟩
   · exact ⟨AK, BG⟩
   · exact ⟨AE, Bf⟩
   · exact ⟨AL, BK⟩
  case AT =>
   intro c C h11 h
   walk_at "q"
   · exact ⟨AF, Bj⟩
   · exact ⟨AG, Bl⟩
   · exact ⟨Az, Be⟩
   · exact ⟨AK, BH⟩
   · exact ⟨AE, Bg⟩
   · exact ⟨AL, BL⟩
  case Df =>
   intro c C h11 h
   walk_at "q"
   · exact ⟨AF, Co⟩
   · exact ⟨AG, Cp⟩
   · exact ⟨Az, BX⟩
   · exact ⟨AK, CN⟩
   · exact ⟨AE, Cc⟩
   · exact ⟨AL, CO⟩
  case BR =>
   intro c C h11 h
   walk_at "q"
   · exact ⟨AF, By⟩
   · exact ⟨AG, BC⟩
   · exact ⟨Az, Bo⟩
   · exact ⟨AK, Ca⟩
   · exact ⟨AE, Bs⟩
   · exact ⟨AL, Cf⟩
  case BO =>
   intro c C h11 h
   walk_at "q"
   · exact ⟨AF, BT⟩
   · exact ⟨AG, BV⟩
   · exact ⟨Az, BE⟩
   · exact ⟨AK, Cq⟩
   · exact ⟨AE, BI⟩
   · exact ⟨AL, Cs⟩
  case CJ =>
   intro c C h11 h
   walk_at "q"
   · exact ⟨AF, Bz⟩
   · exact ⟨AG, BD⟩
   · exact ⟨Az, Bp⟩
   · exact ⟨AK, Cb⟩
   · exact ⟨AE, Bt⟩
   · exact ⟨AL, Cg⟩
  case Ea =>
   intro c C h11 h
   walk_at "q"
   · exact ⟨AF, BU⟩
   · exact ⟨AG, BW⟩
   · exact ⟨Az, BF⟩
   · exact ⟨AK, Cr⟩
   · exact ⟨AE, BJ⟩
   · exact ⟨AL, Ct⟩
  case AC =>
   refine ⟨?_, ?_⟩
   · intro c C b h hb
     walk_at "q"
     · cases Yp hb (c := true) rfl; exact ⟨ow_Count, An⟩
     · cases Yp hb (c := true) rfl; exact ⟨ow_Weigh, Ao⟩
     · cases Yp hb (c := true) rfl; exact ⟨ow_Houses, Al⟩
     · cases Yp hb (c := true) rfl; exact ⟨ow_Both, Ar⟩
     · cases Yp hb (c := true) rfl; exact ⟨ow_Either, Am⟩
     · cases Yp hb (c := true) rfl; exact ⟨ow_Then, As⟩
   · intro a ha
     simp only [zaT, aB, bO, or_false] at ha
     rcases ha with rfl | rfl | rfl | rfl | rfl | rfl | rfl
     · exact Ak
     · exact At
     · exact Aw
     · exact Ax
     · exact Au
     · exact Ap
     · exact Av
 refine ⟨cO "law" "law" (Yg (top 45)) (QE (top 45)) (zq (top 45)) .none kV54 dc54 pm54 an54 cd54 ct54, fun s v => .of_eq rfl, fun base _ _ => ?_⟩
 have Aj : HM l.prog w K mg base cls "demand" 1 ["right", "words"] [] false (zp zZ) := ⟨⟨_, _, (zl7 F1 M).mono (by omega), b1, k1, av X G a1⟩, fun _ _ h => zD h⟩
 have AY : HM l.prog w K mg base cls "is_wish" 1 ["thing"] [] false (zp Jm) := ⟨⟨_, _, (zkl F2 M).mono (by omega), b2, k2, av X G a2⟩, fun _ _ h => zD h⟩
 have AN : HD l.prog w K mg base cls "own_names" 1 ["self"] Qe := by
  refine ⟨J0 (by decide +kernel), fun c C F hc hF => ?_, fun c F ss q hF h => ?_⟩
  · walk_at "p"
    · walk_at "t"; exact ⟨AF, f3, _, ⟨DD, i3, k3⟩, (WZ F3 M).mono (by omega), b3⟩
    · walk_at "t"; exact ⟨AG, f4, _, ⟨DH, i4, k4⟩, (W0 F4 M).mono (by omega), b4⟩
    · walk_at "t"; exact ⟨Az, f5, _, ⟨CP, i5, k5⟩, (Wx F5 M).mono (by omega), b5⟩
    · walk_at "t"; exact ⟨AK, f6, _, ⟨EA, i6, k6⟩, (QD F6 M).mono (by omega), b6⟩
    · walk_at "t"; exact ⟨AE, f6, _, ⟨CQ, i6, k6⟩, (QD F6 M).mono (by omega), b6⟩
    · walk_at "t"; exact ⟨AL, f6, _, ⟨EB, i6, k6⟩, (QD F6 M).mono (by omega), b6⟩
  · unfold Qe at hF; split at hF <;> first | (cases hF; exact zD h) | cases hF
 have Ai : HD l.prog w K mg base cls "made_of" 1 ["self"] jH := by
  refine ⟨J0 (by decide +kernel), fun c C F hc hF => ?_, fun c F ss q hF h => ?_⟩
  · walk_at "p"
    · walk_at "t"; exact ⟨AF, f7, _, ⟨DJ, i7, k7⟩, (Zx F7 M).mono (by omega), b7⟩
    · walk_at "t"; exact ⟨AG, f7, _, ⟨DK, i7, k7⟩, (Zx F7 M).mono (by omega), b7⟩
    · walk_at "t"; exact ⟨Az, f7, _, ⟨CS, i7, k7⟩, (Zx F7 M).mono (by omega), b7⟩
    · walk_at "t"; exact ⟨AK, f8, _, ⟨EC, i8, k8⟩, (zcu F8 M).mono (by omega), b8⟩
    · walk_at "t"; exact ⟨AE, f9, _, ⟨CT, i9, k9⟩, (zaf F9 M).mono (by omega), b9⟩
    · walk_at "t"; exact ⟨AL, f10, _, ⟨DL, i10, k10⟩, (zcv F10 M).mono (by omega), b10⟩
  · unfold jH at hF; split at hF <;> first | (cases hF; exact zD h) | cases hF
 have EE : ∀ n, HD l.prog w K mg base cls "names_in" (1 + 1 * n) ["self"] (zT n) := by
  intro n
  induction n with
  | zero => exact ⟨J0 (by decide +kernel), fun c C F hc hF => (nomatch hF), fun c F ss q hF => (nomatch hF)⟩
  | succ n Ay =>
   show HD l.prog w K mg base cls "names_in" (1 + 1 * (n + 1)) ["self"] (YH (zT n))
   refine ⟨J0 (by decide +kernel), fun c C F hc hF => ?_, fun c F ss q hF h => ?_⟩
   · walk_at "p"
     · walk_at "t"; exact ⟨AF, f11, _, ⟨CU, i11, k11⟩, (jP F11 M AN Ai Ay).mono (by omega), b11⟩
     · walk_at "t"; exact ⟨AG, f11, _, ⟨CV, i11, k11⟩, (jP F11 M AN Ai Ay).mono (by omega), b11⟩
     · walk_at "t"; exact ⟨Az, f11, _, ⟨Cu, i11, k11⟩, (jP F11 M AN Ai Ay).mono (by omega), b11⟩
     · walk_at "t"; exact ⟨AK, f11, _, ⟨DM, i11, k11⟩, (jP F11 M AN Ai Ay).mono (by omega), b11⟩
     · walk_at "t"; exact ⟨AE, f11, _, ⟨Cv, i11, k11⟩, (jP F11 M AN Ai Ay).mono (by omega), b11⟩
     · walk_at "t"; exact ⟨AL, f11, _, ⟨DN, i11, k11⟩, (jP F11 M AN Ai Ay).mono (by omega), b11⟩
   · unfold YH at hF; split at hF <;> first | (cases hF; exact zD h) | cases hF
 have Ay : HD l.prog w K mg base cls "names_in" 7 ["self"] (zT 6) := EE 6
 have Fh : ∀ n, HD l.prog w K mg base cls "depth" (1 + 1 * n) ["self"] (jS n) := by
  intro n
  induction n with
  | zero => exact ⟨J0 (by decide +kernel), fun c C F hc hF => (nomatch hF), fun c F ss q hF => (nomatch hF)⟩
  | succ n AJ =>
   show HD l.prog w K mg base cls "depth" (1 + 1 * (n + 1)) ["self"] (Wl (jS n))
   refine ⟨J0 (by decide +kernel), fun c C F hc hF => ?_, fun c F ss q hF h => ?_⟩
   · walk_at "p"
     · walk_at "t"; exact ⟨AF, f12, _, ⟨CW, i12, k12⟩, (JB F12 M Ai AJ).mono (by omega), b12⟩
     · walk_at "t"; exact ⟨AG, f12, _, ⟨CY, i12, k12⟩, (JB F12 M Ai AJ).mono (by omega), b12⟩
     · walk_at "t"; exact ⟨Az, f12, _, ⟨Cw, i12, k12⟩, (JB F12 M Ai AJ).mono (by omega), b12⟩
     · walk_at "t"; exact ⟨AK, f12, _, ⟨DR, i12, k12⟩, (JB F12 M Ai AJ).mono (by omega), b12⟩
     · walk_at "t"; exact ⟨AE, f12, _, ⟨Cy, i12, k12⟩, (JB F12 M Ai AJ).mono (by omega), b12⟩
     · walk_at "t"; exact ⟨AL, f12, _, ⟨DU, i12, k12⟩, (JB F12 M Ai AJ).mono (by omega), b12⟩
   · unfold Wl at hF; split at hF <;> first | (cases hF; exact zD h) | cases hF
 have AJ : HD l.prog w K mg base cls "depth" 7 ["self"] (jS 6) := Fh 6
 have Ed : ∀ n, HD l.prog w K mg base cls "parts_many" (1 + 1 * n) ["self"] (jh n) := by
  intro n
  induction n with
  | zero => exact ⟨J0 (by decide +kernel), fun c C F hc hF => (nomatch hF), fun c F ss q hF => (nomatch hF)⟩
  | succ n AA =>
   show HD l.prog w K mg base cls "parts_many" (1 + 1 * (n + 1)) ["self"] (Zq (jh n))
   refine ⟨J0 (by decide +kernel), fun c C F hc hF => ?_, fun c F ss q hF h => ?_⟩
   · walk_at "p"
     · walk_at "t"; exact ⟨AF, f13, _, ⟨CZ, i13, k13⟩, (jy F13 M Ai AA).mono (by omega), b13⟩
     · walk_at "t"; exact ⟨AG, f13, _, ⟨Da, i13, k13⟩, (jy F13 M Ai AA).mono (by omega), b13⟩
     · walk_at "t"; exact ⟨Az, f13, _, ⟨Cz, i13, k13⟩, (jy F13 M Ai AA).mono (by omega), b13⟩
     · walk_at "t"; exact ⟨AK, f13, _, ⟨DV, i13, k13⟩, (jy F13 M Ai AA).mono (by omega), b13⟩
     · walk_at "t"; exact ⟨AE, f13, _, ⟨CA, i13, k13⟩, (jy F13 M Ai AA).mono (by omega), b13⟩
     · walk_at "t"; exact ⟨AL, f13, _, ⟨DX, i13, k13⟩, (jy F13 M Ai AA).mono (by omega), b13⟩
   · unfold Zq at hF; split at hF <;> first | (cases hF; exact zD h) | cases hF
 have AA : HD l.prog w K mg base cls "parts_many" 7 ["self"] (jh 6) := Ed 6
 have AB : HM l.prog w K mg base cls "demand_size" 8 ["wish"] [] false (zp ya) := ⟨⟨_, _, (zdA F14 M Aj Ay AJ AA).mono (by omega), b14, k14, av X G a14⟩, fun _ _ h => zD h⟩
 have CH : HK l.prog w K mg base cls "Then" 17 9 ["self", "one", "other"] (zp Qf) := ⟨⟨Ah, _, _, FS, ⟨EW, a15, i15, EX⟩, (zbG F15 M Aj AY AB).mono (by omega), b15, av X G Ec⟩, fun _ _ h => zD h⟩
 have Ba : HM l.prog w K mg base cls "is_name" 1 ["thing"] [] false (zp jK) := ⟨⟨_, _, (zkm F16 M).mono (by omega), b16, k16, av X G a16⟩, fun _ _ h => zD h⟩
 have AV : HM l.prog w K mg base cls "is_row" 2 ["thing"] [] false (zp jv) := ⟨⟨_, _, (zl8 F17 M Ba).mono (by omega), b17, k17, av X G a17⟩, fun _ _ h => zD h⟩
 have Aq : HM l.prog w K mg base cls "is_short_list" 1 ["thing"] [] false (zp zY) := ⟨⟨_, _, (zbH F18 M).mono (by omega), b18, k18, av X G a18⟩, fun _ _ h => zD h⟩
 have AR : HM l.prog w K mg base cls "is_short_row" 3 ["thing"] [] false (zp jE) := ⟨⟨_, _, (zcx F19 M AV Aq).mono (by omega), b19, k19, av X G a19⟩, fun _ _ h => zD h⟩
 have CK : HM l.prog w K mg base cls "is_whole" 1 ["thing"] [] false (zp Qi) := ⟨⟨_, _, (ziD F20 M).mono (by omega), b20, k20, av X G a20⟩, fun _ _ h => zD h⟩
 have AH : HM l.prog w K mg base cls "is_up_to" 2 ["thing", "most"] [] false (zp yX) := ⟨⟨_, _, (ziE F21 M CK).mono (by omega), b21, k21, av X G a21⟩, fun _ _ h => zD h⟩
 have Bh : HK l.prog w K mg base cls "Count" 12 4 ["self", "many", "names"] (zp jl) := ⟨⟨Ac, _, _, FK, ⟨En, a22, i22, Eo⟩, (zaj F22 M Aj AR AH).mono (by omega), b22, av X G CL⟩, fun _ _ h => zD h⟩
 have Cm : HM l.prog w K mg base cls "_law_cell_at" 1 ["_law_script", "_law_k"] [] false (zp jY) := ⟨⟨_, _, (zf2 F23 M).mono (by omega), b23, k23, av X G a23⟩, fun _ _ h => zD h⟩
 have Eh : HM l.prog w K mg base cls "_law_tape" 1 ["_law_cell"] [] true (zp Zr) := ⟨⟨_, _, (zl9 F24 M).mono (by omega), b24, k24, av X G a24⟩, fun _ _ h => zD h⟩
 have Ae : HM l.prog w K mg base cls "_law_take" 1 ["_law_tape_here", "_law_many"] [0] false (zp zr) := ⟨⟨_, _, (zl_ F25 M).mono (by omega), b25, k25, av X G a25⟩, fun _ _ h => zD h⟩
 have Ee : HM l.prog w K mg base cls "_law_word" 2 ["_law_tape_here", "_law_k"] [0] false (zp QA) := ⟨⟨_, _, (zma F26 M Ae).mono (by omega), b26, k26, av X G a26⟩, fun _ _ h => zD h⟩
 have Dj : HM l.prog w K mg base cls "_law_names" 3 ["_law_tape_here", "_law_many"] [0] false (zp QH) := ⟨⟨_, _, (zkr F27 M Ae Ee).mono (by omega), b27, k27, av X G a27⟩, fun _ _ h => zD h⟩
 have Dg : HM l.prog w K mg base cls "is_pair" 3 ["thing"] [] false (zp ZS) := ⟨⟨_, _, (zks F28 M AH Ba).mono (by omega), b28, k28, av X G a28⟩, fun _ _ h => zD h⟩
 have EG : HK l.prog w K mg base cls "Weigh" 13 4 ["self", "least", "pairs"] (zp Yq) := ⟨⟨Ad, _, _, FL, ⟨Ew, a29, i29, Ex⟩, (zak F29 M Aj Aq Dg AV AH).mono (by omega), b29, av X G CM⟩, fun _ _ h => zD h⟩
 have Ef : HK l.prog w K mg base cls "Houses" 14 9 ["self", "many", "each", "houses"] (zp Zs) := ⟨⟨Aa, _, _, FF, ⟨Dq, a30, i30, Dr⟩, (W5 F30 M Aj Aq AR AH AB).mono (by omega), b30, av X G Ck⟩, fun _ _ h => zD h⟩
 have AO : HM l.prog w K mg base cls "demand_wishes" 2 ["wishes"] [] false (zp jM) := ⟨⟨_, _, (zbJ F31 M Aj Aq AY).mono (by omega), b31, k31, av X G a31⟩, fun _ _ h => zD h⟩
 have Fe : HK l.prog w K mg base cls "Both" 15 9 ["self", "wishes"] (zp J1) := ⟨⟨Af, _, _, FR, ⟨EN, a32, i32, EO⟩, (zbK F32 M AO AB).mono (by omega), b32, av X G Eb⟩, fun _ _ h => zD h⟩
 have Eg : HK l.prog w K mg base cls "Either" 16 9 ["self", "wishes"] (zp J1) := ⟨⟨Ab, _, _, FG, ⟨Dy, a33, i33, Dz⟩, (W6 F33 M AO AB).mono (by omega), b33, av X G Cl⟩, fun _ _ h => zD h⟩
 have Fi : ∀ n, HM l.prog w K mg base cls "_law_made" (10 + 1 * n) ["_law_told_here"] [] false (zp (jT n)) := by
  intro n
  induction n with
  | zero => exact ⟨⟨_, _, FnOk.no, b34, k34, av X G a34⟩, fun _ _ h => zgZ h⟩
  | succ n AW =>
   exact ⟨⟨_, _, (zmb F34 M Bh EG Ef CH AW Fe Eg).mono (by omega), b34, k34, av X G a34⟩, fun _ _ h => zD h⟩
 have AW : HM l.prog w K mg base cls "_law_made" 16 ["_law_told_here"] [] false (zp (jT 6)) := Fi 6
 have BS : HM l.prog w K mg base cls "_law_some" 2 ["_law_tape_here", "_law_names_here"] [0] false (zp jU) := ⟨⟨_, _, (zmc F35 M Ae).mono (by omega), b35, k35, av X G a35⟩, fun _ _ h => zD h⟩
 have Dh : HM l.prog w K mg base cls "_law_plain" 3 ["_law_tape_here", "_law_names_here"] [0] false (zp ZT) := ⟨⟨_, _, (zkv F36 M Ae BS).mono (by omega), b36, k36, av X G a36⟩, fun _ _ h => zD h⟩
 have Fj : ∀ n, HM l.prog w K mg base cls "_law_told" (3 + 1 * n) ["_law_tape_here", "_law_names_here", "_law_deep"] [0] false (zp (Js n)) := by
  intro n
  induction n with
  | zero => exact ⟨⟨_, _, FnOk.no, b37, k37, av X G a37⟩, fun _ _ h => zgZ h⟩
  | succ n AX =>
   exact ⟨⟨_, _, (zmd F37 M Ae Dh AX).mono (by omega), b37, k37, av X G a37⟩, fun _ _ h => zD h⟩
 have AX : HM l.prog w K mg base cls "_law_told" 9 ["_law_tape_here", "_law_names_here", "_law_deep"] [0] false (zp (Js 6)) := Fj 6
 have EH : HM l.prog w K mg base cls "_law_row" 2 ["_law_tape_here", "_law_names_here"] [0] false (zp Yr) := ⟨⟨_, _, (zor F38 M Ae).mono (by omega), b38, k38, av X G a38⟩, fun _ _ h => zD h⟩
 have Bc : HD l.prog w K mg base cls "house_enough" 1 ["self", "house", "row"] jO := by
  refine ⟨J0 (by decide +kernel), fun c C F hc hF => ?_, fun c F ss q hF h => ?_⟩
  · walk_at "p"
    · exact (Qd hF rfl).elim
    · exact (Qd hF rfl).elim
    · walk_at "t"; exact ⟨Az, f41, _, ⟨CB, i41, k41⟩, (UV F41 M).mono (by omega), b41⟩
    · exact (Qd hF rfl).elim
    · exact (Qd hF rfl).elim
    · exact (Qd hF rfl).elim
  · unfold jO at hF; split at hF <;> first | (cases hF; exact zD h) | cases hF
 have Di : HD l.prog w K mg base cls "enough" 2 ["self", "row"] QJ := by
  refine ⟨J0 (by decide +kernel), fun c C F hc hF => ?_, fun c F ss q hF h => ?_⟩
  · walk_at "p"
    · walk_at "t"; exact ⟨AF, f39, _, ⟨Db, i39, k39⟩, (zcy F39 M).mono (by omega), b39⟩
    · walk_at "t"; exact ⟨AG, f40, _, ⟨Dc, i40, k40⟩, (zcz F40 M).mono (by omega), b40⟩
    · walk_at "t"; exact ⟨Az, f42, _, ⟨CC, i42, k42⟩, (zbN F42 M Bc).mono (by omega), b42⟩
    · exact (Qd hF rfl).elim
    · exact (Qd hF rfl).elim
    · exact (Qd hF rfl).elim
  · unfold QJ at hF; split at hF <;> first | (cases hF; exact zD h) | cases hF
 have AI : HM l.prog w K mg base cls "first_enough" 3 ["wish", "row"] [] false (zp jF) := ⟨⟨_, _, (zcA F43 M Di).mono (by omega), b43, k43, av X G a43⟩, fun _ _ h => zD h⟩
 have EF : ∀ n, HD l.prog w K mg base cls "first_in" (4 + 1 * n) ["self", "row"] (yI n) := by
  intro n
  induction n with
  | zero => exact ⟨J0 (by decide +kernel), fun c C F hc hF => (nomatch hF), fun c F ss q hF => (nomatch hF)⟩
  | succ n AD =>
   show HD l.prog w K mg base cls "first_in" (4 + 1 * (n + 1)) ["self", "row"] (YJ (yI n))
   refine ⟨J0 (by decide +kernel), fun c C F hc hF => ?_, fun c F ss q hF h => ?_⟩
   · walk_at "p"
     · walk_at "t"; exact ⟨AF, f44, _, ⟨Dd, i44, k44⟩, (zao F44 M AI).mono (by omega), b44⟩
     · walk_at "t"; exact ⟨AG, f45, _, ⟨De, i45, k45⟩, (zap F45 M AI).mono (by omega), b45⟩
     · walk_at "t"; exact ⟨Az, f46, _, ⟨CD, i46, k46⟩, (W9 F46 M AI).mono (by omega), b46⟩
     · walk_at "t"; exact ⟨AK, f49, _, ⟨DZ, i49, k49⟩, (zbQ F49 M AD).mono (by omega), b49⟩
     · walk_at "t"; exact ⟨AE, f48, _, ⟨CF, i48, k48⟩, (Ra F48 M AD).mono (by omega), b48⟩
     · walk_at "t"; exact ⟨AL, f47, _, ⟨DY, i47, k47⟩, (zbP F47 M AD).mono (by omega), b47⟩
   · unfold YJ at hF; split at hF <;> first | (cases hF; exact zD h) | cases hF
 have AD : HD l.prog w K mg base cls "first_in" 10 ["self", "row"] (yI 6) := EF 6
 have AZ : HM l.prog w K mg base cls "first_by" 11 ["wish", "row"] [] false (zp JW) := ⟨⟨_, _, (ziI F50 M AV AD).mono (by omega), b50, k50, av X G a50⟩, fun _ _ h => zD h⟩
 have AM : HM l.prog w K mg base cls "holds" 12 ["wish", "row"] [] false (zp yo) := ⟨⟨_, _, (zos F51 M AZ).mono (by omega), b51, k51, av X G a51⟩, fun _ _ h => zD h⟩
 have Ei : HM l.prog w K mg base cls "_law_more" 13 ["_law_tape_here", "_law_wish", "_law_row_here", "_law_names_here"] [0] false (zp QB) := ⟨⟨_, _, (zmg F52 M Ae AM).mono (by omega), b52, k52, av X G a52⟩, fun _ _ h => zD h⟩
 have Dk : HM l.prog w K mg base cls "_law_right" 13 ["_law_wish", "_law_row_here"] [] false (zp QK) := ⟨⟨_, _, (zky F53 M AM AZ).mono (by omega), b53, k53, av X G a53⟩, fun _ _ h => zD h⟩
 exact (zq4 (cls := cls) F54 M CH Bh Cm Eh Dj Ae AW AX EH Ei Dk AM Ay AJ).imp fun vs H Q E h => zh5 _root_.M.K08.lawF h
theorem walk {l : PySem.W.OpenLaw} {q : Program} {loose : List Str} {XP : (Str -> Option Value) -> Heap -> Prop} {YP : World -> Heap -> Prop} {d : DefRec} {K : Params -> ai} (hn : l.most = some 63) (hdf : d.params.defaults = [])
 (hY : ∀ (w : World) (h : Heap), YP w h -> (K w.params).In h)
 (F : ∀ (w : World) (mg : Str -> Option Value) (fa : Addr) (h : Heap), (K w.params).In h -> h.Ns aS mg -> mg d.name = some (.ref fa) ->
  ∃ fd : FuncData, (∀ (s : Shared) (u : Value), BindsTo s fd ⟨[u], []⟩ [("_law_script", u)]) /\ ∀ base : Heap, (K w.params).In base -> base.Ns aS mg -> FnOk l.prog w (K w.params) mg base yd 17 fa fd ["_law_script"] (zaM (K w.params))) :
 kb q loose XP YP l.row.toRowW d [] (fun f vs => iL f vs) :=
 L2.walk_of (n := 63) (k := 17) (x := "_law_script") (CX := fun _ => yd) (sp := fun w => zaM (K w.params)) hn (by decide) hdf ⟨rfl, by decide, by decide⟩ hY F (fun _ _ a ns hl _ hS => ⟨a, ns, rfl, hS, hl, fun _ => rfl⟩) fun _ _ _ _ _ z => z
end W_k08
open PySem PySem.W PyProof.Rows
def PySem.W.Fast.tw895387263792632207 : Unit := ()
def PySem.W.Fast.tw2620432985403970516 : Unit := ()
def PySem.W.Fast.tw11848202868255873263 : Unit := ()
def PySem.W.Fast.tw13234911777427754596 : Unit := ()
def PySem.W.Fast.tw10290441684474264228 : Unit := ()
def PySem.W.Fast.tw2395874730563455320 : Unit := ()
def PySem.W.Fast.tw13226850393218532057 : Unit := ()
def PySem.W.Fast.tw15983336831752218205 : Unit := ()
def PySem.W.Fast.tw11511184698998548394 : Unit := ()
def PySem.W.Fast.tw7792290695520941228 : Unit := ()
def PySem.W.Fast.tw3114113472936657492 : Unit := ()
def PySem.W.Fast.tw8352341652568178841 : Unit := ()
def PySem.W.Fast.tw12685242085423582768 : Unit := ()
def PySem.W.Fast.tw274660267149002577 : Unit := ()
def PySem.W.Fast.tw5511211262688063159 : Unit := ()
def PySem.W.Fast.tw2928120767014588978 : Unit := ()
def PySem.W.Fast.tw5882413035025237551 : Unit := ()
def PySem.W.Fast.tw13590564197532249241 : Unit := ()
def PySem.W.Fast.tw3691363546800189414 : Unit := ()
def PySem.W.Fast.tw4914064126698837151 : Unit := ()
def PySem.W.Fast.tw16092689272326607125 : Unit := ()
def PySem.W.Fast.tw3362996474020975271 : Unit := ()
def PySem.W.Fast.tw4544237620008397203 : Unit := ()
def PySem.W.Fast.tw2563185314622921182 : Unit := ()
def PySem.W.Fast.tw11974201717002392194 : Unit := ()
def PySem.W.Fast.tw300055823116379585 : Unit := ()
def PySem.W.Fast.tw12956878777913553232 : Unit := ()
def PySem.W.Fast.tw6341983829423692090 : Unit := ()
def PySem.W.Fast.tw3246669580667056518 : Unit := ()
def PySem.W.Fast.tw1365203975421632377 : Unit := ()
def PySem.W.Fast.tw9776109427527887408 : Unit := ()
def PySem.W.Fast.tw8993055767858888714 : Unit := ()
def PySem.W.Fast.tw13537532966637944404 : Unit := ()
def PySem.W.Fast.tw12900889082010197753 : Unit := ()
def PySem.W.Fast.tw11196310887511323602 : Unit := ()
def PySem.W.Fast.tw17601230726460084722 : Unit := ()
def PySem.W.Fast.tw17493380312912695054 : Unit := ()
def PySem.W.Fast.tw4158815581365731710 : Unit := ()
def PySem.W.Fast.tw9043622247786067294 : Unit := ()
def PySem.W.Fast.tw10917522864894454454 : Unit := ()
set_option maxRecDepth 100000 in
set_option maxHeartbeats 0 in
theorem PySem.Challenge.cw_enoughsaid_k08_whole_more_names_never_un_holds : PySem.Challenge.rw_enoughsaid_k08_whole_more_names_never_un.Holds := by
 w_on; o_law; k_head; (case hw => w_witness2)
 k_fill
 refine W_k08.walk (l := PySem.Challenge.rw_enoughsaid_k08_whole_more_names_never_un) rfl rfl (fun w h Y => PySem.W.kIn_of Y) ?F
 case F =>
  intro w mg fa h KX G hmg
  refine' W_k08.all_mk KX G hmg ?CL ?Ej ?Ek ?El ?Em ?En ?Eo ?Bw ?Bx ?Bi ?Bj ?Co ?By ?BT ?Bz ?BU ?Ep ?Er ?CM ?Es ?Et ?Eu ?Ev ?Ew ?Ex ?BA ?BB ?Bk ?Bl ?Cp ?BC ?BV ?BD ?BW ?Ey ?Ez ?Ck ?Dl ?Dm ?Do ?Dp ?Dq ?Dr ?Bm ?Bn ?Bd ?Be ?BX ?Bo ?BE ?Bp ?BF ?Ds ?Dt ?Eb ?EI ?EJ ?EL ?EM ?EN ?EO ?BY ?BZ ?BG ?BH ?CN ?Ca ?Cq ?Cb ?Cr ?EQ ?ER ?Cl ?Du ?Dv ?Dw ?Dx ?Dy ?Dz ?Bq ?Br ?Bf ?Bg ?Cc ?Bs ?BI ?Bt ?BJ ?DB ?DC ?Ec ?ES ?ET ?EU ?EV ?EW ?EX ?Cd ?Ce ?BK ?BL ?CO ?Cf ?Cs ?Cg ?Ct ?EY ?EZ ?wg ?wt ?An ?Ao ?Al ?Ar ?Am ?As ?Ak ?At ?Aw ?Ax ?Au ?Ap ?Av ?a1 ?l1 ?c1 ?k1 ?a2 ?l2 ?c2 ?k2 ?DD ?i3 ?l3 ?c3 ?k3 ?DH ?i4 ?l4 ?c4 ?k4 ?CP ?i5 ?l5 ?c5 ?k5 ?EA ?CQ ?EB ?i6 ?l6 ?c6 ?k6 ?DJ ?DK ?CS ?i7 ?l7 ?c7 ?k7 ?EC ?i8 ?l8 ?c8 ?k8 ?CT ?i9 ?l9 ?c9 ?k9 ?DL ?i10 ?l10 ?c10 ?k10 ?CU ?CV ?Cu ?DM ?Cv ?DN ?i11 ?l11 ?c11 ?k11 ?CW ?CY ?Cw ?DR ?Cy ?DU ?i12 ?l12 ?c12 ?k12 ?CZ ?Da ?Cz ?DV ?CA ?DX ?i13 ?l13 ?c13 ?k13 ?a14 ?l14 ?c14 ?k14 ?a15 ?i15 ?l15 ?c15 ?k15 ?a16 ?l16 ?c16 ?k16 ?a17 ?l17 ?c17 ?k17 ?a18 ?l18 ?c18 ?k18 ?a19 ?l19 ?c19 ?k19 ?a20 ?l20 ?c20 ?k20 ?a21 ?l21 ?c21 ?k21 ?a22 ?i22 ?l22 ?c22 ?k22 ?a23 ?l23 ?c23 ?k23 ?a24 ?l24 ?c24 ?k24 ?a25 ?l25 ?c25 ?k25 ?a26 ?l26 ?c26 ?k26 ?a27 ?l27 ?c27 ?k27 ?a28 ?l28 ?c28 ?k28 ?a29 ?i29 ?l29 ?c29 ?k29 ?a30 ?i30 ?l30 ?c30 ?k30 ?a31 ?l31 ?c31 ?k31 ?a32 ?i32 ?l32 ?c32 ?k32 ?a33 ?i33 ?l33 ?c33 ?k33 ?a34 ?l34 ?c34 ?k34 ?a35 ?l35 ?c35 ?k35 ?a36 ?l36 ?c36 ?k36 ?a37 ?l37 ?c37 ?k37 ?a38 ?l38 ?c38 ?k38 ?Db ?i39 ?l39 ?c39 ?k39 ?Dc ?i40 ?l40 ?c40 ?k40 ?CB ?i41 ?l41 ?c41 ?k41 ?CC ?i42 ?l42 ?c42 ?k42 ?a43 ?l43 ?c43 ?k43 ?Dd ?i44 ?l44 ?c44 ?k44 ?De ?i45 ?l45 ?c45 ?k45 ?CD ?i46 ?l46 ?c46 ?k46 ?DY ?i47 ?l47 ?c47 ?k47 ?CF ?i48 ?l48 ?c48 ?k48 ?DZ ?i49 ?l49 ?c49 ?k49 ?a50 ?l50 ?c50 ?k50 ?a51 ?l51 ?c51 ?k51 ?a52 ?l52 ?c52 ?k52 ?a53 ?l53 ?c53 ?k53 ?a54 ?l54 ?c54 ?k54 ?Ch ?Ff ?ED ?Fr ?Ft ?Fu ?Fv ?Fw ?Fx ?Fy ?Fg ?Fa ?Fb ?Fz ?Ci ?CG ?Cj ?Bu ?BM ?BN
  all_goals first | delta M.FN0 | delta M.FI | delta M.NI | delta M.NZ | delta M.LK | delta M.CI | delta M.KI | skip
  case CL|Ej|Ek|El|Em|En|Eo|Bw|Bx|Bi|Bj|Co|By|BT|Bz|BU|Ep|Er|CM|Es|Et|Eu|Ev|Ew|Ex|BA|BB|Bk|Bl|Cp|BC|BV|BD|BW|Ey|Ez|Ck|Dl|Dm|Do|Dp|Dq|Dr|Bm|Bn|Bd|Be|BX|Bo|BE|Bp|BF|Ds|Dt|Eb|EI|EJ|EL|EM|EN|EO|BY|BZ|BG|BH|CN|Ca|Cq|Cb|Cr|EQ|ER|Cl|Du|Dv|Dw|Dx|Dy|Dz|Bq|Br|Bf|Bg|Cc|Bs|BI|Bt|BJ|DB|DC|Ec|ES|ET|EU|EV|EW|EX|Cd|Ce|BK|BL|CO|Cf|Cs|Cg|Ct|EY|EZ|wg|wt => k_is
  case An|Ao|Al|Ar|Am|As|Ak|At|Aw|Ax|Au|Ap|Av => first | k_is | kernel_rfl
  case a1|l1|c1|k1|a2|l2|c2|k2|DD|i3|l3|c3|k3|DH|i4|l4|c4|k4|CP|i5|l5|c5|k5|EA|CQ|EB|i6|l6|c6|k6|DJ|DK|CS|i7|l7|c7|k7|EC|i8|l8|c8|k8|CT|i9|l9|c9|k9|DL|i10|l10|c10|k10|CU|CV|Cu|DM|Cv|DN|i11|l11|c11|k11|CW|CY|Cw|DR|Cy|DU|i12|l12|c12|k12|CZ|Da|Cz|DV|CA|DX|i13|l13|c13|k13|a14|l14|c14|k14|a15|i15|l15|c15|k15|a16|l16|c16|k16|a17|l17|c17|k17|a18|l18|c18|k18|a19|l19|c19|k19|a20|l20|c20|k20|a21|l21|c21|k21|a22|i22|l22|c22|k22|a23|l23|c23|k23|a24|l24|c24|k24|a25|l25|c25|k25|a26|l26|c26|k26|a27|l27|c27|k27|a28|l28|c28|k28|a29|i29|l29|c29|k29|a30|i30|l30|c30|k30|a31|l31|c31|k31|a32|i32|l32|c32|k32|a33|i33|l33|c33|k33|a34|l34|c34|k34|a35|l35|c35|k35|a36|l36|c36|k36|a37|l37|c37|k37|a38|l38|c38|k38|Db|i39|l39|c39|k39|Dc|i40|l40|c40|k40|CB|i41|l41|c41|k41|CC|i42|l42|c42|k42|a43|l43|c43|k43|Dd|i44|l44|c44|k44|De|i45|l45|c45|k45|CD|i46|l46|c46|k46|DY|i47|l47|c47|k47|CF|i48|l48|c48|k48|DZ|i49|l49|c49|k49|a50|l50|c50|k50|a51|l51|c51|k51|a52|l52|c52|k52|a53|l53|c53|k53|a54|l54|c54|k54|Ch|Ff|ED|Fr|Ft|Fu|Fv|Fw|Fx|Fy|Fg|Fa|Fb|Fz|Ci|CG|Cj|Bu|BM|BN => k_is
