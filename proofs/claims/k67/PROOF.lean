import PyProof.Rows.All
import Wide.All
import OpenK.AllK
import Wide.FinOn
import Lean
import PyProof.EqAt
import PyProof.EqKinds
import PyProof.TupleCall
import PyProof.AttrMissHeap
import KE.KDictOf
import KE.KIntText
import KE.KItemsList
import PySem.Challenge.RW_enoughsaid_k67_books_read
set_option Elab.async false
set_option linter.all false
set_option maxRecDepth 100000
set_option maxHeartbeats 4000000
set_option synthInstance.maxHeartbeats 0
set_option synthInstance.maxSize 1000000
open False renaming elim → aa
open List renaming getElem?_eq_getElem → ab, size_toArray → ah, mem_cons → ak, mem_cons_self → aq, getElem?_map → ar, replicate → au, mem_cons_of_mem → aw, not_mem_nil → ax, getElem?_eq_some_iff → ay, length_map → aA, length_cons → aB, mem_append_right → aH, length_append → aI, getD_eq_getElem?_getD → aJ, all_eq_true → aP, map_cons → aQ, length_singleton → aW, replicate_succ → aZ, getElem?_set → bb, mem_map → bd, append_nil → bj, mem_append_left → bn, zipWith → bo, flatten_cons → bp, all_cons → bx, getElem?_cons_succ → bD, mem_append → bH, any_cons → bJ, getElem?_append_left → bL, getElem?_zip_eq_some → bN, length_nil → bO, length_take → bV, lookup_cons → bW, cons_append → bY, mem_range → bZ, eq_nil_of_length_eq_zero → ca, range → cg, length → ci, getElem?_append_right → ck, nil_append → cB, forIn_cons → cC, length_zip → cD, mem_singleton → cH, getElem?_cons_zero → cJ, zipWith_cons_cons → cP, nodup_cons → db, filterMap_cons → dg, forIn_nil → dt, set_cons_zero → dw, set_cons_succ → dz, zip_cons_cons → dA, drop_eq_getElem_cons → dF, any_eq_false → dI, take_length → dW, getElem?_replicate → dY, map_nil → d4, any_map → d5, all_map → d6, getElem?_set_self → d7, take_of_length_le → eg, of_mem_zip → et, map_append → eA, mem_iff_getElem? → eG, cons_lt_cons_iff → eH, getElem?_set_ne → eK, mem_of_getElem? → eL, length_zipWith → eU, length_pos_iff → eV, getD_cons_zero → eX, getD_cons_succ → eY, sum_cons → fb, mem_filterMap → fh, contains_cons → fm, map_map → fw, append_assoc → fC, contains_nil → fF, isEmpty_cons → fG, length_drop → fN, getElem_mem → fQ, drop_length → fS, zipIdx_cons → fT, isEmpty_nil → fV, any_eq_true → fW, mem_filter → gg, foldl_cons → gj, zipIdx_nil → gk, foldl → gt, map_drop → gJ, lookup → gZ
open PySem renaming wpAny_bind → ac, starEach → aj, wpAny_pure → ao, sizeLine → az, compareOp → aT, wpAny_field → aU, wpAny_truthy_bool → aV, wpAny_callSpecial?_slot → aX, mainGlobals → ba, wpAny_call_entry → be, wpAny_holding → bh, wpAny_seqItems → br, bootBuiltins → bB, foldedSetIterable → bE, wpAny_newObj_type → bF, wpAny_setField_rec → bK, assignEach → bT, mem_of_lookup → bU, wpAny_mono → ce, binaryOp → cn, wpAny_pyIter_zip → cr, behindInMarks → cy, attributeBase → cz, letOwnedTupleGo → cE, wpAny_passesOwn → cF, wpAny_updateSeq → cG, wpAny_Call_Name_kw → cI, sliceBounds → cL, wpAny_nextOf_list_item → cQ, swapsWith → cW, call_meets → cX, keywordEach → da, holding → dk, wpAny_pyIter_tuple → dD, slot_dict_contains → dE, length_partsBetween → dG, codeAny → dM, wpAny_pyIter_list → dN, slot_dict_getitem → dO, wpAny_attempt → dU, typeIs_str → eh, wpAny_execs_nil → eB, wpAny_loadPart' → eE, wpAny_specialOf → eF, backToKw → eN, sizeLine_eq → eO, getItem → eP, callerA → eQ, wpAny_standAt → fc, wpAny_onRaise → fe, sysModules → fq, wpAny_rule → ft, standAt → fH, codeAny_mono → fJ, seqIndex_neg → fK, lastMarks → fX, updateSeq → fY, seqIndex_of → fZ, wpAny_letGo → gf, argBest → gr, call → gw, compEnvC → gz, builtinsNs → gA, wpAny_Name → gD, typeLookup → gE, typeIs_int → gF, cellsFrom → gL, strValues → gM, Within → gN, dictGet → gY
open PySem.W renaming Frag → ae, mg_of → aF, mg_none_of → aR, kia_one → aY, fnOf → cb, nsIn → cq, keepIn → cO, findIn → dm, kitOne → dn, codeIn → dq, methodObj → dH, kitx_dict → dJ, cellsFrom_some → d8, instObj → er, lookIn → eI, kitx_list → fA, plainGet → fM, WalkO → gH
open Bool renaming false_ne_true → af, and_eq_true → aD, false_eq_true → bm, eq_iff_iff → cA, false_and → cN, not_true → cY, true_and → cZ, or_false → dP, and_false → eJ, and_true → eZ, not_false → gy, false_or → gK, or_true → gW, true_or → gX
open PySem.Heap renaming lt_size → ai, get?_push_of_some → am, get?_push_size → aE, get?_update_other → bq, get?_update_self → bu, size_push → cj, IsTuple → di, size_update → dX, SameBut → fu
open PySem.Str renaming ofString → av, join → bC, ofString_eq_toList → d9
open Nat renaming le_refl → aC, lt_of_lt_of_le → aG, ne_of_lt → aM, le_trans → aO, zero_le → bI, lt_irrefl → bR, add_lt_add_left → cv, ne_of_gt → cM, le_add_right → cV, toDigits → dj, le_of_lt → dZ, succ_mul → d3, lt_trans → fv, lt_succ_of_lt → fD, lt_succ_self → fP, min_eq_left → gq, add_comm → gQ, le_of_eq → gR, min_self → gS, le_total → gT, zero_add → gU
open PySem.Builtin.SmallTypes renaming ownedTupleIsFree → aK, nextOf → aL, ownedTupleHandOut → cw
open PySem.Txt renaming join → aN, split → cp
open Ne renaming symm → aS
open PyProof.Rows renaming callWith_type1 → bc, len_join_cons → cm, slot_tuple_getitem → cR, zipApart_new → fL
open PySem.StrLaws renaming glued_eq_join → bf
open Option.some renaming inj → bi
open PyProof.Rows.KTD renaming strsLook → bt, datumAt → bA, tabLook → cx
open Option renaming bind_some → bv, map_some → bG, isSome_iff_exists → dQ, getD_none → fO, bind_none → fU, map_none → gm
open Int renaming emod_lt_of_pos → bw, emod_nonneg → bP, eq_ofNat_of_zero_le → cK, toNat_natCast → dL, cast_ofNat_Int → fo, ediv_nonneg → gp
open PySem.Builtin.List renaming listTooLong → bz, listExtendWith → cf, listSameRef → dS, listItems → ef
open PySem.Builtin.Slice renaming slicePlaces → bM, sliceAdjust → cu, sliceApplied → dC
open PySem.Obj renaming mapSeq → bQ, data_mapFields → fj
open PySem.Builtin.Tuple renaming tupleExact → bS
open PySem.Around renaming in1_units → bX, under_plainId → eM
open PySem.W.KIN renaming signs_num → cT
open PySem.SeqAt renaming EqAt → cU, in_listAt → gh
open List.cons renaming injEq → dd
open PySem.PassesOwn renaming never → df
open Array renaming length_toList → dh, forIn_toList → fk, toList → gP
open Char renaming toNat → dl
open PySem.SeqAt.EqAt renaming of_refs → du, same → ez, str_none → eT, int_str → ff, str_int → fg
open PySem.Calls renaming Name_function_global → dB, spliced_cons → fi, spliced_nil → fB
open PySem.SeqAt.RcAt renaming lists_lengths → dR, tuples → fE, lists → fR
open PySem.F renaming plainAttrs_str → ee
open PySem.Heap.SameBut renaming update → eW
open PySem.Walks renaming strAscii → gx, strWide → gI, list → g9
open PySem.Paired renaming length → gG
open PySem.Shared renaming heap → g0
open PySem.W.WShape renaming has → g6
namespace L2
open PySem PySem.Spec PyProof.Rows
abbrev jB := Sum Int Str
def zgU : jB -> Value -> Bool
 | .inl k, v => Value.isInt k v
 | .inr x, v => Value.isStrOf x v
def zmy (w : World) : jB -> Int
 | .inl k => hashInt k
 | .inr x => hashStr w x
theorem yP : ∀ {k : jB} {v : Value}, zgU k v = true -> (∃ i t, k = Sum.inl i /\ v = Value.int i t) \/ (∃ x t, k = Sum.inr x /\ v = Value.str x t)
 | .inl i, v, h => by
  obtain ⟨t, e⟩ := Value.isInt_shape (k := i) (v := v) h
  exact .inl ⟨i, t, rfl, e⟩
 | .inr x, v, h => by
  obtain ⟨t, e⟩ := Value.isStrOf_shape (x := x) (v := v) h
  exact .inr ⟨x, t, rfl, e⟩
theorem zjb (a b : Int) : decide ((Sum.inl a : jB) = Sum.inl b) = (a == b) := by
 by_cases e : a = b
 · subst e; simp
 · have h : ¬ (Sum.inl a : jB) = Sum.inl b := fun q => e (Sum.inl.inj q)
   rw [decide_eq_false h]
   exact (beq_eq_false_iff_ne.mpr e).symm
theorem zjc (a b : Str) : decide ((Sum.inr a : jB) = Sum.inr b) = decide (a = b) := by
 by_cases e : a = b
 · subst e; simp
 · have h : ¬ (Sum.inr a : jB) = Sum.inr b := fun q => e (Sum.inr.inj q)
   rw [decide_eq_false h, decide_eq_false e]
theorem zjd (a : Int) (b : Str) : decide ((Sum.inl a : jB) = Sum.inr b) = false := decide_eq_false (fun q => nomatch q)
theorem zje (a : Str) (b : Int) : decide ((Sum.inr a : jB) = Sum.inl b) = false := decide_eq_false (fun q => nomatch q)
def Wl (prog : Program) (w : World) : PySem.KeyKind prog w jB where
 is := zgU
 hash := zmy w
 inj := fun v a b ha hb => by
  rcases yP ha with ⟨i, t, rfl, rfl⟩ | ⟨x, t, rfl, rfl⟩
  · rcases yP hb with ⟨j, u, rfl, e⟩ | ⟨y, u, rfl, e⟩
    · injection e with e1 _; rw [e1]
    · exact nomatch e
  · rcases yP hb with ⟨j, u, rfl, e⟩ | ⟨y, u, rfl, e⟩
    · exact nomatch e
    · injection e with e1 _; rw [e1]
 byValue := fun k v h => by
  rcases yP h with ⟨i, t, rfl, rfl⟩ | ⟨x, t, rfl, rfl⟩ <;> rfl
 pyHash := fun hv h => by
  rcases yP hv with ⟨i, t, rfl, rfl⟩ | ⟨x, t, rfl, rfl⟩
  · exact wpAny_pyHash_int h
  · exact wpAny_pyHash_str h
 eqBool := fun hu hv h => by
  rcases yP hu with ⟨i, t, rfl, rfl⟩ | ⟨x, t, rfl, rfl⟩
  · rcases yP hv with ⟨j, u, rfl, rfl⟩ | ⟨y, u, rfl, rfl⟩
    · rw [zjb] at h; exact wpAny_eqBool_int h
    · rw [zjd] at h; exact ff i t y u _ _ _ _ h
  · rcases yP hv with ⟨j, u, rfl, rfl⟩ | ⟨y, u, rfl, rfl⟩
    · rw [zje] at h; exact fg x t j u _ _ _ _ h
    · rw [zjc] at h; exact wpAny_eqBool_str h
 «strs» := fun k x t v h => by
  rcases yP h with ⟨i, u, rfl, e⟩ | ⟨y, u, rfl, e⟩
  · exact nomatch e
  · injection e with e1 _
    subst e1
    cases v <;> rfl
inductive V where
 | non | bl (b : Bool) | int (i : Int) | str (x : Str) | byt (b : Array UInt8) | flt (b : UInt64) | ref (a : Addr) | ty (n : String)
 deriving DecidableEq
def RelV : V -> Value -> Prop
 | .non, u => u = Value.none
 | .bl b, u => u = Value.bool b
 | .int i, u => ∃ t, u = Value.int i t
 | .str x, u => ∃ t, u = Value.str x t
 | .byt b, u => ∃ t, u = Value.bytes b t
 | .flt b, u => ∃ t, u = Value.float b t
 | .ref a, u => u = Value.ref a
 | .ty n, u => u = Value.type n
abbrev Vals : List V -> List Value -> Prop := Paired RelV
theorem Vals.length {xs : List V} {us : List Value} (r : Vals xs us) : xs.length = us.length := gG r
theorem Vals.get : ∀ {xs : List V} {us : List Value} {i : Nat} {x : V}, Vals xs us -> xs[i]? = some x -> ∃ u, us[i]? = some u /\ RelV x u
 | _, _, _, _, .nil, e => by simp at e
 | _, _, 0, _, .cons r _, e => by simp at e; subst e; exact ⟨_, rfl, r⟩
 | _, _, i + 1, x, .cons _ t, e => by
  obtain ⟨u, h1, h2⟩ := Vals.get (i := i) (x := x) t (by simpa using e)
  exact ⟨u, by simpa using h1, h2⟩
theorem Vals.set (r : RelV x u) : ∀ {xs : List V} {us : List Value} (i : Nat), Vals xs us -> Vals (xs.set i x) (us.set i u)
 | _, _, _, .nil => .nil
 | _, _, 0, .cons _ t => .cons r t
 | _, _, i + 1, .cons q t => .cons q (Vals.set r i t)
theorem Vals.append : ∀ {xs ys : List V} {us ws : List Value}, Vals xs us -> Vals ys ws -> Vals (xs ++ ys) (us ++ ws)
 | _, _, _, _, .nil, s => s
 | _, _, _, _, .cons r t, s => .cons r (Vals.append t s)
theorem Vals.take : ∀ {xs : List V} {us : List Value} (n : Nat), Vals xs us -> Vals (xs.take n) (us.take n)
 | _, _, 0, _ => .nil
 | _, _, _ + 1, .nil => .nil
 | _, _, n + 1, .cons r t => .cons r (Vals.take n t)
theorem Vals.drop : ∀ {xs : List V} {us : List Value} (n : Nat), Vals xs us -> Vals (xs.drop n) (us.drop n)
 | _, _, 0, r => r
 | _, _, _ + 1, .nil => .nil
 | _, _, n + 1, .cons _ t => Vals.drop n t
def zfG : Option V -> Option Value -> Prop
 | some v, some u => RelV v u
 | none, none => True
 | _, _ => False
def KV {κ : Type} : List (κ × V) -> List (κ × Value) -> Prop := Paired fun (p : κ × V) (q : κ × Value) => p.1 = q.1 /\ RelV p.2 q.2
def kV : jB -> V
 | .inl i => .int i
 | .inr x => .str x
inductive HO where
 | lst (xs : List V)
 | tup (xs : List V)
 | dK (kvs : List (jB × V)) | dT (kvs : List (List jB × V))
 | set (S : Int -> Bool) (n : Nat)
 | ins (C dx : Addr) (fs : List (Str × V))
 | own (x : Addr)
 | xd (fs : List (Str × V))
 | met (f x : Addr)
 | rng (lo hi : Int)
 | frz (o : Obj) (u : HO)
 | tbl (ps : Array Value)
 | ext (φ : Heap -> Prop)
abbrev Hp := Addr -> Option HO
def zA (H : Hp) (a : Addr) (o : HO) : Hp := fun b => if b = a then some o else H b
theorem zU : zA H a o a = some o := by unfold zA; rw [if_pos rfl]
theorem zp (h : b ≠ a) : zA H a o b = H b := by unfold zA; rw [if_neg h]
theorem zV {H : Hp} {a b : Addr} {o : HO} (h : H a = some o) (h' : H b = none) : a ≠ b := by
 intro e; subst e; rw [h] at h'; cases h'
section
variable (P : Program) (w : World)
def ObjOk (H : Hp) (h : Heap) (a : Addr) : HO -> Prop
 | .lst xs => xs.length <= az /\ ∃ (its : List Value) (n : Nat), Vals xs its /\ h.get? a = some { cls := .type "list", data := .seq its.toArray n }
 | .tup xs => xs.length <= az /\ ∃ its : List Value, Vals xs its /\ IsTup h a its.toArray
 | .dK kvs => kvs.length <= az /\ (a == fq) = false /\ ∃ vs, KV kvs vs /\ h.DictOf (Wl P w) a vs
 | .dT kvs => kvs.length <= az /\ (a == fq) = false /\ ∃ xs : List (List jB × Addr × Value),
  Paired (fun (p : List jB × V) (q : List jB × Addr × Value) => p.1 = q.1 /\ H q.2.1 = some (.tup (p.1.map kV)) /\ RelV p.2 q.2.2) kvs xs /\
  ∃ o es ep, h.get? a = some o /\ o.ExactDict /\ o.data = .dict es ep /\ es.toList = xs.map (entryOfKey (tupleKind (Wl P w))) /\ (xs.map (·.1)).Nodup
 | .set S n => h.SetOf (intKind P w) a S n
 | .ins C dx fs => H dx = some (.own a) /\ fs.length <= 1000 /\ dx ≠ a /\ h.get? a = some (er C dx) /\
  ∃ mA, h.Ns1 dx mA /\ (∀ f, zfG (fs.lookup f) (mA f)) /\ gN mA (fs.map (·.1))
 | .own _ => ∃ o, h.get? a = some o
 | .xd fs => ∃ mA, h.Ns1 a mA /\ ∀ f, zfG (fs.lookup f) (mA f)
 | .rng lo hi => ∃ t u v, h.get? a = some { cls := .type "range", data := .fields #[.int lo t, .int hi u, .int 1 v] }
 | .frz o u => h.get? a = some o /\ ObjOk H h a u
 | .tbl ps => h.get? a = some { cls := .none, data := .fields ps }
 | .met f x => h.get? a = some (dH (.ref f) (.ref x))
 | .ext φ => φ h /\ (∃ o, h.get? a = some o) /\ ∀ h1 h2 : Heap, φ h1 -> (∀ o, h1.get? a = some o -> h2.get? a = some o) -> φ h2
def HOk (H : Hp) (h : Heap) : Prop := ∀ a o, H a = some o -> ObjOk P w H h a o
end
section
variable {P : Program} {w : World} {H H' : Hp} {h h' : Heap} {a : Addr} {o : HO}
theorem ObjOk.lt (x : ObjOk P w H h a o) : a < h.objs.size := by
 cases o with
 | lst xs => obtain ⟨_, _, _, _, e⟩ := x; exact ai e
 | tup xs => obtain ⟨_, _, _, p⟩ := x; exact p.lt
 | dK kvs => obtain ⟨_, _, _, _, o, _, _, e, _⟩ := x; exact ai e
 | dT kvs => obtain ⟨_, _, _, _, o, _, _, e, _⟩ := x; exact ai e
 | set S n => obtain ⟨o, _, _, _, e, _⟩ := x; exact ai e
 | ins C dx fs => obtain ⟨_, _, _, e, _⟩ := x; exact ai e
 | own y => obtain ⟨_, e⟩ := x; exact ai e
 | xd fs => obtain ⟨_, ⟨_, _, _, e, _⟩, _⟩ := x; exact ai e
 | rng lo hi => obtain ⟨_, _, _, e⟩ := x; exact ai e
 | frz ob u => obtain ⟨e, _⟩ := x; exact ai e
 | tbl ps => exact ai (show h.get? a = some _ from x)
 | met f y => exact ai (show h.get? a = some _ from x)
 | ext φ => obtain ⟨_, ⟨_, e⟩, _⟩ := x; exact ai e
theorem Paired.mapP {α β : Type} {F G : α -> β -> Prop} : ∀ {l₁ : List α} {l₂ : List β}, Paired F l₁ l₂ -> (∀ a b, F a b -> G a b) -> Paired G l₁ l₂
 | _, _, .nil, _ => .nil
 | _, _, .cons r t, f => .cons (f _ _ r) (Paired.mapP t f)
theorem ObjOk.stay (x : ObjOk P w H h a o) (k : ∀ b u, (b = a \/ H b = some (.own a)) -> h.get? b = some u -> h'.get? b = some u)
 (ho : ∀ b, H b = some (.own a) -> H' b = some (.own a)) (ht : ∀ b xs, H b = some (.tup xs) -> H' b = some (.tup xs)) : ObjOk P w H' h' a o := by
 induction o with
 | lst xs => obtain ⟨z, its, n, r, e⟩ := x; exact ⟨z, its, n, r, k _ _ (.inl rfl) e⟩
 | tup xs => obtain ⟨z, its, r, ob, e, c⟩ := x; exact ⟨z, its, r, ob, k _ _ (.inl rfl) e, c⟩
 | dK kvs => obtain ⟨z, y, vs, r, ob, es, ep, e, c⟩ := x; exact ⟨z, y, vs, r, ob, es, ep, k _ _ (.inl rfl) e, c⟩
 | dT kvs =>
  obtain ⟨z, y, xs, r, ob, es, ep, e, c⟩ := x
  exact ⟨z, y, xs, Paired.mapP r fun p q z => ⟨z.1, ht _ _ z.2.1, z.2.2⟩, ob, es, ep, k _ _ (.inl rfl) e, c⟩
 | set S n => obtain ⟨ob, es, ep, t, e, c⟩ := x; exact ⟨ob, es, ep, t, k _ _ (.inl rfl) e, c⟩
 | ins C dx fs =>
  obtain ⟨d, z, ne, e, mA, ⟨od, es, ep, e2, c⟩, r⟩ := x
  exact ⟨ho _ d, z, ne, k _ _ (.inl rfl) e, mA, ⟨od, es, ep, k _ _ (.inr d) e2, c⟩, r⟩
 | own y => obtain ⟨ob, e⟩ := x; exact ⟨ob, k _ _ (.inl rfl) e⟩
 | xd fs => obtain ⟨mA, ⟨od, es, ep, e, c⟩, r⟩ := x; exact ⟨mA, ⟨od, es, ep, k _ _ (.inl rfl) e, c⟩, r⟩
 | rng lo hi => obtain ⟨t, u, v, e⟩ := x; exact ⟨t, u, v, k _ _ (.inl rfl) e⟩
 | frz ob u ih => obtain ⟨e, q⟩ := x; exact ⟨k _ _ (.inl rfl) e, ih q⟩
 | tbl ps =>
  have e : h.get? a = some { cls := .none, data := .fields ps } := x
  show h'.get? a = some { cls := .none, data := .fields ps }
  exact k a _ (.inl rfl) e
 | met f y =>
  have e : h.get? a = some (dH (.ref f) (.ref y)) := x
  show h'.get? a = some (dH (.ref f) (.ref y))
  exact k a _ (.inl rfl) e
 | ext φ => obtain ⟨p, ⟨o, e⟩, st⟩ := x; exact ⟨st _ _ p fun o q => k _ _ (.inl rfl) q, ⟨o, k _ _ (.inl rfl) e⟩, st⟩
theorem HOk.lt (x : HOk P w H h) (e : H a = some o) : a < h.objs.size := (x a o e).lt
theorem HOk.fresh (x : HOk P w H h) (e : h.objs.size <= a) : H a = none := by
 cases q : H a with
 | none => rfl
 | some u => exact absurd (aG (x.lt q) e) (bR _)
theorem HOk.kept (x : HOk P w H h) (k : ∀ b u, h.get? b = some u -> h'.get? b = some u) : HOk P w H h' := fun a o e =>
 (x a o e).stay (fun b u _ q => k b u q) (fun _ q => q) fun _ _ q => q
theorem HOk.laid (x : HOk P w H h) (k : ∀ b u, h.get? b = some u -> h'.get? b = some u) (hp : h.objs.size <= a) (new : ObjOk P w (zA H a o) h' a o) : HOk P w (zA H a o) h' := fun b u e => by
 have hn := x.fresh hp
 by_cases hb : b = a
 · subst hb; rw [zU] at e; cases e; exact new
 · rw [zp hb] at e
   exact (x b u e).stay (fun c v _ q => k c v q) (fun c q => by rw [zp (zV q hn)]; exact q) fun c xs q => by rw [zp (zV q hn)]; exact q
end
def Rd (H : Hp) (a : Addr) (u : HO) : Prop := H a = some u \/ ∃ o, H a = some (.frz o u)
theorem Rd.ok (r : Rd H a u) (x : HOk P w H h) : ObjOk P w H h a u := by
 rcases r with r | ⟨o, r⟩
 · exact x a u r
 · obtain ⟨_, q⟩ := x a _ r
   exact q
def Mut : Option HO -> Prop
 | some (.lst _) => True
 | some (.dK _) => True
 | some (.dT _) => True
 | some (.set _ _) => True
 | some (.ins _ _ _) => True
 | some (.ext _) => True
 | _ => False
section
variable {P : Program} {w : World} {H : Hp} {h h' : Heap} {x e : Addr} {o' : HO}
theorem HOk.write (ok : HOk P w H h) (mu : Mut (H x)) (he : e = x \/ H e = some (.own x)) (k : ∀ b u, b ≠ e -> h.get? b = some u -> h'.get? b = some u) (heo : ∃ u, h'.get? e = some u)
 (new : ObjOk P w (zA H x o') h' x o') : HOk P w (zA H x o') h' := fun b u q => by
 have nown : ∀ c y, H c = some (.own y) -> c ≠ x := fun c y r z => by subst z; rw [r] at mu; exact mu
 have ntup : ∀ c xs, H c = some (.tup xs) -> c ≠ x := fun c xs r z => by subst z; rw [r] at mu; exact mu
 by_cases hb : b = x
 · subst hb; rw [zU] at q; cases q; exact new
 · rw [zp hb] at q
   by_cases hbe : b = e
   · have q' : H b = some (.own x) := by
      rcases he with z | z
      · exact absurd (hbe.trans z) hb
      · rw [hbe]; exact z
     rw [q] at q'; cases q'
     obtain ⟨v, hv⟩ := heo
     exact ⟨v, by rw [hbe]; exact hv⟩
   · refine (ok b u q).stay (fun c v hc r => k c v ?_ r) (fun c r => by rw [zp (nown c b r)]; exact r) fun c xs r => by rw [zp (ntup c xs r)]; exact r
     rcases hc with rfl | hc
     · exact hbe
     · rintro rfl
       rcases he with z | z
       · exact nown c b hc z
       · rw [hc] at z; cases z; exact hb rfl
end
structure Un (fs ex : List Addr) (H H' : Hp) (h h' : Heap) : Prop where
 keep : ∀ b o, h.get? b = some o -> H b = none -> b ∉ fs -> b ∉ ex -> h'.get? b = some o
 slot : ∀ b o, h.get? b = some o -> H b = none -> b ∈ fs -> b ∉ ex -> ∃ sl, h'.get? b = some { o with slots := sl }
 free : ∀ b o, h.get? b = some o -> H b = none -> b ∉ ex -> H' b = none
 there : ∀ b o, h.get? b = some o -> b ∉ ex -> ∃ o', h'.get? b = some o'
 tups : ∀ b xs, H b = some (.tup xs) -> H' b = some (.tup xs)
 frzs : ∀ b o u, H b = some (.frz o u) -> H' b = some (.frz o u)
 tbls : ∀ b ps, H b = some (.tbl ps) -> ∃ more, H' b = some (.tbl (ps ++ more))
section
variable {fs fs' ex ex' : List Addr} {H H1 H2 : Hp} {h h1 h2 h' : Heap} {a x e : Addr} {o : HO}
theorem Un.any (u : Un fs ex H H1 h h1) (q : h.get? b = some ob) (n : H b = none) (hx : b ∉ ex) : ∃ sl, h1.get? b = some { ob with slots := sl } := by
 by_cases hb : b ∈ fs
 · exact u.slot b ob q n hb hx
 · exact ⟨ob.slots, u.keep b ob q n hb hx⟩
theorem Un.kept (k : ∀ b u, h.get? b = some u -> h'.get? b = some u) : Un fs ex H H h h' :=
 ⟨fun b ob q _ _ _ => k b ob q, fun b ob q _ _ _ => ⟨ob.slots, k b ob q⟩, fun _ _ _ n _ => n, fun b ob q _ => ⟨ob, k b ob q⟩, fun _ _ q => q, fun _ _ _ q => q, fun _ ps q => ⟨#[], by rw [q]; simp⟩⟩
theorem Un.refl : Un fs ex H H h h := Un.kept fun _ _ q => q
theorem Un.laid (k : ∀ b u, h.get? b = some u -> h'.get? b = some u) (hp : h.objs.size <= a) (hn : H a = none) : Un fs ex H (zA H a o) h h' where
 keep := fun b u q _ _ _ => k b u q
 slot := fun b u q _ _ _ => ⟨u.slots, k b u q⟩
 free := fun b u q n _ => by rw [zp (aM (aG (ai q) hp))]; exact n
 there := fun b u q _ => ⟨u, k b u q⟩
 tups := fun b xs q => by rw [zp (zV q hn)]; exact q
 frzs := fun b u xs q => by rw [zp (zV q hn)]; exact q
 tbls := fun b ps q => ⟨#[], by rw [zp (zV q hn), q]; simp⟩
theorem Un.write (mu : Mut (H x)) (he : e = x \/ H e = some (.own x)) (k : ∀ b u, b ≠ e -> h.get? b = some u -> h'.get? b = some u) (heo : ∃ u, h'.get? e = some u) : Un fs ex H (zA H x o) h h' := by
 have hx : ∀ b, H b = none -> b ≠ x := fun b n z => by subst z; rw [n] at mu; exact mu
 have hb : ∀ b, H b = none -> b ≠ e := fun b n z => by
  subst z
  rcases he with r | r
  · exact hx b n r
  · rw [n] at r; cases r
 have hm : ∀ b u, H b = some u -> ¬ Mut (some u) -> b ≠ x := fun b u q nm z => by subst z; rw [q] at mu; exact nm mu
 refine ⟨fun b u q n _ _ => k b u (hb b n) q, fun b u q n _ _ => ⟨u.slots, k b u (hb b n) q⟩, fun b u q n _ => by rw [zp (hx b n)]; exact n, fun b u q _ => ?_,
  fun b xs q => by rw [zp (hm b _ q fun z => z)]; exact q, fun b u xs q => by rw [zp (hm b _ q fun z => z)]; exact q, fun b ps q => ⟨#[], by rw [zp (hm b _ q fun z => z), q]; simp⟩⟩
 by_cases hbe : b = e
 · subst hbe; exact heo
 · exact ⟨u, k b u hbe q⟩
end
def trk (h : Heap) (H : Hp) : List Addr := (cg h.objs.size).filter fun a => (H a).isSome
def Yk (h : Heap) (H : Hp) : Heap := PySem.W.hideAll h (trk h H)
theorem zes (h : Heap) (H : Hp) : (Yk h H).objs.size = h.objs.size := PySem.W.hideAll_size _ _
theorem zfH {h : Heap} (e : h.get? b = some o) (n : H b = none) : (Yk h H).get? b = some o :=
 PySem.W.hideAll_get _ e fun hm => by
  have q : (H b).isSome = true := (gg.mp hm).2
  rw [n] at q; simp at q
theorem zhM {h : Heap} (e : (Yk h H).get? b = some o) : h.get? b = some o /\ H b = none := by
 have e' : h.get? b = some o := PySem.W.of_hideAll (trk h H) e
 refine ⟨e', ?_⟩
 cases q : H b with
 | none => rfl
 | some x =>
  have hm : b ∈ trk h H := gg.mpr ⟨bZ.mpr (ai e'), by simp [q]⟩
  have z : (Yk h H).get? b = none := PySem.W.hideAll_none (trk h H) hm
  rw [z] at e; cases e
def zhN (g h : Heap) (L : Addr) : List (Addr × Obj) := (cg h.objs.size).filterMap fun a => if a = L \/ (g.get? a).isSome = true then none else (h.get? a).map fun o => (a, o)
def rest (g h : Heap) (L d : Addr) : List (Addr × Obj) := (zhN g h L).filter fun p => decide (p.1 ≠ d)
structure Mod (K : ae) (mg : Str -> Option Value) (base : Heap) : Prop where
 kin : K.In base
 glob : base.Ns ba mg
 blt : ∃ mb, base.Ns gA mb /\ ∀ x : Str, x ≠ "__name__" -> mb x = bB x
 nolimit : base.NoLimit
structure Cx where
 prog : Program
 w : World
 K : ae
 mg : Str -> Option Value
 base : Heap
 A : Around
 N : List Str
 s₀ : Shared
 H₀ : Hp
 env : Env
 outer : List Env
 stack : List Env
 ex : List Addr
 fn : Str -> Bool
 calm : Bool
 pn : List (Addr × Obj)
 xe : Value -> Shared -> Prop
def YZ (l : List Env) : List Addr := l.filterMap (·.frame)
abbrev Cx.fs (X : Cx) : List Addr := YZ X.outer
def Zx (sc : Scope) (x : Str) : Prop := sc.names.lookup x = some .local \/ sc.names.lookup x = some .cell \/ sc.names.lookup x = some .free
def Loc (sc : Scope) (x : Str) : Prop := sc.names.lookup x = some .local \/ sc.names.lookup x = some .cell
def zmz (env : Env) (h : Heap) (m : Str -> Option Value) (x : Str) (u : Value) : Prop :=
 (env.kindOf x = some .local /\ m x = some u) \/ ((env.kindOf x = some .cell \/ env.kindOf x = some .free) /\ ∃ c, env.cells.lookup x = some c /\ h.IsCell c (some u))
structure Cx.Ok (X : Cx) : Prop where
 mod : Mod X.K X.mg X.base
 kind : X.env.scope.kind = .function
 glob : X.env.globals = ba
 blt : X.env.builtins = gA
 above : X.s₀.heap.objs.size <= X.env.locals
 inj : ∀ x y c, X.env.cells.lookup x = some c -> X.env.cells.lookup y = some c -> x = y
 has : ∀ x, (X.env.kindOf x = some .cell \/ X.env.kindOf x = some .free) -> ∃ c, X.env.cells.lookup x = some c
 cab : ∀ x c, X.fn x = true -> X.env.cells.lookup x = some c -> X.s₀.heap.objs.size <= c
 hd : X.calm = true -> X.A.handled = none
 frames : X.A.frames = some X.stack
 stk : X.stack = X.outer \/ (X.stack = X.env :: X.outer /\ X.env.frame = some X.env.locals)
 exf : ∀ b ∈ X.ex, b ≠ X.env.locals /\ ∀ x c, X.env.cells.lookup x = some c -> c ≠ b
 bs : ∀ b o, X.base.get? b = some o -> X.s₀.heap.get? b = some o /\ X.H₀ b = none
 bsz : X.base.objs.size <= X.s₀.heap.objs.size
 noex : ∀ b o, X.base.get? b = some o -> b ∉ X.ex
 exfs : ∀ b ∈ X.ex, b ∉ X.fs
 funs : X.s₀.heap.FunFrames X.base X.outer
 frf : ∀ b ∈ X.fs, X.H₀ b = none
structure Inv (X : Cx) (pins : List (Addr × Obj)) (σ : List (Option V)) (H : Hp) (s : Shared) : Prop where
 ok : X.Ok
 os : s.os = X.s₀.os
 bare : AllBare s.gens
 base : Un X.fs X.ex X.H₀ H X.s₀.heap s.heap
 loc : ∃ m, s.heap.Ns X.env.locals m /\ ∀ (i : Nat) (x : Str) (v : V), X.N[i]? = some x -> σ[i]? = some (some v) -> Zx X.env.scope x -> ∃ u, RelV v u /\ zmz X.env s.heap m x u
 cell : ∀ x c, X.env.cells.lookup x = some c -> ∃ v, s.heap.IsCell c v
 free : H X.env.locals = none
 freeC : ∀ x c, X.env.cells.lookup x = some c -> H c = none
 pin : ∀ p ∈ X.pn ++ pins, s.heap.get? p.1 = some p.2 /\ H p.1 = none /\ p.1 ≠ X.env.locals /\ p.1 ∉ X.fs /\ ∀ v, p.2.data ≠ .cell v
 hok : HOk X.prog X.w H s.heap
 len : σ.length = X.N.length
section
variable {X : Cx} {pins : List (Addr × Obj)} {σ : List (Option V)} {H H' : Hp} {s : Shared} {h' : Heap}
theorem Cx.Ok.nofr (ok : X.Ok) (e : X.base.get? b = some o) : b ∉ X.fs := fun hb => by
 have := (ok.funs.mem hb).1
 rw [e] at this; cases this
theorem Inv.bs (I : Inv X pins σ H s) : ∀ b o, X.base.get? b = some o -> s.heap.get? b = some o /\ H b = none := fun b o e =>
 ⟨I.base.keep b o (I.ok.bs b o e).1 (I.ok.bs b o e).2 (I.ok.nofr e) (I.ok.noex b o e), I.base.free b o (I.ok.bs b o e).1 (I.ok.bs b o e).2 (I.ok.noex b o e)⟩
theorem Inv.bk (I : Inv X pins σ H s) : ∀ b o, X.base.get? b = some o -> s.heap.get? b = some o := fun b o e => (I.bs b o e).1
theorem Inv.mod (I : Inv X pins σ H s) : Mod X.K X.mg X.base := I.ok.mod
theorem Inv.kIn (I : Inv X pins σ H s) : X.K.In s.heap := I.ok.mod.kin.keeps I.bk
theorem Inv.lt (I : Inv X pins σ H s) : X.env.locals < s.heap.objs.size := let ⟨_, hn, _⟩ := I.loc; hn.lt
theorem Inv.sz (I : Inv X pins σ H s) : X.s₀.heap.objs.size <= s.heap.objs.size := aO I.ok.above (dZ I.lt)
theorem Inv.nofs (I : Inv X pins σ H s) (h : s.heap.objs.size <= a) : a ∉ X.fs := fun hb => by
 obtain ⟨_, o, ho, _⟩ := I.ok.funs.mem hb
 exact absurd (aG (ai ho) (aO I.sz h)) (bR _)
theorem Inv.cne (I : Inv X pins σ H s) : ∀ x c, X.env.cells.lookup x = some c -> c ≠ X.env.locals := fun x c e z => by
 obtain ⟨v, o, ho, hd⟩ := I.cell x c e
 obtain ⟨m, ⟨o', es, ep, ho', hd', _⟩, _⟩ := I.loc
 rw [z, ho'] at ho; cases ho; rw [hd'] at hd; cases hd
theorem Inv.funs (I : Inv X pins σ H s) : s.heap.FunFrames X.base X.outer := by
 have all : ∀ (l : List Env), (∀ b ∈ YZ l, b ∈ X.fs) -> X.s₀.heap.FunFrames X.base l -> s.heap.FunFrames X.base l := by
  intro l
  induction l with
  | nil => intro _ _; trivial
  | cons env r ih =>
   intro hs hl
   obtain ⟨hk, ⟨L, o, hf, hn, ho, hd⟩, hr⟩ := hl
   have hL : L ∈ X.fs := hs L (by unfold YZ; rw [dg, hf]; exact aq)
   obtain ⟨sl, e⟩ := I.base.slot L o ho (I.ok.frf L hL) hL fun z => I.ok.exfs L z hL
   exact ⟨hk, ⟨L, _, hf, hn, e, hd⟩, ih (fun b hb => hs b (by unfold YZ; rw [dg, hf]; exact aw _ hb)) hr⟩
 exact all X.outer (fun _ hb => hb) I.ok.funs
theorem Inv.stack (I : Inv X pins σ H s) : s.heap.FunFrames X.base X.stack := by
 rcases I.ok.stk with e | ⟨e, hf⟩
 · rw [e]; exact I.funs
 · rw [e]
   obtain ⟨m, hn, _⟩ := I.loc
   refine .cons (by rw [I.ok.kind]; decide) hf hn ?_ I.funs
   exact Heap.get?_none_of_le (aO I.ok.bsz I.ok.above)
theorem Inv.stkSub (I : Inv X pins σ H s) : ∀ b ∈ YZ X.stack, b ∈ X.env.locals :: X.fs := fun b hb => by
 rcases I.ok.stk with e | ⟨e, hf⟩
 · rw [e] at hb; exact aw _ hb
 · rw [e] at hb
   unfold YZ at hb
   rw [dg, hf] at hb
   exact hb
theorem Inv.stkFree (I : Inv X pins σ H s) : ∀ b ∈ YZ X.stack, H b = none := fun b hb => by
 rcases ak.mp (I.stkSub b hb) with e | hb
 · rw [e]; exact I.free
 · obtain ⟨_, o, ho, _⟩ := I.ok.funs.mem hb
   exact I.base.free b o ho (I.ok.frf b hb) fun z => I.ok.exfs b z hb
theorem Inv.step {g' : Array GenState} {t' : Nat} {d' : Drawn} {ch : List Addr} (I : Inv X pins σ H s)
 (hch : ∀ b ∈ ch, (b ∈ X.ex \/ X.s₀.heap.objs.size <= b) /\ b ≠ X.env.locals /\ (∀ x c, X.env.cells.lookup x = some c -> c ≠ b) /\ ∀ p ∈ X.pn ++ pins, p.1 ≠ b)
 (keep : ∀ b o, b ≠ X.env.locals -> b ∉ X.fs -> b ∉ ch -> s.heap.get? b = some o -> H b = none -> h'.get? b = some o)
 (slot : ∀ b o, b ≠ X.env.locals -> b ∈ X.fs -> b ∉ ch -> s.heap.get? b = some o -> H b = none -> ∃ sl, h'.get? b = some { o with slots := sl }) (free : ∀ b o, b ∉ ch -> s.heap.get? b = some o -> H b = none -> H' b = none)
 (there : ∀ b o, b ∉ ch -> s.heap.get? b = some o -> ∃ o', h'.get? b = some o')
 (tups : ∀ b xs, H b = some (.tup xs) -> H' b = some (.tup xs)) (frzs : ∀ b o u, H b = some (.frz o u) -> H' b = some (.frz o u)) (tbls : ∀ b ps, H b = some (.tbl ps) -> ∃ more, H' b = some (.tbl (ps ++ more)))
 (ns : ∀ m, s.heap.Ns X.env.locals m -> h'.Ns X.env.locals m) (hok : HOk X.prog X.w H' h') (hg : AllBare g') :
 Inv X pins σ H' { s with heap := h', gens := g', drawn := d', toks := t' } := by
 have neL : ∀ b o, X.s₀.heap.get? b = some o -> b ≠ X.env.locals := fun b o e => aM (aG (ai e) I.ok.above)
 have neC : ∀ b o, X.s₀.heap.get? b = some o -> b ∉ X.ex -> b ∉ ch := fun b o e hx hb => by
  rcases (hch b hb).1 with z | z
  · exact hx z
  · exact absurd (aG (ai e) z) (bR _)
 have cellK : ∀ x c, X.env.cells.lookup x = some c -> ∀ v, s.heap.IsCell c v -> h'.IsCell c v := fun x c e v ⟨o, ho, hd⟩ => by
  have nch : c ∉ ch := fun z => (hch c z).2.2.1 x c e rfl
  by_cases hc : c ∈ X.fs
  · obtain ⟨sl, q⟩ := slot c o (I.cne x c e) hc nch ho (I.freeC x c e)
    exact ⟨_, q, hd⟩
  · exact ⟨o, keep c o (I.cne x c e) hc nch ho (I.freeC x c e), hd⟩
 refine ⟨I.ok, I.os, hg, ⟨fun b o e n hb hx => ?_, fun b o e n hb hx => ?_, fun b o e n hx => ?_, fun b o e hx => ?_, fun b xs e => tups b xs (I.base.tups b xs e), fun b o xs e => frzs b o xs (I.base.frzs b o xs e), fun b ps e => ?_⟩, ?_, fun x c e => ?_, ?_, fun x c e => ?_, fun p hp => ?_, hok, I.len⟩
 · exact keep b o (neL b o e) hb (neC b o e hx) (I.base.keep b o e n hb hx) (I.base.free b o e n hx)
 · obtain ⟨sl, e1⟩ := I.base.slot b o e n hb hx
   obtain ⟨sl', e2⟩ := slot b _ (neL b o e) hb (neC b o e hx) e1 (I.base.free b o e n hx)
   exact ⟨sl', e2⟩
 · obtain ⟨o', e1⟩ := I.base.there b o e hx
   exact free b o' (neC b o e hx) e1 (I.base.free b o e n hx)
 · obtain ⟨o', e1⟩ := I.base.there b o e hx
   exact there b o' (neC b o e hx) e1
 · obtain ⟨m1, e1⟩ := I.base.tbls b ps e
   obtain ⟨m2, e2⟩ := tbls b _ e1
   exact ⟨m1 ++ m2, by rw [e2, Array.append_assoc]⟩
 · obtain ⟨m, hn, hl⟩ := I.loc
   refine ⟨m, ns m hn, fun i x v e1 e2 e3 => ?_⟩
   obtain ⟨u, r, l⟩ := hl i x v e1 e2 e3
   refine ⟨u, r, ?_⟩
   rcases l with l | ⟨k, c, e, z⟩
   · exact .inl l
   · exact .inr ⟨k, c, e, cellK x c e _ z⟩
 · obtain ⟨v, z⟩ := I.cell x c e
   exact ⟨v, cellK x c e v z⟩
 · obtain ⟨m, ⟨o, _, _, ho, _⟩, _⟩ := I.loc
   exact free _ o (fun z => (hch _ z).2.1 rfl) ho I.free
 · obtain ⟨v, o, ho, hd⟩ := I.cell x c e
   exact free c o (fun z => (hch c z).2.2.1 x c e rfl) ho (I.freeC x c e)
 · obtain ⟨e, n, ne, nf, d⟩ := I.pin p hp
   have nch : p.1 ∉ ch := fun z => (hch p.1 z).2.2.2 p hp rfl
   exact ⟨keep p.1 p.2 ne nf nch e n, free p.1 p.2 nch e n, ne, nf, d⟩
theorem Inv.un {t' : Nat} (I : Inv X pins σ H s) (u : Un X.fs [] H H' s.heap h') (hok : HOk X.prog X.w H' h') : Inv X pins σ H' { s with heap := h', toks := t' } := by
 obtain ⟨m, ⟨o, es, ep, ho, r⟩, _⟩ := id I.loc
 obtain ⟨sl, hL⟩ := u.any ho I.free (by simp)
 exact I.step (g' := s.gens) (d' := s.drawn) (ch := []) (fun _ z => nomatch z) (fun b o _ hb _ e n => u.keep b o e n hb (by simp)) (fun b o _ hb _ e n => u.slot b o e n hb (by simp)) (fun b o _ e n => u.free b o e n (by simp)) (fun b o _ e => u.there b o e (by simp)) u.tups u.frzs u.tbls (fun m' hm => by
  obtain ⟨o', es', ep', ho', r'⟩ := hm
  rw [ho] at ho'; cases ho'
  exact ⟨_, es', ep', hL, r'⟩) hok I.bare
theorem Inv.call {g' : Array GenState} {t' : Nat} {d' : Drawn} {ch : List Addr} (I : Inv X pins σ H s) (u : Un (YZ X.stack) ch H H' s.heap h') (hok : HOk X.prog X.w H' h') (hg : AllBare g')
 (hch : ∀ b ∈ ch, (b ∈ X.ex \/ X.s₀.heap.objs.size <= b) /\ b ≠ X.env.locals /\ (∀ x c, X.env.cells.lookup x = some c -> c ≠ b) /\ ∀ p ∈ X.pn ++ pins, p.1 ≠ b) :
 Inv X pins σ H' { s with heap := h', gens := g', drawn := d', toks := t' } := by
 obtain ⟨m, ⟨o, es, ep, ho, r⟩, _⟩ := id I.loc
 obtain ⟨sl, hL⟩ := u.any ho I.free fun z => (hch _ z).2.1 rfl
 exact I.step (ch := ch) hch (fun b o hL hb hc e n => u.keep b o e n (fun z => (ak.mp (I.stkSub b z)).elim hL hb) hc) (fun b o _ _ hc e n => u.any e n hc) (fun b o hc e n => u.free b o e n hc) (fun b o hc e => u.there b o e hc) u.tups u.frzs u.tbls (fun m' hm => by
  obtain ⟨o', es', ep', ho', r'⟩ := hm
  rw [ho] at ho'; cases ho'
  exact ⟨_, es', ep', hL, r'⟩) hok hg
theorem Inv.turned {t' : Nat} {it : Addr} (I : Inv X pins σ H s) (k : ∀ b o, b ≠ it -> s.heap.get? b = some o -> h'.get? b = some o) (hn : H it = none) (hL : it ≠ X.env.locals)
 (h1 : it ∈ X.ex \/ X.s₀.heap.objs.size <= it) (h2 : ∀ x c, X.env.cells.lookup x = some c -> c ≠ it) (h3 : ∀ p ∈ X.pn ++ pins, p.1 ≠ it) : Inv X pins σ H { s with heap := h', toks := t' } := by
 have nit : ∀ b u, H b = some u -> b ≠ it := fun b u e z => by rw [z, hn] at e; cases e
 refine I.step (g' := s.gens) (d' := s.drawn) (ch := [it]) (fun b hb => ?_) (fun b o _ _ hc e _ => k b o (fun z => hc (by simp [z])) e) (fun b o _ _ hc e _ => ⟨o.slots, k b o (fun z => hc (by simp [z])) e⟩) (fun _ _ _ _ n => n)
  (fun b o hc e => ⟨o, k b o (fun z => hc (by simp [z])) e⟩) (fun _ _ e => e) (fun _ _ _ e => e) (fun b ps e => ⟨#[], by rw [e]; simp⟩) (fun m hm => ?_) (fun b u e => ?_) I.bare
 · have e : b = it := by simpa using hb
   subst e
   exact ⟨h1, hL, h2, h3⟩
 · obtain ⟨o, es, ep, ho, r⟩ := hm
   exact ⟨o, es, ep, k _ o (aS hL) ho, r⟩
 · refine (I.hok b u e).stay (fun c v hc q => k c v ?_ q) (fun _ q => q) fun _ _ q => q
   rcases hc with z | z
   · rw [z]; exact nit b u e
   · exact nit c _ z
theorem Inv.tok (I : Inv X pins σ H s) (t : Nat) : Inv X pins σ H { s with toks := t } := I.un (h' := s.heap) (t' := t) Un.refl I.hok
theorem Inv.kept (I : Inv X pins σ H s) (k : ∀ b u, s.heap.get? b = some u -> h'.get? b = some u) : Inv X pins σ H { s with heap := h', toks := t' } := I.un (Un.kept k) (I.hok.kept k)
theorem Inv.laid (I : Inv X pins σ H s) (k : ∀ b u, s.heap.get? b = some u -> h'.get? b = some u) (hp : s.heap.objs.size <= a) (new : ObjOk X.prog X.w (zA H a o) h' a o) :
 Inv X pins σ (zA H a o) { s with heap := h', toks := t' } := I.un (Un.laid k hp (I.hok.fresh hp)) (I.hok.laid k hp new)
theorem Inv.write (I : Inv X pins σ H s) (mu : Mut (H x)) (he : e = x \/ H e = some (.own x)) (k : ∀ b u, b ≠ e -> s.heap.get? b = some u -> h'.get? b = some u) (heo : ∃ u, h'.get? e = some u)
 (new : ObjOk X.prog X.w (zA H x o) h' x o) : Inv X pins σ (zA H x o) { s with heap := h', toks := t' } := I.un (Un.write mu he k heo) (I.hok.write mu he k heo new)
theorem Inv.pins_of (I : Inv X pins σ H s) (h : ∀ p ∈ pins', s.heap.get? p.1 = some p.2 /\ H p.1 = none /\ p.1 ≠ X.env.locals /\ p.1 ∉ X.fs /\ ∀ v, p.2.data ≠ .cell v) : Inv X pins' σ H s :=
 ⟨I.ok, I.os, I.bare, I.base, I.loc, I.cell, I.free, I.freeC, fun p hp => (bH.mp hp).elim (fun z => I.pin p (bn _ z)) (h p), I.hok, I.len⟩
theorem zah {N : List Str} (hN : N.Nodup) {i j : Nat} {x : Str} (a : N[i]? = some x) (b : N[j]? = some x) : i = j := by
 obtain ⟨h1, e1⟩ := ay.mp a
 obtain ⟨h2, e2⟩ := ay.mp b
 exact (List.getElem_inj hN).mp (e1.trans e2.symm)
theorem WW {E : Value -> Shared -> Prop} {Q : Unit -> Shared -> Prop} (I : Inv X pins σ H s) (hN : X.N.Nodup) (hi : X.N[i]? = some x) (hx : Loc X.env.scope x) (r : RelV v u)
 (h : ∀ s', Inv X pins (σ.set i (some v)) H s' -> (∃ a, fu a s.heap s'.heap /\ (a = X.env.locals \/ X.env.cells.lookup x = some a)) -> Q () s') (hf : X.fn x = true \/ X.env.scope.names.lookup x = some .local := by first | exact .inl rfl | exact .inr rfl | assumption) : wpAny M A (storeName X.env x u) Q E s := by
 obtain ⟨m, hn, hl⟩ := id I.loc
 have hcls : (X.env.scope.kind == .class || (X.env.scope.kind == .module && X.env.locals != X.env.globals)) = false := by rw [I.ok.kind]; rfl
 have hiσ : i < σ.length := by rw [I.len]; exact (ay.mp hi).1
 have cne := I.cne
 have tracked : ∀ {a : Addr} {h' : Heap}, (∃ o, s.heap.get? a = some o /\ H a = none) -> fu a s.heap h' -> HOk X.prog X.w H h' := fun {a h'} ha hs b ob e => by
  obtain ⟨_, _, hfree⟩ := ha
  refine (I.hok b ob e).stay (fun c w' hc q => (hs.2 c ?_).trans q) (fun _ q => q) fun _ _ q => q
  rintro rfl
  rcases hc with rfl | hc
  · rw [hfree] at e; cases e
  · rw [hfree] at hc; cases hc
 rcases hx with hk | hk
 · refine wpAny_storeName_local hk hn (fun h' hn' hs => ?_) hcls
   obtain ⟨oL, _, _, hoL, _⟩ := id hn
   refine h _ ⟨I.ok, I.os, I.bare, ⟨fun b o e n hb hx => ?_, fun b o e n hb hx => ?_, I.base.free, fun b o e hx => ?_, I.base.tups, I.base.frzs, I.base.tbls⟩, ⟨_, hn', fun j y v' e1 e2 e3 => ?_⟩, fun y c e => ?_, I.free, I.freeC, fun p hp => ?_, tracked ⟨oL, hoL, I.free⟩ hs, by simpa using I.len⟩ ⟨_, hs, .inl rfl⟩
   · exact (hs.2 b (aM (aG (ai e) I.ok.above))).trans (I.base.keep b o e n hb hx)
   · obtain ⟨sl, e1⟩ := I.base.slot b o e n hb hx
     exact ⟨sl, (hs.2 b (aM (aG (ai e) I.ok.above))).trans e1⟩
   · obtain ⟨o', e1⟩ := I.base.there b o e hx
     exact ⟨o', (hs.2 b (aM (aG (ai e) I.ok.above))).trans e1⟩
   · by_cases hj : j = i
     · subst hj
       rw [hi] at e1; cases e1
       rw [d7 hiσ] at e2
       cases e2
       exact ⟨u, r, .inl ⟨hk, by simp⟩⟩
     · rw [eK (aS hj)] at e2
       obtain ⟨u', r', q⟩ := hl j y v' e1 e2 e3
       refine ⟨u', r', ?_⟩
       rcases q with ⟨k, e⟩ | ⟨k, c, e, z⟩
       · refine .inl ⟨k, ?_⟩
         have : y ≠ x := fun e => hj (zah hN e1 (e ▸ hi))
         simp [this, e]
       · exact .inr ⟨k, c, e, z.sameBut hs (cne y c e)⟩
   · obtain ⟨w', z⟩ := I.cell y c e
     exact ⟨w', z.sameBut hs (cne y c e)⟩
   · obtain ⟨e, n, ne, nf, d⟩ := I.pin p hp
     exact ⟨(hs.2 p.1 ne).trans e, n, ne, nf, d⟩
 · have hfn : X.fn x = true := by
    rcases hf with z | z
    · exact z
    · rw [z] at hk; cases hk
   obtain ⟨c, hc⟩ := I.ok.has x (.inl hk)
   obtain ⟨w', z⟩ := I.cell x c hc
   refine wpAny_storeName_cell I.ok.kind hk hc z (fun h' hc' hs => ?_)
   obtain ⟨oc, hoc, hocd⟩ := id z
   refine h { s with heap := h' } ⟨I.ok, I.os, I.bare, ⟨fun b o e n hb hx => ?_, fun b o e n hb hx => ?_, I.base.free, fun b o e hx => ?_, I.base.tups, I.base.frzs, I.base.tbls⟩, ⟨m, hn.sameBut hs (aS (cne x c hc)), fun j y v' e1 e2 e3 => ?_⟩, fun y c' e => ?_, I.free, I.freeC, fun p hp => ?_, tracked ⟨oc, hoc, I.freeC x c hc⟩ hs, by simpa using I.len⟩ ⟨c, hs, .inr hc⟩
   · exact (hs.2 b (aM (aG (ai e) (I.ok.cab x c hfn hc)))).trans (I.base.keep b o e n hb hx)
   · obtain ⟨sl, e1⟩ := I.base.slot b o e n hb hx
     exact ⟨sl, (hs.2 b (aM (aG (ai e) (I.ok.cab x c hfn hc)))).trans e1⟩
   · obtain ⟨o', e1⟩ := I.base.there b o e hx
     exact ⟨o', (hs.2 b (aM (aG (ai e) (I.ok.cab x c hfn hc)))).trans e1⟩
   · by_cases hj : j = i
     · subst hj
       rw [hi] at e1; cases e1
       rw [d7 hiσ] at e2
       cases e2
       exact ⟨u, r, .inr ⟨.inl hk, c, hc, hc'⟩⟩
     · rw [eK (aS hj)] at e2
       obtain ⟨u', r', q⟩ := hl j y v' e1 e2 e3
       refine ⟨u', r', ?_⟩
       rcases q with q | ⟨k, c', e, z'⟩
       · exact .inl q
       · refine .inr ⟨k, c', e, z'.sameBut hs ?_⟩
         rintro rfl
         exact hj (zah hN e1 (I.ok.inj _ _ _ e hc ▸ hi))
   · by_cases hcc : c' = c
     · subst hcc; exact ⟨_, hc'⟩
     · obtain ⟨w2, z2⟩ := I.cell y c' e
       exact ⟨w2, z2.sameBut hs hcc⟩
   · obtain ⟨e, n, ne, nf, d⟩ := I.pin p hp
     refine ⟨(hs.2 p.1 ?_).trans e, n, ne, nf, d⟩
     intro q
     rw [q, hoc] at e
     have q' : oc = p.2 := bi e
     exact d w' (by rw [← q']; exact hocd)
theorem zai {E : Value -> Shared -> Prop} {Q : Unit -> Shared -> Prop} (I : Inv X pins σ H s) (hN : X.N.Nodup) (hi : X.N[i]? = some x) (hx : Loc X.env.scope x) (r : RelV v u)
 (h : ∀ s', Inv X pins (σ.set i (some v)) H s' -> Q () s') (hf : X.fn x = true \/ X.env.scope.names.lookup x = some .local := by first | exact .inl rfl | exact .inr rfl | assumption) : wpAny M A (storeName X.env x u) Q E s :=
 WW I hN hi hx r (fun s' I' _ => h s' I') hf
theorem Inv.call' {s' : Shared} (I : Inv X pins σ H s) (ho : s'.os = s.os) (u : Un (YZ X.stack) ch H H' s.heap s'.heap) (hok : HOk X.prog X.w H' s'.heap) (hg : AllBare s'.gens)
 (hch : ∀ b ∈ ch, (b ∈ X.ex \/ X.s₀.heap.objs.size <= b) /\ b ≠ X.env.locals /\ (∀ x c, X.env.cells.lookup x = some c -> c ≠ b) /\ ∀ p ∈ X.pn ++ pins, p.1 ≠ b) : Inv X pins σ H' s' := by
 obtain ⟨h', g', d', t', o'⟩ := s'
 have e : o' = s.os := ho
 subst e
 exact I.call (g' := g') (t' := t') (d' := d') u hok hg hch
end
abbrev XK := Value -> Option Addr -> Hp -> Prop
abbrev St := List (Option V)
abbrev VK := V -> Hp -> Prop
abbrev TE := St -> Hp -> VK -> Prop
abbrev TT := St -> Hp -> (Bool -> Hp -> Prop) -> Prop
abbrev TA := St -> Hp -> (List V -> Hp -> Prop) -> Prop
structure zaj where
 nx : St -> Hp -> Prop
 rt : VK
 bk : St -> Hp -> Prop := fun _ _ => False
 ct : St -> Hp -> Prop := fun _ _ => False
abbrev TS := zaj -> St -> Hp -> Prop
def EP (X : Cx) (pins : List (Addr × Obj)) (σ : St) (Q : VK) (u : Value) (s' : Shared) : Prop := ∃ v H', Inv X pins σ H' s' /\ RelV v u /\ Q v H'
def TP (X : Cx) (pins : List (Addr × Obj)) (σ : St) (Q : Bool -> Hp -> Prop) (b : Bool) (s' : Shared) : Prop := ∃ H', Inv X pins σ H' s' /\ Q b H'
def AP (X : Cx) (pins : List (Addr × Obj)) (σ : St) (Q : List V -> Hp -> Prop) (us : List Value) (s' : Shared) : Prop := ∃ vs H', Inv X pins σ H' s' /\ Vals vs us /\ Q vs H'
def SP (X : Cx) (pins : List (Addr × Obj)) (D : zaj) (f : Flow) (s' : Shared) : Prop :=
 match f with
 | .next => ∃ σ' H', Inv X pins σ' H' s' /\ D.nx σ' H'
 | .brk => ∃ σ' H', Inv X pins σ' H' s' /\ D.bk σ' H'
 | .cont => ∃ σ' H', Inv X pins σ' H' s' /\ D.ct σ' H'
 | .ret u => ∃ v σ' H', Inv X pins σ' H' s' /\ RelV v u /\ D.rt v H'
def PE (X : Cx) (e : Expr) (t : TE) : Prop :=
 ∀ (pins : List (Addr × Obj)) (s : Shared) (σ : St) (H : Hp) (Q : VK), Inv X pins σ H s -> t σ H Q -> wpAny (model X.prog X.w) X.A (eval e X.env) (EP X pins σ Q) X.xe s
def PT (X : Cx) (e : Expr) (t : TT) : Prop :=
 ∀ (pins : List (Addr × Obj)) (s : Shared) (σ : St) (H : Hp) (Q : Bool -> Hp -> Prop), Inv X pins σ H s -> t σ H Q -> wpAny (model X.prog X.w) X.A (isTrue e X.env (eval e X.env)) (TP X pins σ Q) X.xe s
def PW (X : Cx) (e : Expr) (t : TT) : Prop :=
 ∀ (whole : Sem Value) (pins : List (Addr × Obj)) (s : Shared) (σ : St) (H : Hp) (Q : Bool -> Hp -> Prop), Inv X pins σ H s -> t σ H Q -> wpAny (model X.prog X.w) X.A (isTrue e X.env whole) (TP X pins σ Q) X.xe s
theorem PW.pt (h : PW X e t) : PT X e t := h _
def PA (X : Cx) (es : List Expr) (t : TA) : Prop :=
 ∀ (pos : Pos) (pins : List (Addr × Obj)) (s : Shared) (σ : St) (H : Hp) (Q : List V -> Hp -> Prop), Inv X pins σ H s -> t σ H Q -> wpAny (model X.prog X.w) X.A (spliced (backTo pos (aj es X.env))) (AP X pins σ Q) X.xe s
def PS (X : Cx) (st : Stmt) (t : TS) : Prop :=
 ∀ (pins : List (Addr × Obj)) (s : Shared) (σ : St) (H : Hp) (D : zaj), Inv X pins σ H s -> t D σ H -> wpAny (model X.prog X.w) X.A (exec st X.env) (SP X pins D) X.xe s
def PSs (X : Cx) (st : List Stmt) (t : TS) : Prop :=
 ∀ (pins : List (Addr × Obj)) (s : Shared) (σ : St) (H : Hp) (D : zaj), Inv X pins σ H s -> t D σ H -> wpAny (model X.prog X.w) X.A (execs st X.env) (SP X pins D) X.xe s
theorem zK {α : Type} {t : Sem α} {Q Q' : α -> Shared -> Prop} {M : Model} {A : Around} {E : Value -> Shared -> Prop} {s : Shared} (h : wpAny M A t Q E s) (hQ : ∀ a s, Q a s -> Q' a s) : wpAny M A t Q' E s := ce h hQ fun _ _ x => x
section
variable {X : Cx}
def J5 (i : Nat) : TE := fun σ H Q => ∃ v, σ[i]? = some (some v) /\ Q v H
def tC (v : V) : TE := fun _ H Q => Q v H
theorem JQ (hN : X.N[i]? = some x) (hv : Zx X.env.scope x) (hd : (x == ("__debug__" : Str)) = false := by decide) (hcd : (x == ("__classdict__" : Str)) = false := by decide) : PE X (.Name x pos) (J5 i) := by
 intro pins s σ H Q I h
 obtain ⟨v, e, h⟩ := h
 obtain ⟨m, hn, hl⟩ := I.loc
 obtain ⟨u, r, l⟩ := hl i x v hN e hv
 have fin : EP X pins σ Q u s := ⟨v, H, I, r, h⟩
 rcases l with ⟨hk, hm⟩ | ⟨hk, c, hc, hcell⟩
 · exact gD (wpAny_loadName_local I.ok.kind hk hn hm fin) hd
 · rcases hk with hk | hk
   · exact gD (wpAny_loadName_cell I.ok.kind hk hc hcell fin) hd
   · exact gD (wpAny_loadName_free I.ok.kind hk hc hcell fin hcd) hd
theorem zjf : PE X (.Constant (.int i) j pos) (tC (.int i)) := fun _ _ _ H _ I h => wpAny_Constant_int ⟨.int i, H, I.tok _, ⟨_, rfl⟩, h⟩
theorem zlq : PE X (.Constant (.bool b) j pos) (tC (.bl b)) := fun _ _ _ H _ I h => Constant_bool ⟨.bl b, H, I, rfl, h⟩
theorem zjg : PE X (.Constant .none j pos) (tC .non) := fun _ _ _ H _ I h => Constant_none ⟨.non, H, I, rfl, h⟩
theorem zak : PE X (.Constant (.str x) j pos) (tC (.str x)) := fun _ _ _ H _ I h => Calls.Constant_str ⟨.str x, H, I.tok _, ⟨_, rfl⟩, h⟩
def Gl (X : Cx) (x : Str) : Prop := X.env.kindOf x = some .globalImplicit
theorem zb8 {E : Value -> Shared -> Prop} {Q : Value -> Shared -> Prop} (I : Inv X pins σ H s) (hg : Gl X x) (hm : X.mg x = some u) (h : Q u s)
 (hd : (x == ("__debug__" : Str)) = false := by decide) : wpAny (model X.prog X.w) X.A (eval (.Name x pos) X.env) Q E s :=
 dB I.ok.kind hg (Calls.loadGlobal_global (by rw [I.ok.glob]; exact I.mod.glob.keeps I.bk) hm h) hd
theorem QB {E : Value -> Shared -> Prop} {Q : Value -> Shared -> Prop} (I : Inv X pins σ H s) (hg : Gl X x) (hm : X.mg x = none) (hv : bB x = some u) (h : Q u s)
 (hn : x ≠ "__name__" := by decide) (hd : (x == ("__debug__" : Str)) = false := by decide) : wpAny (model X.prog X.w) X.A (eval (.Name x pos) X.env) Q E s := by
 obtain ⟨mb, h1, h2⟩ := I.mod.blt
 exact dB I.ok.kind hg (Calls.loadGlobal_builtin (by rw [I.ok.glob]; exact I.mod.glob.keeps I.bk) hm (by rw [I.ok.blt]; exact h1.keeps I.bk) ((h2 x hn).trans hv) h) hd
theorem Wm (hg : Gl X x) (hm : X.mg x = some u) (r : RelV v u) (hd : (x == ("__debug__" : Str)) = false := by decide) : PE X (.Name x pos) (tC v) :=
 fun _ _ _ H _ I h => zb8 I hg hm ⟨v, H, I, r, h⟩ hd
theorem zhO (hg : Gl X x) (hm : X.mg x = none) (hv : bB x = some u) (r : RelV v u) (hn : x ≠ "__name__" := by decide) (hd : (x == ("__debug__" : Str)) = false := by decide) : PE X (.Name x pos) (tC v) :=
 fun _ _ _ H _ I h => QB I hg hm hv ⟨v, H, I, r, h⟩ hn hd
variable {a b : Expr} {ta tb : TE} {pos : Pos}
def tB (t : TE) : TT := fun σ H Q => t σ H fun x H1 => ∃ c, x = .bl c /\ Q c H1
theorem zjh {e : Expr} {t : TE} (h : PE X e t) (he : ∀ whole, isTrue e X.env whole = (do let v ← whole; fH e.pos; dk [v] (truthy v)) := by intro _; rfl) : PT X e (tB t) := by
 intro pins s σ H Q I hw
 refine isTrue_plain (zK (h pins s σ H _ I hw) fun v s1 ⟨x, H1, I1, r1, q1⟩ => ?_) (he _)
 obtain ⟨d, rfl, q⟩ := q1
 cases r1
 exact aV ⟨H1, I1, q⟩
variable {tA tB' : TT} {rest : List Expr}
def zji (t u : TT) : TT := fun σ H Q => t σ H fun c H1 => if c = true then u σ H1 Q else Q false H1
def tOr (t u : TT) : TT := fun σ H Q => t σ H fun c H1 => if c = true then Q true H1 else u σ H1 Q
def zjj (t : TT) : TT := fun σ H Q => t σ H fun c H1 => Q (!c) H1
theorem zhP (ha : PT X a tA) : PW X (.BoolOp .And [a] pos) tA := by
 intro wh pins s σ H Q I h
 refine isTrue_and (zK (ha pins s σ H Q I h) fun c s1 e => ?_)
 cases c with
 | true => exact isTrue_and_nil e
 | false => exact e
theorem zjk (ha : PT X a tA) : PW X (.BoolOp .Or [a] pos) tA := by
 intro wh pins s σ H Q I h
 refine isTrue_or (zK (ha pins s σ H Q I h) fun c s1 e => ?_)
 cases c with
 | false => exact isTrue_or_nil e
 | true => exact e
theorem zjl (ha : PT X a tA) (hb : PW X (.BoolOp .And (b :: rest) pos) tB') : PW X (.BoolOp .And (a :: b :: rest) pos) (zji tA tB') := by
 intro wh pins s σ H Q I h
 refine isTrue_and (zK (ha pins s σ H _ I h) fun c s1 ⟨H1, I1, q1⟩ => ?_)
 cases c with
 | true => exact hb wh pins s1 σ H1 Q I1 q1
 | false => exact ⟨H1, I1, q1⟩
theorem zlr (ha : PT X a tA) (hb : PW X (.BoolOp .Or (b :: rest) pos) tB') : PW X (.BoolOp .Or (a :: b :: rest) pos) (tOr tA tB') := by
 intro wh pins s σ H Q I h
 refine isTrue_or (zK (ha pins s σ H _ I h) fun c s1 ⟨H1, I1, q1⟩ => ?_)
 cases c with
 | true => exact ⟨H1, I1, q1⟩
 | false => exact hb wh pins s1 σ H1 Q I1 q1
theorem zjm (ha : PT X a tA) : PT X (.UnaryOp .Not a pos) (zjj tA) := by
 intro pins s σ H Q I h
 exact isTrue_not (ha pins s σ H (fun c H1 => Q (!c) H1) I h)
def zgX (ta tb : TE) : TE := fun σ H Q => ta σ H fun x H1 => ∃ c, x = .bl c /\ if c = true then tb σ H1 Q else Q (.bl false) H1
def zjn (ta tb : TE) : TE := fun σ H Q => ta σ H fun x H1 => ∃ c, x = .bl c /\ if c = true then Q (.bl true) H1 else tb σ H1 Q
def zgY (ta : TE) : TE := fun σ H Q => ta σ H fun x H1 => ∃ c, x = .bl c /\ Q (.bl (!c)) H1
theorem zjo (h : PE X a t) : PE X (.BoolOp op [a] pos) t := fun pins s σ H Q I hw => BoolOp_one (h pins s σ H Q I hw)
theorem zjp (ha : PE X a ta) (hb : PE X (.BoolOp .And (b :: rest) pos) tb) : PE X (.BoolOp .And (a :: b :: rest) pos) (zgX ta tb) := by
 intro pins s σ H Q I h
 refine BoolOp_and (zK (ha pins s σ H _ I h) fun v s1 ⟨x, H1, I1, r1, q1⟩ => ?_)
 obtain ⟨c, rfl, q1⟩ := q1
 cases r1
 refine aV ?_
 cases c with
 | true => exact hb pins s1 σ H1 Q I1 q1
 | false => exact ⟨.bl false, H1, I1, rfl, q1⟩
theorem zls (ha : PE X a ta) (hb : PE X (.BoolOp .Or (b :: rest) pos) tb) : PE X (.BoolOp .Or (a :: b :: rest) pos) (zjn ta tb) := by
 intro pins s σ H Q I h
 refine BoolOp_or (zK (ha pins s σ H _ I h) fun v s1 ⟨x, H1, I1, r1, q1⟩ => ?_)
 obtain ⟨c, rfl, q1⟩ := q1
 cases r1
 refine aV ?_
 cases c with
 | false => exact hb pins s1 σ H1 Q I1 q1
 | true => exact ⟨.bl true, H1, I1, rfl, q1⟩
theorem zjq (ha : PE X a ta) : PE X (.UnaryOp .Not a pos) (zgY ta) := by
 intro pins s σ H Q I h
 refine UnaryOp_ (zK (ha pins s σ H _ I h) fun v s1 ⟨x, H1, I1, r1, q1⟩ => ?_)
 obtain ⟨c, rfl, q1⟩ := q1
 cases r1
 exact not_of (aV ⟨.bl (!c), H1, I1, rfl, q1⟩)
def tIf (t : TT) (ta tb : TE) : TE := fun σ H Q => t σ H fun c H1 => if c = true then ta σ H1 Q else tb σ H1 Q
theorem zal {c : Expr} (hc : PT X c tA) (ha : PE X a ta) (hb : PE X b tb) : PE X (.IfExp c a b pos) (tIf tA ta tb) := by
 intro pins s σ H Q I h
 refine wpAny_IfExp (zK (hc pins s σ H _ I h) fun d s1 ⟨H1, I1, q1⟩ => ?_)
 cases d with
 | true => exact ha pins s1 σ H1 Q I1 q1
 | false => exact hb pins s1 σ H1 Q I1 q1
end
def yl (K : ae) (H : Hp) (a : Addr) (xs : List V) : Prop :=
 Rd H a (.lst xs) \/
  ∃ (o : Obj) (its : Array Value) (n : Nat), K.lookup a = some o /\ o.cls = .type "list" /\ o.dict = none /\ o.data = .seq its n /\ its.size <= az /\ Vals xs its.toList
def SqT (K : ae) (H : Hp) (a : Addr) (xs : List V) : Prop :=
 Rd H a (.tup xs) \/
  ∃ (o : Obj) (its : Array Value) (n : Nat), K.lookup a = some o /\ o.cls = .type "tuple" /\ o.data = .seq its n /\ its.size <= az /\ Vals xs its.toList
def zmA : Value -> Option V
 | .none => some .non
 | .bool b => some (.bl b)
 | .int i _ => some (.int i)
 | .str x _ => some (.str x)
 | .bytes b _ => some (.byt b)
 | .float b _ => some (.flt b)
 | .ref a => some (.ref a)
 | .type n => some (.ty n)
 | _ => none
theorem RelV.abs (r : RelV x u) : zmA u = some x := by
 cases x with
 | non => cases r; rfl
 | bl _ => cases r; rfl
 | int _ => obtain ⟨t, rfl⟩ := r; rfl
 | str _ => obtain ⟨t, rfl⟩ := r; rfl
 | byt _ => obtain ⟨t, rfl⟩ := r; rfl
 | flt _ => obtain ⟨t, rfl⟩ := r; rfl
 | ref _ => cases r; rfl
 | ty _ => cases r; rfl
theorem RelV.inj (r : RelV x u) (q : RelV y u) : x = y := bi (r.abs.symm.trans q.abs)
theorem Vals.inj : ∀ {xs ys : List V} {us : List Value}, Vals xs us -> Vals ys us -> xs = ys
 | _, _, _, .nil, .nil => rfl
 | _, _, _, .cons r t, .cons r' t' => by rw [r.inj r', Vals.inj t t']
section
variable {X : Cx} {pins : List (Addr × Obj)} {σ : St} {H : Hp} {s : Shared} {a : Addr} {xs ys : List V}
theorem SqT.of {K : ae} (h : H a = some (.tup xs)) : SqT K H a xs := .inl (.inl h)
theorem Inv.list (I : Inv X pins σ H s) (h : yl X.K H a xs) : ∃ its : List Value, Vals xs its /\ PlainL s.heap a its.toArray /\ xs.length <= az := by
 rcases h with h | ⟨o, its, n, hk, hc, hd, hs, hz, r⟩
 · obtain ⟨z, its, n, r, e⟩ := h.ok I.hok
   exact ⟨its, r, ⟨_, n, e, rfl, rfl, rfl⟩, z⟩
 · refine ⟨its.toList, r, ⟨o, n, I.kIn a o hk, hc, hd, by simpa using hs⟩, ?_⟩
   have e := r.length
   simp only [dh] at e
   omega
theorem Inv.tuple (I : Inv X pins σ H s) (h : SqT X.K H a xs) : ∃ its : List Value, Vals xs its /\ IsTup s.heap a its.toArray /\ xs.length <= az := by
 rcases h with h | ⟨o, its, n, hk, hc, hs, hz, r⟩
 · obtain ⟨z, its, r, p⟩ := h.ok I.hok
   exact ⟨its, r, p, z⟩
 · refine ⟨its.toList, r, ⟨o, I.kIn a o hk, hc, n, by simpa using hs⟩, ?_⟩
   have e := r.length
   simp only [dh] at e
   omega
theorem Inv.list_inj (I : Inv X pins σ H s) (h : yl X.K H a xs) (h' : yl X.K H a ys) : xs = ys := by
 obtain ⟨its, r, ⟨o, n, e, _, _, d⟩, _⟩ := I.list h
 obtain ⟨its', r', ⟨o', n', e', _, _, d'⟩, _⟩ := I.list h'
 rw [e] at e'; cases e'
 rw [d] at d'
 injection d' with d1 _
 have : its = its' := by simpa using congrArg gP d1
 subst this
 exact r.inj r'
theorem Inv.tuple_inj (I : Inv X pins σ H s) (h : SqT X.K H a xs) (h' : SqT X.K H a ys) : xs = ys := by
 obtain ⟨its, r, ⟨o, e, _, n, d⟩, _⟩ := I.tuple h
 obtain ⟨its', r', ⟨o', e', _, n', d'⟩, _⟩ := I.tuple h'
 rw [e] at e'; cases e'
 rw [d] at d'
 injection d' with d1 _
 have : its = its' := by simpa using congrArg gP d1
 subst this
 exact r.inj r'
end
abbrev Cx.wish (X : Cx) (E : Value -> Shared -> Prop) : Cx := { X with xe := E }
abbrev Cx.nox (X : Cx) : Cx := X.wish fun _ _ => False
theorem Cx.Ok.wish {X : Cx} (ok : X.Ok) (E : Value -> Shared -> Prop) : (X.wish E).Ok :=
 ⟨ok.mod, ok.kind, ok.glob, ok.blt, ok.above, ok.inj, ok.has, ok.cab, ok.hd, ok.frames, ok.stk, ok.exf, ok.bs, ok.bsz, ok.noex, ok.exfs, ok.funs, ok.frf⟩
theorem Cx.Ok.unwish {X : Cx} {E : Value -> Shared -> Prop} (ok : (X.wish E).Ok) : X.Ok :=
 ⟨ok.mod, ok.kind, ok.glob, ok.blt, ok.above, ok.inj, ok.has, ok.cab, ok.hd, ok.frames, ok.stk, ok.exf, ok.bs, ok.bsz, ok.noex, ok.exfs, ok.funs, ok.frf⟩
section
variable {X : Cx} {pins : List (Addr × Obj)} {σ : St} {H : Hp} {s : Shared} {E : Value -> Shared -> Prop}
theorem Inv.wish (I : Inv X pins σ H s) (E : Value -> Shared -> Prop) : Inv (X.wish E) pins σ H s := ⟨I.ok.wish E, I.os, I.bare, I.base, I.loc, I.cell, I.free, I.freeC, I.pin, I.hok, I.len⟩
theorem Inv.unwish (I : Inv (X.wish E) pins σ H s) : Inv X pins σ H s := ⟨I.ok.unwish, I.os, I.bare, I.base, I.loc, I.cell, I.free, I.freeC, I.pin, I.hok, I.len⟩
theorem SP.unwish (h : SP (X.wish E) pins D f s') : SP X pins D f s' := by
 cases f with
 | next => obtain ⟨σ', H', I, q⟩ := h; exact ⟨σ', H', I.unwish, q⟩
 | brk => obtain ⟨σ', H', I, q⟩ := h; exact ⟨σ', H', I.unwish, q⟩
 | cont => obtain ⟨σ', H', I, q⟩ := h; exact ⟨σ', H', I.unwish, q⟩
 | ret u => obtain ⟨v, σ', H', I, r, q⟩ := h; exact ⟨v, σ', H', I.unwish, r, q⟩
theorem PSs.nox {st : List Stmt} {t : TS} (h : PSs X.nox st t) : PSs X st t := fun pins s σ H D I hw =>
 ce (h pins s σ H D (I.wish _) hw) (fun _ _ q => q.unwish) fun _ _ z => aa z
end
section
variable {X : Cx} {st : Stmt} {rest : List Stmt} {t u : TS} {e : Expr} {te : TE} {pos : Pos}
def zgZ : TS := fun D σ H => D.nx σ H
def zjs (t u : TS) : TS := fun D σ H => t { D with nx := u D } σ H
theorem zhQ : PSs X [] zgZ := fun _ _ σ H _ I h => eB ⟨σ, H, I, h⟩
theorem zfI (h1 : PS X st t) (h2 : PSs X rest u) : PSs X (st :: rest) (zjs t u) := by
 intro pins s σ H D I h
 refine wpAny_execs_cons (zK (h1 pins s σ H { D with nx := u D } I h) fun f s1 q => ?_)
 cases f with
 | next =>
  obtain ⟨σ', H', I', q⟩ := q
  exact h2 pins s1 σ' H' D I' q
 | ret v => exact q
 | brk => exact q
 | cont => exact q
theorem zhR (h1 : PS X st t) : PSs X [st] t := by
 intro pins s σ H D I h
 refine wpAny_execs_cons (zK (h1 pins s σ H D I h) fun f s1 q => ?_)
 cases f with
 | next => exact eB q
 | ret v => exact q
 | brk => exact q
 | cont => exact q
theorem Inv.quiet (I : Inv X pins σ H s) : interactive X.env = false := by simp [interactive, I.ok.kind]
def zg0 (te : TE) : TS := fun D σ H => te σ H fun _ H1 => D.nx σ H1
theorem zhS (he : PE X e te) (hs : cW e none pos.line X.env = pure false := by rfl) : PS X (.Expr e pos) (zg0 te) := by
 intro pins s σ H D I h
 exact wpAny_Expr_any (zK (he pins s σ H _ I h) fun v s1 ⟨x, H1, I1, r1, q1⟩ => ⟨σ, H1, I1, q1⟩) I.quiet hs
def zdj (te : TE) : TS := fun D σ H => te σ H D.rt
theorem zam (he : PE X e te) : PS X (.Return (some e) pos) (zdj te) := by
 intro pins s σ H D I h
 exact wpAny_Return_some (zK (he pins s σ H _ I h) fun v s1 ⟨x, H1, I1, r1, q1⟩ => ⟨x, σ, H1, I1, r1, q1⟩)
def zjt (c : TT) (t u : TS) : TS := fun D σ H => c σ H fun b H1 => if b = true then t D σ H1 else u D σ H1
theorem zlu {c : Expr} {a b : List Stmt} {tc : TT} (hc : PT X c tc) (ha : PSs X a t) (hb : PSs X b u) : PS X (.If c a b pos) (zjt tc t u) := by
 intro pins s σ H D I h
 refine wpAny_If (zK (hc pins s σ H _ I h) fun d s1 ⟨H1, I1, q1⟩ => ?_)
 cases d with
 | true => exact ha pins s1 σ H1 D I1 q1
 | false => exact hb pins s1 σ H1 D I1 q1
def zju : TS := fun _ _ _ => False
theorem zfJ : PS X st zju := fun _ _ _ _ _ _ h => h.elim
end
abbrev TG := V -> St -> Hp -> (St -> Hp -> Prop) -> Prop
abbrev TGs := List V -> St -> Hp -> (St -> Hp -> Prop) -> Prop
def PG (X : Cx) (target : Expr) (t : TG) : Prop :=
 ∀ (pins : List (Addr × Obj)) (s : Shared) (σ : St) (H : Hp) (v : V) (u : Value) (Q : St -> Hp -> Prop), Inv X pins σ H s -> RelV v u -> t v σ H Q ->
  wpAny (model X.prog X.w) X.A (assign target X.env u) (fun _ s' => ∃ σ' H', Inv X pins σ' H' s' /\ Q σ' H') X.xe s
def PGs (X : Cx) (ts : List Expr) (t : TGs) : Prop :=
 ∀ (pins : List (Addr × Obj)) (s : Shared) (σ : St) (H : Hp) (vs : List V) (us : List Value) (Q : St -> Hp -> Prop), Inv X pins σ H s -> Vals vs us -> t vs σ H Q ->
  wpAny (model X.prog X.w) X.A (assignInOrder ((bT ts X.env).map (·.2)) us) (fun _ s' => ∃ σ' H', Inv X pins σ' H' s' /\ Q σ' H') X.xe s
abbrev zfK := V -> V -> V -> Hp -> (Hp -> Prop) -> Prop
def zjv (X : Cx) (t : zfK) : Prop :=
 ∀ (pins : List (Addr × Obj)) (s : Shared) (σ : St) (H : Hp) (o i v : V) (ov iv u : Value) (Q : Hp -> Prop), Inv X pins σ H s -> RelV o ov -> RelV i iv -> RelV v u -> t o i v H Q ->
  wpAny (model X.prog X.w) X.A (setItem ov iv u) (fun _ s' => ∃ H', Inv X pins σ H' s' /\ Q H') X.xe s
section
variable {X : Cx} {pos : Pos}
def Up (i : Nat) : TG := fun v σ H Q => Q (σ.set i (some v)) H
theorem zhT (hN : X.N.Nodup) (hi : X.N[i]? = some x) (hx : Loc X.env.scope x) (hf : X.fn x = true \/ X.env.scope.names.lookup x = some .local := by first | exact .inl rfl | exact .inr rfl | assumption) : PG X (.Name x pos) (Up i) := by
 intro pins s σ H v u Q I r h
 exact wpAny_assign_Name (zai I hN hi hx r (fun s' I' => ⟨_, H, I', h⟩) hf)
def gNil : TGs := fun vs σ H Q => vs = [] /\ Q σ H
def gCons (t : TG) (u : TGs) : TGs := fun vs σ H Q => ∃ v r, vs = v :: r /\ t v σ H fun σ' H' => u r σ' H' Q
theorem zhU : PGs X [] gNil := by
 intro pins s σ H vs us Q I r h
 obtain ⟨e, h⟩ := h
 subst e
 cases r
 exact assignInOrder_nil ⟨σ, H, I, h⟩
theorem zfL {e : Expr} {es : List Expr} {t : TG} {u : TGs} (h1 : PG X e t) (h2 : PGs X es u)
 (hs : (bT (e :: es) X.env).map (·.2) = assign e X.env :: (bT es X.env).map (·.2) := by rfl) : PGs X (e :: es) (gCons t u) := by
 intro pins s σ H vs us Q I r h
 obtain ⟨v, vr, e1, h⟩ := h
 subst e1
 cases r with
 | cons r rr =>
  rw [hs]
  refine assignInOrder_cons (zK (h1 pins s σ H _ _ _ I r h) fun _ s1 ⟨σ1, H1, I1, q1⟩ => ?_)
  exact h2 pins s1 σ1 H1 _ _ Q I1 rr q1
def gTup (K : ae) (n : Nat) (t : TGs) : TG := fun v σ H Q => ∃ a xs, v = .ref a /\ SqT K H a xs /\ xs.length = n /\ t xs σ H Q
theorem zjw (hc : X.calm = true) (h : PGs X es t)
 (hn : (bT es X.env).length = n := by rfl) (hst : (bT es X.env).findIdx? (·.1) = none := by rfl) : PG X (.Tuple es k pos) (gTup X.K n t) := by
 intro pins s σ H v u Q I r hw
 obtain ⟨a, xs, e1, hq, hl, hw⟩ := hw
 subst e1
 cases r
 obtain ⟨its, rv, ht, hz⟩ := I.tuple hq
 refine assign_Tuple_tuple (I.ok.hd hc) ht (by simp [hn, ← hl, rv.length]) hst fun h' hx => ?_
 have I1 : Inv X pins σ H { s with heap := h' } := I.kept (t' := s.toks) fun b o e => hx b o (aM (ai e)) e
 exact h pins _ σ H xs _ Q I1 (by simpa using rv) hw
def zjx (to ti : TE) (t : zfK) : TG := fun v σ H Q => to σ H fun o H1 => ti σ H1 fun i H2 => t o i v H2 fun H3 => Q σ H3
theorem zjy {o i : Expr} {to ti : TE} {t : zfK} (ho : PE X o to) (hi : PE X i ti) (hs : zjv X t)
 (ha : ∀ v, assign (.Subscript o i pos) X.env v = (do
  let ov ← dk [v] (eval o X.env)
  let iv ← dk [v, ov] (eval i X.env)
  fH pos
  dk [v, ov, iv] (setItem ov iv v)
  release [v, ov, iv] []) := by intro _; rfl) : PG X (.Subscript o i pos) (zjx to ti t) := by
 intro pins s σ H v u Q I r h
 rw [ha]
 refine ac (bh (zK (ho pins s σ H _ I h) fun ov s1 ⟨x, H1, I1, r1, q1⟩ => ?_))
 refine ac (bh (zK (hi pins s1 σ H1 _ I1 q1) fun iv s2 ⟨y, H2, I2, r2, q2⟩ => ?_))
 refine ac (fc (ac (bh (zK (hs pins s2 σ H2 x y v ov iv u _ I2 r1 r2 r q2) fun _ s3 ⟨H3, I3, q3⟩ => ?_))))
 exact wpAny_release ⟨σ, H3, I3, q3⟩
def Wn (te : TE) (g : TG) : TS := fun D σ H => te σ H fun x H1 => g x σ H1 D.nx
theorem zjz {tg e : Expr} {te : TE} {g : TG} (he : PE X e te) (hg : PG X tg g) (hs : swapsWithSole [tg] e pos.line X.env = pure false := by rfl) (hw : swappedStores [tg] e X.env = pure none := by rfl)
 (h1 : (bT [tg] X.env).map (·.2) = [assign tg X.env] := by rfl) : PS X (.Assign [tg] e pos) (Wn te g) := by
 intro pins s σ H D I h
 refine wpAny_Assign_stores (zK (he pins s σ H _ I h) fun v s1 ⟨x, H1, I1, r1, q1⟩ => ?_) hs hw
 rw [h1]
 exact zK (hg pins s1 σ H1 x v _ I1 r1 q1) fun _ s2 q => q
theorem zeu {i : Nat} {x : Str} {e : Expr} {te : TE} {pos' : Pos} (hN : X.N.Nodup) (hi : X.N[i]? = some x) (hx : Loc X.env.scope x) (he : PE X e te) (hs : cW e (some (.Name x pos')) pos.line X.env = pure false := by rfl) (hf : X.fn x = true \/ X.env.scope.names.lookup x = some .local := by first | exact .inl rfl | exact .inr rfl | assumption) :
 PS X (.Assign [.Name x pos'] e pos) (Wn te (Up i)) := by
 intro pins s σ H D I h
 refine wpAny_Assign_Name (zK (he pins s σ H _ I h) fun v s1 ⟨y, H1, I1, r1, q1⟩ => ?_) hs
 exact zai I1 hN hi hx r1 (fun s2 I2 => ⟨_, H1, I2, q1⟩) hf
end
structure It where
 go : Nat -> Hp -> Prop
 yld : Nat -> Hp -> V -> Hp -> Prop
 stop : Nat -> Hp -> Prop
def FpOk (X : Cx) (pins : List (Addr × Obj)) (H : Hp) (b : Addr) : Prop :=
 H b = none /\ b ≠ X.env.locals /\ b ∉ X.fs /\ (b ∈ X.ex \/ X.s₀.heap.objs.size <= b) /\ (∀ x c, X.env.cells.lookup x = some c -> c ≠ b) /\ ∀ p ∈ X.pn ++ pins, p.1 ≠ b
theorem Inv.fpOk {s : Shared} (I : Inv X pins σ H s) (hb : s.heap.objs.size <= b) (hn : H' b = none) : FpOk X pins H' b := by
 refine ⟨hn, cM (aG I.lt hb), I.nofs hb, .inr (aO I.sz hb), fun x c e z => ?_, fun p hp z => ?_⟩
 · obtain ⟨v, q⟩ := I.cell x c e
   exact absurd (aG q.lt (by rw [z]; exact hb)) (bR _)
 · exact absurd (aG (ai (I.pin p hp).1) (by rw [z]; exact hb)) (bR _)
structure Y0 (P : Program) (w : World) (K : ae) (tg : Expr) (J : It) (fp : List Addr) (it : Addr) (tn : Nat -> Heap -> Prop) : Prop where
 mem : it ∈ fp
 obj : ∀ i h, tn i h -> ∀ b ∈ fp, ∃ o, h.get? b = some o /\ ∀ v, o.data ≠ .cell v
 keep : ∀ i h h', tn i h -> (∀ b ∈ fp, ∀ o, h.get? b = some o -> h'.get? b = some o) -> tn i h'
 item : ∀ (X : Cx), X.prog = P -> X.w = w -> X.K = K -> X.calm = true -> ∀ (i : Nat) (pins : List (Addr × Obj)) (s : Shared) (σ : St) (H : Hp) (E : Value -> Shared -> Prop), Inv X pins σ H s -> (∀ b ∈ fp, FpOk X pins H b) -> tn i s.heap -> J.go i H ->
  wpAny (model P w) X.A (pyNext (.ref it)) (fun r s1 => ∃ u, r = some u /\
   wpAny (model P w) X.A (cE tg (.ref it) u) (fun _ s2 => ∃ x H', Inv X pins σ H' s2 /\ RelV x u /\ J.yld i H x H' /\ tn (i + 1) s2.heap /\ ∀ b ∈ fp, H' b = none) E s1) E s
 done : ∀ (X : Cx), X.prog = P -> X.w = w -> X.K = K -> X.calm = true -> ∀ (i : Nat) (pins : List (Addr × Obj)) (s : Shared) (σ : St) (H : Hp) (E : Value -> Shared -> Prop), Inv X pins σ H s -> (∀ b ∈ fp, FpOk X pins H b) -> tn i s.heap -> J.stop i H ->
  wpAny (model P w) X.A (pyNext (.ref it)) (fun r s1 => r = none /\ Inv X pins σ H s1) E s
 self : ∀ (A : Around) (i : Nat) (s : Shared) (Q : Value -> Shared -> Prop) (E : Value -> Shared -> Prop), tn i s.heap -> Q (.ref it) s -> wpAny (model P w) A (pyIter (.ref it)) Q E s
abbrev TI := St -> Hp -> (It -> Hp -> Prop) -> Prop
def PIE (X : Cx) (pins : List (Addr × Obj)) (σ : St) (tg : Expr) (R : It -> Hp -> Prop) (itv : Value) (s2 : Shared) : Prop :=
 ∃ (it : Addr) (fp : List Addr) (tn : Nat -> Heap -> Prop) (J : It) (H' : Hp), itv = .ref it /\ Inv X pins σ H' s2 /\ Y0 X.prog X.w X.K tg J fp it tn /\ tn 0 s2.heap /\ (∀ b ∈ fp, FpOk X pins H' b) /\ R J H'
def PI (X : Cx) (tg iter : Expr) (wi : TI) : Prop :=
 ∀ (pins : List (Addr × Obj)) (s : Shared) (σ : St) (H : Hp) (R : It -> Hp -> Prop), Inv X pins σ H s -> wi σ H R ->
  wpAny (model X.prog X.w) X.A (eval iter X.env) (fun v s1 => wpAny (model X.prog X.w) X.A (pyIter v) (PIE X pins σ tg R) X.xe s1) X.xe s
theorem RH {E : Value -> Shared -> Prop} {s : Shared} {o : Obj} {Q : Unit -> Shared -> Prop} (ho : s.heap.get? it = some o) (hc : o.cls = .type n) (hd : o.data = .fields vs)
 (hn : ["enumerate", "zip", "dict_itemiterator", "dict_reverseitemiterator", "odict_iterator", "itertools.zip_longest", "itertools.pairwise"].contains n = false) (hQ : Q () s) : wpAny M A (cE tg (.ref it) u) Q E s := by
 unfold cE
 cases tg <;> first
  | exact ao hQ
  | (cases u <;> first
   | exact ao hQ
   | (refine ac (wpAny_load ho ?_)
      rw [hc, hd]
      show wpAny M A (if (["enumerate", "zip", "dict_itemiterator", "dict_reverseitemiterator", "odict_iterator", "itertools.zip_longest", "itertools.pairwise"].contains n && vs[0]? == some (rawInt _)) = true then _ else _) Q E s
      rw [if_neg (by intro h; rw [hn, cN] at h; cases h)]
      exact ao hQ))
def Itl (K : ae) (a : Addr) : It :=
 ⟨fun i H => ∃ xs x, yl K H a xs /\ xs[i]? = some x, fun i H x H' => H' = H /\ ∀ xs, yl K H a xs -> xs[i]? = some x, fun i H => ∃ xs, yl K H a xs /\ xs.length <= i⟩
def Itt (K : ae) (a : Addr) : It :=
 ⟨fun i H => ∃ xs x, SqT K H a xs /\ xs[i]? = some x, fun i H x H' => H' = H /\ ∀ xs, SqT K H a xs -> xs[i]? = some x, fun i H => ∃ xs, SqT K H a xs /\ xs.length <= i⟩
def Itr (lo : Int) (n : Nat) : It := ⟨fun i _ => i < n, fun i H x H' => H' = H /\ x = .int (lo + i), fun i _ => n <= i⟩
theorem zev {P : Program} {w : World} {K : ae} {tg : Expr} (a it : Addr) : Y0 P w K tg (Itl K a) [it] it (fun i h => h.IsListIter it a i) where
 mem := by simp
 obj := fun i h st b hb => by
  have e : b = it := by simpa using hb
  subst e
  obtain ⟨o, e, c, d⟩ := st
  exact ⟨o, e, fun v z => by rw [d] at z; cases z⟩
 keep := fun i h h' st k => st.at fun o e => k it (by simp) o e
 item := by
  intro X hP hw hK hc i pins s σ H E I hf st hg
  subst hP hw hK
  obtain ⟨xs, x, hq, hx⟩ := hg
  obtain ⟨its, rv, p, hz⟩ := I.list hq
  obtain ⟨u, hu, ru⟩ := rv.get hx
  obtain ⟨f0, f1, f2, f3, f4, f5⟩ := hf it (by simp)
  refine wpAny_pyNext_list_item st p.isList (x := u) (by simpa using hu) fun h' st' sb => ?_
  have I1 : Inv X pins σ H { s with heap := h' } := I.turned (t' := s.toks) (fun b o hb e => (sb.2 b hb).trans e) f0 f1 f3 f4 f5
  obtain ⟨o, e, c, d⟩ := id st'
  exact ⟨u, rfl, RH (s := { s with heap := h' }) e c d (by decide) ⟨x, H, I1, ru, ⟨rfl, fun ys hy => by rw [I.list_inj hy hq]; exact hx⟩, st', fun b hb => (hf b hb).1⟩⟩
 done := by
  intro X hP hw hK hc i pins s σ H E I hf st hg
  subst hP hw hK
  obtain ⟨xs, hq, hx⟩ := hg
  obtain ⟨its, rv, p, hz⟩ := I.list hq
  obtain ⟨f0, f1, f2, f3, f4, f5⟩ := hf it (by simp)
  have hl := rv.length
  exact wpAny_pyNext_list_end (I.ok.hd hc) st p.isList (by simp; omega) fun h' eb => ⟨rfl, I.turned (t' := s.toks) (fun b o hb e => eb b o hb e) f0 f1 f3 f4 f5⟩
 self := fun _ _ _ _ _ st h => wpAny_pyIter_listiter st h
theorem zdk {P : Program} {w : World} {K : ae} {tg : Expr} (a it : Addr) : Y0 P w K tg (Itt K a) [it] it (fun i h => h.IsTupleIter it a i) where
 mem := by simp
 obj := fun i h st b hb => by
  have e : b = it := by simpa using hb
  subst e
  obtain ⟨o, e, c, d⟩ := st
  exact ⟨o, e, fun v z => by rw [d] at z; cases z⟩
 keep := fun i h h' st k => st.at fun o e => k it (by simp) o e
 item := by
  intro X hP hw hK hc i pins s σ H E I hf st hg
  subst hP hw hK
  obtain ⟨xs, x, hq, hx⟩ := hg
  obtain ⟨its, rv, p, hz⟩ := I.tuple hq
  obtain ⟨u, hu, ru⟩ := rv.get hx
  obtain ⟨f0, f1, f2, f3, f4, f5⟩ := hf it (by simp)
  refine wpAny_pyNext_tuple_item st (show s.heap.IsTuple a its.toArray from p) (x := u) (by simpa using hu) fun h' st' sb => ?_
  have I1 : Inv X pins σ H { s with heap := h' } := I.turned (t' := s.toks) (fun b o hb e => (sb.2 b hb).trans e) f0 f1 f3 f4 f5
  obtain ⟨o, e, c, d⟩ := id st'
  exact ⟨u, rfl, RH (s := { s with heap := h' }) e c d (by decide) ⟨x, H, I1, ru, ⟨rfl, fun ys hy => by rw [I.tuple_inj hy hq]; exact hx⟩, st', fun b hb => (hf b hb).1⟩⟩
 done := by
  intro X hP hw hK hc i pins s σ H E I hf st hg
  subst hP hw hK
  obtain ⟨xs, hq, hx⟩ := hg
  obtain ⟨its, rv, p, hz⟩ := I.tuple hq
  obtain ⟨f0, f1, f2, f3, f4, f5⟩ := hf it (by simp)
  have hl := rv.length
  exact wpAny_pyNext_tuple_end (I.ok.hd hc) st (show s.heap.IsTuple a its.toArray from p) (by simp; omega) fun h' eb => ⟨rfl, I.turned (t' := s.toks) (fun b o hb e => eb b o hb e) f0 f1 f3 f4 f5⟩
 self := fun _ _ _ _ _ st h => wpAny_pyIter_tupleiter st h
theorem zdl {P : Program} {w : World} {K : ae} {tg : Expr} (it : Addr) (lo : Int) (n : Nat) : Y0 P w K tg (Itr lo n) [it] it (fun i h => IsRangeIter h it (lo + (i : Nat) * 1) ((n : Int) - (i : Nat)) 1) where
 mem := by simp
 obj := fun i h st b hb => by
  have e : b = it := by simpa using hb
  subst e
  exact ⟨_, st, fun v z => by
   have z' : Data.fields _ = Data.cell v := z
   cases z'⟩
 keep := fun i h h' st k => k it (by simp) _ st
 item := by
  intro X hP hw hK hc i pins s σ H E I hf st hg
  subst hP hw hK
  obtain ⟨f0, f1, f2, f3, f4, f5⟩ := hf it (by simp)
  have W := Walks.range (prog := X.prog) (w := X.w) (I.ok.hd hc) it lo 1 n
  refine W.item i s _ _ hg st fun v h' tk hv st' kk => ?_
  obtain ⟨t, rfl⟩ := hv
  have I1 : Inv X pins σ H { s with heap := h', toks := tk } := I.turned (fun b o hb e => kk b o (by simpa using hb) e) f0 f1 f3 f4 f5
  refine ⟨_, rfl, RH (s := { s with heap := h', toks := tk }) (n := "range_iterator") st' rfl rfl (by decide) ⟨.int (lo + i), H, I1, ⟨t, ?_⟩, ⟨rfl, rfl⟩, st', fun b hb => (hf b hb).1⟩⟩
  rw [Int.mul_one]
 done := by
  intro X hP hw hK hc i pins s σ H E I hf st hg
  subst hP hw hK
  obtain ⟨f0, f1, f2, f3, f4, f5⟩ := hf it (by simp)
  exact wpAny_pyNext_range_end (I.ok.hd hc) st (by have : n <= i := hg; omega) fun h' eb => ⟨rfl, I.turned (t' := s.toks) (fun b o hb e => eb b o hb e) f0 f1 f3 f4 f5⟩
 self := fun _ _ _ _ _ st h => wpAny_pyIter_rangeiter st h
section
variable {X : Cx} {tg : Expr}
def zg2 (K : ae) (tl : TE) : TI := fun σ H R => tl σ H fun x H1 => ∃ a, x = .ref a /\ (∃ xs, yl K H1 a xs) /\ R (Itl K a) H1
def zfM (K : ae) (tl : TE) : TI := fun σ H R => tl σ H fun x H1 => ∃ a, x = .ref a /\ (∃ xs, SqT K H1 a xs) /\ R (Itt K a) H1
theorem zhV {l : Expr} {tl : TE} (hl : PE X l tl) : PI X tg l (zg2 X.K tl) := by
 intro pins s σ H R I h
 refine zK (hl pins s σ H _ I h) fun v s1 ⟨x, H1, I1, r1, q1⟩ => ?_
 obtain ⟨a, e, ⟨xs, hq⟩, q⟩ := q1
 subst e
 cases r1
 obtain ⟨its, rv, p, hz⟩ := I1.list hq
 refine dN p.isList ?_
 refine ⟨s1.heap.objs.size, [s1.heap.objs.size], _, _, H1, rfl, I1.kept (t' := s1.toks) fun b o e => am _ e, zev a _, ⟨_, aE _ rfl, rfl, rfl⟩, fun b hb => ?_, q⟩
 have e : b = s1.heap.objs.size := by simpa using hb
 subst e
 exact I1.fpOk (aC _) (I1.hok.fresh (aC _))
theorem zew {l : Expr} {tl : TE} (hl : PE X l tl) : PI X tg l (zfM X.K tl) := by
 intro pins s σ H R I h
 refine zK (hl pins s σ H _ I h) fun v s1 ⟨x, H1, I1, r1, q1⟩ => ?_
 obtain ⟨a, e, ⟨xs, hq⟩, q⟩ := q1
 subst e
 cases r1
 obtain ⟨its, rv, p, hz⟩ := I1.tuple hq
 refine dD (show s1.heap.IsTuple a its.toArray from p) ?_
 refine ⟨s1.heap.objs.size, [s1.heap.objs.size], _, _, H1, rfl, I1.kept (t' := s1.toks) fun b o e => am _ e, zdk a _, ⟨_, aE _ rfl, rfl, rfl⟩, fun b hb => ?_, q⟩
 have e : b = s1.heap.objs.size := by simpa using hb
 subst e
 exact I1.fpOk (aC _) (I1.hok.fresh (aC _))
theorem zfN {pins : List (Addr × Obj)} {σ : St} {H : Hp} {s : Shared} {R : It -> Hp -> Prop} {E : Value -> Shared -> Prop} {lo hi : Int} {t u v : Tok} {tk : Nat} (I : Inv X pins σ H s) (h1 : -(2 ^ 62) <= lo) (h2 : lo < 2 ^ 62) (h3 : -(2 ^ 62) <= hi) (h4 : hi < 2 ^ 62)
 (q : R (Itr lo (hi - lo).toNat) H) : wpAny (model X.prog X.w) X.A (pyIter (.ref s.heap.objs.size)) (PIE X pins σ tg R) E { s with heap := s.heap.push { cls := .type "range", data := .fields #[.int lo t, .int hi u, .int 1 v] }, toks := tk } := by
 refine wpAny_pyIter_range (IsRange.new ..) (small_one h1 h2 h3 h4) ?_
 have I1 : Inv X pins σ H { s with heap := s.heap.push { cls := .type "range", data := .fields #[.int lo t, .int hi u, .int 1 v] }, toks := tk } := I.kept fun b o e => am _ e
 refine ⟨(s.heap.push { cls := .type "range", data := .fields #[.int lo t, .int hi u, .int 1 v] }).objs.size, [(s.heap.push { cls := .type "range", data := .fields #[.int lo t, .int hi u, .int 1 v] }).objs.size], _, _, H, rfl,
  I1.kept (t' := tk) fun b o e => am _ e, zdl _ lo (hi - lo).toNat, ?_, fun b hb => ?_, q⟩
 · have e1 : lo + ((0 : Nat) : Int) * 1 = lo := by simp
   have e2 : (((hi - lo).toNat : Nat) : Int) - ((0 : Nat) : Int) = Builtin.Range.rangeSize lo hi 1 := by rw [rangeSize_one]; split <;> omega
   show IsRangeIter _ _ (lo + ((0 : Nat) : Int) * 1) ((((hi - lo).toNat : Nat) : Int) - ((0 : Nat) : Int)) 1
   rw [e1, e2]
   exact aE _ rfl
 · have e : b = (s.heap.push { cls := .type "range", data := .fields #[.int lo t, .int hi u, .int 1 v] }).objs.size := by simpa using hb
   subst e
   exact I1.fpOk (aC _) (I1.hok.fresh (aC _))
def zg3 (ta : TA) : TI := fun σ H R => ta σ H fun vs H1 => ∃ j : Int, vs = [.int j] /\ -(2 ^ 62) <= j /\ j < 2 ^ 62 /\ R (Itr 0 j.toNat) H1
theorem zex (hg : Gl X "range") (hm : X.mg "range" = none) (ha : PA X [a] ta) (hs : aj [a] X.env = [(false, eval a X.env)] := by rfl) : PI X tg (.Call (.Name "range" p) [a] [] pos) (zg3 ta) := by
 intro pins s σ H R I h
 refine Call_ (QB I hg hm boot_range (bc (zK (ha pos pins s σ H _ I h) fun us s1 ⟨vs, H1, I1, r1, q1⟩ => ?_) hs rfl))
 obtain ⟨j, e, q1, q2, q⟩ := q1
 subst e
 cases r1 with
 | cons r rr =>
  cases rr
  obtain ⟨t, rfl⟩ := r
  exact call_range_1 (zfN I1 (by omega) (by omega) q1 q2 (by simpa using q))
def zjB (wi : TI) (g : TG) (tb : TS) : TS := fun D σ H => wi σ H fun J H1 => ∃ W : Nat -> Nat -> St -> Hp -> Prop, (∃ m, W 0 m σ H1) /\ ∀ i m σ H, W i m σ H ->
 (J.stop i H /\ D.nx σ H) \/ (J.go i H /\ ∃ N : St -> Hp -> Prop, (∀ σ' H', N σ' H' -> ∃ m', m' < m /\ W (i + 1) m' σ' H') /\ ∀ x H', J.yld i H x H' -> g x σ H' fun σ2 H2 => tb { D with nx := N, ct := N, bk := D.nx } σ2 H2)
def Y1 (fp : List Addr) (h : Heap) : List (Addr × Obj) := fp.filterMap fun b => (h.get? b).map fun o => (b, o)
theorem QW {h : Heap} (hb : b ∈ fp) (e : h.get? b = some o) : (b, o) ∈ Y1 fp h := fh.mpr ⟨b, hb, by rw [e]; rfl⟩
theorem zey {h : Heap} (hp : p ∈ Y1 fp h) : p.1 ∈ fp /\ h.get? p.1 = some p.2 := by
 obtain ⟨b, hb, e⟩ := fh.mp hp
 cases q : h.get? b with
 | none => rw [q] at e; cases e
 | some o =>
  rw [q] at e
  have e' : (b, o) = p := bi e
  subst e'
  exact ⟨hb, q⟩
theorem Inv.pinned {s : Shared} (I : Inv X pins σ H s) (hf : ∀ b ∈ fp, FpOk X pins H b) (ho : ∀ b ∈ fp, ∃ o, s.heap.get? b = some o /\ ∀ v, o.data ≠ .cell v) : Inv X (pins ++ Y1 fp s.heap) σ H s :=
 I.pins_of fun p hp => (bH.mp hp).elim (fun z => I.pin p (aH _ z)) fun z => by
  obtain ⟨hb, e⟩ := zey z
  obtain ⟨f0, f1, f2, _⟩ := hf p.1 hb
  obtain ⟨o, e', d⟩ := ho p.1 hb
  rw [e] at e'; cases e'
  exact ⟨e, f0, f1, f2, d⟩
theorem Inv.unpinned (I : Inv X (pins ++ pl) σ H s) : Inv X pins σ H s := I.pins_of fun p hp => I.pin p (aH _ (bn _ hp))
theorem zjC (hp : PassesOwn (model X.prog X.w) X.A X.env X.xe) (hc : X.calm = true) (hi : PI X tg iter wi) (hg : PG X tg g) (hb : PSs X body tb)
 (hs : ∀ x, bE iter X.env x = pure x := by intro _; rfl) : PS X (.For tg iter body [] pos) (zjB wi g tb) := by
 intro pins s σ H D I h
 refine wpAny_For (zK (hi pins s σ H _ I h) fun v s1 h1 => zK h1 fun itv s2 h2 => ?_) hs
 obtain ⟨it, fp, tn, J, H2, e, I2, T, st2, f2, W, ⟨m0, w0⟩, turn⟩ := h2
 subst e
 have stat : ∀ {H' : Hp}, (∀ b ∈ fp, H' b = none) -> ∀ b ∈ fp, FpOk X pins H' b := fun hn b hb => ⟨hn b hb, (f2 b hb).2⟩
 refine codeAny_forLoop_any (fun n s' => ∃ i σ' H', Inv X pins σ' H' s' /\ tn i s'.heap /\ (∀ b ∈ fp, H' b = none) /\ W i n σ' H') ?_ m0 ⟨0, σ, H2, I2, st2, fun b hb => (f2 b hb).1, w0⟩
 rintro n s3 ⟨i, σ3, H3, I3, st3, fr3, w3⟩
 rcases turn i n σ3 H3 w3 with ⟨stop, qn⟩ | ⟨go, N, hN, step⟩
 · refine cF hp (zK (T.done X rfl rfl rfl hc i pins s3 σ3 H3 X.xe I3 (stat fr3) st3 stop) fun r s4 ⟨hr, I4⟩ => ?_)
   subst hr
   exact eB ⟨σ3, H3, I4, qn⟩
 · refine cF hp (zK (T.item X rfl rfl rfl hc i pins s3 σ3 H3 X.xe I3 (stat fr3) st3 go) fun r s4 ⟨u, hr, h4⟩ => ?_)
   subst hr
   refine cF hp (zK h4 fun _ s5 ⟨x, H5, I5, r5, y5, st5, fr5⟩ => ?_)
   have I5' := I5.pinned (stat fr5) (T.obj _ _ st5)
   refine cF hp (zK (hg _ s5 σ3 H5 x u _ I5' r5 (step x H5 y5)) fun _ s6 ⟨σ6, H6, I6, q6⟩ => ?_)
   refine cF hp (zK (hb _ s6 σ6 H6 _ I6 q6) fun f s7 q7 => ?_)
   have again : ∀ {σ7 : St} {H7 : Hp}, Inv X (pins ++ Y1 fp s5.heap) σ7 H7 s7 -> N σ7 H7 -> ∃ m, m < n /\ ∃ i σ' H', Inv X pins σ' H' s7 /\ tn i s7.heap /\ (∀ b ∈ fp, H' b = none) /\ W i m σ' H' := fun {σ7 H7} I7 n7 => by
    obtain ⟨m', hm, w7⟩ := hN σ7 H7 n7
    refine ⟨m', hm, i + 1, σ7, H7, I7.unpinned, T.keep _ _ _ st5 fun b hb o e => (I7.pin (b, o) (aH _ (aH _ (QW hb e)))).1, fun b hb => ?_, w7⟩
    obtain ⟨o, e, d⟩ := T.obj _ _ st5 b hb
    exact (I7.pin (b, o) (aH _ (aH _ (QW hb e)))).2.1
   cases f with
   | next => obtain ⟨σ7, H7, I7, n7⟩ := q7; exact again I7 n7
   | cont => obtain ⟨σ7, H7, I7, n7⟩ := q7; exact again I7 n7
   | brk => obtain ⟨σ7, H7, I7, q7⟩ := q7; exact ⟨σ7, H7, I7.unpinned, q7⟩
   | ret v => obtain ⟨x7, σ7, H7, I7, r7, q7⟩ := q7; exact ⟨x7, σ7, H7, I7.unpinned, r7, q7⟩
end
abbrev R2 := V -> V -> Hp -> VK -> Prop
def yr (X : Cx) (f : Value -> Value -> Sem Value) (r : R2) : Prop :=
 ∀ (pins : List (Addr × Obj)) (s : Shared) (σ : St) (H : Hp) (x y : V) (v u : Value) (Q : VK), Inv X pins σ H s -> RelV x v -> RelV y u -> r x y H Q ->
  wpAny (model X.prog X.w) X.A (f v u) (EP X pins σ Q) X.xe s
def je (X : Cx) (f : Value) (r : List V -> Hp -> VK -> Prop) : Prop :=
 ∀ (pins : List (Addr × Obj)) (s : Shared) (σ : St) (H : Hp) (xs : List V) (us : List Value) (Q : VK), Inv X pins σ H s -> Vals xs us -> r xs H Q ->
  wpAny (model X.prog X.w) X.A (call f us) (EP X pins σ Q) X.xe s
def zmB (X : Cx) (r : V -> Hp -> (Bool -> Hp -> Prop) -> Prop) : Prop :=
 ∀ (pins : List (Addr × Obj)) (s : Shared) (σ : St) (H : Hp) (x : V) (v : Value) (Q : Bool -> Hp -> Prop), Inv X pins σ H s -> RelV x v -> r x H Q ->
  wpAny (model X.prog X.w) X.A (truthy v) (TP X pins σ Q) X.xe s
def tOp (r : R2) (ta tb : TE) : TE := fun σ H Q => ta σ H fun x H1 => tb σ H1 fun y H2 => r x y H2 Q
def rI (C : Int -> Int -> Prop) (g : Int -> Int -> V) : R2 := fun x y H Q => ∃ i j, x = .int i /\ y = .int j /\ C i j /\ Q (g i j) H
def ZV (g : Int -> Int -> V) : R2 := fun x y H Q => ∃ i j, x = .int i /\ y = .int j /\ Q (g i j) H
section
variable {X : Cx} {a b c : Expr} {ta tb tc : TE} {pos : Pos}
theorem zfO (ha : PE X a ta) (hb : PE X b tb) {R : V -> V -> Hp -> Prop} (I : Inv X pins σ H s)
 (h : ta σ H fun x H1 => tb σ H1 fun y H2 => R x y H2) {Q : Value -> Shared -> Prop} {f : Value -> Value -> Sem Value}
 (hf : ∀ v u s2 x y H2, Inv X pins σ H2 s2 -> RelV x v -> RelV y u -> R x y H2 -> wpAny (model X.prog X.w) X.A (f v u) Q X.xe s2) :
 wpAny (model X.prog X.w) X.A (eval a X.env) (fun v s₁ => wpAny (model X.prog X.w) X.A (eval b X.env) (fun u s₂ => wpAny (model X.prog X.w) X.A (f v u) Q X.xe s₂) X.xe s₁) X.xe s := by
 refine zK (ha pins s σ H _ I h) fun v s1 ⟨x, H1, I1, r1, q1⟩ => ?_
 refine zK (hb pins s1 σ H1 _ I1 q1) fun u s2 ⟨y, H2, I2, r2, q2⟩ => ?_
 exact hf v u s2 x y H2 I2 r1 r2 q2
theorem zg4 (ho : yr X (cn op) r) (ha : PE X a ta) (hb : PE X b tb) : PE X (.BinOp a op b pos) (tOp r ta tb) := by
 intro pins s σ H Q I h
 exact wpAny_BinOp (zfO ha hb I h fun v u s2 x y H2 I2 rx ry q => ho pins s2 σ H2 x y v u Q I2 rx ry q)
theorem opI {f : Value -> Value -> Sem Value} {C : Int -> Int -> Prop} {g : Int -> Int -> Int}
 (rule : ∀ (i j : Int) (t u : Tok) (s : Shared) (Q : Value -> Shared -> Prop) (E : Value -> Shared -> Prop), C i j -> Q (.int (g i j) s.toks) { s with toks := s.toks + 1 } -> wpAny (model X.prog X.w) X.A (f (.int i t) (.int j u)) Q E s) :
 yr X f (rI C fun i j => .int (g i j)) := by
 intro pins s σ H x y v u Q I rx ry h
 obtain ⟨i, j, rfl, rfl, hc, q⟩ := h
 obtain ⟨t, rfl⟩ := rx
 obtain ⟨t', rfl⟩ := ry
 exact rule i j t t' s _ _ hc ⟨.int (g i j), H, I.tok _, ⟨_, rfl⟩, q⟩
theorem zjD {f : Value -> Value -> Sem Value} {g : Int -> Int -> Int}
 (rule : ∀ (i j : Int) (t u : Tok) (s : Shared) (Q : Value -> Shared -> Prop) (E : Value -> Shared -> Prop), Q (.int (g i j) s.toks) { s with toks := s.toks + 1 } -> wpAny (model X.prog X.w) X.A (f (.int i t) (.int j u)) Q E s) :
 yr X f (ZV fun i j => .int (g i j)) := by
 intro pins s σ H x y v u Q I rx ry h
 obtain ⟨i, j, rfl, rfl, q⟩ := h
 obtain ⟨t, rfl⟩ := rx
 obtain ⟨t', rfl⟩ := ry
 exact rule i j t t' s _ _ ⟨.int (g i j), H, I.tok _, ⟨_, rfl⟩, q⟩
theorem zdm {f : Value -> Value -> Sem Value} {g : Int -> Int -> Bool}
 (rule : ∀ (i j : Int) (t u : Tok) (s : Shared) (Q : Value -> Shared -> Prop) (E : Value -> Shared -> Prop), Q (.bool (g i j)) s -> wpAny (model X.prog X.w) X.A (f (.int i t) (.int j u)) Q E s) :
 yr X f (ZV fun i j => .bl (g i j)) := by
 intro pins s σ H x y v u Q I rx ry h
 obtain ⟨i, j, rfl, rfl, q⟩ := h
 obtain ⟨t, rfl⟩ := rx
 obtain ⟨t', rfl⟩ := ry
 exact rule i j t t' s _ _ ⟨.bl (g i j), H, I, rfl, q⟩
def Wo (i j : Int) : Prop := 0 <= j /\ j <= 1000000 /\ i.natAbs < 2 ^ 64
def CMul (i j : Int) : Prop := (-(2 ^ 64) < i /\ i < 2 ^ 64) \/ (-(2 ^ 64) < j /\ j < 2 ^ 64)
theorem CMul.ok (h : CMul i j) : IntMulOk i j := by
 rcases h with ⟨h1, h2⟩ | ⟨h1, h2⟩
 · exact .of_left (intBits_le_64 h1 h2)
 · exact .of_right (intBits_le_64 h1 h2)
theorem zjE : yr X (cn .Add) (ZV fun i j => .int (i + j)) := zjD fun _ _ _ _ _ _ _ q => add_int q
theorem zjF : yr X (cn .Sub) (ZV fun i j => .int (i - j)) := zjD fun _ _ _ _ _ _ _ q => sub_int q
theorem zjG : yr X (cn .Mult) (rI CMul fun i j => .int (i * j)) := opI fun _ _ _ _ _ _ _ hc q => mul_int q hc.ok
theorem zjH : yr X (cn .Mod) (rI (fun _ j => 0 < j) fun i j => .int (i % j)) := opI fun i j _ _ _ _ _ hc q => by
 have h1 : (0 : Int) < j := hc
 exact mod_int' (by omega) (by rw [Int.fmod_eq_emod_of_nonneg i (by omega)]; exact q)
theorem zjI : yr X (cn .Pow) (rI Wo fun i j => .int (i ^ j.toNat)) := opI fun _ _ _ _ _ _ _ hc q => pow_int_small hc.1 hc.2.1 hc.2.2 q
end
def zfP : V -> V -> Bool
 | .non, .non => true | .non, .int _ => true | .int _, .non => true | .non, .bl _ => true | .bl _, .non => true | .non, .str _ => true | .str _, .non => true
 | .int _, .int _ => true | .bl _, .bl _ => true | .str _, .str _ => true | .byt _, .byt _ => true
 | .int _, .str _ => true | .str _, .int _ => true | .bl _, .str _ => true | .str _, .bl _ => true
 | _, _ => false
def rEq : R2 := fun x y H Q => zfP x y = true /\ Q (.bl (decide (x = y))) H
def rNe : R2 := fun x y H Q => zfP x y = true /\ Q (.bl (!decide (x = y))) H
theorem zb_ : decide (V.int i = V.int j) = (i == j) := by
 rw [cA]
 simp
theorem zez : decide (V.bl i = V.bl j) = (i == j) := by
 rw [cA]
 simp
theorem zca : decide (V.str i = V.str j) = (i == j) := by
 rw [cA]
 simp
theorem zcb {i j : Array UInt8} : decide (V.byt i = V.byt j) = (i.toList == j.toList) := by
 rw [cA]
 cases i
 cases j
 simp
section
variable {X : Cx} {a b c : Expr} {ta tb tc : TE} {pos : Pos}
theorem zD (I : Inv X pins σ H s) (q : Q (.bl k) H) (e : k = k') : EP X pins σ Q (.bool k') s := by
 subst e
 exact ⟨.bl k, H, I, rfl, q⟩
theorem yy : yr X (aT .Eq) rEq := by
 intro pins s σ H x y v u Q I rx ry h
 obtain ⟨hs, q⟩ := h
 cases x with
 | non =>
  cases rx
  cases y with
  | non => cases ry; exact PySem.EqNone.eq_none_none (zD I q (by simp))
  | bl j => cases ry; exact PySem.EqNone.eq_none_bool (zD I q (by simp))
  | int j => obtain ⟨t', rfl⟩ := ry; exact PySem.EqNone.eq_none_int (zD I q (by simp))
  | str j => obtain ⟨t', rfl⟩ := ry; exact PySem.EqNone.eq_none_str (zD I q (by simp))
  | _ => exact absurd (show false = true from hs) af
 | bl i =>
  cases rx
  cases y with
  | non => cases ry; exact PySem.EqNone.eq_bool_none (zD I q (by simp))
  | bl j => cases ry; exact eq_bool (zD I q zez)
  | str j => obtain ⟨t', rfl⟩ := ry; exact PySem.EqMixed.eq_bool_str (zD I q (by simp))
  | _ => exact absurd (show false = true from hs) af
 | int i =>
  obtain ⟨t, rfl⟩ := rx
  cases y with
  | non => cases ry; exact PySem.EqNone.eq_int_none (zD I q (by simp))
  | int j => obtain ⟨t', rfl⟩ := ry; exact eq_int (zD I q zb_)
  | str j => obtain ⟨t', rfl⟩ := ry; exact PySem.EqMixed.eq_int_str (zD I q (by simp))
  | _ => exact absurd (show false = true from hs) af
 | str i =>
  obtain ⟨t, rfl⟩ := rx
  cases y with
  | non => cases ry; exact PySem.EqNone.eq_str_none (zD I q (by simp))
  | bl j => cases ry; exact PySem.EqMixed.eq_str_bool (zD I q (by simp))
  | int j => obtain ⟨t', rfl⟩ := ry; exact PySem.EqMixed.eq_str_int (zD I q (by simp))
  | str j => obtain ⟨t', rfl⟩ := ry; exact eq_str (zD I q zca)
  | _ => exact absurd (show false = true from hs) af
 | byt i =>
  obtain ⟨t, rfl⟩ := rx
  cases y with
  | byt j => obtain ⟨t', rfl⟩ := ry; exact PySem.W.eq_bytes (zD I q zcb)
  | _ => exact absurd (show false = true from hs) af
 | _ => cases y <;> exact absurd (show false = true from hs) af
theorem Uq : yr X (aT .NotEq) rNe := by
 intro pins s σ H x y v u Q I rx ry h
 obtain ⟨hs, q⟩ := h
 cases x with
 | non =>
  cases rx
  cases y with
  | non => cases ry; exact PySem.EqNone.ne_none_none (zD I q (by simp))
  | bl j => cases ry; exact PySem.EqNone.ne_none_bool (zD I q (by simp))
  | int j => obtain ⟨t', rfl⟩ := ry; exact PySem.EqNone.ne_none_int (zD I q (by simp))
  | str j => obtain ⟨t', rfl⟩ := ry; exact PySem.EqNone.ne_none_str (zD I q (by simp))
  | _ => exact absurd (show false = true from hs) af
 | bl i =>
  cases rx
  cases y with
  | non => cases ry; exact PySem.EqNone.ne_bool_none (zD I q (by simp))
  | bl j => cases ry; exact ne_bool (zD I q (congrArg not zez))
  | str j => obtain ⟨t', rfl⟩ := ry; exact PySem.EqMixed.ne_bool_str (zD I q (by simp))
  | _ => exact absurd (show false = true from hs) af
 | int i =>
  obtain ⟨t, rfl⟩ := rx
  cases y with
  | non => cases ry; exact PySem.EqNone.ne_int_none (zD I q (by simp))
  | int j => obtain ⟨t', rfl⟩ := ry; exact ne_int (zD I q (congrArg not zb_))
  | str j => obtain ⟨t', rfl⟩ := ry; exact PySem.EqMixed.ne_int_str (zD I q (by simp))
  | _ => exact absurd (show false = true from hs) af
 | str i =>
  obtain ⟨t, rfl⟩ := rx
  cases y with
  | non => cases ry; exact PySem.EqNone.ne_str_none (zD I q (by simp))
  | bl j => cases ry; exact PySem.EqMixed.ne_str_bool (zD I q (by simp))
  | int j => obtain ⟨t', rfl⟩ := ry; exact PySem.EqMixed.ne_str_int (zD I q (by simp))
  | str j => obtain ⟨t', rfl⟩ := ry; exact ne_str (zD I q (congrArg not zca))
  | _ => exact absurd (show false = true from hs) af
 | byt i =>
  obtain ⟨t, rfl⟩ := rx
  cases y with
  | byt j => obtain ⟨t', rfl⟩ := ry; exact PySem.W.ne_bytes (zD I q (congrArg not zcb))
  | _ => exact absurd (show false = true from hs) af
 | _ => cases y <;> exact absurd (show false = true from hs) af
theorem zg6 : yr X (aT .Lt) (ZV fun i j => .bl (decide (i < j))) := zdm fun _ _ _ _ _ _ _ q => lt_int q
theorem Vr : yr X (aT .LtE) (ZV fun i j => .bl (decide (i <= j))) := zdm fun _ _ _ _ _ _ _ q => le_int q
theorem zlv : yr X (aT .Gt) (ZV fun i j => .bl (decide (j < i))) := zdm fun _ _ _ _ _ _ _ q => gt_int q
theorem zg7 : yr X (aT .GtE) (ZV fun i j => .bl (decide (j <= i))) := zdm fun _ _ _ _ _ _ _ q => ge_int q
theorem Vs : yr X (aT .Is) (fun x y H Q => y = .non /\ Q (.bl (decide (x = .non))) H) := by
 intro pins s σ H x y v u Q I rx ry h
 obtain ⟨rfl, q⟩ := h
 cases ry
 refine is_none_gen (zD I q ?_)
 cases x <;> first
  | (cases rx; rfl)
  | (obtain ⟨t, rfl⟩ := rx; rfl)
theorem zhW : yr X (aT .IsNot) (fun x y H Q => y = .non /\ Q (.bl (!decide (x = .non))) H) := by
 intro pins s σ H x y v u Q I rx ry h
 obtain ⟨rfl, q⟩ := h
 cases ry
 refine isnot_none_gen (zD I q ?_)
 cases x <;> first
  | (cases rx; rfl)
  | (obtain ⟨t, rfl⟩ := rx; rfl)
theorem zC (b : Expr) (h : op ≠ .In := by decide) (h2 : op ≠ .NotIn := by decide) : cy op b = false := by
 have e1 : (op == CmpOp.In) = false := by cases op <;> first | rfl | exact absurd rfl h
 have e2 : (op == CmpOp.NotIn) = false := by cases op <;> first | rfl | exact absurd rfl h2
 cases b <;> simp [cy, e1, e2]
theorem zhX (ho : yr X (aT op) r) (ha : PE X a ta) (hb : PE X b tb) (hm : cy op b = false) : PE X (.Compare a [op] [b] pos) (tOp r ta tb) := by
 intro pins s σ H Q I h
 exact wpAny_Compare1 (zfO ha hb I h fun v u s2 x y H2 I2 rx ry q => ho pins s2 σ H2 x y v u Q I2 rx ry q) hm
def zdn (t : TE) : TT := fun σ H Q => t σ H fun x H' => ∃ k, x = .bl k /\ Q k H'
theorem zhY (ho : yr X (aT op) r) (ha : PE X a ta) (hb : PE X b tb) (hm : cy op b = false) : PT X (.Compare a [op] [b] pos) (zdn (tOp r ta tb)) := by
 intro pins s σ H Q I h
 refine wpAny_isTrue_Compare1 (zK (ha pins s σ H _ I h) fun v s1 ⟨x, H1, I1, r1, q1⟩ => zK (hb pins s1 σ H1 _ I1 q1) fun u s2 ⟨y, H2, I2, r2, q2⟩ =>
  zK (ho pins s2 σ H2 x y v u _ I2 r1 r2 q2) fun c s3 ⟨z, H3, I3, r3, k, e, q3⟩ => ?_) hm
 subst e
 cases r3
 exact aV ⟨H3, I3, q3⟩
def zao (r r' : R2) (ta tb tc : TE) : TE := fun σ H Q => ta σ H fun x H1 => tb σ H1 fun y H2 => r x y H2 fun z H3 => ∃ k, z = .bl k /\
 (if k = true then tc σ H3 fun w' H4 => r' y w' H4 Q else Q (.bl false) H3)
theorem zfQ (ho : yr X (aT op) r) (ho' : yr X (aT op') r') (ha : PE X a ta) (hb : PE X b tb) (hc : PE X c tc)
 (hm : fX [op, op'] [b, c] = false := by with_unfolding_all rfl) : PE X (.Compare a [op, op'] [b, c] pos) (zao r r' ta tb tc) := by
 intro pins s σ H Q I h
 refine Compare_chain (zK (ha pins s σ H _ I h) fun v s1 ⟨x, H1, I1, r1, q1⟩ => chain_link (zK (hb pins s1 σ H1 _ I1 q1) fun u s2 ⟨y, H2, I2, r2, q2⟩ =>
  zK (ho pins s2 σ H2 x y v u _ I2 r1 r2 q2) fun d s3 ⟨z, H3, I3, r3, k, e, q3⟩ => ?_)) hm
 subst e
 cases r3
 refine aV ?_
 cases k with
 | false => exact ite_ff ⟨.bl false, H3, I3, rfl, q3⟩
 | true => exact ite_tt (chain_last (zK (hc pins s3 σ H3 _ I3 q3) fun w' s4 ⟨z', H4, I4, r4, q4⟩ => ho' pins s4 σ H4 y z' u w' Q I4 r2 r4 q4))
theorem zfR (ho : yr X (aT op) r) (ho' : yr X (aT op') r') (ha : PE X a ta) (hb : PE X b tb) (hc : PE X c tc)
 (hm : fX [op, op'] [b, c] = false := by with_unfolding_all rfl) : PT X (.Compare a [op, op'] [b, c] pos) (zdn (zao r r' ta tb tc)) := by
 intro pins s σ H Q I h
 refine isTrue_chain (zK (ha pins s σ H _ I h) fun v s1 ⟨x, H1, I1, r1, q1⟩ => test_link (zK (hb pins s1 σ H1 _ I1 q1) fun u s2 ⟨y, H2, I2, r2, q2⟩ =>
  zK (ho pins s2 σ H2 x y v u _ I2 r1 r2 q2) fun d s3 ⟨z, H3, I3, r3, k, e, q3⟩ => ?_)) hm
 subst e
 cases r3
 refine aV ?_
 cases k with
 | false =>
  obtain ⟨k', e', q'⟩ := q3
  cases e'
  exact ite_ff ⟨H3, I3, q'⟩
 | true =>
  refine ite_tt (test_last (zK (hc pins s3 σ H3 _ I3 q3) fun w' s4 ⟨z', H4, I4, r4, q4⟩ => zK (ho' pins s4 σ H4 y z' u w' _ I4 r2 r4 q4) fun d' s5 ⟨z2, H5, I5, r5, k2, e2, q5⟩ => ?_))
  subst e2
  cases r5
  exact aV ⟨H5, I5, q5⟩
def zfS (K : ae) (x : V) (H : Hp) (k : Bool) : Prop :=
 match x with
 | .non => k = false
 | .bl b => k = b
 | .int i => k = (i != 0)
 | .str y => y.length <= az /\ k = ((y.length : Int) != 0)
 | .byt y => y.size <= az /\ k = ((y.size : Int) != 0)
 | .ref p => (∃ xs, yl K H p xs /\ k = !xs.isEmpty) \/ (∃ xs, SqT K H p xs /\ k = !xs.isEmpty) \/ ∃ kvs, H p = some (.dK kvs) /\ k = !kvs.isEmpty
 | _ => False
theorem zdo {κ : Type} {kvs : List (κ × V)} {vs : List (κ × Value)} (r : KV kvs vs) : (!vs.isEmpty) = !kvs.isEmpty := by
 cases r <;> rfl
theorem Vt {xs : List V} {its : List Value} (r : Vals xs its) : (!its.toArray.isEmpty) = !xs.isEmpty := by
 cases r <;> simp
theorem ZW : (az : Nat) < 2 ^ 63 := by rw [eO]; decide
theorem zjJ : zmB X (fun x H Q => ∃ k, zfS X.K x H k /\ Q k H) := by
 intro pins s σ H x v Q I rx h
 obtain ⟨k, e, q⟩ := h
 have hl := ZW
 have hs : az = 16777216 := eO
 cases x with
 | non =>
  cases rx
  have e' : k = false := e
  subst e'
  exact truthy_none ⟨H, I, q⟩
 | bl b =>
  cases rx
  have e' : k = b := e
  subst e'
  exact aV ⟨H, I, q⟩
 | int i =>
  obtain ⟨t, rfl⟩ := rx
  have e' : k = (i != 0) := e
  subst e'
  exact PySem.P.truthy_int ⟨H, I, q⟩
 | str y =>
  obtain ⟨t, rfl⟩ := rx
  obtain ⟨hy, e'⟩ : y.length <= az /\ k = ((y.length : Int) != 0) := e
  subst e'
  exact PySem.P.truthy_str (by omega) ⟨H, I.tok _, q⟩
 | byt y =>
  obtain ⟨t, rfl⟩ := rx
  obtain ⟨hy, e'⟩ : y.size <= az /\ k = ((y.size : Int) != 0) := e
  subst e'
  exact PySem.W.truthy_bytes (by omega) ⟨H, I.tok _, q⟩
 | ref p =>
  cases rx
  have e' : (∃ xs, yl X.K H p xs /\ k = !xs.isEmpty) \/ (∃ xs, SqT X.K H p xs /\ k = !xs.isEmpty) \/ ∃ kvs, H p = some (.dK kvs) /\ k = !kvs.isEmpty := e
  rcases e' with ⟨xs, hx, e'⟩ | ⟨xs, hx, e'⟩ | ⟨kvs, hx, e'⟩
  · subst e'
    obtain ⟨its, r, pl, hz⟩ := I.list hx
    have hlen := r.length
    exact wpAny_truthy_list pl.isList (by simp only [ah]; omega) ⟨H, I.tok _, by rw [Vt r]; exact q⟩
  · subst e'
    obtain ⟨its, r, pl, hz⟩ := I.tuple hx
    have hlen := r.length
    exact truthy_tuple pl (by simp only [ah]; omega) ⟨H, I.tok _, by rw [Vt r]; exact q⟩
  · subst e'
    obtain ⟨hz, hS, vs, r, m⟩ : kvs.length <= az /\ (p == fq) = false /\ ∃ vs, KV kvs vs /\ s.heap.DictOf (Wl X.prog X.w) p vs := I.hok p _ hx
    have hlen : kvs.length = vs.length := gG r
    exact wpAny_truthy_dict hS m (by omega) ⟨H, I.tok _, by rw [zdo r]; exact q⟩
 | _ => exact (show False from e).elim
theorem zfT (ha : PE X a ta) (he : ∀ whole, isTrue a X.env whole = (do let v ← whole; fH a.pos; dk [v] (truthy v))) :
 PT X a (fun σ H Q => ta σ H fun x H' => ∃ k, zfS X.K x H' k /\ Q k H') := by
 intro pins s σ H Q I h
 exact isTrue_plain (zK (ha pins s σ H _ I h) fun v s1 ⟨x, H1, I1, r1, q1⟩ => zjJ pins s1 σ H1 x v Q I1 r1 q1) (he _)
theorem zdp : yr X (cn .Add) (fun x y H Q => ∃ i j, x = .str i /\ y = .str j /\ i.length + j.length <= az /\ Q (.str (i ++ j)) H) := by
 intro pins s σ H x y v u Q I rx ry h
 obtain ⟨i, j, rfl, rfl, hz, q⟩ := h
 obtain ⟨t, rfl⟩ := rx
 obtain ⟨t', rfl⟩ := ry
 exact add_str (fun t' tk => ⟨.str (i ++ j), H, I.tok _, ⟨_, rfl⟩, q⟩) hz
theorem QX (r : Vals [x] us) : ∃ u, us = [u] /\ RelV x u := by
 cases r with
 | cons r1 r2 => cases r2; exact ⟨_, rfl, r1⟩
theorem zg8 (r : Vals [x, y] us) : ∃ u w', us = [u, w'] /\ RelV x u /\ RelV y w' := by
 cases r with
 | cons r1 r2 =>
  cases r2 with
  | cons r3 r4 => cases r4; exact ⟨_, _, rfl, r1, r3⟩
theorem zeA (hc : X.calm = true) : je X (.builtin "max") (fun xs H Q => ∃ i j, xs = [.int i, .int j] /\ Q (.int (if j > i then j else i)) H) := by
 intro pins s σ H xs us Q I r h
 obtain ⟨i, j, rfl, q⟩ := h
 obtain ⟨u, w', rfl, ⟨t, rfl⟩, ⟨t', rfl⟩⟩ := zg8 r
 refine max_two_ints (I.ok.hd hc) fun h' tk k => ⟨_, H, I.kept k, ?_, q⟩
 by_cases hj : j > i
 · rw [if_pos hj, if_pos hj]; exact ⟨_, rfl⟩
 · rw [if_neg hj, if_neg hj]; exact ⟨_, rfl⟩
theorem zeB (hc : X.calm = true) : je X (.builtin "min") (fun xs H Q => ∃ i j, xs = [.int i, .int j] /\ Q (.int (if j < i then j else i)) H) := by
 intro pins s σ H xs us Q I r h
 obtain ⟨i, j, rfl, q⟩ := h
 obtain ⟨u, w', rfl, ⟨t, rfl⟩, ⟨t', rfl⟩⟩ := zg8 r
 refine min_two_ints (I.ok.hd hc) fun h' tk k => ⟨_, H, I.kept k, ?_, q⟩
 by_cases hj : j < i
 · rw [if_pos hj, if_pos hj]; exact ⟨_, rfl⟩
 · rw [if_neg hj, if_neg hj]; exact ⟨_, rfl⟩
theorem zeC : je X (.type "int") (fun xs H Q => (∃ i, xs = [.int i] /\ Q (.int i) H) \/ ∃ k, xs = [.bl k] /\ Q (.int (if k then 1 else 0)) H) := by
 intro pins s σ H xs us Q I r h
 rcases h with ⟨i, rfl, q⟩ | ⟨k, rfl, q⟩
 · obtain ⟨u, rfl, t, rfl⟩ := QX r
   exact call_int_int ⟨.int i, H, I, ⟨_, rfl⟩, q⟩
 · obtain ⟨u, rfl, r1⟩ := QX r
   cases r1
   exact call_int_bool ⟨.int (if k then 1 else 0), H, I.tok _, ⟨_, rfl⟩, q⟩
theorem zap : je X (.type "str") (fun xs H Q => ∃ i, xs = [.int i] /\ i.natAbs.log2 < 1920 /\ Q (.str (toString i)) H) := by
 intro pins s σ H xs us Q I r h
 obtain ⟨i, rfl, hz, q⟩ := h
 obtain ⟨u, rfl, t, rfl⟩ := QX r
 exact PySem.P.str_of_int hz ⟨.str _, H, I.tok _, ⟨_, rfl⟩, q⟩
def zjK (K : ae) (x : V) (H : Hp) (n : Nat) : Prop :=
 match x with
 | .str y => y.length <= az /\ n = y.length
 | .byt y => y.size <= az /\ n = y.size
 | .ref p => (∃ xs, yl K H p xs /\ n = xs.length) \/ ∃ xs, SqT K H p xs /\ n = xs.length
 | _ => False
theorem zfU : je X (.builtin "len") (fun xs H Q => ∃ x n, xs = [x] /\ zjK X.K x H n /\ Q (.int n) H) := by
 intro pins s σ H xs us Q I r h
 obtain ⟨x, n, rfl, e, q⟩ := h
 obtain ⟨u, rfl, rx⟩ := QX r
 have hl := ZW
 have hs : az = 16777216 := eO
 cases x with
 | str y =>
  obtain ⟨t, rfl⟩ := rx
  obtain ⟨hy, e'⟩ : y.length <= az /\ n = y.length := e
  subst e'
  exact len_str (by omega) ⟨.int _, H, I.tok _, ⟨_, rfl⟩, q⟩
 | byt y =>
  obtain ⟨t, rfl⟩ := rx
  obtain ⟨hy, e'⟩ : y.size <= az /\ n = y.size := e
  subst e'
  exact PySem.W.len_bytes (by omega) ⟨.int _, H, I.tok _, ⟨_, rfl⟩, q⟩
 | ref p =>
  cases rx
  have e' : (∃ xs, yl X.K H p xs /\ n = xs.length) \/ ∃ xs, SqT X.K H p xs /\ n = xs.length := e
  rcases e' with ⟨xs, hx, e'⟩ | ⟨xs, hx, e'⟩
  · subst e'
    obtain ⟨its, r', pl, hz⟩ := I.list hx
    have hlen := r'.length
    exact Calls.call_len_list pl.isList (by simp only [ah]; omega) ⟨.int xs.length, H, I.tok _, ⟨_, by simp only [ah]; rw [hlen]⟩, q⟩
  · subst e'
    obtain ⟨its, r', pl, hz⟩ := I.tuple hx
    have hlen := r'.length
    exact len_tuple pl (by simp only [ah]; omega) ⟨.int xs.length, H, I.tok _, ⟨_, by simp only [ah]; rw [hlen]⟩, q⟩
 | _ => exact (show False from e).elim
end
structure ObjM (h : Heap) (x dx C : Addr) (mA : Str -> Option Value) : Prop where
 obj : h.get? x = some (er C dx)
 ns : h.Ns1 dx mA
 ne : dx ≠ x
theorem zeD {h : Heap} {mA : Str -> Option Value} (n : h.Ns1 dx mA) : ∃ od, h.get? dx = some od /\ ∀ name, eI name od = some (mA name) := by
 obtain ⟨o, es, ep, ho, hd, hk, _, hm⟩ := n
 refine ⟨o, ho, fun name => ?_⟩
 have e := hm name
 unfold nsFind findBy at e
 rw [← Array.find?_toList] at e
 unfold eI
 rw [hd]
 dsimp only
 split
 · rename_i y q
   rw [q] at e
   exact congrArg some e
 · rename_i q
   rw [q] at e
   have a : es.toList.any (·.refKey) = false := by
    rw [dI]
    intro y hy
    obtain ⟨z, t, hkey⟩ := hk y (Array.mem_toList_iff.mp hy)
    simp [DictEntry.refKey, hkey]
   have a' : ¬ es.toList.any (·.refKey) = true := by rw [a]; exact af
   rw [if_neg a']
   exact congrArg some e
theorem ObjM.look {mA : Str -> Option Value} (I : ObjM h x dx C mA) : ∃ od, PySem.W.InstAt h x (er C dx) C (some od) /\ ∀ name, eI name od = some (mA name) :=
 let ⟨od, ho, hl⟩ := zeD I.ns
 ⟨od, ⟨I.obj, rfl, rfl, ho⟩, hl⟩
section
variable {prog : Program} {w : World} {A : Around} {E : Value -> Shared -> Prop} {s : Shared} {K : ae} {x dx C f : Addr} {mA : Str -> Option Value} {name : Str} {v : Value}
end
section
variable {P : Program} {w : World} {H H' : Hp} {h h' : Heap} {a C dx : Addr} {fs fs' : List (Str × V)}
theorem zhZ (hok : HOk P w H h) (e : H a = some (.ins C dx fs)) : ∃ mA, ObjM h a dx C mA /\ (∀ f, zfG (fs.lookup f) (mA f)) /\ gN mA (fs.map (·.1)) /\ fs.length <= 1000 /\ H dx = some (.own a) := by
 obtain ⟨d, z, ne, ob, mA, n, r, q⟩ := (show ObjOk P w H h a (.ins C dx fs) from hok a _ e)
 exact ⟨mA, ⟨ob, n, ne⟩, r, q, z, d⟩
end
structure Cls (K : ae) (C : Addr) : Prop where
 pg : fM K C Str.empty = true
 hd : PySem.W.hasDictIn K C = true
 po : PySem.W.plainOver K C = true
 sa : dm K (.ref C) "__setattr__" = some (some (.builtin "object.__setattr__"))
theorem Cls.get {K : ae} {C : Addr} (c : Cls K C) (f : Str) : fM K C f = true := c.pg
section
variable {X : Cx} {pins : List (Addr × Obj)} {σ : St} {H : Hp} {s : Shared} {a C dx : Addr} {fs : List (Str × V)} {f : Str} {v : V} {A : Around} {E : Value -> Shared -> Prop}
end
section
variable {X : Cx} {o e value : Expr} {f : Str} {pos pos' tpos : Pos} {ta tv : TE}
end
section
variable {X : Cx} {pins : List (Addr × Obj)} {σ : St} {H : Hp} {s : Shared} {A : Around} {E : Value -> Shared -> Prop} {Q : Value -> Shared -> Prop} {c : Value} {b : Bool}
inductive J6 (K : ae) (H : Hp) : V -> Value -> Prop where
 | non : J6 K H .non (.type "NoneType")
 | bl (x : Bool) : J6 K H (.bl x) (.type "bool")
 | int (i : Int) : J6 K H (.int i) (.type "int")
 | str (x : Str) : J6 K H (.str x) (.type "str")
 | flt (x : UInt64) : J6 K H (.flt x) (.type "float")
 | lst {a : Addr} {xs : List V} (e : H a = some (.lst xs)) : J6 K H (.ref a) (.type "list")
 | frz {a : Addr} {o : Obj} {xs : List V} (e : H a = some (.frz o (.lst xs))) : J6 K H (.ref a) (.type "list")
 | tup {a : Addr} {xs : List V} (e : H a = some (.tup xs)) : J6 K H (.ref a) (.type "tuple")
 | dK {a : Addr} {kvs : List (jB × V)} (e : H a = some (.dK kvs)) : J6 K H (.ref a) (.type "dict")
 | dT {a : Addr} {kvs : List (List jB × V)} (e : H a = some (.dT kvs)) : J6 K H (.ref a) (.type "dict")
 | ins {a C dx : Addr} {fs : List (Str × V)} (e : H a = some (.ins C dx fs)) (cl : Cls K C) (ha : dm K (.ref C) "__class__" = some (some (.builtin "object.__class__")))
  (hn : PySem.W.specialIn K (.builtin "object.__class__") "__get__" = some (some (.builtin "getset_descriptor.__get__"))) (htk : PySem.W.takesIn K (.builtin "object.__class__") = some true)
  (hm : PySem.W.mroIn K C (.type "object") = some true) : J6 K H (.ref a) (.ref C)
theorem zeE (I : Inv X pins σ H s) (rx : RelV x u) (ty : J6 X.K H x t) (e : dn X.K t c = some b) (h : ∀ tk, Q (.bool b) { s with toks := tk }) :
 wpAny (model X.prog X.w) A (call (.builtin "isinstance") [u, c]) Q E s := by
 cases ty with
 | non => cases (show u = Value.none from rx); exact aY PySem.W.kitx_none I.kIn True.intro e (fun z => nomatch z) h
 | bl y => cases (show u = Value.bool y from rx); exact aY PySem.W.kitx_bool I.kIn True.intro e (fun z => nomatch z) h
 | int i => obtain ⟨t, q⟩ := (show ∃ t, u = Value.int i t from rx); cases q; exact aY PySem.W.kitx_int I.kIn True.intro e (fun z => nomatch z) h
 | str y => obtain ⟨t, q⟩ := (show ∃ t, u = Value.str y t from rx); cases q; exact aY PySem.W.kitx_str I.kIn True.intro e (fun z => nomatch z) h
 | flt y => obtain ⟨t, q⟩ := (show ∃ t, u = Value.float y t from rx); cases q; exact aY PySem.W.kitx_float I.kIn True.intro e (fun z => nomatch z) h
 | @lst a xs ea =>
  cases (show u = Value.ref a from rx)
  obtain ⟨_, _, n, _, h1⟩ := (show ObjOk X.prog X.w H s.heap a (.lst xs) from I.hok a _ ea)
  exact aY fA I.kIn ⟨_, h1, rfl⟩ e (fun z => nomatch z) h
 | @frz a ob xs ea =>
  cases (show u = Value.ref a from rx)
  obtain ⟨_, _, _, n, _, h1⟩ := (show ObjOk X.prog X.w H s.heap a (.frz ob (.lst xs)) from I.hok a _ ea)
  exact aY fA I.kIn ⟨_, h1, rfl⟩ e (fun z => nomatch z) h
 | @tup a xs ea =>
  cases (show u = Value.ref a from rx)
  obtain ⟨_, _, _, p⟩ := (show ObjOk X.prog X.w H s.heap a (.tup xs) from I.hok a _ ea)
  obtain ⟨o, h1, h2, _⟩ := p
  exact aY PySem.W.kitx_tuple I.kIn ⟨o, h1, h2⟩ e (fun z => nomatch z) h
 | @dK a kvs ea =>
  cases (show u = Value.ref a from rx)
  obtain ⟨_, _, vs, _, p⟩ := (show ObjOk X.prog X.w H s.heap a (.dK kvs) from I.hok a _ ea)
  obtain ⟨o, es, ep, h1, h2, _⟩ := p
  exact aY dJ I.kIn ⟨o, h1, h2.1⟩ e (fun z => nomatch z) h
 | @dT a kvs ea =>
  cases (show u = Value.ref a from rx)
  obtain ⟨_, _, xs, _, o, es, ep, h1, h2, _⟩ := (show ObjOk X.prog X.w H s.heap a (.dT kvs) from I.hok a _ ea)
  exact aY dJ I.kIn ⟨o, h1, h2.1⟩ e (fun z => nomatch z) h
 | @ins a C dx fs ea cl ha hn htk hm =>
  cases (show u = Value.ref a from rx)
  obtain ⟨mA, O, _⟩ := zhZ I.hok ea
  obtain ⟨od, J, _⟩ := O.look
  exact aY (PySem.W.kitx_own (cl.get _) cl.hd ha hn htk hm) I.kIn J e (fun z => nomatch z) h
end
structure Room (k : Nat) (A : Around) : Prop where
 hd : A.handled = none
 dp : A.depth + 3 * k + 5 < recursionLimit
 un : A.units + 16 * k + 200 < cLine
theorem Room.mono (r : Room k A) (h : j <= k) : Room j A := ⟨r.hd, by have := r.dp; omega, by have := r.un; omega⟩
theorem Room.deeper {A : Around} (r : Room (k + 1) A) (env : Env) : Room k (A.deeper env) :=
 ⟨r.hd, by have := r.dp; show A.depth + 1 + 3 * k + 5 < _; omega, by have := r.un; show A.units + 3 + 16 * k + 200 < _; omega⟩
theorem Room.depth {A : Around} (r : Room k A) : A.depth < recursionLimit := by have := r.dp; omega
def ZG : TA := fun _ H Q => Q [] H
def Jx (ta : TE) (tr : TA) : TA := fun σ H Q => ta σ H fun x H1 => tr σ H1 fun xs H2 => Q (x :: xs) H2
section
variable {X : Cx} {e : Expr} {es : List Expr} {te : TE} {t : TA} {pos : Pos}
theorem Jp : PA X [] ZG := fun _ _ _ _ H Q I h => fB ⟨[], H, I, .nil, h⟩
theorem jh (ha : PE X e te) (hr : PA X es t) (hs : aj (e :: es) X.env = (false, eval e X.env) :: aj es X.env := by rfl) : PA X (e :: es) (Jx te t) := by
 intro pos pins s σ H Q I h
 rw [hs]
 show wpAny _ _ (spliced ((false, eval e X.env) :: backTo pos (aj es X.env))) _ _ s
 refine fi (zK (ha pins s σ H _ I h) fun u s1 ⟨x, H1, I1, r1, q1⟩ => ?_)
 exact zK (hr pos pins s1 σ H1 _ I1 q1) fun us s2 ⟨xs, H2, I2, r2, q2⟩ => ⟨x :: xs, H2, I2, .cons r1 r2, q2⟩
def zjL (t : TA) : TE := fun σ H Q => t σ H fun xs H1 => xs.length <= az /\ ∀ p, H1 p = none -> Q (.ref p) (zA H1 p (.tup xs))
def zjM (t : TA) : TE := fun σ H Q => t σ H fun xs H1 => xs.length <= az /\ ∀ p, H1 p = none -> Q (.ref p) (zA H1 p (.lst xs))
theorem zjN (h : PA X es t) : PE X (.Tuple es x1 pos) (zjL t) := by
 intro pins s σ H Q I hq
 refine wpAny_Tuple_spliced (zK (h pos pins s σ H _ I hq) fun us s1 ⟨xs, H1, I1, r, z, q⟩ => ⟨by rw [← r.length]; exact z, ?_⟩)
 have hf : H1 s1.heap.objs.size = none := I1.hok.fresh (aC _)
 refine ⟨.ref s1.heap.objs.size, zA H1 s1.heap.objs.size (.tup xs), I1.laid (t' := s1.toks) (fun b u e => am _ e) (aC _) ?_, rfl, q _ hf⟩
 exact ⟨z, us, r, ⟨_, aE _ rfl, rfl, _, rfl⟩⟩
theorem zjO (h : PA X es t) : PE X (.List es pos) (zjM t) := by
 intro pins s σ H Q I hq
 refine wpAny_List_spliced (zK (h pos pins s σ H _ I hq) fun us s1 ⟨xs, H1, I1, r, z, q⟩ => ⟨by rw [← r.length]; exact z, ?_⟩)
 have hf : H1 s1.heap.objs.size = none := I1.hok.fresh (aC _)
 refine ⟨.ref s1.heap.objs.size, zA H1 s1.heap.objs.size (.lst xs), I1.laid (t' := s1.toks) (fun b u e => am _ e) (aC _) ?_, rfl, q _ hf⟩
 exact ⟨z, us, 0, r, aE _ rfl⟩
end
abbrev Sp := List V -> Hp -> VK -> XK -> Prop
abbrev ZX := List Env -> Hp -> Shared -> XK -> Value -> Shared -> Prop
structure zdq (P : Program) (w : World) (K : ae) (mg : Str -> Option Value) (base : Heap) (A : Around) (outer : List Env) (s : Shared) (H : Hp) : Prop where
 frames : A.frames = some outer
 mod : Mod K mg base
 bs : ∀ b o, base.get? b = some o -> s.heap.get? b = some o /\ H b = none
 bsz : base.objs.size <= s.heap.objs.size
 funs : s.heap.FunFrames base outer
 frf : ∀ b ∈ YZ outer, H b = none
 hok : HOk P w H s.heap
 bare : AllBare s.gens
def CE (outer : List Env) (P : Program) (w : World) (H : Hp) (s : Shared) (Q : VK) (u : Value) (s' : Shared) : Prop :=
 ∃ v H', s'.os = s.os /\ AllBare s'.gens /\ Un (YZ outer) [] H H' s.heap s'.heap /\ HOk P w H' s'.heap /\ RelV v u /\ Q v H'
def CR (CX : ZX) (outer : List Env) (P : Program) (w : World) (H : Hp) (s : Shared) (Q : VK) (E : XK) (r : Result) (s' : Shared) : Prop :=
 match r with
 | .ok (.ret u) => CE outer P w H s Q u s'
 | .ok _ => False
 | .error e => CX outer H s E e s'
structure FnOk (P : Program) (w : World) (K : ae) (mg : Str -> Option Value) (base : Heap) (CX : ZX) (k : Nat) (f : Addr) (fd : FuncData) (ps : List Str) (sp : Sp) : Prop where
 len : ∀ vs H Q E, sp vs H Q E -> vs.length = ps.length
 run : ∀ (A : Around) (outer : List Env) (s : Shared) (H : Hp) (args : Args) (us : List Value) (vs : List V) (Q : VK) (E : XK), Room k A -> zdq P w K mg base A outer s H -> BindsTo s fd args (ps.zip us) -> Vals vs us -> sp vs H Q E ->
  dM (model P w) A (.call (.ref f) args) (CR CX outer P w H s Q E) s
theorem FnOk.mono {P : Program} {w : World} {K : ae} {mg : Str -> Option Value} {base : Heap} {CX : ZX} {j k : Nat} {f : Addr} {fd : FuncData} {ps : List Str} {sp : Sp} (F : FnOk P w K mg base CX j f fd ps sp) (h : j <= k) :
 FnOk P w K mg base CX k f fd ps sp := ⟨F.len, fun A outer s H args us vs Q E hr => F.run A outer s H args us vs Q E (hr.mono h)⟩
theorem FnOk.imp {P : Program} {w : World} {K : ae} {mg : Str -> Option Value} {base : Heap} {CX : ZX} {k : Nat} {f : Addr} {fd : FuncData} {ps : List Str} {sp sp' : Sp} (F : FnOk P w K mg base CX k f fd ps sp)
 (h : ∀ vs H Q E, sp' vs H Q E -> sp vs H Q E) : FnOk P w K mg base CX k f fd ps sp' :=
 ⟨fun vs H Q E q => F.len vs H Q E (h _ _ _ _ q), fun A outer s H args us vs Q E hr he hb hv hs => F.run A outer s H args us vs Q E hr he hb hv (h _ _ _ _ hs)⟩
section
variable {X : Cx} {pins : List (Addr × Obj)} {σ : St} {H : Hp} {s s' : Shared}
theorem Inv.env0 (I : Inv X pins σ H s) : zdq X.prog X.w X.K X.mg X.base X.A X.stack s H :=
 ⟨I.ok.frames, I.ok.mod, I.bs, aO I.ok.bsz I.sz, I.stack, I.stkFree, I.hok, I.bare⟩
theorem Inv.after (I : Inv X pins σ H s) (h : CE X.stack X.prog X.w H s Q u s') : EP X pins σ Q u s' := by
 obtain ⟨v, H', os, bare, un, hok, r, q⟩ := h
 obtain ⟨hh, g, d, t, os'⟩ := s'
 obtain rfl : os' = s.os := os
 exact ⟨v, H', I.call (h' := hh) (g' := g) (d' := d) (t' := t) (ch := []) un hok bare (fun b z => absurd z (by simp)), r, q⟩
end
def Ur (sp : Sp) (dvs : List V) (E : XK) (t : TA) : TE := fun σ H Q => t σ H fun vs H1 => sp (vs ++ dvs) H1 Q E
def Binds (K : ae) (fd : FuncData) (ps : List Str) (ds : List Value) : Prop :=
 ∀ (s : Shared) (us : List Value), K.In s.heap -> (us ++ ds).length = ps.length -> BindsTo s fd ⟨us, []⟩ (ps.zip (us ++ ds))
theorem Binds.all {K : ae} {fd : FuncData} {ps : List Str} (h : ∀ us : List Value, us.length = ps.length -> bindArgs fd ⟨us, []⟩ = pure (ps.zip us)) : Binds K fd ps [] := fun s us _ hl => by
 rw [bj] at hl ⊢
 exact .of_eq (h us hl)
def zaq (CX : ZX) (X : Cx) (E : XK) : Prop := ∀ (pins : List (Addr × Obj)) (σ : St) (H : Hp) (s : Shared) (e : Value) (s' : Shared), Inv X pins σ H s -> CX X.stack H s E e s' -> X.xe e s'
section
variable {X : Cx} {CX : ZX} {k : Nat} {f C : Addr} {fd : FuncData} {ps : List Str} {sp : Sp} {dvs : List V} {ds : List Value} {E : XK} {x m : Str} {p pos apos : Pos} {e o : Expr} {es : List Expr} {ta : TE} {t : TA}
theorem zjP (F : FnOk X.prog X.w X.K X.mg X.base CX k f fd ps sp) (hr : Room k X.A) (hb : Binds X.K fd ps ds) (hd : Vals dvs ds) (hx : zaq CX X E)
 (I : Inv X pins σ H s) (r : Vals vs us) (h : sp (vs ++ dvs) H Q E) : wpAny (model X.prog X.w) X.A (call (.ref f) us) (EP X pins σ Q) X.xe s := by
 have r2 : Vals (vs ++ dvs) (us ++ ds) := r.append hd
 have hl : (us ++ ds).length = ps.length := by rw [← r2.length]; exact F.len _ _ _ _ h
 refine wpAny_call (fJ (F.run X.A X.stack s H ⟨us, []⟩ (us ++ ds) (vs ++ dvs) Q E hr I.env0 (hb s us I.kIn hl) r2 h) fun r s' hq => ?_)
 cases r with
 | error e => exact hx pins σ H s e s' I hq
 | ok fl =>
  cases fl with
  | ret u => exact I.after hq
  | next => exact aa hq
  | brk => exact aa hq
  | cont => exact aa hq
theorem zh0 (F : FnOk X.prog X.w X.K X.mg X.base CX k f fd ps sp) (hr : Room k X.A) (hg : Gl X x) (hm : X.mg x = some (.ref f)) (hk : cO X.K (.ref f) = true) (hb : Binds X.K fd ps ds) (hd : Vals dvs ds) (hx : zaq CX X E)
 (ha : PA X (e :: es) t) (hdb : (x == ("__debug__" : Str)) = false := by decide) (he : aj (e :: es) X.env = (false, eval e X.env) :: aj es X.env := by rfl) (hpl : (backTo pos (aj es X.env)).any (·.1) = false := by rfl) :
 PE X (.Call (.Name x p) (e :: es) [] pos) (Ur sp dvs E t) := by
 intro pins s σ H Q I h
 refine cI (zb8 I hg hm ?_ hdb)
 refine PySem.W.callWith_K (h₀ := X.base) I.ok.mod.kin hk (zK (ha pos pins s σ H _ I h) fun us s1 ⟨vs, H1, I1, r, q⟩ => ⟨I1.kIn, ?_⟩) he hpl
 exact zjP F hr hb hd hx I1 r q
end
section
variable {X : Cx} {CX : ZX} {k : Nat} {f C : Addr} {fd : FuncData} {ps ks : List Str} {sp : Sp} {E : XK} {x m : Str} {p pos apos kpos : Pos} {e o : Expr} {es : List Expr} {kws : List Keyword} {te ta : TE} {t tk : TA} {nm : Option Str}
variable {g : List Value -> List Value -> List Value} {gV : List V -> List V -> List V}
end
structure zL (N P : List Str) (sc : Scope) : Prop where
 kind : sc.kind = .function
 co : sc.isCoroutine = false
 gen : sc.isGenerator = false
 nd : N.Nodup
 pre : N.take P.length = P
 par : ∀ x ∈ P, sc.names.lookup x = some .local \/ sc.names.lookup x = some .cell
 nofree : ∀ y ∈ sc.names, y.2 ≠ .free
theorem WX {kindOf : Str -> Option NameKind} : ∀ {binds : List (Str × Value)} {m : Str -> Option Value}, (∀ v, (x, v) ∉ binds) -> bindL kindOf binds m x = m x
 | [], _, _ => rfl
 | (n, v) :: r, m, h => by
  unfold bindL
  rw [WX fun w hw => h w (aw _ hw)]
  split
  · have : x ≠ n := by rintro rfl; exact h v aq
    simp [this]
  · rfl
theorem WY {kindOf : Str -> Option NameKind} : ∀ {binds : List (Str × Value)} {m : Str -> Option Value}, (∀ v, (x, v) ∉ binds) -> bindC kindOf binds m x = m x
 | [], _, _ => rfl
 | (n, v) :: r, m, h => by
  unfold bindC
  rw [WY fun w hw => h w (aw _ hw)]
  split
  · rfl
  · have : x ≠ n := by rintro rfl; exact h v aq
    simp [this]
theorem WZ {kindOf : Str -> Option NameKind} : ∀ {P : List Str} {vs : List Value} {i : Nat} {m : Str -> Option Value}, P.Nodup -> P[i]? = some x -> vs[i]? = some v -> kindOf x = some .local ->
 bindL kindOf (P.zip vs) m x = some v
 | [], _, _, _, _, h, _, _ => by simp at h
 | _ :: _, [], _, _, _, _, h, _ => by simp at h
 | p :: P, w :: vs, 0, m, nd, h1, h2, hk => by
  simp at h1 h2; subst h1; subst h2
  show bindL kindOf ((p, w) :: P.zip vs) m p = _
  unfold bindL
  rw [WX fun v hv => (db.mp nd).1 (et hv).1, if_pos hk]
  simp
 | p :: P, w :: vs, i + 1, m, nd, h1, h2, hk => by
  show bindL kindOf ((p, w) :: P.zip vs) m x = _
  unfold bindL
  exact WZ (i := i) (db.mp nd).2 (by simpa using h1) (by simpa using h2) hk
theorem W0 {kindOf : Str -> Option NameKind} : ∀ {P : List Str} {vs : List Value} {i : Nat} {m : Str -> Option Value}, P.Nodup -> P[i]? = some x -> vs[i]? = some v -> kindOf x ≠ some .local ->
 bindC kindOf (P.zip vs) m x = some v
 | [], _, _, _, _, h, _, _ => by simp at h
 | _ :: _, [], _, _, _, _, h, _ => by simp at h
 | p :: P, w :: vs, 0, m, nd, h1, h2, hk => by
  simp at h1 h2; subst h1; subst h2
  show bindC kindOf ((p, w) :: P.zip vs) m p = _
  unfold bindC
  rw [WY fun v hv => (db.mp nd).1 (et hv).1, if_neg hk]
  simp
 | p :: P, w :: vs, i + 1, m, nd, h1, h2, hk => by
  show bindC kindOf ((p, w) :: P.zip vs) m x = _
  unfold bindC
  exact W0 (i := i) (db.mp nd).2 (by simpa using h1) (by simpa using h2) hk
def start (N : List Str) (vs : List V) : St := vs.map some ++ au (N.length - vs.length) none
def U2 (CX : ZX) (P : Program) (w : World) (K : ae) (mg : Str -> Option Value) (base : Heap) (N : List Str) (qual : Str) (scope : Scope) (f : Addr) (cd : Value) (A : Around) (outer : List Env) (s : Shared) (H : Hp) (E : XK) : Cx where
 prog := P
 w := w
 K := K
 mg := mg
 base := base
 A := A.deeper (envOfC qual scope s.heap.objs.size f cd)
 N := N
 s₀ := s
 H₀ := H
 env := envOfC qual scope s.heap.objs.size f cd
 outer := outer
 stack := envOfC qual scope s.heap.objs.size f cd :: outer
 ex := []
 calm := true
 fn := fun _ => true
 pn := []
 xe := fun e s' => wpAny (model P w) (A.deeper (envOfC qual scope s.heap.objs.size f cd)) (leaving (envOfC qual scope s.heap.objs.size f cd) e) (fun _ s'' => CX outer H s E e s'') (fun e' s'' => CX outer H s E e' s'') s'
theorem zar {sc : Scope} (h : sc.names.lookup x = some .cell) : ∃ c, (gL n sc.names []).lookup x = some c := by
 have q := d8 sc.names n [] (.inl h)
 exact dQ.mp q
theorem zeF {CX : ZX} {P : Program} {w : World} {K : ae} {mg : Str -> Option Value} {base : Heap} {N ps : List Str} {qual : Str} {scope : Scope} {f : Addr} {cd : Value} {A : Around} {outer : List Env} {s s1 : Shared} {H : Hp} {E : XK} {us : List Value} {vs : List V}
 (S : zL N ps scope) (hd : A.handled = none) (e0 : zdq P w K mg base A outer s H) (hl : vs.length = ps.length) (r : Vals vs us)
 (x : InCallC s s.heap.objs.size (bindL (envOfC qual scope s.heap.objs.size f cd).kindOf (ps.zip us) fun _ => none) (gL (s.heap.objs.size + 1) scope.names []) (bindC (envOfC qual scope s.heap.objs.size f cd).kindOf (ps.zip us) fun _ => none) s1) :
 Inv (U2 CX P w K mg base N qual scope f cd A outer s H E) [] (start N vs) H s1 := by
 have hpl : ps.length <= N.length := by have := congrArg ci S.pre; rw [bV] at this; omega
 obtain ⟨h1, tk, rfl, hk⟩ := x.done
 have noA : ∀ b : Addr, b ∉ (U2 CX P w K mg base N qual scope f cd A outer s H E).ex := fun b z => absurd (show b ∈ ([] : List Addr) from z) (by simp)
 refine ⟨⟨e0.mod, S.kind, rfl, rfl, aC _, fun y z c h1 h2 => ?_, fun y hy => ?_, fun y c _ h => ?_, fun _ => hd, Around.frames_deeper e0.frames, .inr ⟨rfl, rfl⟩, fun b z => absurd z (noA b), e0.bs, e0.bsz, fun b _ _ => noA b, fun b z => absurd z (noA b), e0.funs, e0.frf⟩,
  rfl, e0.bare, Un.kept hk, ⟨_, x.toInCall.ns, fun i y v h1 h2 h3 => ?_⟩, fun y c h => ⟨_, x.cell y c h⟩, e0.hok.fresh (aC _), fun y c h => ?_, fun p hp => absurd (show p ∈ ([] : List (Addr × Obj)) from hp) (by simp), e0.hok.kept hk, ?_⟩
 · exact name_of_addr x.apart (bU h1) (bU h2)
 · have hy : scope.names.lookup y = some .cell \/ scope.names.lookup y = some .free := hy
   rcases hy with hy | hy
   · exact zar hy
   · exact absurd rfl (S.nofree _ (bU hy))
 · exact dZ (x.above y c (bU h))
 · have hi : i < vs.length := by
    unfold start at h2
    by_cases hi : i < vs.length
    · exact hi
    · rw [ck (by simpa using hi)] at h2
      rw [dY] at h2
      split at h2 <;> cases h2
   have ha : vs[i]? = some v := by
    unfold start at h2
    rw [bL (by simpa using hi), ar] at h2
    cases e : vs[i]? with
    | none => rw [e] at h2; cases h2
    | some a => rw [e] at h2; cases h2; rfl
   obtain ⟨u, hu, rv⟩ := r.get ha
   have hp : ps[i]? = some y := by
    rw [← S.pre, List.getElem?_take_of_lt (by omega)]; exact h1
   have ndP : ps.Nodup := by rw [← S.pre]; exact S.nd.sublist (List.take_sublist _ _)
   refine ⟨u, rv, ?_⟩
   rcases S.par y (eL hp) with k | k
   · exact .inl ⟨k, WZ ndP hp hu k⟩
   · obtain ⟨c, e⟩ := zar (n := s.heap.objs.size + 1) k
     refine .inr ⟨.inl k, c, e, ?_⟩
     have q := x.cell y c e
     rw [W0 ndP hp hu (by show scope.names.lookup y ≠ _; rw [k]; decide)] at q
     exact q
 · exact e0.hok.fresh (dZ (x.above y c (bU h)))
 · unfold start
   show _ = N.length
   rw [aI, aA, List.length_replicate]
   omega
theorem zlw {CX : ZX} {P : Program} {w : World} {K : ae} {mg : Str -> Option Value} {base : Heap} {k : Nat} {f : Addr} {name qual : Str} {params : Arguments} {body : List Stmt} {scope : Scope} {dV kV doc pm cdv ct oc : Value} {an od : Option Addr}
 {osl : Array (Option Value)} {N ps : List Str} {sp : Sp} (lk : K.lookup f = some ⟨oc, od, .func (cb name qual params body scope dV kV doc pm an cdv ct), osl⟩) (hcd : dq K cdv qual = true) (S : zL N ps scope)
 (len : ∀ vs H Q E, sp vs H Q E -> vs.length = ps.length)
 (hbody : ∀ (A : Around) (outer : List Env) (s : Shared) (H : Hp) (vs : List V) (Q : VK) (E : XK), Room k (A.deeper (envOfC qual scope s.heap.objs.size f cdv)) -> sp vs H Q E ->
  ∃ t, PSs (U2 CX P w K mg base N qual scope f cdv A outer s H E) body t /\ t { nx := fun _ H' => Q .non H', rt := Q } (start N vs) H) :
 FnOk P w K mg base CX (k + 1) f (cb name qual params body scope dV kV doc pm an cdv ct) ps sp := by
 refine ⟨len, fun A outer s H args us vs Q E hr e0 hb r hsp => ?_⟩
 have hl := len _ _ _ _ hsp
 have KX : K.In s.heap := e0.mod.kin.keeps fun b o e => (e0.bs b o e).1
 have lim : s.heap.NoLimit := e0.mod.nolimit.keeps fun b o e => (e0.bs b o e).1
 have hkind : ∀ y ∈ ps.zip us, scope.names.lookup y.1 = some .local \/ (scope.names.lookup y.1 = some .cell /\ ((gL (s.heap.objs.size + 1) scope.names []).lookup y.1).isSome = true) := fun ⟨n, v⟩ hy => by
  rcases S.par n (et hy).1 with q | q
  · exact .inl q
  · exact .inr ⟨q, d8 _ _ _ (.inl q)⟩
 refine codeAny_call_function hr.depth (KX _ _ lk) rfl S.co S.gen rfl (PySem.W.codeRec_of KX hcd) (hb _ _ _ _ ?_)
 refine wpAny_newFunctionEnv_cells S.kind hkind fun env he s1 x => ?_
 subst he
 refine ⟨lim.keeps x.toInCall.keep, codeAny_func ?_⟩
 obtain ⟨t, ht, hq⟩ := hbody A outer s H vs Q E (hr.deeper _) hsp
 have I : Inv (U2 CX P w K mg base N qual scope f cdv A outer s H E) [] (start N vs) H s1 := zeF S hr.hd e0 hl r x
 refine ce (ht [] s1 (start N vs) H _ I hq) (fun fl s' hs => ?_) fun e s' hs => hs
 have fin : ∀ {σ' : St} {H' : Hp} {v : V} {u : Value}, Inv (U2 CX P w K mg base N qual scope f cdv A outer s H E) [] σ' H' s' -> RelV v u -> Q v H' -> CE outer P w H s Q u s' :=
  fun {σ' H' v u} J rv q => ⟨v, H', J.os, J.bare, J.base, J.hok, rv, q⟩
 cases fl with
 | ret u =>
  obtain ⟨v, σ', H', J, rv, q⟩ := hs
  exact fin J rv q
 | next =>
  obtain ⟨σ', H', J, q⟩ := hs
  exact fin (v := V.non) (u := Value.none) J rfl q
 | brk =>
  obtain ⟨_, _, _, q⟩ := hs
  exact aa q
 | cont =>
  obtain ⟨_, _, _, q⟩ := hs
  exact aa q
section
variable {X : Cx} {x : Str} {p pos : Pos} {e : Expr} {es : List Expr} {t : TA} {id T : String} {r : List V -> Hp -> VK -> Prop}
def tCB (r : List V -> Hp -> VK -> Prop) (t : TA) : TE := fun σ H Q => t σ H fun vs H1 => r vs H1 Q
theorem zas (hc : je X (.builtin id) r) (hg : Gl X x) (hm : X.mg x = none) (hv : bB x = some (.builtin id)) (ha : PA X (e :: es) t) (hn : x ≠ "__name__" := by decide) (hdb : (x == ("__debug__" : Str)) = false := by decide)
 (he : aj (e :: es) X.env = (false, eval e X.env) :: aj es X.env := by rfl) (hpl : (backTo pos (aj es X.env)).any (·.1) = false := by rfl) : PE X (.Call (.Name x p) (e :: es) [] pos) (tCB r t) := by
 intro pins s σ H Q I h
 refine cI (QB I hg hm hv ?_ hn hdb)
 exact PyProof.Rows.callWith_builtin1 (zK (ha pos pins s σ H _ I h) fun us s1 ⟨vs, H1, I1, r1, q1⟩ => hc pins s1 σ H1 vs us Q I1 r1 q1) he hpl
theorem W1 (hc : je X (.type T) r) (hg : Gl X x) (hm : X.mg x = none) (hv : bB x = some (.type T)) (ha : PA X (e :: es) t) (hn : x ≠ "__name__" := by decide) (hdb : (x == ("__debug__" : Str)) = false := by decide)
 (he : aj (e :: es) X.env = (false, eval e X.env) :: aj es X.env := by rfl) (hpl : (backTo pos (aj es X.env)).any (·.1) = false := by rfl) : PE X (.Call (.Name x p) (e :: es) [] pos) (tCB r t) := by
 intro pins s σ H Q I h
 refine cI (QB I hg hm hv ?_ hn hdb)
 exact bc (zK (ha pos pins s σ H _ I h) fun us s1 ⟨vs, H1, I1, r1, q1⟩ => hc pins s1 σ H1 vs us Q I1 r1 q1) he hpl
end
end L2
namespace HT
open PySem PyProof.Rows
section
open PySem.SeqAt
open PySem.AutoSeq1 (wpAny_loadPart')
open PySem.MeetsSeq PySem.MeetsSeq2 PySem.MeetsSeq3
end
section
variable {prog : Program} {w : World} {A : Around} {E : Value -> Shared -> Prop} {s : Shared}
def sIx (n d : Nat) : Option Int -> Nat
 | none => d
 | some v => if v < 0 then (v + (n : Int)).toNat else min v.toNat n
theorem sIx_none (n d : Nat) : sIx n d none = d := rfl
theorem sIx_nat (n d k : Nat) : sIx n d (some (k : Int)) = min k n := by
 show (if (k : Int) < 0 then ((k : Int) + (n : Int)).toNat else min (k : Int).toNat n) = min k n
 rw [if_neg (by omega), dL]
theorem zjQ (n d : Nat) (hd : d <= n) (o : Option Int) : sIx n d o <= n := by
 cases o with
 | none => exact hd
 | some v =>
  show (if v < 0 then (v + (n : Int)).toNat else min v.toNat n) <= n
  by_cases hv : v < 0
  · rw [if_pos hv]; omega
  · rw [if_neg hv]; exact Nat.min_le_right _ _
theorem zcc (v : Int) (n d : Nat) : (if v < 0 then max (v + (n : Int)) 0 else min v (n : Int)) = ((sIx n d (some v) : Nat) : Int) := by
 show (if v < 0 then max (v + (n : Int)) 0 else min v (n : Int)) = (((if v < 0 then (v + (n : Int)).toNat else min v.toNat n) : Nat) : Int)
 by_cases hv : v < 0
 · simp only [if_pos hv]; omega
 · simp only [if_neg hv]; omega
theorem zdr (lo hi : Option Int) (n : Nat) : cu lo hi 1 (n : Int) = (((sIx n 0 lo : Nat) : Int), ((sIx n n hi : Nat) : Int)) := by
 have h1 : ¬ ((1 : Int) < 0) := by omega
 unfold cu
 simp only [h1, if_false]
 refine Prod.ext ?_ ?_
 · cases lo with
   | none => rfl
   | some v => exact zcc v n 0
 · cases hi with
   | none => rfl
   | some v => exact zcc v n n
theorem zds (i j : Nat) : bM (i : Int) (j : Int) 1 = j - i := by
 unfold bM
 have h1 : (1 : Int) > 0 := by omega
 simp only [h1, if_true, Int.ediv_one]
 split <;> omega
theorem Vu {Q : Option Int -> Shared -> Prop} (p : IsPart v o) (h : Q o s) : wpAny (model prog w) A (Builtin.Slice.slicePartIndex v) Q E s := by
 cases p with
 | none => exact slicePart_none h
 | int i t => exact slicePart_int h
theorem U3 {sl : Addr} {vl vu : Value} {lo hi : Option Int} {n : Nat} {Q : Int × Int × Nat -> Shared -> Prop} (hs : s.heap.IsSliceOf sl vl vu .none) (pl : IsPart vl lo) (pu : IsPart vu hi)
 (h : Q (((sIx n 0 lo : Nat) : Int), 1, sIx n n hi - sIx n 0 lo) s) : wpAny (model prog w) A (dC (.ref sl) (pure (n : Int))) Q E s := by
 obtain ⟨os, hos, hcs, hds⟩ := id hs
 unfold dC Builtin.Slice.sliceFields
 refine ac (ac (aU hos hds (x := vl) rfl (ac (aU hos hds (x := vu) rfl (ac (aU hos hds (x := .none) rfl (ao ?_)))))))
 refine ac (slicePart_none ?_)
 show wpAny _ _ (if ((1 : Int) == 0) = true then _ else _) _ _ s
 rw [if_neg (by decide)]
 refine ac (Vu pl (ac (Vu pu (ac (ao ?_)))))
 show wpAny _ _ (match cu lo hi 1 (n : Int) with | (lo, hi) => pure (lo, (1 : Int), bM lo hi 1)) _ _ s
 rw [zdr lo hi n]
 show wpAny _ _ (pure (((sIx n 0 lo : Nat) : Int), (1 : Int), bM ((sIx n 0 lo : Nat) : Int) ((sIx n n hi : Nat) : Int) 1)) _ _ s
 rw [zds]
 exact ao h
theorem zfV (xs : Array Value) (i k : Nat) : ((cg k).filterMap fun (m : Nat) => xs[((i : Int) + (m : Int) * 1).toNat]?).toArray = ((xs.toList.drop i).take k).toArray := by
 have e : (fun (m : Nat) => xs[((i : Int) + (m : Int) * 1).toNat]?) = fun m => xs[i + m]? := by
  funext m
  have : ((i : Int) + (m : Int) * 1).toNat = i + m := by omega
  rw [this]
 rw [e]
 have := pick_run xs i k
 rw [List.filterMap_map] at this
 have e2 : ((fun x => xs[x]?) ∘ fun x => i + x) = fun m => xs[i + m]? := rfl
 rw [e2] at this
 rw [this]
theorem getItem_tuple_cut {t sl : Addr} {items : Array Value} {vl vu : Value} {lo hi : Option Int} {Q : Value -> Shared -> Prop} (ht : IsTup s.heap t items) (hs : s.heap.IsSliceOf sl vl vu .none) (pl : IsPart vl lo) (pu : IsPart vu hi)
 (hw : ¬ (sIx items.size 0 lo = 0 /\ sIx items.size items.size hi = items.size))
 (h : Q (.ref s.heap.objs.size) { s with heap := s.heap.push { cls := .type "tuple", data := .seq ((items.toList.drop (sIx items.size 0 lo)).take (sIx items.size items.size hi - sIx items.size 0 lo)).toArray } })
 (hsz : items.size <= az) : wpAny (model prog w) A (eP (.ref t) (.ref sl)) Q E s := by
 have htake : sizeOk (.seq ((items.toList.drop (sIx items.size 0 lo)).take (sIx items.size items.size hi - sIx items.size 0 lo)).toArray) := by
  show ((items.toList.drop (sIx items.size 0 lo)).take (sIx items.size items.size hi - sIx items.size 0 lo)).toArray.size <= az
  rw [ah, bV, fN, dh]
  omega
 have hj : sIx items.size items.size hi <= items.size := zjQ _ _ (aC _) hi
 obtain ⟨os, hos, hcs, hds⟩ := id hs
 have hTs : s.TypeIs (.ref sl) "slice" := ⟨os, hos, hcs⟩
 unfold eP
 try with_reducible refine bh ?_
 first | refine ac (ao ?_) | skip
 refine ac (wpAny_sequenceKey ht.typeIs (by decide) ?_)
 refine ac (aX (name := av "__getitem__") ht.typeIs cR
  (be cR ht.typeIs entry_tuple_getitem ?_ (args_tuple_getitem _ _)))
 show wpAny _ _ (Builtin.Tuple.tupleItemsOf (.ref t) >>= _) _ _ s
 refine ac (tupleItemsOf_ ht ?_)
 refine ac (wpAny_typeOf hTs ?_)
 rw [if_pos (by decide)]
 refine ac (U3 hs pl pu ?_)
 have hno : ¬ ((((sIx items.size 0 lo : Nat) : Int) == 0 && (1 : Int) == 1 && (sIx items.size items.size hi - sIx items.size 0 lo) == items.size) = true) := by
  intro q
  rw [aD, aD] at q
  have q1 : ((sIx items.size 0 lo : Nat) : Int) = 0 := eq_of_beq q.1.1
  have q2 : sIx items.size items.size hi - sIx items.size 0 lo = items.size := eq_of_beq q.2
  exact hw ⟨by omega, by omega⟩
 show wpAny _ _ (if (((sIx items.size 0 lo : Nat) : Int) == 0 && (1 : Int) == 1 && (sIx items.size items.size hi - sIx items.size 0 lo) == items.size) = true then _ else _) _ _ s
 rw [if_neg hno, zfV]
 first
  | exact ac (m := bS _) (bF (ao ⟨_, rfl, ao h⟩) htake)
  | exact ac (m := bS _) (bF (ac (ao (ao ⟨_, rfl, ao h⟩))) htake)
  | exact ac (ac (m := bS _) (bF (ao (ao ⟨_, rfl, ao h⟩)) htake))
  | exact ac (ac (m := bS _) (bF (ao ⟨_, rfl, ao h⟩) htake))
end
end HT
namespace L2
open PySem PySem.Spec PyProof.Rows
abbrev TO := St -> Hp -> (Option Int -> Hp -> Prop) -> Prop
def PO (X : Cx) (e : Option Expr) (t : TO) : Prop :=
 ∀ (pins : List (Addr × Obj)) (s : Shared) (σ : St) (H : Hp) (Q : Option Int -> Hp -> Prop), Inv X pins σ H s -> t σ H Q ->
  wpAny (model X.prog X.w) X.A (evalPart e X.env) (fun u s' => ∃ o H', Inv X pins σ H' s' /\ IsPart u o /\ Q o H') X.xe s
def zcd : TO := fun _ H Q => Q none H
def zg9 (t : TE) : TO := fun σ H Q => t σ H fun x H1 => ∃ i, x = .int i /\ Q (some i) H1
section
variable {X : Cx} {e : Expr} {te : TE} {lo hi : Option Expr} {tl th : TO} {pos p2 : Pos}
theorem zh1 : PO X none zcd := by
 intro pins s σ H Q I h
 rw [evalPart_none]
 exact ao ⟨none, H, I, .none, h⟩
theorem zh2 (h : PE X e te) : PO X (some e) (zg9 te) := by
 intro pins s σ H Q I hw
 rw [evalPart_some]
 refine zK (h pins s σ H _ I hw) fun u s1 ⟨x, H1, I1, r1, q1⟩ => ?_
 obtain ⟨i, rfl, q⟩ := q1
 obtain ⟨t, rfl⟩ := r1
 exact ⟨some i, H1, I1, .int i t, q⟩
def SlR (X : Cx) (r : V -> Option Int -> Option Int -> Hp -> VK -> Prop) : Prop :=
 ∀ (pins : List (Addr × Obj)) (s : Shared) (σ : St) (H : Hp) (x : V) (v vl vu : Value) (lo hi : Option Int) (sl : Addr) (Q : VK), Inv X pins σ H s -> RelV x v -> s.heap.IsSliceOf sl vl vu .none -> IsPart vl lo -> IsPart vu hi -> r x lo hi H Q ->
  ∃ T id, gE (.type T) "__getitem__" = pure (some (.builtin id)) /\ s.TypeIs v T /\ wpAny (model X.prog X.w) X.A (eP v (.ref sl)) (EP X pins σ Q) X.xe s
def tSl (r : V -> Option Int -> Option Int -> Hp -> VK -> Prop) (te : TE) (tl th : TO) : TE := fun σ H Q => te σ H fun x H1 => tl σ H1 fun l H2 => th σ H2 fun u H3 => r x l u H3 Q
theorem zat {r : V -> Option Int -> Option Int -> Hp -> VK -> Prop} (hr : SlR X r) (he : PE X e te) (hl : PO X lo tl) (hu : PO X hi th) : PE X (.Subscript e (.Slice lo hi none p2) pos) (tSl r te tl th) := by
 intro pins s σ H Q I h
 refine Subscript_ (zK (he pins s σ H _ I h) fun v s1 ⟨x, H1, I1, r1, q1⟩ => ?_)
 refine wpAny_Slice (zK (hl pins s1 σ H1 _ I1 q1) fun vl s2 ⟨l, H2, I2, pl, q2⟩ => zK (hu pins s2 σ H2 _ I2 q2) fun vu s3 ⟨u, H3, I3, pu, q3⟩ => ?_)
 rw [evalPart_none]
 refine ao ?_
 have I4 : Inv X pins σ H3 { s3 with heap := s3.heap.push { cls := .type "slice", data := .fields #[vl, vu, .none] } } := I3.kept (t' := s3.toks) fun b ob q => am _ q
 obtain ⟨T, id, hT, ht, hg⟩ := hr pins { s3 with heap := s3.heap.push { cls := .type "slice", data := .fields #[vl, vu, .none] } } σ H3 x v vl vu l u s3.heap.objs.size Q I4 r1 (Heap.IsSliceOf.new ..) pl pu q3
 show wpAny (model X.prog X.w) X.A (subscriptTail e (.Slice lo hi none p2) v (.ref s3.heap.objs.size)) (EP X pins σ Q) X.xe { s3 with heap := s3.heap.push { cls := .type "slice", data := .fields #[vl, vu, .none] } }
 exact tail_any (ops := [.ref s3.heap.objs.size, v]) ht hT hg (by with_unfolding_all rfl)
def Y2 (xs : List V) (lo hi : Option Int) : List V := (xs.drop (HT.sIx xs.length 0 lo)).take (HT.sIx xs.length xs.length hi - HT.sIx xs.length 0 lo)
theorem UO (xs : List V) (lo hi : Option Int) : (Y2 xs lo hi).length <= xs.length := by
 unfold Y2
 rw [bV, fN]
 omega
def zjT (K : ae) : V -> Option Int -> Option Int -> Hp -> VK -> Prop := fun x lo hi H Q => ∃ a xs, x = .ref a /\ SqT K H a xs /\
 ¬ (HT.sIx xs.length 0 lo = 0 /\ HT.sIx xs.length xs.length hi = xs.length) /\ ∀ p, H p = none -> Q (.ref p) (zA H p (.tup (Y2 xs lo hi)))
theorem zjU : SlR X (zjT X.K) := by
 intro pins s σ H x v vl vu lo hi sl Q I rx hs pl pu h
 obtain ⟨a, xs, rfl, hx, hw, q⟩ := h
 cases rx
 obtain ⟨its, r, ht, hz⟩ := I.tuple hx
 have hlen : its.toArray.size = xs.length := by rw [ah]; exact r.length.symm
 refine ⟨"tuple", _, cR.lookup, ht.typeIs, ?_⟩
 refine HT.getItem_tuple_cut ht hs pl pu (by rw [hlen]; exact hw) ?_ (by rw [hlen]; exact hz)
 rw [hlen]
 refine ⟨.ref s.heap.objs.size, _, I.laid (t' := s.toks) (o := .tup (Y2 xs lo hi)) (fun b ob q => am _ q) (aC _) ?_, rfl, q _ (I.hok.fresh (aC _))⟩
 exact ⟨aO (UO xs lo hi) hz, _, (r.drop (HT.sIx xs.length 0 lo)).take (HT.sIx xs.length xs.length hi - HT.sIx xs.length 0 lo), IsTup.new _ _⟩
end
def Jk (n : Nat) (i : Int) : Option Nat := if 0 <= i then (if i < n then some i.toNat else none) else if -(n : Int) <= i then some (i + n).toNat else none
def Vv {α : Type} (xs : List α) (i : Int) : Option α := (Jk xs.length i).bind fun j => xs[j]?
theorem zce (h : Jk n i = some j) : seqIndex? i n = some j /\ j < n /\ -(n : Int) <= i /\ i < n := by
 unfold Jk at h
 by_cases h0 : 0 <= i
 · rw [if_pos h0] at h
   by_cases h1 : i < n
   · rw [if_pos h1] at h
     have e : i.toNat = j := bi h
     exact ⟨by rw [fZ h0 h1, e], by omega, by omega, h1⟩
   · rw [if_neg h1] at h; cases h
 · rw [if_neg h0] at h
   by_cases h1 : -(n : Int) <= i
   · rw [if_pos h1] at h
     have e : (i + n).toNat = j := bi h
     exact ⟨by rw [fK (by omega) h1, e], by omega, h1, by omega⟩
   · rw [if_neg h1] at h; cases h
theorem Wp {α : Type} {xs : List α} {i : Int} {v : α} (h : Vv xs i = some v) : ∃ j, seqIndex? i xs.length = some j /\ xs[j]? = some v /\ j < xs.length /\ -(xs.length : Int) <= i /\ i < xs.length := by
 unfold Vv at h
 cases e : Jk xs.length i with
 | none => rw [e] at h; cases h
 | some j =>
  rw [e] at h
  obtain ⟨h1, h2, h3, h4⟩ := zce e
  exact ⟨j, h1, h, h2, h3, h4⟩
def Us (b : Expr) : Prop := ∀ o i, subscripted b false o i = operate [o, i] (eP o i)
def IxR (X : Cx) (r : R2) : Prop :=
 ∀ (value slice : Expr) (pins : List (Addr × Obj)) (s : Shared) (σ : St) (H : Hp) (x y : V) (v u : Value) (Q : VK), Inv X pins σ H s -> RelV x v -> RelV y u -> r x y H Q ->
  subscripted slice false v u = operate [v, u] (eP v u) -> wpAny (model X.prog X.w) X.A (subscriptTail value slice v u) (EP X pins σ Q) X.xe s
def MtR (X : Cx) (id : String) (r : V -> List V -> Hp -> VK -> Prop) : Prop :=
 ∀ (pins : List (Addr × Obj)) (s : Shared) (σ : St) (H : Hp) (x : V) (xs : List V) (v : Value) (us : List Value) (Q : VK), Inv X pins σ H s -> RelV x v -> Vals xs us -> r x xs H Q ->
  wpAny (model X.prog X.w) X.A (call (.builtin id) (v :: us)) (EP X pins σ Q) X.xe s
section
variable {X : Cx} {a b : Expr} {ta tb : TE} {pos : Pos}
theorem IxR.or (h : IxR X r) (h' : IxR X r') : IxR X (fun x y H Q => r x y H Q \/ r' x y H Q) := by
 intro value slice pins s σ H x y v u Q I rx ry q hs
 rcases q with q | q
 · exact h value slice pins s σ H x y v u Q I rx ry q hs
 · exact h' value slice pins s σ H x y v u Q I rx ry q hs
theorem zha (hr : IxR X r) (ha : PE X a ta) (hb : PE X b tb) (hs : Us b) : PE X (.Subscript a b pos) (tOp r ta tb) := by
 intro pins s σ H Q I h
 exact Subscript_ (zfO ha hb I h fun v u s2 x y H2 I2 rx ry q => hr a b pins s2 σ H2 x y v u Q I2 rx ry q (hs _ _))
def zfW (K : ae) : R2 := fun x y H Q => ∃ p xs i v, x = .ref p /\ y = .int i /\ yl K H p xs /\ Vv xs i = some v /\ Q v H
def zfX (K : ae) : R2 := fun x y H Q => ∃ p xs i v, x = .ref p /\ y = .int i /\ SqT K H p xs /\ Vv xs i = some v /\ Q v H
def zfY : R2 := fun x y H Q => ∃ z i c, x = .str z /\ y = .int i /\ z.length <= az /\ Vv z.cps.toList i = some c /\ Q (.str ⟨#[c]⟩) H
theorem ix_list : IxR X (zfW X.K) := by
 intro value slice pins s σ H x y v u Q I rx ry h hs
 obtain ⟨p, xs, i, z, rfl, rfl, hq, he, q⟩ := h
 cases rx
 obtain ⟨t, rfl⟩ := ry
 obtain ⟨its, r, pl, hz⟩ := I.list hq
 obtain ⟨j, h1, h2, h3, h4, h5⟩ := Wp he
 obtain ⟨w, ew, rw'⟩ := r.get h2
 have hl := r.length
 have hn := ZW
 have fin : EP X pins σ Q w s := ⟨z, H, I, rw', q⟩
 by_cases h0 : 0 <= i
 · have hj : i.toNat = j := by
    rw [fZ h0 h5] at h1
    exact bi h1
   exact item_listR pl.isList h0 (by omega) (by rw [hj]; simpa using ew) fin hs
 · have hj : (i + (its.toArray.size : Int)).toNat = j := by
    rw [fK (by omega) h4] at h1
    rw [ah, ← hl]
    exact bi h1
   exact subscriptTail_builtinR (x := w) pl.isList.typeIs slot_list_getitem.lookup
    (wpAny_getItem_list_neg (Q := fun r s' => r = w /\ EP X pins σ Q r s') pl.isList (by omega) (by rw [ah] <;> omega) (by omega) (by rw [hj]; simpa using ew) ⟨rfl, fin⟩) hs
theorem ix_tup : IxR X (zfX X.K) := by
 intro value slice pins s σ H x y v u Q I rx ry h hs
 obtain ⟨p, xs, i, z, rfl, rfl, hq, he, q⟩ := h
 cases rx
 obtain ⟨t, rfl⟩ := ry
 obtain ⟨its, r, pl, hz⟩ := I.tuple hq
 obtain ⟨j, h1, h2, h3, h4, h5⟩ := Wp he
 obtain ⟨w, ew, rw'⟩ := r.get h2
 have hl := r.length
 have hn := ZW
 have fin : EP X pins σ Q w s := ⟨z, H, I, rw', q⟩
 exact subscriptTail_builtinR (x := w) pl.typeIs slot_tuple_getitem.lookup
  (getItem_tuple (j := j) (Q := fun r s' => r = w /\ EP X pins σ Q r s') pl (by omega) (by omega) (by rw [ah, ← hl]; exact h1) (by simpa using ew) ⟨rfl, fin⟩) hs
theorem zjV : IxR X zfY := by
 intro value slice pins s σ H x y v u Q I rx ry h hs
 obtain ⟨z, i, c, rfl, rfl, hz, he, q⟩ := h
 obtain ⟨t, rfl⟩ := rx
 obtain ⟨t', rfl⟩ := ry
 obtain ⟨j, h1, h2, h3, h4, h5⟩ := Wp he
 have hl : z.cps.toList.length = z.length := by simp [Str.length]
 rw [hl] at h1 h4 h5
 have hn := ZW
 exact tail_any (eh s z t) slot_str_getitem.lookup (getItem_str (c := c) (by
  have e1 : decide (i < -(2 ^ 63 : Int)) = false := decide_eq_false (by omega)
  have e2 : decide (i ≥ 2 ^ 63) = false := decide_eq_false (by omega)
  rw [e1, e2, dP]) (by rw [h1]; simpa using h2) ⟨.str ⟨#[c]⟩, H, I.tok _, ⟨_, rfl⟩, q⟩) hs
def rIx (K : ae) : R2 := fun x y H Q => zfW K x y H Q \/ zfX K x y H Q \/ zfY x y H Q
theorem zjW : IxR X (rIx X.K) := ix_list.or (ix_tup.or zjV)
theorem zdt (its : List Value) (n j : Nat) (u : Value) : bQ (·.setIfInBounds j u) { cls := .type "list", data := .seq its.toArray n } = { cls := .type "list", data := .seq (its.set j u).toArray n } := by
 simp [bQ]
theorem Inv.lst {s : Shared} {xs : List V} (I : Inv X pins σ H s) (h : H p = some (.lst xs)) :
 ∃ (its : List Value) (n : Nat), Vals xs its /\ s.heap.get? p = some { cls := .type "list", data := .seq its.toArray n } /\ xs.length <= az := by
 obtain ⟨z, its, n, r, e⟩ := I.hok p _ h
 exact ⟨its, n, r, e, z⟩
theorem Inv.lstUpd {s : Shared} {xs ys : List V} {its its' : List Value} {f : Obj -> Obj} (I : Inv X pins σ H s) (h : H p = some (.lst xs))
 (ho : s.heap.get? p = some { cls := .type "list", data := .seq its.toArray n }) (hf : f { cls := .type "list", data := .seq its.toArray n } = { cls := .type "list", data := .seq its'.toArray n' }) (r : Vals ys its') (hz : ys.length <= az) (t : Nat) :
 Inv X pins σ (zA H p (.lst ys)) { s with heap := s.heap.update p f, toks := t } := by
 have e : (s.heap.update p f).get? p = some { cls := .type "list", data := .seq its'.toArray n' } := by
  rw [bu f ho (by rw [hf] <;> rfl), hf]
 refine I.write (x := p) (e := p) (by rw [h]; trivial) (.inl rfl) (fun b u hb q => (bq _ _ (aS hb)).trans q) ⟨_, e⟩ ?_
 exact ⟨hz, its', n', r, e⟩
def zhb : V -> V -> V -> Hp -> (Hp -> Prop) -> Prop := fun o i v H Q => ∃ p xs k j, o = .ref p /\ i = .int k /\ H p = some (.lst xs) /\ Jk xs.length k = some j /\ Q (zA H p (.lst (xs.set j v)))
theorem zfZ : zjv X zhb := by
 intro pins s σ H o i v ov iv u Q I ro ri rv h
 obtain ⟨p, xs, k, j, rfl, rfl, hp, hj, q⟩ := h
 cases ro
 obtain ⟨t, rfl⟩ := ri
 obtain ⟨its, n, r, ho, hz⟩ := I.lst hp
 obtain ⟨h1, h2, h3, h4⟩ := zce hj
 have hl := r.length
 have hn := ZW
 have I' : Inv X pins σ (zA H p (.lst (xs.set j v))) { s with heap := s.heap.update p (bQ (·.setIfInBounds j u)) } :=
  I.lstUpd hp ho (zdt its n j u) (r.set rv j) (by rw [List.length_set]; exact hz) s.toks
 by_cases h0 : 0 <= k
 · have hk : k.toNat = j := by
    rw [fZ h0 h4] at h1
    exact bi h1
   exact PySem.W.ki_setAt ho h0 (by omega) (by rw [ah, ← hl]; exact h4) (by rw [hk]; exact ⟨_, I', q⟩)
 · have hk : (k + (its.toArray.size : Int)).toNat = j := by
    rw [fK (by omega) h3] at h1
    rw [ah, ← hl]
    exact bi h1
   exact PySem.W.ki_setBack ho (by omega) (by rw [ah, ← hl]; exact h3) (by omega) (by rw [hk]; exact ⟨_, I', q⟩)
theorem zau (lo hi : Option Int) (n : Nat) : (cL lo hi none n).1 = ((HT.sIx n 0 lo : Nat) : Int) /\ (cL lo hi none n).2.1 = ((HT.sIx n n hi : Nat) : Int) /\ (cL lo hi none n).2.2 = 1 := by
 refine ⟨?_, ?_, rfl⟩
 · cases lo with
   | none => simp [cL, HT.sIx]
   | some i =>
    simp only [cL, HT.sIx, fO, show (1 : Int) > 0 by decide, if_true]
    by_cases h : i < 0
    · simp only [h, if_true] <;> omega
    · simp only [h, if_false] <;> omega
 · cases hi with
   | none => simp [cL, HT.sIx]
   | some i =>
    simp only [cL, HT.sIx, fO, show (1 : Int) > 0 by decide, if_true]
    by_cases h : i < 0
    · simp only [h, if_true] <;> omega
    · simp only [h, if_false] <;> omega
theorem Ru (its : List Value) (lo hi : Option Int) : slicePick its.toArray lo hi none = ((its.drop (HT.sIx its.length 0 lo)).take (HT.sIx its.length its.length hi - HT.sIx its.length 0 lo)).toArray := by
 obtain ⟨h1, h2, h3⟩ := zau lo hi its.toArray.size
 unfold slicePick
 rw [h1, h2, h3]
 simp only [sliceRange_one, pick_run, ah] <;> rfl
def zjX (K : ae) : V -> Option Int -> Option Int -> Hp -> VK -> Prop := fun x lo hi H Q => ∃ a xs, x = .ref a /\ yl K H a xs /\ ∀ p, H p = none -> Q (.ref p) (zA H p (.lst (Y2 xs lo hi)))
theorem zh3 : SlR X (zjX X.K) := by
 intro pins s σ H x v vl vu lo hi sl Q I rx hs pl pu h
 obtain ⟨a, xs, rfl, hx, q⟩ := h
 cases rx
 obtain ⟨its, r, ht, hz⟩ := I.list hx
 have hlen := r.length
 refine ⟨"list", _, slot_list_getitem.lookup, ht.isList.typeIs, ?_⟩
 refine wpAny_getItem_list_slice ht.isList hs pl pu .none (by simp) ?_ (by rw [ah] <;> omega)
 rw [Ru, ← hlen]
 refine ⟨.ref s.heap.objs.size, _, I.laid (t' := s.toks) (o := .lst (Y2 xs lo hi)) (fun b ob q => am _ q) (aC _) ?_, rfl, q _ (I.hok.fresh (aC _))⟩
 exact ⟨aO (UO xs lo hi) hz, _, 0, (r.drop (HT.sIx xs.length 0 lo)).take (HT.sIx xs.length xs.length hi - HT.sIx xs.length 0 lo), aE _ rfl⟩
def Je : V -> Bool
 | .non => true
 | .bl _ => true
 | .int _ => true
 | .str _ => true
 | _ => false
def JH : V -> V -> Bool
 | .non, .non => true
 | .bl a, .bl b => a == b
 | .bl a, .int b => (if a then 1 else 0) == b
 | .int a, .bl b => a == (if b then 1 else 0)
 | .int a, .int b => a == b
 | .str a, .str b => a == b
 | _, _ => false
theorem zav (ry : RelV y u) (rx : RelV x v) (fy : Je y = true) (fx : Je x = true) : cU A s u v (JH y x) := by
 cases y with
 | non =>
  cases ry
  cases x with
  | non => cases rx; exact ez _
  | bl b => cases rx; exact cU.none_bool b
  | int b => obtain ⟨t, rfl⟩ := rx; exact cU.none_int b t
  | str b => obtain ⟨t, rfl⟩ := rx; exact cU.none_str b t
  | _ => exact absurd (show false = true from fx) af
 | bl a =>
  cases ry
  cases x with
  | non => cases rx; exact cU.bool_none a
  | bl b => cases rx; exact cU.bool_bool a b
  | int b => obtain ⟨t, rfl⟩ := rx; exact cU.bool_int a b t
  | str b => obtain ⟨t, rfl⟩ := rx; exact cU.bool_str a b t
  | _ => exact absurd (show false = true from fx) af
 | int a =>
  obtain ⟨t', rfl⟩ := ry
  cases x with
  | non => cases rx; exact cU.int_none a t'
  | bl b => cases rx; exact cU.int_bool a t' b
  | int b => obtain ⟨t, rfl⟩ := rx; exact cU.int_int a t' b t
  | str b => obtain ⟨t, rfl⟩ := rx; exact ff a t' b t
  | _ => exact absurd (show false = true from fx) af
 | str a =>
  obtain ⟨t', rfl⟩ := ry
  cases x with
  | non => cases rx; exact eT a t'
  | bl b => cases rx; exact cU.str_bool a t' b
  | int b => obtain ⟨t, rfl⟩ := rx; exact fg a t' b t
  | str b => obtain ⟨t, rfl⟩ := rx; exact cU.str_str a t' b t
  | _ => exact absurd (show false = true from fx) af
 | _ => exact absurd (show false = true from fy) af
def Jl (x : V) (u : Value) : Bool := match u with
 | .none => JH .non x
 | .bool b => JH (.bl b) x
 | .int i _ => JH (.int i) x
 | .str z _ => JH (.str z) x
 | _ => false
theorem zeH (r : RelV y u) (f : Je y = true) : Jl x u = JH y x := by
 cases y with
 | non => cases r; rfl
 | bl b => cases r; rfl
 | int i => obtain ⟨t, rfl⟩ := r; rfl
 | str z => obtain ⟨t, rfl⟩ := r; rfl
 | _ => exact absurd (show false = true from f) af
theorem ZY : ∀ {xs : List V} {us : List Value}, Vals xs us -> xs.all Je = true -> us.any (Jl x) = xs.any fun y => JH y x
 | _, _, .nil, _ => rfl
 | y :: xs, u :: us, .cons r t, f => by
  rw [bx, aD] at f
  rw [bJ, bJ, zeH r f.1, ZY t f.2]
theorem Zc (rx : RelV x v) (fx : Je x = true) : ∀ {xs : List V} {us : List Value}, Vals xs us -> xs.all Je = true -> ∀ u ∈ us, cU A s u v (Jl x u)
 | _, _, .nil, _ => fun u hu => by cases hu
 | y :: xs, u :: us, .cons r t, f => fun u' hu => by
  rw [bx, aD] at f
  rcases ak.mp hu with rfl | hu
  · rw [zeH r f.1]; exact zav r rx f.1 fx
  · exact Zc rx fx t f.2 u' hu
def inV (x : V) (xs : List V) : Bool := xs.any fun y => JH y x
def rIn (K : ae) (neg : Bool) : R2 := fun x y H Q => ∃ p xs, y = .ref p /\ (yl K H p xs \/ SqT K H p xs) /\ Je x = true /\ xs.all Je = true /\ Q (.bl (if neg then !inV x xs else inV x xs)) H
theorem QC : yr X (aT .In) (rIn X.K false) := by
 intro pins s σ H x y v u Q I rx ry h
 obtain ⟨p, xs, rfl, hq, fx, fs, q⟩ := h
 cases ry
 rcases hq with hq | hq
 · obtain ⟨its, r, pl, hz⟩ := I.list hq
   refine gh (Jl x) pl.isList (fun w hw => Zc rx fx r fs w (by simpa using hw)) ⟨.bl _, H, I, rfl, ?_⟩
   rw [show its.toArray.any (Jl x) = its.any (Jl x) by simp, ZY r fs]
   exact q
 · obtain ⟨its, r, pl, hz⟩ := I.tuple hq
   refine SeqAt.in_tupleAt (Jl x) pl (fun w hw => Zc rx fx r fs w (by simpa using hw)) ⟨.bl _, H, I, rfl, ?_⟩
   rw [show its.toArray.any (Jl x) = its.any (Jl x) by simp, ZY r fs]
   exact q
theorem zaw : yr X (aT .NotIn) (rIn X.K true) := by
 intro pins s σ H x y v u Q I rx ry h
 obtain ⟨p, xs, rfl, hq, fx, fs, q⟩ := h
 cases ry
 rcases hq with hq | hq
 · obtain ⟨its, r, pl, hz⟩ := I.list hq
   refine SeqAt.notIn_listAt (Jl x) pl.isList (fun w hw => Zc rx fx r fs w (by simpa using hw)) ⟨.bl _, H, I, rfl, ?_⟩
   rw [show its.toArray.any (Jl x) = its.any (Jl x) by simp, ZY r fs]
   exact q
 · obtain ⟨its, r, pl, hz⟩ := I.tuple hq
   refine SeqAt.notIn_tupleAt (Jl x) pl (fun w hw => Zc rx fx r fs w (by simpa using hw)) ⟨.bl _, H, I, rfl, ?_⟩
   rw [show its.toArray.any (Jl x) = its.any (Jl x) by simp, ZY r fs]
   exact q
theorem zax : je X (.type "list") (fun xs H Q => ∃ p ys, xs = [.ref p] /\ (yl X.K H p ys \/ SqT X.K H p ys) /\ ∀ l, H l = none -> Q (.ref l) (zA H l (.lst ys))) := by
 intro pins s σ H xs us Q I r h
 obtain ⟨p, ys, rfl, hq, q⟩ := h
 obtain ⟨u, rfl, rx⟩ := QX r
 cases rx
 have fin : ∀ (its : List Value), Vals ys its -> ys.length <= az -> ∀ (h' : Heap) (c' : Nat), (∀ b o', s.heap.get? b = some o' -> h'.get? b = some o') ->
  h'.get? s.heap.objs.size = some { cls := .type "list", dict := none, data := .seq its.toArray c', slots := #[] } -> EP X pins σ Q (.ref s.heap.objs.size) { s with heap := h' } := fun its r' hz h' c' kp e =>
  ⟨.ref s.heap.objs.size, _, I.laid (t' := s.toks) kp (aC _) (show ObjOk X.prog X.w _ h' _ (.lst ys) from ⟨hz, its, c', r', e⟩), rfl, q _ (I.hok.fresh (aC _))⟩
 rcases hq with hq | hq
 · obtain ⟨its, r', pl, hz⟩ := I.list hq
   have hlen := r'.length
   obtain ⟨o, ho, hc, n, hd⟩ := pl.isList
   exact call_list_seq p (.inl rfl) ho hc hd (fun h' c' kp e => fin its r' hz h' c' kp e) (by simp only [ah] <;> omega)
 · obtain ⟨its, r', pl, hz⟩ := I.tuple hq
   have hlen := r'.length
   obtain ⟨o, ho, hc, n, hd⟩ := pl
   exact call_list_seq p (.inr rfl) ho hc hd (fun h' c' kp e => fin its r' hz h' c' kp e) (by simp only [ah] <;> omega)
theorem Rv : je X (.type "tuple") (fun xs H Q => ∃ p ys, xs = [.ref p] /\ ((yl X.K H p ys /\ ∀ l, H l = none -> Q (.ref l) (zA H l (.tup ys))) \/ (SqT X.K H p ys /\ Q (.ref p) H))) := by
 intro pins s σ H xs us Q I r h
 obtain ⟨p, ys, rfl, h⟩ := h
 obtain ⟨u, rfl, rx⟩ := QX r
 cases rx
 rcases h with ⟨hq, q⟩ | ⟨hq, q⟩
 · obtain ⟨its, r', pl, hz⟩ := I.list hq
   have hlen := r'.length
   refine call_tuple_list pl.isList (fun h' kp => ?_) (by simp only [ah] <;> omega)
   have I1 : Inv X pins σ H { s with heap := h' } := I.kept (t' := s.toks) kp
   have I2 : Inv X pins σ (zA H h'.objs.size (.tup ys)) { s with heap := h'.push { cls := .type "tuple", data := .seq its.toArray } } :=
    I1.laid (t' := s.toks) (fun b o e => am _ e) (aC _) (show ObjOk X.prog X.w _ _ _ (.tup ys) from ⟨hz, its, r', IsTup.new _ _⟩)
   exact ⟨.ref h'.objs.size, _, I2, rfl, q _ (I1.hok.fresh (aC _))⟩
 · obtain ⟨its, r', pl, hz⟩ := I.tuple hq
   exact call_tuple_same pl ⟨.ref p, H, I, rfl, q⟩
def tyV (K : ae) (T : String) (x : V) (H : Hp) : Prop := match x with
 | .str _ => T = "str"
 | .int _ => T = "int"
 | .ref p => (T = "list" /\ ∃ xs, yl K H p xs) \/ (T = "tuple" /\ ∃ o, K.lookup p = some o /\ o.cls = .type "tuple" /\ o.dict = none) \/
  (T = "dict" /\ ((∃ kvs, H p = some (.dK kvs)) \/ ∃ kvs, H p = some (.dT kvs))) \/ (T = "set" /\ ∃ S n, H p = some (.set S n))
 | _ => False
theorem zjZ {s : Shared} (I : Inv X pins σ H s) (r : RelV x v) (ty : tyV X.K T x H) :
 s.TypeIs v T /\ ∀ a, v = .ref a -> ∃ ob, s.heap.get? a = some ob /\ ob.dict = none := by
 cases x with
 | str z =>
  obtain ⟨t, rfl⟩ := r
  cases (show T = "str" from ty)
  exact ⟨eh s z t, fun _ e => nomatch e⟩
 | int i =>
  obtain ⟨t, rfl⟩ := r
  cases (show T = "int" from ty)
  exact ⟨gF s i t, fun _ e => nomatch e⟩
 | ref p =>
  cases r
  rcases ty with ⟨rfl, xs, hq⟩ | ⟨rfl, o, hk, hc, hd⟩ | ⟨rfl, hk⟩ | ⟨rfl, S, n, hk⟩
  · obtain ⟨its, _, pl, _⟩ := I.list hq
    refine ⟨pl.isList.typeIs, fun a e => ?_⟩
    cases e
    obtain ⟨o, n, e, c, hd, _⟩ := pl
    exact ⟨o, e, hd⟩
  · refine ⟨⟨o, I.kIn p o hk, hc⟩, fun a e => ?_⟩
    cases e
    exact ⟨o, I.kIn _ o hk, hd⟩
  · have z : ∃ o, s.heap.get? p = some o /\ o.ExactDict := by
     rcases hk with ⟨kvs, hk⟩ | ⟨kvs, hk⟩
     · obtain ⟨_, _, _, _, o, _, _, e, ex, _⟩ := I.hok p _ hk
       exact ⟨o, e, ex⟩
     · obtain ⟨_, _, _, _, o, _, _, e, ex, _⟩ := I.hok p _ hk
       exact ⟨o, e, ex⟩
    obtain ⟨o, e, ex⟩ := z
    refine ⟨⟨o, e, ex.1⟩, fun a e2 => ?_⟩
    cases e2
    exact ⟨o, e, ex.2.1⟩
  · obtain ⟨o, _, _, _, e, ex, _⟩ := I.hok p _ hk
    refine ⟨⟨o, e, ex.1⟩, fun a e2 => ?_⟩
    cases e2
    exact ⟨o, e, ex.2.1⟩
 | _ => exact aa ty
def tBM (K : ae) (T : String) (r : V -> List V -> Hp -> VK -> Prop) (to : TE) (t : TA) : TE := fun σ H Q => to σ H fun x H1 => tyV K T x H1 /\ t σ H1 fun xs H2 => r x xs H2 Q
variable {o e : Expr} {es : List Expr} {to : TE} {t : TA} {name : Str} {apos cpos : Pos} {T id : String} {r : V -> List V -> Hp -> VK -> Prop}
theorem zdu (pa : PlainAttrs T) (slot : Slot T name id) (hty : typeOf (.builtin id) = pure (.type "method_descriptor")) (hm : MtR X id r) (ho : PE X o to) (ha : PA X (e :: es) t)
 (hbase : cz o name X.env (eval o X.env) = eval o X.env := by rfl)
 (hfew : ((backTo cpos (aj (e :: es) X.env)).all (fun x => !x.1) && (eN cpos (da [] X.env)).all (fun x => x.1.isSome)
  && decide ((e :: es).length + ([] : List Keyword).length + (if ([] : List Keyword).isEmpty then 0 else 1) < 30)) = true := by rfl)
 (hline : (apos.endLine == cpos.line) = true := by rfl) (hs : aj (e :: es) X.env = (false, eval e X.env) :: aj es X.env := by rfl) (hplain : (backTo cpos (aj es X.env)).any (·.1) = false := by rfl) :
 PE X (.Call (.Attribute o name apos) (e :: es) [] cpos) (tBM X.K T r to t) := by
 intro pins s σ H Q I h
 refine wpAny_Call_method_late hbase hfew hline rfl (zK (ho pins s σ H _ I h) fun v s1 ⟨x, H1, I1, r1, ty, q1⟩ => ?_)
 obtain ⟨h1, h2⟩ := zjZ I1 r1 ty
 refine ⟨T, id, pa, slot, hty, h1, h2, ?_⟩
 have hA := ha cpos pins s1 σ H1 _ I1 q1
 rw [hs] at hA ⊢
 refine Calls.callWith_builtin (by show (false || (backTo cpos (aj es X.env)).any (·.1)) = false; rw [hplain] <;> rfl) (Calls.evalArgs_plain ?_)
 exact zK hA fun us s2 ⟨vs, H2, I2, r2, q2⟩ => hm pins s2 σ H2 x vs v us Q I2 r1 r2 q2
end
def MtM (X : Cx) (id : String) (r : V -> List V -> Hp -> VK -> Prop) : Prop :=
 ∀ (pins : List (Addr × Obj)) (s : Shared) (σ : St) (H : Hp) (x : V) (xs : List V) (v : Value) (us : List Value) (Q : VK), Inv X pins σ H s -> RelV x v -> Vals xs us -> r x xs H Q ->
  wpAny (model X.prog X.w) X.A (call (.builtin id) (v :: us)) (EP X pins σ Q) X.xe s
theorem Vals.one : ∀ {x : V} {us : List Value}, Vals [x] us -> ∃ u, us = [u] /\ RelV x u
 | _, _, .cons r .nil => ⟨_, rfl, r⟩
theorem Vals.two : ∀ {x y : V} {us : List Value}, Vals [x, y] us -> ∃ u v, us = [u, v] /\ RelV x u /\ RelV y v
 | _, _, _, .cons r (.cons q .nil) => ⟨_, _, rfl, r, q⟩
theorem Vals.rep (h : Vals xs us) : ∀ k : Nat, Vals (au k xs).flatten (au k us).flatten
 | 0 => .nil
 | k + 1 => by
  rw [aZ, aZ, bp, bp]
  exact Vals.append h (Vals.rep h k)
theorem W2 (its : List Value) : ∀ (k : Nat) (acc : List Value),
 gt (fun x1 x2 => x1 ++ x2) acc.toArray (au k its.toArray) = (acc ++ (au k its).flatten).toArray
 | 0, acc => by simp
 | k + 1, acc => by
  have e : acc.toArray ++ its.toArray = (acc ++ its).toArray := by simp
  have e2 : (acc ++ its) ++ (au k its).flatten = acc ++ (au (k + 1) its).flatten := by
   rw [aZ, bp, fC]
  rw [← e2, ← W2 its k (acc ++ its), ← e, aZ, gj]
section
variable {X : Cx} {pins : List (Addr × Obj)} {σ : St} {H : Hp} {s : Shared} {l b : Addr} {xs ys zs : List V}
theorem Inv.lset {its its' : List Value} {f : Array Value -> Array Value} (I : Inv X pins σ H s) (hH : H l = some (.lst xs))
 (e : s.heap.get? l = some { cls := .type "list", data := .seq its.toArray n }) (hf : f its.toArray = its'.toArray) (hv : Vals ys its') (hz : ys.length <= az) :
 Inv X pins σ (zA H l (.lst ys)) { s with heap := s.heap.update l (bQ f), toks := t' } := by
 have q := PySem.IsL.update e f
 rw [hf] at q
 refine I.write (x := l) (e := l) (by rw [hH]; exact trivial) (.inl rfl) (fun b' u hb hu => (bq s.heap (bQ f) (aS hb)).trans hu) ⟨_, q⟩ ?_
 exact ⟨hz, its', _, hv, q⟩
theorem Inv.lnew {its : List Value} (I : Inv X pins σ H s) (hv : Vals ys its) (hz : ys.length <= az) :
 Inv X pins σ (zA H s.heap.objs.size (.lst ys)) { s with heap := s.heap.push { cls := .type "list", data := .seq its.toArray }, toks := t' } :=
 I.laid (fun _ _ q => am _ q) (aC _) ⟨hz, its, 0, hv, aE _ rfl⟩
theorem Inv.fresh (I : Inv X pins σ H s) : H s.heap.objs.size = none := I.hok.fresh (aC _)
theorem Inv.lstM (I : Inv X pins σ H s) (hH : H l = some (.lst xs)) : xs.length <= az /\ ∃ (its : List Value) (n : Nat), Vals xs its /\ xs.length = its.length /\ s.heap.get? l = some { cls := .type "list", data := .seq its.toArray n } := by
 obtain ⟨z, its, n, r, e⟩ := I.hok l _ hH
 exact ⟨z, its, n, r, r.length, e⟩
theorem zay (h : n <= az) : bz n = false := by
 unfold bz
 exact decide_eq_false (by omega)
end
section
variable {X : Cx}
def zcf : V -> List V -> Hp -> VK -> Prop := fun x vs H Q => ∃ l xs y, x = .ref l /\ vs = [y] /\ H l = some (.lst xs) /\ xs.length < az /\ Q .non (zA H l (.lst (xs ++ [y])))
theorem zeJ : MtM X "list.append" zcf := by
 intro pins s σ H x vs v us Q I rx rv h
 obtain ⟨l, xs, y, rfl, rfl, hH, hz, q⟩ := h
 cases rx
 obtain ⟨u, rfl, ru⟩ := rv.one
 obtain ⟨z, its, n, r, hl, e⟩ := I.lstM hH
 refine cX F.slot_list_append ⟨_, e, rfl⟩ F.entry_list_append (F.args_list_append_2 _ _) (PySem.list_append l its.toArray n u (by rw [ah]; omega)) ⟨e, ?_⟩
 refine ⟨.non, _, I.lset (its' := its ++ [u]) hH e (by simp) (r.append (.cons ru .nil)) ?_, rfl, q⟩
 rw [aI, aW]
 omega
def zj0 : R2 := fun x y H Q => ∃ l b xs zs, x = .ref l /\ y = .ref b /\ H l = some (.lst xs) /\ H b = some (.lst zs) /\ xs.length + zs.length <= az /\ ∀ p, H p = none -> Q (.ref p) (zA H p (.lst (xs ++ zs)))
theorem zj1 : yr X (cn .Add) zj0 := by
 intro pins s σ H x y v u Q I rx ry h
 obtain ⟨l, b, xs, zs, rfl, rfl, hH, hB, hz, q⟩ := h
 cases rx
 cases ry
 obtain ⟨z, its, n, r, hl, e⟩ := I.lstM hH
 obtain ⟨z2, its2, n2, r2, hl2, e2⟩ := I.lstM hB
 refine PySem.P.add_list e e2 ?_ (by rw [ah, ah]; omega)
 have ea : its.toArray ++ its2.toArray = (its ++ its2).toArray := by simp
 rw [ea]
 exact ⟨.ref _, _, I.lnew (t' := s.toks) (r.append r2) (by rw [aI]; omega), rfl, q _ I.fresh⟩
def zj2 : R2 := fun x y H Q => ∃ l k xs, x = .ref l /\ y = .int k /\ H l = some (.lst xs) /\ -(2 ^ 63) <= k /\ k < 2 ^ 63 /\ xs.length * k.toNat <= az /\
 ∀ p, H p = none -> Q (.ref p) (zA H p (.lst (au k.toNat xs).flatten))
theorem zh4 {α : Type} (xs : List α) (k : Nat) : (au k xs).flatten.length = k * xs.length := by
 induction k with
 | zero => simp
 | succ k ih => rw [aZ, bp, aI, ih, d3, gQ]
theorem zj3 : yr X (cn .Mult) zj2 := by
 intro pins s σ H x y v u Q I rx ry h
 obtain ⟨l, k, xs, rfl, rfl, hH, h1, h2, hz, q⟩ := h
 cases rx
 obtain ⟨t, rfl⟩ := ry
 obtain ⟨z, its, n, r, hl, e⟩ := I.lstM hH
 have hlen : its.toArray.size * k.toNat <= az := by rw [ah, ← hl]; exact hz
 have hcap : ¬ its.toArray.size * k.toNat > (2 ^ 63 - 1) / 8 := by
  have : (az : Nat) <= (2 ^ 63 - 1) / 8 := by decide
  omega
 have hfit : ¬ (!Builtin.List.listFitsIndex k) = true := by
  rw [fitsIndex_both h1 h2]
  exact af
 have hlong : ¬ bz (its.toArray.size * k.toNat) = true := by
  rw [zay hlen]
  exact af
 have hnew : gt (fun x1 x2 => x1 ++ x2) #[] (au (if its.toArray.isEmpty = true then 0 else k.toNat) its.toArray) = (au k.toNat its).flatten.toArray := by
  have f0 : ∀ m : Nat, gt (fun x1 x2 => x1 ++ x2) #[] (au m its.toArray) = (au m its).flatten.toArray := fun m => by
   have := W2 its m []
   rw [cB] at this
   exact this
  rw [f0]
  cases its with
  | nil => simp
  | cons a r' => rw [if_neg (by simp)]
 refine wpAny_binaryOp_repeat_ref (T := "list") (U := "int") (by decide) ⟨_, e, rfl⟩ (fun s' => gF s' k t) noFill_list_mul F.fills_int_mul F.slot_int_rmul repeat_list F.slot_int_index.lookup
  (cX F.slot_int_rmul (gF s k t) F.entry_int_rmul (F.args_int_rmul_2 _ _) (int___rmul___int_list k t l its.toArray n)
   ⟨e, rfl, ⟨_, e, rfl⟩, cX F.slot_list_mul ⟨_, e, rfl⟩ F.entry_list_mul (F.args_list_mul_2 _ _) (AutoListH.list___mul___list_int_3 l its.toArray n k t hfit hcap hlong) ⟨e, ?_⟩⟩)
 rw [hnew]
 exact ⟨.ref _, _, I.lnew (t' := s.toks) (r.rep k.toNat) (by rw [zh4, Nat.mul_comm]; exact hz), rfl, q _ I.fresh⟩
end
section
variable {prog : Program} {w : World} {A : Around} {E : Value -> Shared -> Prop} {s : Shared}
end
section
variable {X : Cx}
end
end L2
namespace Att
open PySem PySem.W PySem.Calls PyProof.Rows
theorem Vw : ∀ (ns : List Int) (vs : List Value), WellAll P h vs (ns.map WData.int) -> IntsAre vs ns := by
 intro ns
 induction ns with
 | nil =>
  intro vs w
  rw [d4] at w
  cases w
  exact .nil
 | cons n ns ih =>
  intro vs w
  rw [aQ] at w
  cases w with
  | cons a b =>
   cases a
   exact .cons _ _ (ih _ b)
theorem zeK {l : OpenLaw} (hn : l.most = some n) {h : Heap} 
 (hpre : l.row.toRowW.claim.pre args = true) (hwl : WellAll P h vals args) :
 ∃ a vs ns, vals = [Value.ref a] /\ args = [WData.list (ns.map WData.int)] /\ h.get? a = some { cls := .type "list", data := .seq vs.toArray } /\ IntsAre vs ns /\ ns.length <= n := by
 have hsh : WShape.hasAll [] args [.list .int] = true := (pre_splitW hpre).1
 have hc : l.pre.holds [] { args := args } = true := (pre_splitW hpre).2
 obtain ⟨d, r, rfl, h1, h2⟩ := hasAllW_cons hsh
 obtain rfl := hasAllW_nil h2
 obtain ⟨xs, rfl, h3⟩ := hasW_list h1
 obtain ⟨ns, rfl⟩ := items_int h3
 have hlen : ns.length <= n := by
  unfold OpenLaw.pre at hc
  have h4 : (WTm.not (.lt (.lit (.int (n : Int))) (.len (.arg 0)))).holds [] { args := [.list (ns.map .int)] } = true := by
   have h4 := (holds_andW hc).1
   rw [hn] at h4
   exact h4
  have h5 := condW_of h4 (w_not (w_lt w_lit (w_len_list (w_arg rfl))))
  rw [aA] at h5
  refine Nat.le_of_not_lt fun q => ?_
  have q' : (n : Int) < ((ns.length : Nat) : Int) := by omega
  first
   | (rw [decide_eq_true q'] at h5; exact absurd h5 (by decide))
   | (simp at h5; omega)
 cases hwl with
 | cons w1 w2 =>
  cases w2
  cases w1 with
  | list ho hall => exact ⟨_, _, ns, rfl, rfl, ho, Vw ns _ hall, hlen⟩
theorem zeL (l : OpenLaw) (args : List WData) : l.row.toRowW.claim.post args (.bool true) args = true :=
 postW_of (r := l.row.toRowW) (X := (true == true))
  (show g6 [] (.bool true) .bool = true by first | rfl | decide | simp [g6, WShape.arms, WShape.armsAll])
  (show (WTm.eq .res (.lit (.bool true))).value [] { args := args, res := some (.bool true), after := args } = some (.bool (true == true)) from w_eq_bool (w_res rfl) w_lit) rfl
theorem attach_call {l : OpenLaw} {XP : (Str -> Option Value) -> Heap -> Prop} {YP : World -> Heap -> Prop} {d : DefRec}
 (hn : l.most = some n) (hdf : d.params.defaults = [])
 (call : ∀ (w : World) (s₀ s₁ : Shared) (mg mb : Str -> Option Value) (fa : Addr) (o : Obj) (pm cd doc : Value) (a : Addr) (vs : List Value) (ns : List Int),
  Ground q loose [] XP w s₀ mg mb s₁.heap -> YP w s₁.heap ->
  s₁.heap.get? fa = some o -> o.data = .func (docDef d.name d.params d.body d.scope pm cd doc) -> s₁.heap.CodeRec cd d.name -> mg d.name = some (.ref fa) ->
  s₁.heap.get? a = some { cls := .type "list", data := .seq vs.toArray } -> IntsAre vs ns -> ns.length <= n -> s₁.gens = #[] ->
  dM (model l.prog w) eQ (.call (.ref fa) ⟨[.ref a], []⟩) (fun r s' => r = .ok (.ret (.bool true)) /\ OldK s₁.heap s'.heap /\ s'.os = s₁.os /\ AllBare s'.gens) s₁) :
 WalkO q loose XP YP l.row.toRowW d [] (fun f vs => gw f vs) := by
 intro w s₀ s₁ mg mb G Y fa o pm cd doc dV kV ho hd hcd hD hmg hg args vals as hpre hlay hrd hwl hlo
 obtain rfl : dV = .none := Dflts.none hD hdf
 obtain rfl : kV = .none := Dflts.noKw hD
 obtain ⟨a, vs, ns, rfl, rfl, hobj, hints, hlen⟩ := zeK hn hpre hwl
 refine enter_call (fJ (call w s₀ s₁ mg mb fa o pm cd doc a vs ns G Y ho (fd_plain hd) hcd hmg hobj hints hlen hg) fun r s' hq => ?_)
 obtain ⟨rfl, h2, h3, h4⟩ := hq
 exact ⟨.inl ⟨.bool true, .bool true, [], rfl, fun _ => rfl, .bool true, zeL l _, fun _ => ⟨List.Pairwise.nil, fun _ hm => (nomatch hm)⟩⟩, h2, h3, h4⟩
section
variable {prog : Program} {w : World} {A : Around} {E : Value -> Shared -> Prop} {s : Shared} {K : Frag}
end
end Att
namespace L2
open PySem PySem.Spec PyProof.Rows
theorem W3 : ∀ {vs : List Value} {ns : List Int}, IntsAre vs ns -> Vals (ns.map V.int) vs
 | _, _, .nil => .nil
 | _, _, .cons n t h => .cons ⟨t, rfl⟩ (W3 h)
def zf0 (H : Hp) : Prop := ∀ b, H b = none \/ ∃ o xs, H b = some (.frz o (.lst xs))
theorem zf1 {K : ae} {mg mb : Str -> Option Value} {s₁ : Shared} {vs : List Value} {ns : List Int}
 (KX : K.In s₁.heap) (hns : s₁.heap.Ns ba mg) (hb : s₁.heap.Ns gA mb) (hbb : ∀ x : Str, x ≠ "__name__" -> mb x = bB x) (hlim : s₁.heap.NoLimit) (hg : s₁.gens = #[])
 (ha : s₁.heap.get? a = some { cls := .type "list", data := .seq vs.toArray }) (hi : IntsAre vs ns) (hl : ns.length <= az) (hr : Room k eQ)
 (F : ∀ base : Heap, K.In base -> base.Ns ba mg -> FnOk P w K mg base CX k fa fd [x] sp) (hbind : ∀ (s : Shared) (u : Value), BindsTo s fd ⟨[u], []⟩ [(x, u)])
 (hsp : ∀ H : Hp, zf0 H -> yl K H a (ns.map V.int) -> sp [.ref a] H (fun v _ => v = .bl true) fun _ _ _ => False)
 (hCX : ∀ H e s', CX [] H s₁ (fun _ _ _ => False) e s' -> False) :
 dM (model P w) eQ (.call (.ref fa) ⟨[.ref a], []⟩) (fun r s' => r = .ok (.ret (.bool true)) /\ OldK s₁.heap s'.heap /\ s'.os = s₁.os /\ AllBare s'.gens) s₁ := by
 have rv := W3 hi
 have lenV := hi.length
 have core : ∀ H : Hp, zf0 H -> yl K H a (ns.map V.int) -> HOk P w H s₁.heap -> (∀ b, H b ≠ none -> b = a) -> (H a ≠ none -> K.lookup a = none) ->
  dM (model P w) eQ (.call (.ref fa) ⟨[.ref a], []⟩) (fun r s' => r = .ok (.ret (.bool true)) /\ OldK s₁.heap s'.heap /\ s'.os = s₁.os /\ AllBare s'.gens) s₁ := by
  intro H hO hS hok hA hK
  have base_of : ∀ {b : Addr} {o : Obj}, s₁.heap.get? b = some o -> H b = none -> (Yk s₁.heap H).get? b = some o := fun e n => zfH e n
  have noA : ∀ {b : Addr} {o : Obj} {es : Array DictEntry} {ep : Nat}, s₁.heap.get? b = some o -> o.data = .dict es ep -> H b = none := fun {b o es ep} e d => by
   cases q : H b with
   | none => rfl
   | some u =>
    have e' : b = a := hA b (by rw [q]; simp)
    subst e'
    rw [ha] at e; cases e
    have d' : Data.seq vs.toArray _ = Data.dict es ep := d
    cases d'
  have nsK : ∀ {b : Addr} {m : Str -> Option Value}, s₁.heap.Ns b m -> (Yk s₁.heap H).Ns b m := fun {b m} ⟨o, es, ep, e, d, r⟩ => ⟨o, es, ep, base_of e (noA e d), d, r⟩
  have hKb : K.In (Yk s₁.heap H) := fun b o e => base_of (KX b o e) (by
   cases q : H b with
   | none => rfl
   | some u =>
    have e' : b = a := hA b (by rw [q]; simp)
    subst e'
    rw [hK (by rw [q]; simp)] at e; cases e)
  have hM : Mod K mg (Yk s₁.heap H) := ⟨hKb, nsK hns, ⟨mb, nsK hb, hbb⟩, let ⟨mc, h1, h2⟩ := hlim; ⟨mc, nsK h1, h2⟩⟩
  have e0 : zdq P w K mg (Yk s₁.heap H) eQ [] s₁ H := ⟨rfl, hM, fun b o e => zhM e, gR (zes _ _), trivial, fun b hb => absurd (show b ∈ ([] : List Addr) from hb) (by simp), hok, .of_eq hg⟩
  refine fJ ((F _ hKb (nsK hns)).run eQ [] s₁ H ⟨[.ref a], []⟩ [.ref a] [.ref a] _ _ hr e0 (hbind s₁ (.ref a)) (.cons rfl .nil) (hsp H hO hS)) fun r s' h => ?_
  cases r with
  | error e => exact (hCX H e s' h).elim
  | ok fl =>
   cases fl with
   | next => exact aa h
   | brk => exact aa h
   | cont => exact aa h
   | ret u =>
    obtain ⟨v, H', os, bare, un, hok', r', q⟩ := h
    have q' : v = .bl true := q
    subst q'
    obtain rfl : u = Value.bool true := r'
    refine ⟨rfl, OldK.of_keep fun b o e => ?_, os, bare⟩
    cases q : H b with
    | none => exact un.keep b o e q (by intro z; exact absurd (show b ∈ ([] : List Addr) from z) (by simp)) (by simp)
    | some u =>
     rcases hO b with z | ⟨ob, xs, z⟩
     · rw [q] at z; cases z
     · have z2 := un.frzs b ob _ z
       obtain ⟨e1, _⟩ := hok b _ z
       obtain ⟨e2, _⟩ := hok' b _ z2
       rw [e] at e1; cases e1
       exact e2
 cases hk : K.lookup a with
 | some o =>
  have e := KX a o hk
  rw [ha] at e
  cases e
  refine core (fun _ => none) (fun _ => .inl rfl) (.inr ⟨_, vs.toArray, _, hk, rfl, rfl, rfl, by rw [ah, lenV]; exact hl, by simpa using rv⟩) (fun b u z => by have z' : (none : Option HO) = some u := z; cases z') (fun b z => absurd rfl z) fun z => absurd rfl z
 | none =>
  refine core (fun b => if b = a then some (.frz { cls := .type "list", data := .seq vs.toArray } (.lst (ns.map V.int))) else none) (fun b => ?_) (.inl (.inr ⟨{ cls := .type "list", data := .seq vs.toArray }, if_pos rfl⟩)) (fun b u z => ?_) (fun b z => ?_) fun _ => hk
  · by_cases hb : b = a
    · exact .inr ⟨_, _, if_pos hb⟩
    · exact .inl (if_neg hb)
  · by_cases hb : b = a
    · have z' := (if_pos hb).symm.trans z
      cases z'
      subst hb
      exact ⟨ha, by rw [aA]; exact hl, vs, _, rv, ha⟩
    · have z' := (if_neg hb).symm.trans z
      cases z'
  · by_cases hb : b = a
    · exact hb
    · exact absurd (if_neg hb) z
theorem walk_of {l : PySem.W.OpenLaw} {XP : (Str -> Option Value) -> Heap -> Prop} {YP : World -> Heap -> Prop} {d : DefRec} {K : Params -> ae} {CX : World -> ZX} {sp : World -> Sp} 
 (hn : l.most = some n) (hn2 : n <= az) (hdf : d.params.defaults = []) (hr : Room k eQ)
 (hY : ∀ (w : World) (h : Heap), YP w h -> (K w.params).In h)
 (F : ∀ (w : World) (mg : Str -> Option Value) (fa : Addr) (h : Heap), (K w.params).In h -> h.Ns ba mg -> mg d.name = some (.ref fa) ->
  ∃ fd : FuncData, (∀ (s : Shared) (u : Value), BindsTo s fd ⟨[u], []⟩ [(x, u)]) /\
   ∀ base : Heap, (K w.params).In base -> base.Ns ba mg -> FnOk l.prog w (K w.params) mg base (CX w) k fa fd [x] (sp w))
 (hsp : ∀ (w : World) (H : Hp) (a : Addr) (ns : List Int), ns.length <= n -> zf0 H -> yl (K w.params) H a (ns.map V.int) -> sp w [.ref a] H (fun v _ => v = .bl true) fun _ _ _ => False)
 (hCX : ∀ (w : World) (H : Hp) (s : Shared) (e : Value) (s' : Shared), CX w [] H s (fun _ _ _ => False) e s' -> False) :
 gH q loose XP YP l.row.toRowW d [] (fun f vs => gw f vs) := by
 refine Att.attach_call hn hdf fun w s₀ s₁ mg mb fa o pm cd doc a vs ns G Y ho hd hcd hmg hobj hints hlen hg => ?_
 have KX := hY w _ Y
 obtain ⟨fd, hb, hF⟩ := F w mg fa _ KX G.T.g hmg
 exact zf1 KX G.T.g G.T.b G.T.builtins G.T.nolimit hg hobj hints (aO hlen hn2) hr hF hb (fun H hO hS => hsp w H a ns hlen hO hS) fun H e s' => hCX w H s₁ e s'
def Q7 (s : Stmt) : Arguments := match s with
 | .FunctionDef _ a _ _ _ _ _ _ _ _ => a
 | _ => { posonlyargs := [], args := [], vararg := none, kwonlyargs := [], kw_defaults := [], kwarg := none, defaults := [] }
def JJ (s : Stmt) : List Stmt := match s with
 | .FunctionDef _ _ b _ _ _ _ _ _ _ => b
 | _ => []
def zu (s : Stmt) : Scope := match s with
 | .FunctionDef _ _ _ _ _ _ sc _ _ _ => sc
 | _ => { kind := .function, names := [], isGenerator := false, isCoroutine := false }
abbrev yR : ZX := fun _ _ _ _ _ _ => False
abbrev E0 : XK := fun _ _ _ => False
theorem zlx : zaq yR X E0 := fun _ _ _ _ _ _ _ h => h.elim
structure Fun (K : ae) (x qual : Str) (st : Stmt) (f : Addr) (fd : FuncData) : Prop where
 ex : ∃ (oc : Value) (od : Option Addr) (kV doc pm : Value) (an : Option Addr) (cdv ct : Value) (osl : Array (Option Value)),
  fd = cb x qual (Q7 st) (JJ st) (zu st) .none kV doc pm an cdv ct /\ K.lookup f = some ⟨oc, od, .func fd, osl⟩ /\ dq K cdv qual = true
 kp : cO K (.ref f) = true
section
variable {P : Program} {w : World} {K : ae} {mg : Str -> Option Value} {base : Heap}
theorem Fun.ok {x qual : Str} {st : Stmt} {f : Addr} {fd : FuncData} {N ps : List Str} {k : Nat} {sp : Sp} (F : Fun K x qual st f fd) (S : zL N ps (zu st)) (len : ∀ vs H Q E, sp vs H Q E -> vs.length = ps.length)
 (hbody : ∀ (cdv : Value) (A : Around) (outer : List Env) (s : Shared) (H : Hp) (vs : List V) (Q : VK) (E : XK), Room k (A.deeper (envOfC qual (zu st) s.heap.objs.size f cdv)) -> sp vs H Q E ->
  ∃ t, PSs (U2 yR P w K mg base N qual (zu st) f cdv A outer s H E).nox (JJ st) t /\ t { nx := fun _ H' => Q .non H', rt := Q } (start N vs) H) : FnOk P w K mg base yR (k + 1) f fd ps sp := by
 obtain ⟨oc, od, kV, doc, pm, an, cdv, ct, osl, rfl, lk, hcd⟩ := F.ex
 refine zlw lk hcd S len fun A outer s H vs Q E hr hsp => ?_
 obtain ⟨t, h, q⟩ := hbody cdv A outer s H vs Q E hr hsp
 exact ⟨t, h.nox, q⟩
theorem Fun.binds {x qual : Str} {st : Stmt} {f : Addr} {fd : FuncData} {ps : List Str} (F : Fun K x qual st f fd)
 (h : ∀ (kV doc pm : Value) (an : Option Addr) (cdv ct : Value) (us : List Value), us.length = ps.length -> bindArgs (cb x qual (Q7 st) (JJ st) (zu st) .none kV doc pm an cdv ct) ⟨us, []⟩ = pure (ps.zip us)) : Binds K fd ps [] := by
 obtain ⟨oc, od, kV, doc, pm, an, cdv, ct, osl, rfl, lk, hcd⟩ := F.ex
 exact .all (h kV doc pm an cdv ct)
theorem ya {x qual : Str} {st : Stmt} {f : Addr} {oc : Value} {od an : Option Addr} {osl : Array (Option Value)} {kV doc pm cdv ct : Value} (l : K.lookup f = some ⟨oc, od, .func (cb x qual (Q7 st) (JJ st) (zu st) .none kV doc pm an cdv ct), osl⟩)
 (c : dq K cdv qual = true) (k : cO K (.ref f) = true) : Fun K x qual st f (cb x qual (Q7 st) (JJ st) (zu st) .none kV doc pm an cdv ct) := ⟨⟨oc, od, kV, doc, pm, an, cdv, ct, osl, rfl, l, c⟩, k⟩
end
section
variable {X : Cx}
theorem pv (i : Nat) (hN : X.N[i]? = some x := by rfl) (hv : Zx X.env.scope x := by first | exact Or.inl rfl | exact Or.inr (Or.inl rfl) | exact Or.inr (Or.inr rfl)) (hd : (x == ("__debug__" : Str)) = false := by decide)
 (hcd : (x == ("__classdict__" : Str)) = false := by decide) : PE X (.Name x pos) (J5 i) := JQ hN hv hd hcd
end
def Same (H H' : Hp) : Prop := ∀ b o, H b = some o -> H' b = some o
theorem Same.refl (H : Hp) : Same H H := fun _ _ h => h
section
variable {κ : Type} [DecidableEq κ]
end
section
variable {P : Program} {w : World} {H : Hp} {h : Heap} {a : Addr}
end
section
variable {X : Cx} {pins : List (Addr × Obj)} {σ : St} {H : Hp} {s : Shared} {a : Addr} {y v : V} {u r : Value} {o : Option V} {A : Around} {E : Value -> Shared -> Prop}
end
section
variable {X : Cx} {pins : List (Addr × Obj)} {σ : St} {H : Hp} {s : Shared} {a : Addr} {kvs : List (jB × V)} {k : jB} {u : Value} {A : Around} {E : Value -> Shared -> Prop}
end
section
variable {X : Cx} {o i e value : Expr} {pos pos' tpos : Pos} {td ty tv : TE}
end
section
variable {X : Cx} {pos : Pos}
end
section
variable {X : Cx} {pins : List (Addr × Obj)} {σ : St} {H : Hp} {s : Shared} {a : Addr} {y d : V} {u r : Value} {o : Option V} {A : Around} {E : Value -> Shared -> Prop}
end
section
variable {X : Cx} {o e f : Expr} {apos cpos : Pos} {td ty tx : TE}
end
section
variable {X : Cx} {pins : List (Addr × Obj)} {σ : St} {H : Hp} {s : Shared} {a : Addr} {kvs : List (jB × V)} {A : Around} {E : Value -> Shared -> Prop}
end
section
variable {X : Cx} {pins : List (Addr × Obj)} {σ : St} {H : Hp} {s : Shared} {a : Addr} {y : V} {u : Value} {A : Around} {E : Value -> Shared -> Prop}
end
section
variable {X : Cx}
end
section
variable {κ : Type} [DecidableEq κ]
end
def yc (env : Env) : List (Str × NameKind) -> List (Str × Addr) -> List (Str × Addr)
 | [], cs => cs
 | (n, k) :: r, cs => yc env r (if k == .free then (match env.cells.lookup n with | some a => (n, a) :: cs | none => cs) else cs)
theorem zcg {env : Env} {scope : Scope} (h : ∀ p ∈ scope.names, p.2 = .free -> ∃ a, env.cells.lookup p.1 = some a) : closureFor scope env = pure (yc env scope.names []) := by
 have go : ∀ (l : List (Str × NameKind)) (cs : List (Str × Addr)), (∀ p ∈ l, p.2 = .free -> ∃ a, env.cells.lookup p.1 = some a) ->
  (forIn l cs fun (x : Str × NameKind) (r : List (Str × Addr)) => if (x.2 == .free) = true then (do let a ← cellOf env x.1; pure (ForInStep.yield ((x.1, a) :: r))) else (pure (ForInStep.yield r) : Sem _)) = (pure (yc env l cs) : Sem _) := by
  intro l
  induction l with
  | nil => intro cs _; rfl
  | cons p r ih =>
   intro cs hp
   obtain ⟨n, k⟩ := p
   rw [cC]
   cases hk : k == NameKind.free with
   | false =>
    simp only [hk, bm, if_false]
    have e : yc env ((n, k) :: r) cs = yc env r cs := by simp only [yc, hk, bm, if_false]
    rw [e, ← ih cs fun q hq => hp q (aw _ hq)]
    rfl
   | true =>
    obtain ⟨a, ha⟩ := hp (n, k) aq (by simpa using hk)
    have ha' : env.cells.lookup n = some a := ha
    have e : yc env ((n, k) :: r) cs = yc env r ((n, a) :: cs) := by simp only [yc, hk, ha', if_true]
    have ec : cellOf env n = pure a := by unfold cellOf; rw [ha']
    simp only [hk, if_true, ec]
    rw [e, ← ih ((n, a) :: cs) fun q hq => hp q (aw _ hq)]
    rfl
 have q := go scope.names [] h
 simp only [closureFor]
 refine Eq.trans (congrArg (fun z => z >>= fun s => pure s) q) ?_
 rfl
theorem Zd {env : Env} : ∀ (l : List (Str × NameKind)) (cs : List (Str × Addr)), (cs.lookup x = some c -> env.cells.lookup x = some c) -> (yc env l cs).lookup x = some c -> env.cells.lookup x = some c
 | [], _, h, e => h e
 | (n, k) :: r, cs, h, e => by
  unfold yc at e
  refine Zd r _ ?_ e
  intro q
  split at q
  · split at q
    · rename_i a ha
      rw [bW] at q
      split at q
      · rename_i hx
        have : x = n := by simpa using hx
        cases q
        rw [this]; exact ha
      · exact h q
    · exact h q
  · exact h q
theorem U4 {env : Env} : ∀ (l : List (Str × NameKind)) (cs : List (Str × Addr)), (∀ p ∈ l, p.2 = .free -> ∃ a, env.cells.lookup p.1 = some a) ->
 ((∃ c, cs.lookup x = some c) \/ (x, NameKind.free) ∈ l) -> ∃ c, (yc env l cs).lookup x = some c
 | [], _, _, h => h.elim id (fun z => nomatch z)
 | (n, k) :: r, cs, hf, h => by
  unfold yc
  refine U4 r _ (fun p hp => hf p (aw _ hp)) ?_
  rcases h with ⟨c, h⟩ | h
  · left
    split
    · split
      · rw [bW]
        split
        · exact ⟨_, rfl⟩
        · exact ⟨c, h⟩
      · exact ⟨c, h⟩
    · exact ⟨c, h⟩
  · rcases ak.mp h with e | h
    · cases e
      left
      obtain ⟨a, ha⟩ := hf (x, .free) aq rfl
      have ha' : env.cells.lookup x = some a := ha
      simp only [ha']
      refine ⟨a, ?_⟩
      show gZ x (if (NameKind.free == NameKind.free) = true then (x, a) :: cs else cs) = some a
      rw [if_pos (by decide), bW]
      simp
    · exact .inr h
def z4 (X : Cx) (N' : List Str) (scope : Scope) (cl : List (Str × Addr)) (C : Addr) (s2 : Shared) (H2 : Hp) (fp : List Addr) : Cx where
 prog := X.prog
 w := X.w
 K := X.K
 mg := X.mg
 base := X.base
 A := X.A
 N := N'
 s₀ := s2
 H₀ := H2
 env := gz scope cl C X.env
 outer := X.stack
 stack := X.stack
 ex := fp
 fn := fun _ => false
 calm := X.calm
 pn := []
 xe := fun _ _ => False
def blk (js : List (Option Nat)) (σ : St) : St := js.map fun j => match j with | some j => (σ[j]?).join | none => none
def PTs (X : Cx) (ifs : List Expr) (tc : TT) : Prop :=
 ∀ (pins : List (Addr × Obj)) (s : Shared) (σ : St) (H : Hp) (Q : Bool -> Hp -> Prop), Inv X pins σ H s -> tc σ H Q ->
  wpAny (model X.prog X.w) X.A (forIn ifs true fun c r => if r = true then do let ok ← isTrue c X.env (eval c X.env); pure (ForInStep.yield ok) else pure (ForInStep.yield r)) (TP X pins σ Q) X.xe s
def tTT : TT := fun _ H Q => Q true H
theorem zh5 : PTs X [] tTT := fun _ _ _ H _ I h => wpAny_tests_nil ⟨H, I, h⟩
theorem zh6 (h : PT X c t) : PTs X [c] t := fun pins s σ H Q I hq => wpAny_tests_one (h pins s σ H Q I hq)
def zhd (J : It) (g : TG) (tc : TT) (te : TE) (σ : St) (H : Hp) (Q : List V -> Hp -> Prop) : Prop :=
 ∃ W : Nat -> Nat -> List V -> St -> Hp -> Prop, (∃ m, W 0 m [] σ H) /\ ∀ i m ys σ H, W i m ys σ H ->
  (J.stop i H /\ ys.length <= az /\ Q ys H) \/
  (J.go i H /\ ys.length < az /\ ∃ N : List V -> St -> Hp -> Prop, (∀ ys' σ' H', N ys' σ' H' -> ∃ m', m' < m /\ W (i + 1) m' ys' σ' H') /\
   ∀ x H', J.yld i H x H' -> g x σ H' fun σ2 H2 => tc σ2 H2 fun b H3 => if b = true then te σ2 H3 fun y H4 => N (ys ++ [y]) σ2 H4 else N ys σ2 H3)
def zdv (wi : TI) (js : List (Option Nat)) (g : TG) (tc : TT) (te : TE) : TE := fun σ H Q => wi σ H fun J H1 => zhd J g tc te (blk js σ) H1 fun ys H2 => ∀ p, H2 p = none -> Q (.ref p) (zA H2 p (.lst ys))
theorem zeM {R : Result -> Shared -> Prop} (I : Nat -> Shared -> Prop)
 (turn : ∀ n s, I n s -> wpAny (model prog w) A (pyNext it) (fun r s₁ => match r with
  | none => R (.ok .next) s₁
  | some v => wpAny (model prog w) A (cE target it v) (fun _ s₁ => wpAny (model prog w) A (assign target env v) (fun _ s₂ =>
   wpAny (model prog w) A (forIn ifs true fun c r => if r = true then do let ok ← isTrue c env (eval c env); pure (ForInStep.yield ok) else pure (ForInStep.yield r)) (fun ok s₃ =>
    if ok = true then wpAny (model prog w) A (eval elt env) (fun x s₄ =>
     wpAny (model prog w) A (call (.builtin "list.append") [acc, x]) (fun _ s₅ => ∃ m, m < n /\ I m s₅) (fun _ _ => False) s₄) (fun _ _ => False) s₃
    else ∃ m, m < n /\ I m s₃) (fun _ _ => False) s₂) (fun _ _ => False) s₁) (fun _ _ => False) s₁) (fun _ _ => False) s)
 (n : Nat) (h : I n s) : dM (model prog w) A (.compLoop (.ListComp elt [⟨target, iter, ifs, 0⟩] scope pos) 0 it acc env) R s := by
 refine codeAny_loop rfl I (fun n s hI => ?_) n h
 show wpAny _ A ((compTurn (.ListComp elt [⟨target, iter, ifs, 0⟩] scope pos) 0 it acc env).onRaise (fun x => do noteFrame x env; theTreesLotGoes x)) _ _ s
 refine wpAny_noted ?_
 rw [compTurn_list]
 refine ac (fc (ac (ce (turn n s hI) (fun r s₁ h₁ => ?_) fun _ _ h' => h'.elim)))
 cases r with
 | none => exact ao h₁
 | some v =>
  refine ac (ce h₁ (fun _ s₁ h₁ => ?_) fun _ _ h' => h'.elim)
  refine ac (ce h₁ (fun _ s₂ h₂ => ac (ce h₂ (fun ok s₃ h₃ => ?_) fun _ _ h' => h'.elim)) fun _ _ h' => h'.elim)
  cases ok with
  | false => exact ao ⟨rfl, h₃⟩
  | true =>
   exact ac (ac (ce h₃ (fun x s₄ h₄ => ac (ce h₄ (fun _ s₅ h₅ => ao (ao ⟨rfl, h₅⟩)) fun _ _ h' => h'.elim)) fun _ _ h' => h'.elim))
section
variable {X : Cx} {pins : List (Addr × Obj)} {σ : St} {H H2 : Hp} {s2 : Shared}
theorem mem_of_lookup {α : Type} {x : Str} {k : α} : ∀ {l : List (Str × α)}, l.lookup x = some k -> (x, k) ∈ l
 | [], h => by simp at h
 | (n, k') :: r, h => by
  rw [bW] at h
  split at h
  · rename_i hx
    have : x = n := by simpa using hx
    cases h; rw [this]; exact aq
  · exact aw _ (mem_of_lookup h)
theorem J7 {env : Env} {x : Str} {k : NameKind} : ∀ {l : List (Str × NameKind)},
 (l.map fun (n, k) => if (k == NameKind.free && env.scope.kind == .function && env.kindOf n == some .cell) then (n, NameKind.cell) else (n, k)).lookup x = some k ->
 l.lookup x = some k \/ (k = .cell /\ l.lookup x = some .free)
 | [], h => by simp at h
 | (n, k') :: r, h => by
  have ih := @J7 env x k r
  rw [aQ, bW] at h
  rw [bW]
  by_cases hc : (k' == NameKind.free && env.scope.kind == .function && env.kindOf n == some .cell) = true
  · simp only [hc, if_true] at h
    have hk : k' = .free := by
     simp only [aD] at hc
     simpa using hc.1.1
    cases hx : x == n with
    | true => rw [hx] at h; cases h; exact .inr ⟨rfl, by rw [hk]⟩
    | false => rw [hx] at h; exact ih h
  · simp only [hc, if_false, bm] at h
    cases hx : x == n with
    | true => rw [hx] at h; exact .inl h
    | false => rw [hx] at h; exact ih h
structure CompOk (X : Cx) (N' : List Str) (js : List (Option Nat)) (scope : Scope) : Prop where
 kind : scope.kind = .function
 cell : ∀ y ∈ scope.names, y.2 ≠ .cell
 names : ∀ y ∈ scope.names, y.2 = .local -> scope.names.lookup y.1 = some .local
 free : ∀ y ∈ scope.names, y.2 = .free -> X.env.kindOf y.1 = some .cell \/ X.env.kindOf y.1 = some .free
 len : js.length = N'.length
 ix : ∀ (i j : Nat) (x : Str), js[i]? = some (some j) -> N'[i]? = some x -> X.N[j]? = some x /\ scope.names.lookup x = some .free
variable {N' : List Str} {js : List (Option Nat)} {scope : Scope} {fp : List Addr}
theorem CompOk.clos (K : CompOk X N' js scope) (I : Inv X pins σ H s2) : ∀ p ∈ scope.names, p.2 = .free -> ∃ a, X.env.cells.lookup p.1 = some a := fun p hp hf => I.ok.has p.1 (K.free p hp hf)
theorem zly : (gz scope cl C X.env).kindOf x = (scope.names.map fun (n, k) => if (k == NameKind.free && X.env.scope.kind == .function && X.env.kindOf n == some .cell) then (n, NameKind.cell) else (n, k)).lookup x := rfl
theorem CompOk.ok (K : CompOk X N' js scope) (I : Inv X pins σ H2 s2) (hf : ∀ b ∈ fp, FpOk X pins H2 b) (hfp : ∀ b ∈ fp, b < s2.heap.objs.size) (hC : s2.heap.objs.size <= C) :
 (z4 X N' scope (yc X.env scope.names []) C s2 H2 fp).Ok := by
 have sub : ∀ x c, (yc X.env scope.names []).lookup x = some c -> X.env.cells.lookup x = some c := fun x c e => Zd scope.names [] (fun z => by simp at z) e
 refine ⟨I.mod, K.kind, I.ok.glob, I.ok.blt, hC, fun x y c a b => I.ok.inj x y c (sub x c a) (sub y c b), fun x hk => ?_, fun x c h => (nomatch h), I.ok.hd, I.ok.frames, .inl rfl, fun b hb => ⟨?_, fun x c e => ?_⟩, I.bs, ?_, fun b o e hb => ?_, fun b hb => ?_, I.stack, I.stkFree⟩
 · refine U4 scope.names [] (K.clos I) (.inr ?_)
   have z : ∀ k, (gz scope (yc X.env scope.names []) C X.env).kindOf x = some k -> k = .cell \/ k = .free -> (x, NameKind.free) ∈ scope.names := fun k e hk => by
    rw [zly] at e
    rcases J7 e with e | ⟨_, e⟩
    · rcases hk with rfl | rfl
      · exact absurd rfl (K.cell _ (mem_of_lookup e))
      · exact mem_of_lookup e
    · exact mem_of_lookup e
   rcases hk with e | e
   · exact z _ e (.inl rfl)
   · exact z _ e (.inr rfl)
 · exact aM (aG (hfp b hb) hC)
 · exact (hf b hb).2.2.2.2.1 x c (sub x c e)
 · exact aO I.ok.bsz I.sz
 · rcases (hf b hb).2.2.2.1 with z | z
   · exact I.ok.noex b o e z
   · exact absurd (aG (aG (ai e) I.ok.bsz) z) (bR _)
 · intro hs
   rcases ak.mp (I.stkSub b hs) with e | e
   · exact (hf b hb).2.1 e
   · exact (hf b hb).2.2.1 e
theorem CompOk.inv (K : CompOk X N' js scope) (I : Inv X pins σ H2 s2) (hf : ∀ b ∈ fp, FpOk X pins H2 b) (hfp : ∀ b ∈ fp, b < s2.heap.objs.size) {o : Obj} {h1 : Heap} {m : Str -> Option Value}
 (hD : s2.heap.objs.size <= D) (hC : s2.heap.objs.size <= C) (hDC : D ≠ C) (up : ∀ b u, s2.heap.get? b = some u -> h1.get? b = some u) (hn : h1.Ns C m) (ho : h1.get? D = some o) (hcell : ∀ v, o.data ≠ .cell v) :
 Inv (z4 X N' scope (yc X.env scope.names []) C s2 H2 fp) [(D, o)] (blk js σ) H2 { s2 with heap := h1, toks := tk } := by
 have ok := K.ok I hf hfp hC
 have sub : ∀ x c, (yc X.env scope.names []).lookup x = some c -> X.env.cells.lookup x = some c := fun x c e => Zd scope.names [] (fun z => by simp at z) e
 refine ⟨ok, rfl, I.bare, Un.kept up, ⟨m, hn, fun i x v e1 e2 e3 => ?_⟩, fun x c e => ?_, I.hok.fresh hC, fun x c e => I.freeC x c (sub x c e), fun p hp => ?_, I.hok.kept up, ?_⟩
 · have e2' : (js.map fun j => match j with | some j => (σ[j]?).join | none => none)[i]? = some (some v) := e2
   rw [ar] at e2'
   cases hj : js[i]? with
   | none => rw [hj] at e2'; cases e2'
   | some j =>
    rw [hj] at e2'
    cases j with
    | none => cases e2'
    | some j =>
     have e4 : (σ[j]?).join = some v := bi e2'
     have e5 : σ[j]? = some (some v) := by
      cases q : σ[j]? with
      | none => rw [q] at e4; cases e4
      | some z => rw [q] at e4; cases z with
       | none => cases e4
       | some z => cases e4; rfl
     obtain ⟨hX, hfr⟩ := K.ix i j x hj e1
     obtain ⟨mX, hnX, hl⟩ := I.loc
     have hm := mem_of_lookup hfr
     have hk := K.free _ hm rfl
     have hv : Zx X.env.scope x := hk.elim (fun z => .inr (.inl z)) fun z => .inr (.inr z)
     obtain ⟨u, r, q⟩ := hl j x v hX e5 hv
     refine ⟨u, r, ?_⟩
     rcases q with ⟨q, _⟩ | ⟨_, c, ec, z⟩
     · rcases hk with hk | hk
       · have hk' : X.env.kindOf x = some .cell := hk
         rw [q] at hk'; cases hk'
       · have hk' : X.env.kindOf x = some .free := hk
         rw [q] at hk'; cases hk'
     · obtain ⟨c', ec'⟩ := U4 (x := x) scope.names [] (K.clos I) (.inr hm)
       have e6 := sub x c' ec'
       rw [ec] at e6; cases e6
       obtain ⟨oz, hoz, hdz⟩ := z
       refine .inr ⟨?_, c, ec', ⟨oz, up _ _ hoz, hdz⟩⟩
       rcases e3 with e3 | e3 | e3
       · rcases J7 e3 with e | ⟨z, _⟩
         · rw [hfr] at e; cases e
         · cases z
       · exact .inl e3
       · exact .inr e3
 · obtain ⟨v, oz, hoz, hdz⟩ := I.cell x c (sub x c e)
   exact ⟨v, oz, up _ _ hoz, hdz⟩
 · have e : p = (D, o) := by
    have : p ∈ ([] : List (Addr × Obj)) ++ [(D, o)] := hp
    simpa using this
   subst e
   refine ⟨ho, I.hok.fresh hD, hDC, fun z => ?_, hcell⟩
   rcases ak.mp (I.stkSub D z) with e | e
   · exact absurd (aG I.lt hD) (by rw [show D = X.env.locals from e]; exact bR _)
   · exact I.nofs hD e
 · show (js.map _).length = N'.length
   rw [aA]; exact K.len
theorem zeN (I : Inv X pins σ H2 s2) (hf : ∀ b ∈ fp, FpOk X pins H2 b) {ys : List V} {us : List Value} 
 (hD : s2.heap.objs.size <= D) (I4 : Inv (z4 X N' scope cl C s2 H2 fp) pl σ' H4 s4) (hp : (D, o) ∈ pl) (ho : o = { cls := .type "list", data := .seq us.toArray k }) (r : Vals ys us) (hz : ys.length <= az) :
 Inv X pins σ (zA H4 D (.lst ys)) s4 := by
 have pD := I4.pin (D, o) (aH _ hp)
 have nD : H4 D = none := pD.2.1
 have eD : s4.heap.get? D = some o := pD.1
 have neD : ∀ b u, s2.heap.get? b = some u -> b ≠ D := fun b u e => aM (aG (ai e) hD)
 have n2 : H2 D = none := I.hok.fresh hD
 have U := I4.base
 refine I.call' (ch := fp) I4.os ⟨fun b u e n hb hx => U.keep b u e n hb hx, fun b u e n hb hx => U.slot b u e n hb hx, fun b u e n hx => ?_, fun b u e hx => U.there b u e hx, fun b xs e => ?_, fun b u xs e => ?_, fun b ps e => ?_⟩ (fun b u e => ?_) I4.bare fun b hb => ⟨(hf b hb).2.2.2.1, (hf b hb).2.1, (hf b hb).2.2.2.2.1, (hf b hb).2.2.2.2.2⟩
 · rw [zp (neD b u e)]; exact U.free b u e n hx
 · have q := U.tups b xs e
   rw [zp (zV q nD)]; exact q
 · have q := U.frzs b u xs e
   rw [zp (zV q nD)]; exact q
 · obtain ⟨more, q⟩ := U.tbls b ps e
   exact ⟨more, by rw [zp (zV q nD)]; exact q⟩
 · by_cases hb : b = D
   · subst hb
     rw [zU] at e
     cases e
     exact ⟨hz, us, k, r, by rw [eD, ho]⟩
   · rw [zp hb] at e
     exact (I4.hok b u e).stay (fun c v _ q => q) (fun c q => by rw [zp (zV q nD)]; exact q) fun c xs q => by rw [zp (zV q nD)]; exact q
end
section
variable {X : Cx} {pins : List (Addr × Obj)} {σ : St} {H H2 : Hp} {s2 : Shared} {N' : List Str} {js : List (Option Nat)} {scope : Scope} {fp : List Addr}
abbrev Ze (us : List Value) : Obj := { cls := .type "list", data := .seq us.toArray us.length }
theorem W4 {tn : Nat -> Heap -> Prop} {Qy : List V -> Hp -> Prop} {RR : Value -> Addr -> Result -> Shared -> Prop} {E : Value -> Shared -> Prop}
 (hc : X.calm = true) (K : CompOk X N' js scope) (I : Inv X pins σ H2 s2) (T : Y0 X.prog X.w X.K tg J fp it tn) (st2 : tn 0 s2.heap) (f2 : ∀ b ∈ fp, FpOk X pins H2 b)
 (hb : ∀ C cl, PG (z4 X N' scope cl C s2 H2 fp) tg g /\ PTs (z4 X N' scope cl C s2 H2 fp) ifs tc /\ PE (z4 X N' scope cl C s2 H2 fp) elt te)
 (hw : zhd J g tc te (blk js σ) H2 Qy)
 (hR : ∀ D C s4 H4 ys m, Inv X pins σ (zA H4 D (.lst ys)) s4 -> s4.heap.Ns C m -> s2.heap.objs.size <= C -> D ≠ C -> H4 C = none -> H4 D = none -> Qy ys H4 -> RR (.ref D) C (.ok .next) s4) :
 wpAny (model X.prog X.w) X.A (newList []) (fun acc s₃ => wpAny (model X.prog X.w) X.A (newFunctionEnv scope X.env.globals (yc X.env scope.names []) [] X.env.qual none .none (some X.env)) (fun cenv s₄ =>
  dM (model X.prog X.w) X.A (.compStart (.ListComp elt [⟨tg, iter, ifs, 0⟩] scope pos) 0 (.ref it) acc { cenv with scope := relabel scope X.env }) (RR acc cenv.locals) s₄) E s₃) E s2 := by
 refine bF (wpAny_newFunctionEnv K.cell (by intro y hy; simp at hy) (fun h₁ hns₁ hsb₁ => ?_) K.kind)
 dsimp only at hns₁ hsb₁ ⊢
 generalize hH2 : s2.heap.push { cls := .type "list", dict := none, data := .seq ([] : List Value).toArray } = HH at hns₁ hsb₁ ⊢
 have hC : HH.objs.size = s2.heap.objs.size + 1 := by rw [← hH2, cj]
 have hDC : s2.heap.objs.size ≠ HH.objs.size := by rw [hC]; exact aM (fP _)
 have below : ∀ b, b < s2.heap.objs.size -> b ≠ HH.objs.size /\ b ≠ s2.heap.objs.size := fun b hb => ⟨by rw [hC]; exact aM (fD hb), aM hb⟩
 have old : ∀ b o, s2.heap.get? b = some o -> h₁.get? b = some o := fun b o e => hsb₁.extBut b o (below b (ai e)).1 (am _ (hH2 ▸ am _ e))
 have hacc : h₁.get? s2.heap.objs.size = some (Ze []) := hsb₁.extBut _ _ hDC (am _ (hH2 ▸ aE _ rfl))
 have hfp : ∀ b ∈ fp, b < s2.heap.objs.size := fun b hb => by obtain ⟨o, e, _⟩ := T.obj 0 _ st2 b hb; exact ai e
 have hCle : s2.heap.objs.size <= HH.objs.size := by rw [hC]; exact Nat.le_succ _
 generalize hCC : HH.objs.size = C at *
 generalize hDD : s2.heap.objs.size = D at *
 obtain ⟨W, ⟨m0, w0⟩, turn⟩ := hw
 obtain ⟨hG, hT, hE⟩ := hb C (yc X.env scope.names [])
 have st1 : tn 0 h₁ := T.keep 0 _ _ st2 fun b _ o e => old b o e
 have loop : ∀ s₃ : Shared, s₃ = { s2 with heap := h₁, toks := s2.toks + ([] : List (Str × Value)).length } ->
  dM (model X.prog X.w) X.A (.compLoop (.ListComp elt [⟨tg, iter, ifs, 0⟩] scope pos) 0 (.ref it) (.ref D) (gz scope (yc X.env scope.names []) C X.env)) (RR (.ref D) C) s₃ := by
  rintro s₃ rfl
  have I0 : Inv (z4 X N' scope (yc X.env scope.names []) C s2 H2 fp) [(D, Ze [])] (blk js σ) H2 { s2 with heap := h₁, toks := s2.toks + ([] : List (Str × Value)).length } :=
   K.inv I f2 (fun b hb => by rw [hDD]; exact hfp b hb) (by rw [hDD]; exact aC _) (by rw [hDD]; exact hCle) hDC old hns₁ hacc (fun v z => by cases z)
  have cfree : ∀ {σ' : St} {H' : Hp} {s' : Shared} {pl : List (Addr × Obj)}, Inv (z4 X N' scope (yc X.env scope.names []) C s2 H2 fp) pl σ' H' s' -> H' C = none := fun I' => I'.free
  have stat : ∀ {H' : Hp} {us : List Value}, (∀ b ∈ fp, H' b = none) -> ∀ b ∈ fp, FpOk (z4 X N' scope (yc X.env scope.names []) C s2 H2 fp) [(D, Ze us)] H' b := fun {H' us} hn b hb => by
   refine ⟨hn b hb, (below b (hfp b hb)).1, fun z => ?_, .inl hb, fun x c e => ?_, fun p hp => ?_⟩
   · rcases ak.mp (I.stkSub b z) with e | e
     · exact (f2 b hb).2.1 e
     · exact (f2 b hb).2.2.1 e
   · exact (f2 b hb).2.2.2.2.1 x c (Zd scope.names [] (fun z => by simp at z) e)
   · have e : p = (D, Ze us) := by
      have hp' : p ∈ ([] : List (Addr × Obj)) ++ [(D, Ze us)] := hp
      simpa using hp'
     subst e
     exact aS (below b (hfp b hb)).2
  refine zeM (fun n s' => ∃ i ys us σ' H', Inv (z4 X N' scope (yc X.env scope.names []) C s2 H2 fp) [(D, Ze us)] σ' H' s' /\ tn i s'.heap /\ (∀ b ∈ fp, H' b = none) /\ Vals ys us /\ W i n ys σ' H') ?_ m0
   ⟨0, [], [], blk js σ, H2, I0, st1, fun b hb => (f2 b hb).1, .nil, w0⟩
  rintro n s3 ⟨i, ys, us, σ3, H3, I3, st3, fr3, rv, w3⟩
  rcases turn i n ys σ3 H3 w3 with ⟨stop, hz, q⟩ | ⟨go, hz, N, hN, step⟩
  · refine zK (T.done (z4 X N' scope (yc X.env scope.names []) C s2 H2 fp) rfl rfl rfl hc i _ s3 σ3 H3 _ I3 (stat fr3) st3 stop) fun r s4 ⟨hr, I4⟩ => ?_
    subst hr
    obtain ⟨mC, hnC, _⟩ := I4.loc
    exact hR D C s4 H3 ys mC (zeN I f2 (by rw [hDD]; exact aC _) I4 aq rfl rv hz) hnC (by first | exact hCle | (rw [hDD]; exact hCle)) hDC (cfree I4) (I4.pin (D, Ze us) (aH _ aq)).2.1 q
  · refine zK (T.item (z4 X N' scope (yc X.env scope.names []) C s2 H2 fp) rfl rfl rfl hc i _ s3 σ3 H3 _ I3 (stat fr3) st3 go) fun r s4 ⟨u, hr, h4⟩ => ?_
    subst hr
    refine zK h4 fun _ s5 ⟨x, H5, I5, r5, y5, st5, fr5⟩ => ?_
    have I5' := I5.pinned (stat fr5) (T.obj _ _ st5)
    refine zK (hG _ s5 σ3 H5 x u _ I5' r5 (step x H5 y5)) fun _ s6 ⟨σ6, H6, I6, q6⟩ => ?_
    refine zK (hT _ s6 σ6 H6 _ I6 q6) fun ok s7 ⟨H7, I7, q7⟩ => ?_
    have again : ∀ {H8 : Hp} {s8 : Shared}, Inv (z4 X N' scope (yc X.env scope.names []) C s2 H2 fp) ([(D, Ze us)] ++ Y1 fp s5.heap) σ6 H8 s8 -> tn (i + 1) s8.heap /\ ∀ b ∈ fp, H8 b = none := fun {H8 s8} I8 =>
     ⟨T.keep _ _ _ st5 fun b hb o e => (I8.pin (b, o) (aH _ (aH _ (QW hb e)))).1, fun b hb => by
      obtain ⟨o, e, d⟩ := T.obj _ _ st5 b hb
      exact (I8.pin (b, o) (aH _ (aH _ (QW hb e)))).2.1⟩
    cases ok with
    | false =>
     have q7' : N ys σ6 H7 := by simpa using q7
     obtain ⟨m', hm, w7⟩ := hN _ _ _ q7'
     obtain ⟨t7, fr7⟩ := again I7
     exact ⟨m', hm, i + 1, ys, us, σ6, H7, I7.unpinned, t7, fr7, rv, w7⟩
    | true =>
     have q7' : te σ6 H7 fun y H4 => N (ys ++ [y]) σ6 H4 := by simpa using q7
     refine zK (hE _ s7 σ6 H7 _ I7 q7') fun z s8 ⟨y, H8, I8, r8, q8⟩ => ?_
     obtain ⟨t8, fr8⟩ := again I8
     obtain ⟨eD, nD, neL, nf, _⟩ := I8.pin (D, Ze us) (aH _ (bn _ aq))
     have hul : us.length < az := by rw [← rv.length]; exact hz
     refine append_at (hsz := by show us.toArray.size <= az; rw [ah]; exact dZ hul) eD fun h₉ hs₉ hD₉ => ?_
     obtain ⟨m', hm, w8⟩ := hN _ _ _ q8
     have I8' : Inv (z4 X N' scope (yc X.env scope.names []) C s2 H2 fp) [] σ6 H8 s8 := I8.pins_of fun p hp => (nomatch hp)
     have I9 : Inv (z4 X N' scope (yc X.env scope.names []) C s2 H2 fp) [] σ6 H8 { s8 with heap := h₉ } := I8'.turned (t' := s8.toks) (it := D) (fun b o hb e => (hs₉.2 b hb).trans e) nD neL (.inr (by show s2.heap.objs.size <= D; rw [hDD]; exact aC _)) (fun x c e z => by
      have e' : (yc X.env scope.names []).lookup x = some c := e
      obtain ⟨v, q⟩ := I.cell x c (Zd scope.names [] (fun z => by simp at z) e')
      have l := q.lt
      rw [hDD, z] at l; exact bR _ l) (fun p hp => (nomatch hp))
     have eq9 : h₉.get? D = some (Ze (us ++ [z])) := hD₉.trans (congrArg some (by
      show ({ cls := .type "list", data := .seq (us.toArray.push z) (us.length + 1) } : Obj) = { cls := .type "list", data := .seq (us ++ [z]).toArray (us ++ [z]).length }
      rw [aI, aW, List.push_toArray]))
     refine ⟨m', hm, i + 1, ys ++ [y], us ++ [z], σ6, H8, I9.pins_of fun p hp => ?_, T.keep _ _ _ t8 fun b hb o e => (hs₉.2 b ((below b (hfp b hb)).2)).trans e, fr8, rv.append (.cons r8 .nil), w8⟩
     have e : p = (D, Ze (us ++ [z])) := by simpa using hp
     subst e
     exact ⟨eq9, nD, neL, nf, fun v z => by cases z⟩
 exact codeAny_compStart_list (loop _ rfl) (T.self X.A 0 _ _ _ st1 (loop _ rfl))
end
section
variable {X : Cx} {N' : List Str} {js : List (Option Nat)} {scope : Scope} {tg elt iter : Expr} {ifs : List Expr} {pos : Pos} {wi : TI} {g : TG} {tc : TT} {te : TE}
def PB (X : Cx) (N' : List Str) (scope : Scope) (tg : Expr) (ifs : List Expr) (elt : Expr) (g : TG) (tc : TT) (te : TE) : Prop :=
 ∀ s2 H2 fp C cl, PG (z4 X N' scope cl C s2 H2 fp) tg g /\ PTs (z4 X N' scope cl C s2 H2 fp) ifs tc /\ PE (z4 X N' scope cl C s2 H2 fp) elt te
theorem zh7 (hc : X.calm = true) (K : CompOk X N' js scope) (hi : PI X tg iter wi) (hb : PB X N' scope tg ifs elt g tc te) (hs : ∀ x, bE iter X.env x = pure x := by intro _; rfl) :
 PE X (.ListComp elt [⟨tg, iter, ifs, 0⟩] scope pos) (zdv wi js g tc te) := by
 intro pins s σ H Q I h
 rw [eval_ListComp]
 refine wpAny_comprehension_free (use := none) rfl hs (zcg (K.clos I)) K.kind K.names (zK (hi pins s σ H _ I h) fun v s1 h1 => zK h1 fun itv s2 h2 => ?_)
 obtain ⟨it, fp, tn, J, H2, e, I2, T, st2, f2, hw⟩ := h2
 subst e
 refine W4 hc K I2 T st2 f2 (fun C cl => hb s2 H2 fp C cl) hw fun D C s4 H4 ys m I4 hn hC hDC nC nD q => ?_
 have nC' : zA H4 D (.lst ys) C = none := by rw [zp (aS hDC)]; exact nC
 obtain ⟨f0, f1, f2', f3, f4, f5⟩ := I2.fpOk (H' := zA H4 D (.lst ys)) hC nC'
 refine ⟨m, hn, fun h' hs' => ⟨.ref D, _, I4.turned (t' := s4.toks) (it := C) (fun b o hb e => (hs'.2 b hb).trans e) nC' f1 f3 f4 f5, rfl, q D nD⟩⟩
theorem zci {py spos : Pos} (hc : X.calm = true) (hN : X.N.Nodup) (hi' : X.N[i]? = some y) (hy : X.env.scope.names.lookup y = some .local) (K : CompOk X N' js scope) (hi : PI X tg iter wi) (hb : PB X N' scope tg ifs elt g tc te)
 (hsw : cW (.ListComp elt [⟨tg, iter, ifs, 0⟩] scope pos) (some (.Name y py)) spos.line X.env = pure true) (hs : ∀ x, bE iter X.env x = pure x := by intro _; rfl) :
 PS X (.Assign [.Name y py] (.ListComp elt [⟨tg, iter, ifs, 0⟩] scope pos) spos) (Wn (zdv wi js g tc te) (Up i)) := by
 intro pins s σ H Dn I h
 rw [exec_Assign_Name_used _ _ _ _ hsw]
 refine ac (fc (ac ?_))
 show wpAny _ _ (do let _ ← comprehension (.ListComp elt [⟨tg, iter, ifs, 0⟩] scope pos) scope X.env _ (newList []) false (eval iter X.env) (some (assign (.Name y py) X.env))) _ _ s
 refine ac (ce (wpAny_comprehension_free (use := some (assign (.Name y py) X.env)) (Q := fun _ s' => SP X pins Dn .next s') rfl hs (zcg (K.clos I)) K.kind K.names
  (zK (hi pins s σ H _ I h) fun v s1 h1 => zK h1 fun itv s2 h2 => ?_)) (fun _ s' hq => ao (ao hq)) fun _ _ e => e)
 obtain ⟨it, fp, tn, J, H2, e, I2, T, st2, f2, hw⟩ := h2
 subst e
 refine W4 hc K I2 T st2 f2 (fun C cl => hb s2 H2 fp C cl) hw fun D C s4 H4 ys m I4 hn hC hDC nC nD q => ?_
 have nC' : zA H4 D (.lst ys) C = none := by rw [zp (aS hDC)]; exact nC
 obtain ⟨f0, f1, f2', f3, f4, f5⟩ := I2.fpOk (H' := zA H4 D (.lst ys)) hC nC'
 show wpAny _ _ (assign (.Name y py) X.env (.ref D)) _ _ _
 refine wpAny_assign_Name (WW (v := .ref D) I4 hN hi' (.inl hy) rfl (fun s5 I5 ⟨a, sb, ha⟩ => ?_) (.inr hy))
 have nCa : C ≠ a := by
  rcases ha with e | e
  · rw [e]; exact f1
  · exact fun z => f4 y a e z.symm
 exact ⟨m, hn.sameBut sb nCa, fun h' hs' => ⟨_, _, I5.turned (t' := s5.toks) (it := C) (fun b o hb e => (hs'.2 b hb).trans e) nC' f1 f3 f4 f5, q D nD⟩⟩
end
section
variable {g : TG} {tc : TT} {te : TE} {σ : St} {H : Hp} {Q : List V -> Hp -> Prop}
end
section
variable {X : Cx}
theorem Zy : yr X (aT .LtE) (fun x y H Q => ∃ i j, x = .str i /\ y = .str j /\ Q (.bl (!(decide (j.cps.toList < i.cps.toList)))) H) := by
 intro pins s σ H x y v u Q I rx ry h
 obtain ⟨i, j, rfl, rfl, q⟩ := h
 obtain ⟨t, rfl⟩ := rx
 obtain ⟨t', rfl⟩ := ry
 exact PySem.P.le_str (zD I q rfl)
theorem Vals.texts : ∀ {ys : List Str} {us : List Value}, Vals (ys.map V.str) us -> StrsAre us ys
 | [], _, r => by cases r; exact .nil
 | y :: ys, _, r => by
  cases r with
  | cons r1 r2 =>
   obtain ⟨t, rfl⟩ := r1
   exact .cons y t (Vals.texts r2)
def zlz (K : ae) : V -> List V -> Hp -> VK -> Prop := fun x vs H Q => ∃ z a ys, x = .str z /\ vs = [.ref a] /\ yl K H a (ys.map V.str) /\ (ys.map (·.length)).sum + ys.length * z.length <= 16777216 /\ Q (.str (aN z ys)) H
theorem zh8 : MtR X "str.join" (zlz X.K) := by
 intro pins s σ H x vs v us Q I rx rv h
 obtain ⟨z, a, ys, rfl, rfl, hq, hz, q⟩ := h
 obtain ⟨t, rfl⟩ := rx
 obtain ⟨u, rfl, ru⟩ := rv.one
 cases ru
 obtain ⟨its, r, pl, _⟩ := I.list hq
 exact join_list pl.isList (by simpa using Vals.texts r) hz fun t' k => ⟨.str _, H, I.tok k, ⟨t', rfl⟩, q⟩
def Its (x : Str) : It := ⟨fun i _ => i < x.cps.size, fun i H v H' => H' = H /\ ∃ c, x.cps[i]? = some c /\ v = .str ⟨#[c]⟩, fun i _ => i = x.cps.size⟩
theorem zf2 {P : Program} {w : World} {K : ae} {tg : Expr} (it : Addr) (x : Str) (t : Tok) (T : String) (hT : T = "str_ascii_iterator" \/ T = "str_iterator") : Y0 P w K tg (Its x) [it] it (fun i h => h.IsStrIter it T x t i) where
 mem := by simp
 obj := fun i h st b hb => by
  have e : b = it := by simpa using hb
  subst e
  obtain ⟨o, e, c, d⟩ := st
  exact ⟨o, e, fun v z => by rw [d] at z; cases z⟩
 keep := fun i h h' st k => by obtain ⟨o, e, r⟩ := st; exact ⟨o, k it (by simp) o e, r⟩
 item := by
  intro X hP hw hK hc i pins s σ H E I hf st hg
  subst hP hw hK
  obtain ⟨f0, f1, f2, f3, f4, f5⟩ := hf it (by simp)
  have fin : ∀ v h' tk, SignAt x i v -> h'.IsStrIter it T x t (i + 1) -> (∀ b o, b ∉ [it] -> s.heap.get? b = some o -> h'.get? b = some o) -> ∃ u, some v = some u /\
   wpAny (model X.prog X.w) X.A (cE tg (.ref it) u) (fun _ s2 => ∃ y H', Inv X pins σ H' s2 /\ RelV y u /\ (Its x).yld i H y H' /\ s2.heap.IsStrIter it T x t (i + 1) /\ ∀ b ∈ [it], H' b = none) E { s with heap := h', toks := tk } := by
   intro v h' tk hv st' kk
   obtain ⟨c, u, hcu, rfl⟩ := hv
   have I1 : Inv X pins σ H { s with heap := h', toks := tk } := I.turned (fun b o hb e => kk b o (by simpa using hb) e) f0 f1 f3 f4 f5
   obtain ⟨o, e, cc, d⟩ := id st'
   refine ⟨_, rfl, RH (s := { s with heap := h', toks := tk }) e cc d ?_ ⟨.str ⟨#[c]⟩, H, I1, ⟨u, rfl⟩, ⟨rfl, c, hcu, rfl⟩, st', fun b hb => (hf b hb).1⟩⟩
   rcases hT with rfl | rfl <;> decide
  rcases hT with rfl | rfl
  · exact (gx (prog := X.prog) (w := X.w) (I.ok.hd hc) it x t).item i s _ _ hg st fin
  · exact (gI (prog := X.prog) (w := X.w) (I.ok.hd hc) it x t).item i s _ _ hg st fin
 done := by
  intro X hP hw hK hc i pins s σ H E I hf st hg
  subst hP hw hK
  obtain ⟨f0, f1, f2, f3, f4, f5⟩ := hf it (by simp)
  have hg' : i = x.cps.size := hg
  subst hg'
  have fin : ∀ (h' : Heap) (tk : Nat), (∀ b o, b ∉ [it] -> s.heap.get? b = some o -> h'.get? b = some o) -> (none : Option Value) = none /\ Inv X pins σ H { s with heap := h', toks := tk } := fun h' tk kk =>
   ⟨rfl, I.turned (fun b o hb e => kk b o (by simpa using hb) e) f0 f1 f3 f4 f5⟩
  rcases hT with rfl | rfl
  · exact (gx (prog := X.prog) (w := X.w) (I.ok.hd hc) it x t).done s _ _ st fin
  · exact (gI (prog := X.prog) (w := X.w) (I.ok.hd hc) it x t).done s _ _ st fin
 self := fun A i s Q E st h => by
  rcases hT with rfl | rfl
  · exact wpAny_pyIter_striter_ascii st h
  · exact wpAny_pyIter_striter_wide st h
def zj5 (tl : TE) : TI := fun σ H R => tl σ H fun x H1 => ∃ z, x = .str z /\ R (Its z) H1
theorem zj6 (hl : PE X l tl) : PI X tg l (zj5 tl) := by
 intro pins s σ H R I h
 refine zK (hl pins s σ H _ I h) fun v s1 ⟨x, H1, I1, r1, q1⟩ => ?_
 obtain ⟨z, e, q⟩ := q1
 subst e
 obtain ⟨t, rfl⟩ := r1
 have fin : ∀ (o : Obj) (T : String), T = "str_ascii_iterator" \/ T = "str_iterator" -> o.cls = .type T -> o.data = .fields #[.str z t, .int 0 0] -> PIE X pins σ tg R (.ref s1.heap.objs.size) { s1 with heap := s1.heap.push o } := fun o T hT hc hd => by
  refine ⟨s1.heap.objs.size, [s1.heap.objs.size], _, _, H1, rfl, I1.kept (t' := s1.toks) fun b o e => am _ e, zf2 _ z t T hT, ⟨o, aE _ (by obtain ⟨c0, d0, dt0, sl0⟩ := o; cases hd; rfl), hc, hd⟩, fun b hb => ?_, q⟩
  have e : b = s1.heap.objs.size := by simpa using hb
  subst e
  exact I1.fpOk (aC _) (I1.hok.fresh (aC _))
 cases ha : z.cps.all (· < 128)
 · exact wpAny_pyIter_wide ha (fin _ "str_iterator" (.inr rfl) rfl rfl)
 · exact wpAny_pyIter_ascii ha (fin _ "str_ascii_iterator" (.inl rfl) rfl rfl)
theorem zf3 (hc : X.calm = true) : je X (.builtin "all") (fun xs H Q => ∃ (a : Addr) (bs : List Bool), xs = [.ref a] /\ yl X.K H a (bs.map V.bl) /\ Q (.bl (bs.all id)) H) := by
 intro pins s σ H xs us Q I rv h
 obtain ⟨a, bs, rfl, hq, q⟩ := h
 obtain ⟨u, rfl, ru⟩ := rv.one
 cases ru
 obtain ⟨its, r, pl, hz⟩ := I.list hq
 have hlt : a < s.heap.objs.size := by obtain ⟨o, n, e, _⟩ := pl; exact ai e
 refine call_all_walk (dN pl.isList ⟨_, _, _, _, _, _, fun i => bs.getD i true, rfl, g9 (by simpa using I.ok.hd hc) s.heap.objs.size a (aM hlt) its.toArray, ⟨⟨_, aE _ rfl, rfl, rfl⟩, pl.isList.push _⟩, ?_, ?_⟩)
 · intro i v s' Q' E' hP hQ
   have hv : its[i]? = some v := by simpa using hP
   have hi : i < its.length := (ay.mp hv).1
   have hl := r.length
   rw [aA] at hl
   obtain ⟨u, hu, ru⟩ := r.get (i := i) (x := .bl (bs.getD i true)) (by
    rw [ar, ab (by omega), aJ, ab (by omega)]; rfl)
   rw [hv] at hu; cases hu; cases ru
   exact aV hQ
 · intro h' tk kk
   have hl := r.length
   rw [aA] at hl
   have e : (cg its.toArray.size).all (fun i => bs.getD i true) = bs.all id := by
    rw [ah, ← hl]
    rw [cA, aP, aP]
    constructor
    · intro z b hb
      obtain ⟨i, hi, e⟩ := List.mem_iff_getElem.mp hb
      have z' := z i (bZ.mpr hi)
      rw [aJ, ab hi, e] at z'
      exact z'
    · intro z i hi
      have hi' := bZ.mp hi
      rw [aJ, ab hi']
      exact z _ (fQ hi')
   have I1 : Inv X pins σ H { s with heap := h', toks := tk } := I.kept fun b o e => kk b o (by simp only [cH]; exact aM (ai e)) (am _ e)
   refine ⟨.bl (bs.all id), H, I1, ?_, q⟩
   rw [e]; rfl
end
section
variable {prog : Program} {w : World} {A : Around} {R : Result -> Shared -> Prop}
end
section
variable {prog : Program} {w : World} {A : Around} {E : Value -> Shared -> Prop} {s : Shared}
end
section
variable {X : Cx}
def zhe (a : Addr) : HO := .ext fun h => ∃ o, h.get? a = some o /\ o.cls = .type "dict"
inductive Vx (K : ae) (H : Hp) : V -> Value -> Prop where
 | of {x : V} {t : Value} (h : J6 K H x t) : Vx K H x t
 | dict {a : Addr} (e : H a = some (zhe a)) : Vx K H (.ref a) (.type "dict")
theorem zaz : je X (.builtin "isinstance") (fun xs H Q => ∃ x t c b, xs = [x, .ty c] /\ Vx X.K H x t /\ dn X.K t (.type c) = some b /\ Q (.bl b) H) := by
 intro pins s σ H xs us Q I rv h
 obtain ⟨x, t, c, b, rfl, ht, hk, q⟩ := h
 obtain ⟨u, u', rfl, ru, ru'⟩ := rv.two
 cases ru'
 cases ht with
 | of ht => exact zeE I ru ht hk fun tk => ⟨.bl b, H, I.tok tk, rfl, q⟩
 | @dict a e =>
  cases (show u = Value.ref a from ru)
  obtain ⟨⟨o, ho, hc⟩, _, _⟩ := (show ObjOk X.prog X.w H s.heap a (zhe a) from I.hok a _ e)
  exact aY dJ I.kIn ⟨o, ho, hc⟩ hk (fun z => nomatch z) fun tk => ⟨.bl b, H, I.tok tk, rfl, q⟩
end
def zcj (names outer : List (Str × NameKind)) (N' N : List Str) (js : List (Option Nat)) : Bool :=
 names.all (fun y => decide (y.2 ≠ .cell) && (decide (y.2 ≠ .local) || decide (names.lookup y.1 = some .local)) && (decide (y.2 ≠ .free) || (decide (outer.lookup y.1 = some .cell) || decide (outer.lookup y.1 = some .free))))
 && decide (js.length = N'.length) && (js.zip N').all fun p => match p.1 with | none => true | some j => decide (N[j]? = some p.2) && decide (names.lookup p.2 = some .free)
theorem CompOk.of_b {X : Cx} {scope : Scope} (hk : scope.kind = .function) (h : zcj scope.names X.env.scope.names N' X.N js = true) : CompOk X N' js scope := by
 unfold zcj at h
 simp only [aD, aP, Bool.or_eq_true, decide_eq_true_eq] at h
 obtain ⟨⟨h1, h2⟩, h3⟩ := h
 refine ⟨hk, fun y hy => (h1 y hy).1.1, fun y hy e => (h1 y hy).1.2.elim (fun z => absurd e z) id, fun y hy e => (h1 y hy).2.elim (fun z => absurd e z) id, h2, fun i j x e1 e2 => ?_⟩
 have hm : (some j, x) ∈ js.zip N' := by
  refine eG.mpr ⟨i, ?_⟩
  rw [bN]
  exact ⟨e1, e2⟩
 have q := h3 _ hm
 simp only [aD, decide_eq_true_eq] at q
 exact q
def Has (P : Program) (w : World) (K : ae) (mg : Str -> Option Value) (base : Heap) (x : Str) (k : Nat) (ps : List Str) (sp : Sp) : Prop :=
 ∃ f fd, FnOk P w K mg base yR k f fd ps sp /\ Binds K fd ps [] /\ cO K (.ref f) = true /\ mg x = some (.ref f)
section
variable {X : Cx} {x : Str} {k : Nat} {ps : List Str} {sp : Sp} {p pos : Pos} {e : Expr} {es : List Expr} {t : TA}
theorem Yl (h : Has X.prog X.w X.K X.mg X.base x k ps sp) (hr : Room k X.A) (hg : Gl X x) (ha : PA X (e :: es) t) (hd : (x == ("__debug__" : Str)) = false := by decide)
 (hs : aj (e :: es) X.env = (false, eval e X.env) :: aj es X.env := by rfl) (hp : (backTo pos (aj es X.env)).any (·.1) = false := by rfl) :
 PE X (.Call (.Name x p) (e :: es) [] pos) (Ur sp [] E0 t) := by
 obtain ⟨f, fd, G, b, kp, m⟩ := h
 exact zh0 G hr hg m kp b .nil zlx ha hd hs hp
end
def QD : List Expr -> Option (List Str)
 | [] => some []
 | .Constant (.str x) _ _ :: r => (QD r).map (x :: ·)
 | _ => none
def zhf (ss : List Str) : TA := fun _ H Q => Q (ss.map V.str) H
theorem zck : ∀ {es : List Expr} {ss : List Str}, QD es = some ss -> PA X es (zhf ss)
 | [], ss, h => by
  cases h
  intro pos pins s σ H Q I hq
  exact Jp pos pins s σ H Q I hq
 | e :: es, ss, h => by
  cases e with
  | Constant c j p =>
   cases c with
   | str x =>
    have h' : (QD es).map (x :: ·) = some ss := h
    cases hr : QD es with
    | none => rw [hr] at h'; cases h'
    | some r =>
     rw [hr] at h'
     cases h'
     exact fun pos pins s σ H Q I hq => jh zak (zck hr) rfl pos pins s σ H Q I hq
   | _ => exact nomatch h
  | _ => exact nomatch h
section
variable {X : Cx} {N' : List Str} {js : List (Option Nat)} {scope : Scope} {tg elt iter : Expr} {ifs : List Expr} {pos : Pos} {wi : TI} {g : TG} {tc : TT} {te : TE}
end
section
variable {prog : Program} {w : World} {A : Around} {E : Value -> Shared -> Prop}
end
section
variable {X : Cx}
end
section
variable {X : Cx} {pins : List (Addr × Obj)} {σ : St} {H : Hp} {s : Shared}
end
section
variable {P : Program} {w : World} {K : ae} {mg : Str -> Option Value} {base : Heap} {N : List Str} {qual : Str} {scope : Scope} {f : Addr} {cd : Value} {A : Around} {outer : List Env} {s₀ : Shared} {H₀ : Hp} {E E₀ : XK}
end
def zmC (e : Addr) (cls : Value) (h : Heap) : Prop := ∃ oe vs, h.get? e = some oe /\ oe.cls = cls /\ oe.data = .fields vs
section
variable {X : Cx} {pins : List (Addr × Obj)} {σ : St} {H : Hp} {s : Shared}
end
section
variable {X : Cx} {CX : ZX} {k : Nat} {f C : Addr} {fd : FuncData} {ps : List Str} {sp : Sp} {dvs : List V} {ds : List Value} {E : St -> XK} {x m : Str} {p pos apos : Pos} {e o : Expr} {es : List Expr} {ta : TE} {t : TA}
end
section
variable {X : Cx}
end
inductive DQ (H : Hp) : Nat -> V -> V -> Bool -> Prop where
 | fl {n : Nat} {x y : V} (fx : Je x = true) (fy : Je y = true) : DQ H n x y (JH x y)
 | ll {n : Nat} {a b : Addr} {xs ys : List V} (e : Nat -> Bool) (ha : H a = some (.lst xs)) (hb : H b = some (.lst ys)) (hl : xs.length = ys.length) (h : ∀ (j : Nat) x y, xs[j]? = some x -> ys[j]? = some y -> DQ H n x y (e j)) : DQ H (n + 1) (.ref a) (.ref b) ((cg xs.length).all e)
 | ln {n : Nat} {a b : Addr} {xs ys : List V} (ha : H a = some (.lst xs)) (hb : H b = some (.lst ys)) (hl : xs.length ≠ ys.length) : DQ H (n + 1) (.ref a) (.ref b) false
 | tt {n : Nat} {a b : Addr} {xs ys : List V} (e : Nat -> Bool) (ha : H a = some (.tup xs)) (hb : H b = some (.tup ys)) (h : ∀ (j : Nat) x y, xs[j]? = some x -> ys[j]? = some y -> DQ H n x y (e j)) : DQ H (n + 1) (.ref a) (.ref b) ((cg (min xs.length ys.length)).all e && xs.length == ys.length)
 | lt {n : Nat} {a b : Addr} {xs ys : List V} (ha : H a = some (.lst xs)) (hb : H b = some (.tup ys)) : DQ H (n + 1) (.ref a) (.ref b) false
 | tl {n : Nat} {a b : Addr} {xs ys : List V} (ha : H a = some (.tup xs)) (hb : H b = some (.lst ys)) : DQ H (n + 1) (.ref a) (.ref b) false
theorem eqV_self (h : Je x = true) : JH x x = true := by
 cases x with
 | non => rfl
 | bl b => simp [JH]
 | int b => simp [JH]
 | str b => simp [JH]
 | _ => cases h
theorem zcl (h : DQ H n x y b) : x = y -> b = true := by
 induction h with
 | fl fx fy => intro e; subst e; exact eqV_self fx
 | ll e ha hb hl h ih =>
  intro z; cases z
  rw [ha] at hb; cases hb
  rw [aP]
  intro j hj
  have hj := bZ.mp hj
  exact ih j _ _ (ab hj) (ab hj) rfl
 | ln ha hb hl => intro z; cases z; rw [ha] at hb; cases hb; exact absurd rfl hl
 | tt e ha hb h ih =>
  intro z; cases z
  rw [ha] at hb; cases hb
  rw [gS, aD]
  refine ⟨?_, by simp⟩
  rw [aP]
  intro j hj
  have hj := bZ.mp hj
  exact ih j _ _ (ab hj) (ab hj) rfl
 | lt ha hb => intro z; cases z; rw [ha] at hb; cases hb
 | tl ha hb => intro z; cases z; rw [ha] at hb; cases hb
section
variable {X : Cx} {pins : List (Addr × Obj)} {σ : St} {H : Hp} {s : Shared}
theorem J8 {us ws : List Value} {e : Nat -> Bool} (rx : Vals xs us) (ry : Vals ys ws) (h : ∀ (j : Nat) x y u v, xs[j]? = some x -> ys[j]? = some y -> RelV x u -> RelV y v -> cU A s u v (e j)) (j : Nat) (h1 : j < us.toArray.size) (h2 : j < ws.toArray.size) :
 cU A s us.toArray[j] ws.toArray[j] (e j) := by
 have l1 : j < us.length := by simpa using h1
 have l2 : j < ws.length := by simpa using h2
 have e1 := rx.length
 have e2 := ry.length
 obtain ⟨u, hu, ru⟩ := rx.get (i := j) (x := xs[j]'(by omega)) (ab _)
 obtain ⟨v, hv, rv⟩ := ry.get (i := j) (x := ys[j]'(by omega)) (ab _)
 have q1 : us.toArray[j] = u := by
  have : us[j]? = some us[j] := ab l1
  rw [hu] at this; cases this; simp
 have q2 : ws.toArray[j] = v := by
  have : ws[j]? = some ws[j] := ab l2
  rw [hv] at this; cases this; simp
 rw [q1, q2]
 exact h j _ _ u v (ab (by omega)) (ab (by omega)) ru rv
theorem RI (I : Inv X pins σ H s) (h : DQ H n x y b) : ∀ (A : Around) (u v : Value), A.units + n < cLine -> RelV x u -> RelV y v -> cU A s u v b := by
 induction h with
 | fl fx fy => intro A u v _ ru rv; exact zav ru rv fx fy
 | @ll n a c xs ys e ha hb hl h ih =>
  intro A u v hu ru rv
  have self := zcl (DQ.ll e ha hb hl h)
  cases ru; cases rv
  by_cases z : a = c
  · subst z
    rw [self rfl]; exact ez _
  · obtain ⟨us, ra, pa, za⟩ := I.list (.inl (.inl ha))
    obtain ⟨ws, rb, pb, zb⟩ := I.list (.inl (.inl hb))
    have e1 := ra.length
    have e2 := rb.length
    have := fR (A := A) pa.isList pb.isList (by simp; omega) (by omega) (J8 ra rb fun j x y u v h1 h2 r1 r2 => ih j x y h1 h2 A.in1 u v (by rw [bX]; omega) r1 r2)
    rw [ah, ← e1] at this
    exact du z this
 | @ln n a c xs ys ha hb hl =>
  intro A u v hu ru rv
  cases ru; cases rv
  have z : a ≠ c := fun z => by subst z; rw [ha] at hb; cases hb; exact hl rfl
  obtain ⟨us, ra, pa, za⟩ := I.list (.inl (.inl ha))
  obtain ⟨ws, rb, pb, zb⟩ := I.list (.inl (.inl hb))
  have e1 := ra.length
  have e2 := rb.length
  exact du z (dR pa.isList pb.isList (by simp; omega) (by omega))
 | @tt n a c xs ys e ha hb h ih =>
  intro A u v hu ru rv
  have self := zcl (DQ.tt e ha hb h)
  cases ru; cases rv
  by_cases z : a = c
  · subst z
    rw [self rfl]; exact ez _
  · obtain ⟨us, ra, pa, za⟩ := I.tuple (.inl (.inl ha))
    obtain ⟨ws, rb, pb, zb⟩ := I.tuple (.inl (.inl hb))
    have e1 := ra.length
    have e2 := rb.length
    have := fE (A := A) pa pb (by omega) (J8 ra rb fun j x y u v h1 h2 r1 r2 => ih j x y h1 h2 A.in1 u v (by rw [bX]; omega) r1 r2)
    rw [ah, ah, ← e1, ← e2] at this
    exact du z this
 | @lt n a c xs ys ha hb =>
  intro A u v hu ru rv
  cases ru; cases rv
  obtain ⟨us, ra, pa, za⟩ := I.list (.inl (.inl ha))
  obtain ⟨ws, rb, pb, zb⟩ := I.tuple (.inl (.inl hb))
  exact cU.list_tuple pa.isList pb (by omega)
 | @tl n a c xs ys ha hb =>
  intro A u v hu ru rv
  cases ru; cases rv
  obtain ⟨us, ra, pa, za⟩ := I.tuple (.inl (.inl ha))
  obtain ⟨ws, rb, pb, zb⟩ := I.list (.inl (.inl hb))
  exact cU.tuple_list pa pb.isList (by omega)
def zdw : V -> Bool | .ref _ => true | _ => false
def zf4 (neg : Bool) : R2 := fun x y H Q => ∃ b, DQ H 40 x y b /\ zdw x = true /\ zdw y = true /\ Q (.bl (if neg then !b else b)) H
theorem zj7 (hu : X.A.units + 41 < cLine) : yr X (aT .Eq) (zf4 false) := by
 intro pins s σ H x y v u Q I rx ry h
 obtain ⟨b, hd, i1, i2, q⟩ := h
 cases hd with
 | fl fx fy =>
  cases x with
  | ref a => cases fx
  | _ => cases i1
 | @ll n a c xs ys e ha hb hl h =>
  cases rx; cases ry
  obtain ⟨us, ra, pa, za⟩ := I.list (.inl (.inl ha))
  obtain ⟨ws, rb, pb, zb⟩ := I.list (.inl (.inl hb))
  have e1 := ra.length
  have e2 := rb.length
  have := fR (A := X.A) pa.isList pb.isList (by simp; omega) (by omega) (J8 ra rb fun j x y u v h1 h2 r1 r2 => RI I (h j x y h1 h2) X.A.in1 u v (by rw [bX]; omega) r1 r2)
  exact this X.prog X.w X.xe _ (zD I q (by rw [ah, ← e1]; rfl))
 | @ln n a c xs ys ha hb hl =>
  cases rx; cases ry
  obtain ⟨us, ra, pa, za⟩ := I.list (.inl (.inl ha))
  obtain ⟨ws, rb, pb, zb⟩ := I.list (.inl (.inl hb))
  have e1 := ra.length
  have e2 := rb.length
  exact dR pa.isList pb.isList (by simp; omega) (by omega) X.prog X.w X.xe _ (zD I q rfl)
 | @tt n a c xs ys e ha hb h =>
  cases rx; cases ry
  obtain ⟨us, ra, pa, za⟩ := I.tuple (.inl (.inl ha))
  obtain ⟨ws, rb, pb, zb⟩ := I.tuple (.inl (.inl hb))
  have e1 := ra.length
  have e2 := rb.length
  have := fE (A := X.A) pa pb (by omega) (J8 ra rb fun j x y u v h1 h2 r1 r2 => RI I (h j x y h1 h2) X.A.in1 u v (by rw [bX]; omega) r1 r2)
  exact this X.prog X.w X.xe _ (zD I q (by rw [ah, ah, ← e1, ← e2]; rfl))
 | @lt n a c xs ys ha hb =>
  cases rx; cases ry
  obtain ⟨us, ra, pa, za⟩ := I.list (.inl (.inl ha))
  obtain ⟨ws, rb, pb, zb⟩ := I.tuple (.inl (.inl hb))
  exact SeqAt.RcAt.list_tuple pa.isList pb (by omega) X.prog X.w X.xe _ (zD I q rfl)
 | @tl n a c xs ys ha hb =>
  cases rx; cases ry
  obtain ⟨us, ra, pa, za⟩ := I.tuple (.inl (.inl ha))
  obtain ⟨ws, rb, pb, zb⟩ := I.list (.inl (.inl hb))
  exact SeqAt.RcAt.tuple_list pa pb.isList (by omega) X.prog X.w X.xe _ (zD I q rfl)
theorem zaA (hu : X.A.units + 41 < cLine) : yr X (aT .NotEq) (zf4 true) := by
 intro pins s σ H x y v u Q I rx ry h
 obtain ⟨b, hd, i1, i2, q⟩ := h
 cases hd with
 | fl fx fy =>
  cases x with
  | ref a => cases fx
  | _ => cases i1
 | @ll n a c xs ys e ha hb hl h =>
  cases rx; cases ry
  obtain ⟨us, ra, pa, za⟩ := I.list (.inl (.inl ha))
  obtain ⟨ws, rb, pb, zb⟩ := I.list (.inl (.inl hb))
  have e1 := ra.length
  have e2 := rb.length
  have := SeqAt.RcNeAt.lists (A := X.A) pa.isList pb.isList (by simp; omega) (by omega) (J8 ra rb fun j x y u v h1 h2 r1 r2 => RI I (h j x y h1 h2) X.A.in1 u v (by rw [bX]; omega) r1 r2)
  exact this X.prog X.w X.xe _ (zD I q (by rw [ah, ← e1]; rfl))
 | @ln n a c xs ys ha hb hl =>
  cases rx; cases ry
  obtain ⟨us, ra, pa, za⟩ := I.list (.inl (.inl ha))
  obtain ⟨ws, rb, pb, zb⟩ := I.list (.inl (.inl hb))
  have e1 := ra.length
  have e2 := rb.length
  exact SeqAt.RcNeAt.lists_lengths pa.isList pb.isList (by simp; omega) (by omega) X.prog X.w X.xe _ (zD I q rfl)
 | @tt n a c xs ys e ha hb h =>
  cases rx; cases ry
  obtain ⟨us, ra, pa, za⟩ := I.tuple (.inl (.inl ha))
  obtain ⟨ws, rb, pb, zb⟩ := I.tuple (.inl (.inl hb))
  have e1 := ra.length
  have e2 := rb.length
  have := SeqAt.RcNeAt.tuples (A := X.A) pa pb (by omega) (J8 ra rb fun j x y u v h1 h2 r1 r2 => RI I (h j x y h1 h2) X.A.in1 u v (by rw [bX]; omega) r1 r2)
  exact this X.prog X.w X.xe _ (zD I q (by rw [ah, ah, ← e1, ← e2]; rfl))
 | @lt n a c xs ys ha hb =>
  cases rx; cases ry
  obtain ⟨us, ra, pa, za⟩ := I.list (.inl (.inl ha))
  obtain ⟨ws, rb, pb, zb⟩ := I.tuple (.inl (.inl hb))
  exact SeqAt.RcNeAt.list_tuple pa.isList pb (by omega) X.prog X.w X.xe _ (zD I q rfl)
 | @tl n a c xs ys ha hb =>
  cases rx; cases ry
  obtain ⟨us, ra, pa, za⟩ := I.tuple (.inl (.inl ha))
  obtain ⟨ws, rb, pb, zb⟩ := I.list (.inl (.inl hb))
  exact SeqAt.RcNeAt.tuple_list pa pb.isList (by omega) X.prog X.w X.xe _ (zD I q rfl)
end
end L2
namespace M
open PySem L2
inductive D where
 | non | bl (b : Bool) | int (i : Int) | str (x : Str) | ty (n : String)
 | lst (xs : List D) | tup (xs : List D) | fz (ns : List Int)
 | dK (kvs : List (jB × D)) | dT (kvs : List (List jB × D))
 | obj (c : Nat) (fs : List (Nat × D))
 | exc (k : Nat)
 | kt (xs : List Str)
 | kd (kvs : List (Str × List Str))
inductive Slot where
 | no | val (d : D) | own (o : D)
abbrev Env := List Slot
def fNames : List Str := ["many", "names", "least", "pairs", "each", "houses", "wishes", "one", "other", "name", "ask", "value", "stamp", "seal", "at"]
def fnm (n : Nat) : Str := fNames.getD n ""
structure Cn where
 K : ae
 cls : Nat -> Option Addr
def KnL (K : ae) (a : Addr) (xs : List V) : Prop :=
 ∃ (o : Obj) (its : Array Value) (n : Nat), K.lookup a = some o /\ o.cls = .type "list" /\ o.dict = none /\ o.data = .seq its n /\ its.size <= az /\ Vals xs its.toList
def W5 (K : ae) (a : Addr) (xs : List V) : Prop :=
 ∃ (o : Obj) (its : Array Value) (n : Nat), K.lookup a = some o /\ o.cls = .type "tuple" /\ o.data = .seq its n /\ its.size <= az /\ Vals xs its.toList
def KnD (K : ae) (a : Addr) (kvs : List (Str × List Str)) : Prop :=
 (a == fq) = false /\ ∃ (o : Obj) (es : Array DictEntry) (n : Nat), K.lookup a = some o /\ o.ExactDict /\ o.data = .dict es n /\ PyProof.Rows.KTD.Rows (fun (ss : List Str) v => ∃ t, v = .ref t /\ W5 K t (ss.map V.str)) es.toList kvs
inductive Rep (Γ : Cn) (E : Addr -> Prop) (H : Hp) : V -> D -> Prop where
 | non : Rep Γ E H .non .non
 | bl (b : Bool) : Rep Γ E H (.bl b) (.bl b)
 | int (i : Int) : Rep Γ E H (.int i) (.int i)
 | str (x : Str) : Rep Γ E H (.str x) (.str x)
 | ty (n : String) : Rep Γ E H (.ty n) (.ty n)
 | lst {a : Addr} {xs : List V} {ds : List D} (ne : ¬ E a) (h : H a = some (.lst xs)) (l : xs.length = ds.length) (r : ∀ (i : Nat) v d, xs[i]? = some v -> ds[i]? = some d -> Rep Γ E H v d) : Rep Γ E H (.ref a) (.lst ds)
 | fz {a : Addr} {ns : List Int} (h : (¬ E a /\ Rd H a (.lst (ns.map V.int))) \/ KnL Γ.K a (ns.map V.int)) : Rep Γ E H (.ref a) (.fz ns)
 | tup {a : Addr} {xs : List V} {ds : List D} (ne : ¬ E a) (h : H a = some (.tup xs)) (l : xs.length = ds.length) (r : ∀ (i : Nat) v d, xs[i]? = some v -> ds[i]? = some d -> Rep Γ E H v d) : Rep Γ E H (.ref a) (.tup ds)
 | dK {a : Addr} {ks : List (jB × V)} {ds : List (jB × D)} (ne : ¬ E a) (h : H a = some (.dK ks)) (l : ks.map (·.1) = ds.map (·.1)) (r : ∀ (i : Nat) v d, (ks.map (·.2))[i]? = some v -> (ds.map (·.2))[i]? = some d -> Rep Γ E H v d) : Rep Γ E H (.ref a) (.dK ds)
 | dT {a : Addr} {ks : List (List jB × V)} {ds : List (List jB × D)} (ne : ¬ E a) (h : H a = some (.dT ks)) (l : ks.map (·.1) = ds.map (·.1)) (r : ∀ (i : Nat) v d, (ks.map (·.2))[i]? = some v -> (ds.map (·.2))[i]? = some d -> Rep Γ E H v d) : Rep Γ E H (.ref a) (.dT ds)
 | obj {a C dx : Addr} {c : Nat} {gs : List (Str × V)} {fs : List (Nat × D)} (ne : ¬ E a) (hc : Γ.cls c = some C) (h : H a = some (.ins C dx gs)) (l : gs.map (·.1) = fs.map fun x => fnm x.1) (r : ∀ (i : Nat) v d, (gs.map (·.2))[i]? = some v -> (fs.map (·.2))[i]? = some d -> Rep Γ E H v d) : Rep Γ E H (.ref a) (.obj c fs)
 | exc {a C : Addr} {k : Nat} (ne : ¬ E a) (hc : Γ.cls k = some C) (h : H a = some (.ext (zmC a (.ref C)))) : Rep Γ E H (.ref a) (.exc k)
 | kt {a : Addr} {xs : List Str} (h : W5 Γ.K a (xs.map V.str)) : Rep Γ E H (.ref a) (.kt xs)
 | kd {a : Addr} {kvs : List (Str × List Str)} (h : KnD Γ.K a kvs) : Rep Γ E H (.ref a) (.kd kvs)
def Reps (Γ : Cn) (E : Addr -> Prop) (H : Hp) (xs : List V) (ds : List D) : Prop := xs.length = ds.length /\ ∀ (i : Nat) v d, xs[i]? = some v -> ds[i]? = some d -> Rep Γ E H v d
section
variable {Γ : Cn} {E E' : Addr -> Prop} {H H' : Hp}
theorem zlA (h : Rd H a u) : H a ≠ none := by
 rcases h with h | ⟨o, h⟩ <;> rw [h] <;> simp
theorem zh9 (h : Rd H a u) (k : ∀ o, H a = some o -> H' a = some o) : Rd H' a u := by
 rcases h with h | ⟨o, h⟩
 · exact .inl (k _ h)
 · exact .inr ⟨o, k _ h⟩
theorem Rep.up (r : Rep Γ E H v d) (he : ∀ b, H b ≠ none -> E' b -> E b) (k : ∀ b o, ¬ E b -> H b = some o -> H' b = some o) : Rep Γ E' H' v d := by
 induction r with
 | non => exact .non
 | bl b => exact .bl b
 | int i => exact .int i
 | str x => exact .str x
 | ty n => exact .ty n
 | lst ne h l _ ih => exact .lst (fun z => ne (he _ (by rw [h]; simp) z)) (k _ _ ne h) l ih
 | fz h => exact .fz (h.imp (fun ⟨ne, h⟩ => ⟨fun z => ne (he _ (zlA h) z), zh9 h fun o => k _ o ne⟩) id)
 | tup ne h l _ ih => exact .tup (fun z => ne (he _ (by rw [h]; simp) z)) (k _ _ ne h) l ih
 | dK ne h l _ ih => exact .dK (fun z => ne (he _ (by rw [h]; simp) z)) (k _ _ ne h) l ih
 | dT ne h l _ ih => exact .dT (fun z => ne (he _ (by rw [h]; simp) z)) (k _ _ ne h) l ih
 | obj ne hc h l _ ih => exact .obj (fun z => ne (he _ (by rw [h]; simp) z)) hc (k _ _ ne h) l ih
 | exc ne hc h => exact .exc (fun z => ne (he _ (by rw [h]; simp) z)) hc (k _ _ ne h)
 | kt h => exact .kt h
 | kd h => exact .kd h
theorem Reps.up (r : Reps Γ E H xs ds) (he : ∀ b, H b ≠ none -> E' b -> E b) (k : ∀ b o, ¬ E b -> H b = some o -> H' b = some o) : Reps Γ E' H' xs ds := ⟨r.1, fun i v d h1 h2 => (r.2 i v d h1 h2).up he k⟩
theorem Reps.nil : Reps Γ E H [] [] := ⟨rfl, fun i v d h => by simp at h⟩
theorem Reps.cons (h : Rep Γ E H v d) (r : Reps Γ E H xs ds) : Reps Γ E H (v :: xs) (d :: ds) := by
 refine ⟨by simp [r.1], fun i v' d' h1 h2 => ?_⟩
 cases i with
 | zero => simp at h1 h2; subst h1 h2; exact h
 | succ i => simp at h1 h2; exact r.2 i v' d' h1 h2
theorem Reps.head (r : Reps Γ E H (v :: xs) (d :: ds)) : Rep Γ E H v d := r.2 0 v d rfl rfl
theorem Reps.tail (r : Reps Γ E H (v :: xs) (d :: ds)) : Reps Γ E H xs ds := ⟨by simpa using r.1, fun i v' d' h1 h2 => r.2 (i + 1) v' d' (by simpa using h1) (by simpa using h2)⟩
theorem Reps.append (a : Reps Γ E H xs ds) (b : Reps Γ E H ys es) : Reps Γ E H (xs ++ ys) (ds ++ es) := by
 induction xs generalizing ds with
 | nil => have h := a.1; cases ds with | nil => exact b | cons _ _ => simp at h
 | cons x xs ih => cases ds with | nil => have h := a.1; simp at h | cons d ds => exact .cons a.head (ih a.tail)
theorem Reps.get {xs : List V} {ds : List D} {i : Nat} {d : D} (r : Reps Γ E H xs ds) (h : ds[i]? = some d) : ∃ v, xs[i]? = some v /\ Rep Γ E H v d := by
 have hl := r.1
 have hi : i < xs.length := by rw [hl]; exact (ay.mp h).1
 exact ⟨xs[i], ab hi, r.2 i _ d (ab hi) h⟩
theorem Reps.sub {xs' : List V} {ds' : List D} (r : Reps Γ E H xs ds) (hl : xs'.length = ds'.length) (h : ∀ (i : Nat) v d, xs'[i]? = some v -> ds'[i]? = some d -> ∃ (j : Nat), xs[j]? = some v /\ ds[j]? = some d) : Reps Γ E H xs' ds' :=
 ⟨hl, fun i v d h1 h2 => let ⟨j, a, b⟩ := h i v d h1 h2; r.2 j v d a b⟩
theorem Reps.drop {xs : List V} {ds : List D} (r : Reps Γ E H xs ds) (n : Nat) : Reps Γ E H (xs.drop n) (ds.drop n) :=
 r.sub (by simp [r.1]) fun i v d h1 h2 => ⟨n + i, by simpa using h1, by simpa using h2⟩
theorem Reps.take {xs : List V} {ds : List D} (r : Reps Γ E H xs ds) (n : Nat) : Reps Γ E H (xs.take n) (ds.take n) :=
 r.sub (by simp [r.1]) fun i v d h1 h2 => by
  rw [List.getElem?_take] at h1 h2
  split at h1
  · rename_i hi; rw [if_pos hi] at h2; exact ⟨i, h1, h2⟩
  · cases h1
theorem Reps.set {xs : List V} {ds : List D} (r : Reps Γ E H xs ds) (j : Nat) (h : Rep Γ E H v d) : Reps Γ E H (xs.set j v) (ds.set j d) := by
 refine ⟨by simp [r.1], fun i v' d' h1 h2 => ?_⟩
 rw [bb] at h1 h2
 by_cases e : j = i
 · subst e
   rw [if_pos rfl] at h1 h2
   split at h1
   · split at h2
     · cases h1; cases h2; exact h
     · cases h2
   · cases h1
 · rw [if_neg e] at h1 h2
   exact r.2 i v' d' h1 h2
theorem Rep.list (r : Rep Γ E H v (.lst ds)) : ∃ a xs, v = .ref a /\ H a = some (.lst xs) /\ Reps Γ E H xs ds := by
 cases r with
 | lst ne h l r => exact ⟨_, _, rfl, h, l, r⟩
theorem Rep.script {ns : List Int} (r : Rep Γ E H v (.fz ns)) : ∃ a, v = .ref a /\ yl Γ.K H a (ns.map V.int) := by
 cases r with
 | fz h => exact ⟨_, rfl, h.imp (fun z => z.2) id⟩
theorem Rep.kept {xs : List Str} (r : Rep Γ E H v (.kt xs)) : ∃ a, v = .ref a /\ SqT Γ.K H a (xs.map V.str) := by
 cases r with
 | kt h => exact ⟨_, rfl, .inr h⟩
theorem Rep.table (r : Rep Γ E H v (.kd kvs)) : ∃ a, v = .ref a /\ KnD Γ.K a kvs := by
 cases r with
 | kd h => exact ⟨_, rfl, h⟩
theorem Rep.tuple (r : Rep Γ E H v (.tup ds)) : ∃ a xs, v = .ref a /\ H a = some (.tup xs) /\ Reps Γ E H xs ds := by
 cases r with
 | tup ne h l r => exact ⟨_, _, rfl, h, l, r⟩
end
def OwnAt (Γ : Cn) (E : Addr -> Prop) (H : Hp) (p : Addr) : D -> Prop
 | .lst ds => ∃ xs, H p = some (.lst xs) /\ Reps Γ E H xs ds
 | .dK ds => ∃ ks, H p = some (.dK ks) /\ ks.map (·.1) = ds.map (·.1) /\ Reps Γ E H (ks.map (·.2)) (ds.map (·.2))
 | .dT ds => ∃ ks, H p = some (.dT ks) /\ ks.map (·.1) = ds.map (·.1) /\ Reps Γ E H (ks.map (·.2)) (ds.map (·.2))
 | .obj c fs => ∃ C dx gs, Γ.cls c = some C /\ H p = some (.ins C dx gs) /\ (gs.map (·.1) = fs.map fun x => fnm x.1) /\ Reps Γ E H (gs.map (·.2)) (fs.map (·.2))
 | _ => False
section
variable {Γ : Cn} {E E' : Addr -> Prop} {H H' : Hp} {p : Addr} {o : D}
theorem OwnAt.ne0 (h : OwnAt Γ E H p o) : H p ≠ none := by
 cases o with
 | lst ds => obtain ⟨_, e, _⟩ := h; rw [e]; simp
 | dK ds => obtain ⟨_, e, _⟩ := h; rw [e]; simp
 | dT ds => obtain ⟨_, e, _⟩ := h; rw [e]; simp
 | obj c fs => obtain ⟨_, _, _, _, e, _⟩ := h; rw [e]; simp
 | _ => exact aa h
theorem OwnAt.up (h : OwnAt Γ E H p o) (hp : ∀ u, H p = some u -> H' p = some u) (he : ∀ b, H b ≠ none -> E' b -> E b) (k : ∀ b o, ¬ E b -> H b = some o -> H' b = some o) : OwnAt Γ E' H' p o := by
 cases o with
 | lst ds => obtain ⟨xs, e, r⟩ := h; exact ⟨xs, hp _ e, r.up he k⟩
 | dK ds => obtain ⟨xs, e, l, r⟩ := h; exact ⟨xs, hp _ e, l, r.up he k⟩
 | dT ds => obtain ⟨xs, e, l, r⟩ := h; exact ⟨xs, hp _ e, l, r.up he k⟩
 | obj c fs => obtain ⟨C, dx, gs, hc, e, l, r⟩ := h; exact ⟨C, dx, gs, hc, hp _ e, l, r.up he k⟩
 | _ => exact aa h
theorem OwnAt.rep (h : OwnAt Γ E H p o) (ne : ¬ E p) : Rep Γ E H (.ref p) o := by
 cases o with
 | lst ds => obtain ⟨xs, e, r⟩ := h; exact .lst ne e r.1 r.2
 | dK ds => obtain ⟨xs, e, l, r⟩ := h; exact .dK ne e l r.2
 | dT ds => obtain ⟨xs, e, l, r⟩ := h; exact .dT ne e l r.2
 | obj c fs => obtain ⟨C, dx, gs, hc, e, l, r⟩ := h; exact .obj ne hc e l r.2
 | _ => exact aa h
end
structure Fs where
 C : Addr -> Prop
 H0 : Hp
 pin : Nat -> Option Addr
def Fs.add (S : Fs) (p : Addr) : Fs := { S with C := fun a => S.C a \/ a = p }
def yd (ρ : Env) (i : Nat) : Prop := ∃ o, ρ[i]? = some (.own o)
def zr (S : Fs) (σ : St) (ρ : Env) (a : Addr) : Prop := S.C a \/ ∃ i, yd ρ i /\ σ[i]? = some (some (.ref a))
structure Rel (Γ : Cn) (S : Fs) (H : Hp) (σ : St) (ρ : Env) (τ : List (V × D)) : Prop where
 len : σ.length = ρ.length
 val : ∀ (i : Nat) d, ρ[i]? = some (.val d) -> ∃ v, σ[i]? = some (some v) /\ Rep Γ (zr S σ ρ) H v d
 own : ∀ (i : Nat) o, ρ[i]? = some (.own o) -> ∃ p, σ[i]? = some (some (.ref p)) /\ OwnAt Γ (zr S σ ρ) H p o /\ ¬ S.C p /\ (S.pin i = some p \/ (S.pin i = none /\ S.H0 p = none))
 pin : ∀ i p, S.pin i = some p -> σ[i]? = some (some (.ref p)) /\ yd ρ i
 inj : ∀ i j p, yd ρ i -> yd ρ j -> σ[i]? = some (some (.ref p)) -> σ[j]? = some (some (.ref p)) -> i = j
 dom : ∀ a, S.C a -> H a ≠ none
 fr : ∀ b o, S.H0 b = some o -> (∀ i, S.pin i ≠ some b) -> H b = some o
 tmp : ∀ x ∈ τ, Rep Γ (zr S σ ρ) H x.1 x.2
section
variable {Γ : Cn} {S : Fs} {H H' : Hp} {σ : St} {ρ : Env} {τ : List (V × D)}
theorem Rel.grow (R : Rel Γ S H σ ρ τ) (g : Same H H') : Rel Γ S H' σ ρ τ where
 len := R.len
 val := fun i d h => let ⟨v, e, r⟩ := R.val i d h; ⟨v, e, r.up (fun _ _ z => z) fun b o _ q => g b o q⟩
 own := fun i o h => let ⟨p, e, r, q⟩ := R.own i o h; ⟨p, e, r.up (fun u => g p u) (fun _ _ z => z) fun b o _ q => g b o q, q⟩
 pin := R.pin
 inj := R.inj
 dom := fun a h z => by
  cases e : H a with
  | none => exact R.dom a h e
  | some o => rw [g a o e] at z; cases z
 fr := fun b o h n => g b o (R.fr b o h n)
 tmp := fun x hx => (R.tmp x hx).up (fun _ _ z => z) fun b o _ q => g b o q
theorem Rel.push (R : Rel Γ S H σ ρ τ) (h : Rep Γ (zr S σ ρ) H v d) : Rel Γ S H σ ρ ((v, d) :: τ) :=
 { R with tmp := fun x hx => (ak.mp hx).elim (fun e => by subst e; exact h) (R.tmp x) }
theorem Rel.pop (R : Rel Γ S H σ ρ (x :: τ)) : Rel Γ S H σ ρ τ /\ Rep Γ (zr S σ ρ) H x.1 x.2 :=
 ⟨{ R with tmp := fun y hy => R.tmp y (aw _ hy) }, R.tmp x aq⟩
theorem yz (R : Rel Γ S H σ ρ τ) (h : zr S σ ρ a) : H a ≠ none := by
 rcases h with h | ⟨i, ⟨o, ho⟩, e⟩
 · exact R.dom a h
 · obtain ⟨p, e', r, _⟩ := R.own i o ho
   rw [e] at e'; cases e'
   exact r.ne0
theorem Rel.add (R : Rel Γ S H σ ρ τ) (hp : H p = none) (h0 : S.H0 p = none) : Rel Γ (S.add p) (zA H p u) σ ρ τ := by
 have g : Same H (zA H p u) := fun b o q => by rw [zp (zV q hp)]; exact q
 have he : ∀ b, H b ≠ none -> zr (S.add p) σ ρ b -> zr S σ ρ b := fun b hb h => by
  rcases h with (h | h) | h
  · exact .inl h
  · subst h; exact absurd hp hb
  · exact .inr h
 exact {
  len := R.len
  val := fun i d h => let ⟨v, e, r⟩ := R.val i d h; ⟨v, e, r.up he fun b o _ q => g b o q⟩
  own := fun i o h => by
   obtain ⟨q, e, r, n, pn⟩ := R.own i o h
   refine ⟨q, e, r.up (fun u => g q u) he fun b o _ q => g b o q, ?_, pn⟩
   rintro (z | z)
   · exact n z
   · subst z; exact r.ne0 hp
  pin := R.pin
  inj := R.inj
  dom := fun a h => by
   rcases h with h | h
   · have := R.dom a h
     have hne : a ≠ p := fun z => by subst z; exact this hp
     rw [zp hne]; exact this
   · subst h; rw [zU]; simp
  fr := fun b o h n => g b o (R.fr b o h n)
  tmp := fun x hx => (R.tmp x hx).up he fun b o _ q => g b o q }
theorem Rel.unadd (R : Rel Γ (S.add p) H σ ρ τ) : Rel Γ S H σ ρ τ := by
 have he : ∀ b, H b ≠ none -> zr S σ ρ b -> zr (S.add p) σ ρ b := fun b _ h => h.elim (fun z => .inl (.inl z)) .inr
 exact {
  len := R.len
  val := fun i d h => let ⟨v, e, r⟩ := R.val i d h; ⟨v, e, r.up he fun _ _ _ q => q⟩
  own := fun i o h => let ⟨q, e, r, n, pn⟩ := R.own i o h; ⟨q, e, r.up (fun _ q => q) he fun _ _ _ q => q, fun z => n (.inl z), pn⟩
  pin := R.pin
  inj := R.inj
  dom := fun a h => R.dom a (.inl h)
  fr := R.fr
  tmp := fun x hx => (R.tmp x hx).up he fun _ _ _ q => q }
theorem Rel.new (R : Rel Γ S H σ ρ τ) (hp : H p = none) : S.H0 p = none := by
 cases e : S.H0 p with
 | none => rfl
 | some o =>
  by_cases h : ∃ i, S.pin i = some p
  · obtain ⟨i, hi⟩ := h
    obtain ⟨e1, o', ho⟩ := R.pin i p hi
    obtain ⟨q, e2, r, _⟩ := R.own i o' ho
    rw [e1] at e2; cases e2
    exact absurd hp r.ne0
  · have := R.fr p o e fun i z => h ⟨i, z⟩
    rw [hp] at this; cases this
theorem getElem?_set_ne {α : Type} {l : List α} {i j : Nat} {x : α} (h : i ≠ j) : (l.set i x)[j]? = l[j]? := by rw [bb, if_neg h]
theorem getElem?_set_here {α : Type} {l : List α} {i : Nat} {x y : α} (h : (l.set i x)[i]? = some y) : y = x := by
 rw [bb, if_pos rfl] at h
 split at h
 · cases h; rfl
 · cases h
theorem Rel.asg (R : Rel Γ S H σ ρ τ) {i : Nat} {v : V} {d : D} (hi : S.pin i = none) (h : Rep Γ (zr S σ ρ) H v d) : Rel Γ S H (σ.set i (some v)) (ρ.set i (.val d)) τ := by
 have own_ne : ∀ j, yd (ρ.set i (.val d)) j -> j ≠ i /\ yd ρ j := fun j ⟨o, ho⟩ => by
  by_cases e : i = j
  · subst e; cases getElem?_set_here ho
  · rw [getElem?_set_ne e] at ho; exact ⟨aS e, o, ho⟩
 have he : ∀ b, H b ≠ none -> zr S (σ.set i (some v)) (ρ.set i (.val d)) b -> zr S σ ρ b := fun b _ h => by
  rcases h with h | ⟨j, hj, e⟩
  · exact .inl h
  · obtain ⟨ne, oj⟩ := own_ne j hj
    rw [getElem?_set_ne (aS ne)] at e
    exact .inr ⟨j, oj, e⟩
 have keep : ∀ b o, ¬ zr S σ ρ b -> H b = some o -> H b = some o := fun _ _ _ q => q
 exact {
  len := by simp [R.len]
  val := fun j e hj => by
   by_cases eq : i = j
   · subst eq
     have e1 := getElem?_set_here hj
     cases e1
     have hl : i < σ.length := by
      rw [R.len]
      have := (ay.mp hj).1
      simpa using this
     exact ⟨v, by rw [bb, if_pos rfl, if_pos hl], h.up he keep⟩
   · rw [getElem?_set_ne eq] at hj
     obtain ⟨w, e1, r⟩ := R.val j e hj
     exact ⟨w, by rw [getElem?_set_ne eq]; exact e1, r.up he keep⟩
  own := fun j o hj => by
   have ne := (own_ne j ⟨o, hj⟩).1
   rw [getElem?_set_ne (aS ne)] at hj
   obtain ⟨p, e1, r, n, pn⟩ := R.own j o hj
   exact ⟨p, by rw [getElem?_set_ne (aS ne)]; exact e1, r.up (fun _ q => q) he keep, n, pn⟩
  pin := fun j p hj => by
   have ne : i ≠ j := fun z => by subst z; rw [hi] at hj; cases hj
   obtain ⟨a, o, b⟩ := R.pin j p hj
   exact ⟨by rw [getElem?_set_ne ne]; exact a, o, by rw [getElem?_set_ne ne]; exact b⟩
  inj := fun j k p hj hk e1 e2 => by
   obtain ⟨nj, oj⟩ := own_ne j hj
   obtain ⟨nk, ok⟩ := own_ne k hk
   rw [getElem?_set_ne (aS nj)] at e1
   rw [getElem?_set_ne (aS nk)] at e2
   exact R.inj j k p oj ok e1 e2
  dom := R.dom
  fr := R.fr
  tmp := fun x hx => (R.tmp x hx).up he keep }
theorem Rel.asgOwn {p : Addr} (R : Rel Γ (S.add p) H σ ρ τ) {i : Nat} {o : D} (hi : S.pin i = none) (h : OwnAt Γ (zr (S.add p) σ ρ) H p o) (h0 : S.H0 p = none) (hp : ¬ S.C p) : Rel Γ S H (σ.set i (some (.ref p))) (ρ.set i (.own o)) τ := by
 have own_ne : ∀ j, j ≠ i -> yd (ρ.set i (.own o)) j -> yd ρ j := fun j hj ⟨o', ho⟩ => by
  rw [getElem?_set_ne (aS hj)] at ho; exact ⟨o', ho⟩
 have notp : ∀ j q, yd ρ j -> σ[j]? = some (some (.ref q)) -> q ≠ p := fun j q ⟨o', ho⟩ e z => by
  obtain ⟨q', e1, _, n, _⟩ := R.own j o' ho
  rw [e] at e1; cases e1
  exact n (.inr z)
 have he : ∀ b, H b ≠ none -> zr S (σ.set i (some (.ref p))) (ρ.set i (.own o)) b -> zr (S.add p) σ ρ b := fun b _ h => by
  rcases h with h | ⟨j, hj, e⟩
  · exact .inl (.inl h)
  · by_cases ne : j = i
    · subst ne
      rw [bb, if_pos rfl] at e
      split at e
      · cases e; exact .inl (.inr rfl)
      · cases e
    · rw [getElem?_set_ne (aS ne)] at e
      exact .inr ⟨j, own_ne j ne hj, e⟩
 have keep : ∀ b o, ¬ zr (S.add p) σ ρ b -> H b = some o -> H b = some o := fun _ _ _ q => q
 exact {
  len := by simp [R.len]
  val := fun j e hj => by
   by_cases eq : i = j
   · subst eq; cases getElem?_set_here hj
   · rw [getElem?_set_ne eq] at hj
     obtain ⟨w, e1, r⟩ := R.val j e hj
     exact ⟨w, by rw [getElem?_set_ne eq]; exact e1, r.up he keep⟩
  own := fun j o' hj => by
   by_cases eq : i = j
   · subst eq
     have e1 := getElem?_set_here hj
     cases e1
     have hl : i < σ.length := by
      rw [R.len]
      have := (ay.mp hj).1
      simpa using this
     exact ⟨p, by rw [bb, if_pos rfl, if_pos hl], h.up (fun _ q => q) he keep, hp, .inr ⟨hi, h0⟩⟩
   · rw [getElem?_set_ne eq] at hj
     obtain ⟨q, e1, r, n, pn⟩ := R.own j o' hj
     exact ⟨q, by rw [getElem?_set_ne eq]; exact e1, r.up (fun _ q => q) he keep, fun z => n (.inl z), pn⟩
  pin := fun j q hj => by
   have ne : i ≠ j := fun z => by subst z; rw [hi] at hj; cases hj
   obtain ⟨a, o', b⟩ := R.pin j q hj
   exact ⟨by rw [getElem?_set_ne ne]; exact a, o', by rw [getElem?_set_ne ne]; exact b⟩
  inj := fun j k q hj hk e1 e2 => by
   by_cases ej : j = i
   · by_cases ek : k = i
     · rw [ej, ek]
     · subst ej
       rw [bb, if_pos rfl] at e1
       split at e1
       · cases e1
         rw [getElem?_set_ne (aS ek)] at e2
         exact absurd rfl (notp k _ (own_ne k ek hk) e2)
       · cases e1
   · by_cases ek : k = i
     · subst ek
       rw [bb, if_pos rfl] at e2
       split at e2
       · cases e2
         rw [getElem?_set_ne (aS ej)] at e1
         exact absurd rfl (notp j _ (own_ne j ej hj) e1)
       · cases e2
     · rw [getElem?_set_ne (aS ej)] at e1
       rw [getElem?_set_ne (aS ek)] at e2
       exact R.inj j k q (own_ne j ej hj) (own_ne k ek hk) e1 e2
  dom := fun a h => R.dom a (.inl h)
  fr := R.fr
  tmp := fun x hx => (R.tmp x hx).up he keep }
theorem Rel.freeze (R : Rel Γ S H σ ρ τ) {i : Nat} {o : D} (hi : S.pin i = none) (h : ρ[i]? = some (.own o)) : ∃ v, σ[i]? = some (some v) /\ Rep Γ (zr S σ (ρ.set i (.val o))) H v o /\ Rel Γ S H σ (ρ.set i (.val o)) τ := by
 obtain ⟨p, e, r, n, _⟩ := R.own i o h
 have own_ne : ∀ j, yd (ρ.set i (.val o)) j -> j ≠ i /\ yd ρ j := fun j ⟨o, ho⟩ => by
  by_cases e : i = j
  · subst e; cases getElem?_set_here ho
  · rw [getElem?_set_ne e] at ho; exact ⟨aS e, o, ho⟩
 have he : ∀ b, H b ≠ none -> zr S σ (ρ.set i (.val o)) b -> zr S σ ρ b := fun b _ h => by
  rcases h with h | ⟨j, hj, e⟩
  · exact .inl h
  · exact .inr ⟨j, (own_ne j hj).2, e⟩
 have keep : ∀ b o, ¬ zr S σ ρ b -> H b = some o -> H b = some o := fun _ _ _ q => q
 have hp : ¬ zr S σ (ρ.set i (.val o)) p := by
  rintro (z | ⟨j, hj, ej⟩)
  · exact n z
  · obtain ⟨ne, oj⟩ := own_ne j hj
    exact ne (R.inj j i p oj ⟨o, h⟩ ej e)
 have rep := (r.up (fun _ q => q) he keep).rep hp
 refine ⟨_, e, rep, ?_⟩
 exact {
  len := by simp [R.len]
  val := fun j d hj => by
   by_cases eq : i = j
   · subst eq
     have e1 := getElem?_set_here hj
     cases e1
     exact ⟨_, e, rep⟩
   · rw [getElem?_set_ne eq] at hj
     obtain ⟨w, e1, r⟩ := R.val j d hj
     exact ⟨w, e1, r.up he keep⟩
  own := fun j o' hj => by
   have ne := (own_ne j ⟨o', hj⟩).1
   rw [getElem?_set_ne (aS ne)] at hj
   obtain ⟨q, e1, r, n, pn⟩ := R.own j o' hj
   exact ⟨q, e1, r.up (fun _ q => q) he keep, n, pn⟩
  pin := fun j p hj => by
   have ne : i ≠ j := fun z => by subst z; rw [hi] at hj; cases hj
   obtain ⟨a, o', b⟩ := R.pin j p hj
   exact ⟨a, o', by rw [getElem?_set_ne ne]; exact b⟩
  inj := fun j k p hj hk e1 e2 => R.inj j k p (own_ne j hj).2 (own_ne k hk).2 e1 e2
  dom := R.dom
  fr := R.fr
  tmp := fun x hx => (R.tmp x hx).up he keep }
theorem Rel.write (R : Rel Γ S H σ ρ τ) {i : Nat} {p : Addr} {o o' : D} (h : ρ[i]? = some (.own o)) (e : σ[i]? = some (some (.ref p))) (hk : ∀ b u, b ≠ p -> H b = some u -> H' b = some u)
 (hn : OwnAt Γ (zr S σ ρ) H' p o') : Rel Γ S H' σ (ρ.set i (.own o')) τ := by
 have iff : ∀ j, yd (ρ.set i (.own o')) j -> yd ρ j := fun j ⟨q, hq⟩ => by
  by_cases z : i = j
  · subst z; exact ⟨o, h⟩
  · rw [getElem?_set_ne z] at hq; exact ⟨q, hq⟩
 have he : ∀ b, H b ≠ none -> zr S σ (ρ.set i (.own o')) b -> zr S σ ρ b := fun b _ h => by
  rcases h with h | ⟨j, hj, e⟩
  · exact .inl h
  · exact .inr ⟨j, iff j hj, e⟩
 have pex : zr S σ ρ p := .inr ⟨i, ⟨o, h⟩, e⟩
 have keep : ∀ b u, ¬ zr S σ ρ b -> H b = some u -> H' b = some u := fun b u n q => hk b u (fun z => n (by rw [z]; exact pex)) q
 obtain ⟨p', e', _, n0, pn0⟩ := R.own i o h
 rw [e] at e'; cases e'
 exact {
  len := by simp [R.len]
  val := fun j d hj => by
   by_cases eq : i = j
   · subst eq; cases getElem?_set_here hj
   · rw [getElem?_set_ne eq] at hj
     obtain ⟨w, e1, r⟩ := R.val j d hj
     exact ⟨w, e1, r.up he keep⟩
  own := fun j q hj => by
   by_cases eq : i = j
   · subst eq
     have e1 := getElem?_set_here hj
     cases e1
     refine ⟨p, e, hn.up (fun _ q => q) (fun b _ z => ?_) (fun _ _ _ q => q), n0, pn0⟩
     rcases z with z | ⟨k, hk, ek⟩
     · exact .inl z
     · exact .inr ⟨k, iff k hk, ek⟩
   · rw [getElem?_set_ne eq] at hj
     obtain ⟨q', e1, r, n, pn⟩ := R.own j q hj
     refine ⟨q', e1, r.up (fun u hu => hk _ u (fun z => ?_) hu) he keep, n, pn⟩
     subst z
     exact eq (R.inj i j _ ⟨o, h⟩ ⟨q, hj⟩ e e1)
  pin := fun j q hj => by
   obtain ⟨a, o', b⟩ := R.pin j q hj
   refine ⟨a, ?_⟩
   by_cases eq : i = j
   · subst eq
     have hl : i < ρ.length := (ay.mp h).1
     exact ⟨_, by rw [bb, if_pos rfl, if_pos hl]⟩
   · exact ⟨o', by rw [getElem?_set_ne eq]; exact b⟩
  inj := fun j k p hj hk e1 e2 => R.inj j k p (iff j hj) (iff k hk) e1 e2
  dom := fun a ha => by
   have := R.dom a ha
   by_cases z : a = p
   · subst z; exact absurd ha n0
   · cases q : H a with
     | none => exact absurd q this
     | some u => rw [hk a u z q]; simp
  fr := fun b u h0 n => by
   refine hk b u (fun z => ?_) (R.fr b u h0 n)
   subst z
   rcases pn0 with q | ⟨_, q⟩
   · exact n i q
   · rw [q] at h0; cases h0
  tmp := fun x hx => (R.tmp x hx).up he keep }
end
abbrev EK := D -> Env -> Prop
abbrev ME := Env -> EK -> Prop
abbrev MT := Env -> (Bool -> Env -> Prop) -> Prop
abbrev MA := Env -> (List D -> Env -> Prop) -> Prop
structure Ym where
 nx : Env -> Prop
 rt : EK
 bk : Env -> Prop
 ct : Env -> Prop
abbrev MS := Ym -> Env -> Prop
def jL (pn : List Nat) (S : Fs) : Prop := ∀ i, i ∉ pn -> S.pin i = none
def JE (Γ : Cn) (pn : List Nat) (t : TE) (m : ME) : Prop :=
 ∀ (S : Fs) (σ : St) (ρ : Env) (H : Hp) (τ : List (V × D)) (Q : VK) (q : EK), jL pn S -> Rel Γ S H σ ρ τ -> m ρ q -> (∀ v d H' ρ', Rel Γ S H' σ ρ' τ -> Rep Γ (zr S σ ρ') H' v d -> q d ρ' -> Q v H') -> t σ H Q
def JT (Γ : Cn) (pn : List Nat) (t : TT) (m : MT) : Prop :=
 ∀ (S : Fs) (σ : St) (ρ : Env) (H : Hp) (τ : List (V × D)) (Q : Bool -> Hp -> Prop) (q : Bool -> Env -> Prop), jL pn S -> Rel Γ S H σ ρ τ -> m ρ q -> (∀ b H' ρ', Rel Γ S H' σ ρ' τ -> q b ρ' -> Q b H') -> t σ H Q
def JA (Γ : Cn) (pn : List Nat) (t : TA) (m : MA) : Prop :=
 ∀ (S : Fs) (σ : St) (ρ : Env) (H : Hp) (τ : List (V × D)) (Q : List V -> Hp -> Prop) (q : List D -> Env -> Prop), jL pn S -> Rel Γ S H σ ρ τ -> m ρ q -> (∀ vs ds H' ρ', Rel Γ S H' σ ρ' τ -> Reps Γ (zr S σ ρ') H' vs ds -> q ds ρ' -> Q vs H') -> t σ H Q
def JF (Γ : Cn) (pn : List Nat) (t : TE) (m : ME) : Prop :=
 ∀ (S : Fs) (σ : St) (ρ : Env) (H : Hp) (τ : List (V × D)) (Q : VK) (q : EK), jL pn S -> Rel Γ S H σ ρ τ -> m ρ q ->
  (∀ p o H' ρ', Rel Γ (S.add p) H' σ ρ' τ -> OwnAt Γ (zr (S.add p) σ ρ') H' p o -> S.H0 p = none -> ¬ zr S σ ρ' p -> q o ρ' -> Q (.ref p) H') -> t σ H Q
def RR (Γ : Cn) (fr : Bool) (S : Fs) (σ : St) (ρ : Env) (H : Hp) (τ : List (V × D)) (v : V) (d : D) : Prop := match fr with
 | false => Rel Γ S H σ ρ τ /\ Rep Γ (zr S σ ρ) H v d
 | true => ∃ p, v = .ref p /\ Rel Γ (S.add p) H σ ρ τ /\ OwnAt Γ (zr (S.add p) σ ρ) H p d /\ S.H0 p = none /\ ¬ zr S σ ρ p
def JS (Γ : Cn) (pn : List Nat) (fr : Bool) (t : TS) (m : MS) : Prop :=
 ∀ (S : Fs) (σ : St) (ρ : Env) (H : Hp) (τ : List (V × D)) (D : zaj) (N : Ym), jL pn S -> Rel Γ S H σ ρ τ -> m N ρ -> (∀ σ' H' ρ', Rel Γ S H' σ' ρ' τ -> N.nx ρ' -> D.nx σ' H') ->
  (∀ v d σ' H' ρ', RR Γ fr S σ' ρ' H' τ v d -> N.rt d ρ' -> D.rt v H') -> (∀ σ' H' ρ', Rel Γ S H' σ' ρ' τ -> N.bk ρ' -> D.bk σ' H') -> (∀ σ' H' ρ', Rel Γ S H' σ' ρ' τ -> N.ct ρ' -> D.ct σ' H') -> t D σ H
inductive Opd where
 | d (x : D) | v (i : Nat)
def Ut : Option Slot -> (D -> Prop) -> Prop
 | some (.val d), k => k d
 | some (.own d), k => k d
 | _, _ => False
def Opd.on (r : Opd) (ρ : Env) (k : D -> Prop) : Prop := match r with
 | .d x => k x
 | .v i => Ut ρ[i]? k
abbrev MO := Env -> (Opd -> Env -> Prop) -> Prop
def OpIn (σ : St) (τ : List (V × D)) (v : V) (r : Opd) : Prop := match r with
 | .d x => (v, x) ∈ τ
 | .v i => σ[i]? = some (some v)
def JO (Γ : Cn) (pn : List Nat) (t : TE) (m : MO) : Prop :=
 ∀ (S : Fs) (σ : St) (ρ : Env) (H : Hp) (τ : List (V × D)) (Q : VK) (q : Opd -> Env -> Prop), jL pn S -> Rel Γ S H σ ρ τ -> m ρ q -> (∀ v r H' ρ' τ', Rel Γ S H' σ ρ' (τ' ++ τ) -> OpIn σ (τ' ++ τ) v r -> q r ρ' -> Q v H') -> t σ H Q
def ju (Γ : Cn) (E : Addr -> Prop) (H : Hp) (v : V) : D -> Prop
 | .lst ds => ∃ a xs, v = .ref a /\ H a = some (.lst xs) /\ Reps Γ E H xs ds
 | .dK ds => ∃ a ks, v = .ref a /\ H a = some (.dK ks) /\ ks.map (·.1) = ds.map (·.1) /\ Reps Γ E H (ks.map (·.2)) (ds.map (·.2))
 | .dT ds => ∃ a ks, v = .ref a /\ H a = some (.dT ks) /\ ks.map (·.1) = ds.map (·.1) /\ Reps Γ E H (ks.map (·.2)) (ds.map (·.2))
 | .obj c fs => ∃ a C dx gs, v = .ref a /\ Γ.cls c = some C /\ H a = some (.ins C dx gs) /\ (gs.map (·.1) = fs.map fun x => fnm x.1) /\ Reps Γ E H (gs.map (·.2)) (fs.map (·.2))
 | d => Rep Γ E H v d
section
variable {Γ : Cn} {E E' : Addr -> Prop} {H H' : Hp} {v : V} {d : D}
theorem Rep.b (r : Rep Γ E H v d) : ju Γ E H v d := by
 cases r with
 | non => exact .non
 | bl b => exact .bl b
 | int i => exact .int i
 | str x => exact .str x
 | ty n => exact .ty n
 | lst ne h l r => exact ⟨_, _, rfl, h, l, r⟩
 | fz h => exact .fz h
 | tup ne h l r => exact .tup ne h l r
 | dK ne h l r => exact ⟨_, _, rfl, h, l, by have := congrArg ci l; simpa using this, r⟩
 | dT ne h l r => exact ⟨_, _, rfl, h, l, by have := congrArg ci l; simpa using this, r⟩
 | obj ne hc h l r => exact ⟨_, _, _, _, rfl, hc, h, l, by have := congrArg ci l; simpa using this, r⟩
 | exc ne hc h => exact .exc ne hc h
 | kt h => exact .kt h
 | kd h => exact .kd h
theorem OwnAt.b (h : OwnAt Γ E H p d) : ju Γ E H (.ref p) d := by
 cases d with
 | lst ds => obtain ⟨xs, e, r⟩ := h; exact ⟨p, xs, rfl, e, r⟩
 | dK ds => obtain ⟨xs, e, l, r⟩ := h; exact ⟨p, xs, rfl, e, l, r⟩
 | dT ds => obtain ⟨xs, e, l, r⟩ := h; exact ⟨p, xs, rfl, e, l, r⟩
 | obj c fs => obtain ⟨C, dx, gs, hc, e, l, r⟩ := h; exact ⟨p, C, dx, gs, rfl, hc, e, l, r⟩
 | _ => exact aa h
theorem Rel.read {r : Opd} {k : D -> Prop} (R : Rel Γ S H σ ρ τ) (h : OpIn σ τ v r) (hk : r.on ρ k) : ∃ d, ju Γ (zr S σ ρ) H v d /\ k d := by
 cases r with
 | d x => exact ⟨x, (R.tmp _ h).b, hk⟩
 | v i =>
  have e : σ[i]? = some (some v) := h
  have hk : Ut ρ[i]? k := hk
  cases q : ρ[i]? with
  | none => rw [q] at hk; exact aa hk
  | some s =>
   rw [q] at hk
   cases s with
   | no => exact aa hk
   | val d =>
    obtain ⟨w, e', r⟩ := R.val i d q
    rw [e] at e'; cases e'
    exact ⟨d, r.b, hk⟩
   | own o =>
    obtain ⟨p, e', r, _⟩ := R.own i o q
    rw [e] at e'; cases e'
    exact ⟨o, r.b, hk⟩
end
section
variable {Γ : Cn} {pn : List Nat} {fr : Bool}
def mC (d : D) : ME := fun ρ q => q d ρ
def jM : D -> Bool
 | .non => true | .bl _ => true | .int _ => true | .str _ => true | .ty _ => true | _ => false
def vD : D -> V
 | .non => .non | .bl b => .bl b | .int i => .int i | .str x => .str x | .ty n => .ty n | _ => .non
theorem Zg {E : Addr -> Prop} (h : jM d = true) : Rep Γ E H (vD d) d := by
 cases d with
 | non => exact .non
 | bl b => exact .bl b
 | int i => exact .int i
 | str x => exact .str x
 | ty n => exact .ty n
 | _ => cases h
theorem Rep.flat {E : Addr -> Prop} (r : Rep Γ E H v d) (h : jM d = true) : v = vD d := by
 cases r <;> first | rfl | cases h
theorem Wq (h : jM d = true) (e : v = vD d) : JE Γ pn (tC v) (mC d) := fun S σ ρ H τ Q q _ R hm hq => by
 subst e; exact hq _ _ _ _ R (Zg h) hm
def zaB (i : Nat) : ME := fun ρ q => match ρ[i]? with
 | some (.val d) => q d ρ
 | some (.own o) => q o (ρ.set i (.val o))
 | _ => False
theorem zj9 (hi : i ∉ pn) : JE Γ pn (J5 i) (zaB i) := fun S σ ρ H τ Q q hp R hm hq => by
 unfold zaB at hm
 cases e : ρ[i]? with
 | none => rw [e] at hm; exact aa hm
 | some s =>
  rw [e] at hm
  cases s with
  | no => exact aa hm
  | val d =>
   obtain ⟨v, e1, r⟩ := R.val i d e
   exact ⟨v, e1, hq v d H ρ R r hm⟩
  | own o =>
   obtain ⟨v, e1, r, R'⟩ := R.freeze (hp i hi) e
   exact ⟨v, e1, hq v o H _ R' r hm⟩
def Vy (i : Nat) : ME := fun ρ q => match ρ[i]? with
 | some (.val d) => q d ρ
 | _ => False
theorem zh_ : JE Γ pn (J5 i) (Vy i) := fun S σ ρ H τ Q q hp R hm hq => by
 unfold Vy at hm
 cases e : ρ[i]? with
 | none => rw [e] at hm; exact aa hm
 | some s =>
  rw [e] at hm
  cases s with
  | no => exact aa hm
  | val d =>
   obtain ⟨v, e1, r⟩ := R.val i d e
   exact ⟨v, e1, hq v d H ρ R r hm⟩
  | own o => exact aa hm
def mOv (i : Nat) : MO := fun ρ q => match ρ[i]? with
 | some (.val _) => q (.v i) ρ
 | some (.own _) => q (.v i) ρ
 | _ => False
theorem zj_ : JO Γ pn (J5 i) (mOv i) := fun S σ ρ H τ Q q hp R hm hq => by
 unfold mOv at hm
 cases e : ρ[i]? with
 | none => rw [e] at hm; exact aa hm
 | some s =>
  rw [e] at hm
  cases s with
  | no => exact aa hm
  | val d =>
   obtain ⟨v, e1, r⟩ := R.val i d e
   exact ⟨v, e1, hq v (.v i) H ρ [] R e1 hm⟩
  | own o =>
   obtain ⟨p, e1, r⟩ := R.own i o e
   exact ⟨_, e1, hq _ (.v i) H ρ [] R e1 hm⟩
def mO (m : ME) : MO := fun ρ q => m ρ fun d ρ' => q (.d d) ρ'
theorem zlB (h : JE Γ pn t m) : JO Γ pn t (mO m) := fun S σ ρ H τ Q q hp R hm hq =>
 h S σ ρ H τ Q _ hp R hm fun v d H' ρ' R' r q' => hq v (.d d) H' ρ' [(v, d)] (R'.push r) (by show (v, d) ∈ _; simp) q'
theorem UP (h : JF Γ pn t m) : JE Γ pn t m := fun S σ ρ H τ Q q hp R hm hq =>
 h S σ ρ H τ Q q hp R hm fun p o H' ρ' R' ow _ ne q' => by
  have ow' : OwnAt Γ (zr S σ ρ') H' p o := ow.up (fun _ z => z) (fun b _ z => z.elim (fun z => .inl (.inl z)) .inr) fun _ _ _ z => z
  exact hq _ o H' ρ' R'.unadd (ow'.rep ne) q'
def zf5 : MA := fun ρ q => q [] ρ
def RJ (a : ME) (r : MA) : MA := fun ρ q => a ρ fun d ρ1 => r ρ1 fun ds ρ2 => q (d :: ds) ρ2
theorem zka : JA Γ pn ZG zf5 := fun S σ ρ H τ Q q _ R hm hq => hq [] [] H ρ R .nil hm
theorem zia (h1 : JE Γ pn t m) (h2 : JA Γ pn u n) : JA Γ pn (Jx t u) (RJ m n) := fun S σ ρ H τ Q q hp R hm hq =>
 h1 S σ ρ H τ _ _ hp R hm fun v d H1 ρ1 R1 r1 q1 => h2 S σ ρ1 H1 ((v, d) :: τ) _ _ hp (R1.push r1) q1 fun vs ds H2 ρ2 R2 r2 q2 =>
  hq _ _ H2 ρ2 R2.pop.1 (.cons R2.pop.2 r2) q2
def zdx (ss : List Str) : MA := fun ρ q => q (ss.map D.str) ρ
theorem zib : JA Γ pn (zhf ss) (zdx ss) := fun S σ ρ H τ Q q hp R hm hq =>
 hq _ _ H ρ R ⟨by simp, fun i v d h1 h2 => by
  rw [ar] at h1 h2
  cases e : ss[i]? with
  | none => rw [e] at h1; cases h1
  | some x => rw [e] at h1 h2; cases h1; cases h2; exact .str x⟩ hm
theorem jK {S : Fs} (R : Rel Γ S H σ ρ τ) (r : Reps Γ (zr S σ ρ) H xs ds) (hp : H p = none) :
 Rel Γ (S.add p) (zA H p (.lst xs)) σ ρ τ /\ OwnAt Γ (zr (S.add p) σ ρ) (zA H p (.lst xs)) p (.lst ds) /\ S.H0 p = none /\ ¬ zr S σ ρ p := by
 have h0 := R.new hp
 refine ⟨R.add hp h0, ⟨xs, zU, r.up (fun b hb z => ?_) fun b o _ q => by rw [zp (zV q hp)]; exact q⟩, h0, fun z => yz R z hp⟩
 rcases z with (z | z) | z
 · exact .inl z
 · subst z; exact absurd hp hb
 · exact .inr z
def zdy (m : MA) : ME := fun ρ q => m ρ fun ds ρ' => ds.length <= 1000 /\ q (.lst ds) ρ'
theorem zcm (h : n <= 1000) : n <= az := aO h (by decide)
theorem zkb (h : JA Γ pn t m) : JF Γ pn (zjM t) (zdy m) := fun S σ ρ H τ Q q hp R hm hq =>
 h S σ ρ H τ _ _ hp R hm fun vs ds H1 ρ1 R1 r1 ⟨l1, q1⟩ => ⟨by rw [r1.1]; exact zcm l1, fun p hn => by
  obtain ⟨a, b, c, d⟩ := jK R1 r1 hn
  exact hq p _ _ ρ1 a b c d q1⟩
def zdz (m : MA) : ME := fun ρ q => m ρ fun ds ρ' => ds.length <= 1000 /\ q (.tup ds) ρ'
theorem Yn (h : H p = none) (o : HO) : Same H (zA H p o) := fun b u q => by rw [zp (zV q h)]; exact q
theorem zcn (R : Rel Γ S H σ ρ τ) (r : Reps Γ (zr S σ ρ) H xs ds) (hp : H p = none) :
 Rel Γ S (zA H p (.tup xs)) σ ρ τ /\ Rep Γ (zr S σ ρ) (zA H p (.tup xs)) (.ref p) (.tup ds) := by
 have g := Yn hp (.tup xs)
 have r' := r.up (E' := zr S σ ρ) (H' := zA H p (.tup xs)) (fun _ _ z => z) fun b o _ q => g b o q
 exact ⟨R.grow g, .tup (fun z => yz R z hp) zU r'.1 r'.2⟩
theorem zkc (h : JA Γ pn t m) : JE Γ pn (zjL t) (zdz m) := fun S σ ρ H τ Q q hp R hm hq =>
 h S σ ρ H τ _ _ hp R hm fun vs ds H1 ρ1 R1 r1 ⟨l1, q1⟩ => ⟨by rw [r1.1]; exact zcm l1, fun p hn => by
  obtain ⟨a, b⟩ := zcn R1 r1 hn
  exact hq _ _ _ ρ1 a b q1⟩
abbrev F2 := D -> D -> (D -> Prop) -> Prop
def yj (Γ : Cn) (r : R2) (f : F2) : Prop :=
 ∀ (E : Addr -> Prop) (H : Hp) (x y : V) (dx dy : D) (Q : VK) (q : D -> Prop), (∀ a, E a -> H a ≠ none) -> ju Γ E H x dx -> ju Γ E H y dy -> f dx dy q -> (∀ v d H', Same H H' -> Rep Γ E H' v d -> q d -> Q v H') -> r x y H Q
def Jq (f : F2) (a b : MO) : ME := fun ρ q => a ρ fun r ρ1 => b ρ1 fun s ρ2 => r.on ρ2 fun x => s.on ρ2 fun y => f x y fun d => q d ρ2
theorem OpIn.more (h : OpIn σ τ v r) : OpIn σ (τ' ++ τ) v r := by
 cases r with
 | d x => exact aH _ h
 | v i => exact h
theorem Rel.cut (R : Rel Γ S H σ ρ (τ' ++ τ)) : Rel Γ S H σ ρ τ := { R with tmp := fun x hx => R.tmp x (aH _ hx) }
theorem Uu (ho : yj Γ r f) (ha : JO Γ pn ta a) (hb : JO Γ pn tb b) : JE Γ pn (tOp r ta tb) (Jq f a b) := fun S σ ρ H τ Q q hp R hm hq =>
 ha S σ ρ H τ _ _ hp R hm fun v r1 H1 ρ1 τ1 R1 o1 q1 => hb S σ ρ1 H1 (τ1 ++ τ) _ _ hp R1 q1 fun w r2 H2 ρ2 τ2 R2 o2 q2 => by
  obtain ⟨dx, rx, q2⟩ := R2.read o1.more q2
  obtain ⟨dy, ry, q2⟩ := R2.read o2 q2
  exact ho _ H2 v w dx dy Q _ (fun a z => yz R2 z) rx ry q2 fun u d H3 g r3 q3 => hq u d H3 ρ2 ((R2.grow g).cut.cut) r3 q3
abbrev F1 := D -> (D -> Prop) -> Prop
def Qu (Γ : Cn) (r : V -> Hp -> VK -> Prop) (f : F1) : Prop :=
 ∀ (E : Addr -> Prop) (H : Hp) (x : V) (dx : D) (Q : VK) (q : D -> Prop), (∀ a, E a -> H a ≠ none) -> ju Γ E H x dx -> f dx q -> (∀ v d H', Same H H' -> Rep Γ E H' v d -> q d -> Q v H') -> r x H Q
def QL (f : F1) (a : MO) : ME := fun ρ q => a ρ fun r ρ1 => r.on ρ1 fun x => f x fun d => q d ρ1
theorem zaC {r : List V -> Hp -> VK -> Prop} (ho : Qu Γ (fun x => r [x]) f) (ha : JO Γ pn ta a) : JE Γ pn (tCB r (Jx ta ZG)) (QL f a) := fun S σ ρ H τ Q q hp R hm hq =>
 ha S σ ρ H τ _ _ hp R hm fun v r1 H1 ρ1 τ1 R1 o1 q1 => by
  obtain ⟨dx, rx, q1⟩ := R1.read o1 q1
  exact ho _ H1 v dx Q _ (fun a z => yz R1 z) rx q1 fun u d H3 g r3 q3 => hq u d H3 ρ1 ((R1.grow g).cut) r3 q3
theorem zf6 {r : List V -> Hp -> VK -> Prop} (ho : yj Γ (fun x y => r [x, y]) f) (ha : JO Γ pn ta a) (hb : JO Γ pn tb b) : JE Γ pn (tCB r (Jx ta (Jx tb ZG))) (Jq f a b) := fun S σ ρ H τ Q q hp R hm hq =>
 Uu (r := fun x y => r [x, y]) ho ha hb S σ ρ H τ Q q hp R hm hq
abbrev FL2 := D -> D -> (List D -> Prop) -> Prop
def RK (Γ : Cn) (r : R2) (f : FL2) : Prop :=
 ∀ (E : Addr -> Prop) (H : Hp) (x y : V) (dx dy : D) (Q : VK) (q : List D -> Prop), ju Γ E H x dx -> ju Γ E H y dy -> f dx dy q -> (∀ p xs ds H1, Same H H1 -> H1 p = none -> Reps Γ E H1 xs ds -> q ds -> Q (.ref p) (zA H1 p (.lst xs))) -> r x y H Q
def Wr (f : FL2) (a b : MO) : ME := fun ρ q => a ρ fun r ρ1 => b ρ1 fun s ρ2 => r.on ρ2 fun x => s.on ρ2 fun y => f x y fun ds => q (.lst ds) ρ2
theorem zlC (ho : RK Γ r f) (ha : JO Γ pn ta a) (hb : JO Γ pn tb b) : JF Γ pn (tOp r ta tb) (Wr f a b) := fun S σ ρ H τ Q q hp R hm hq =>
 ha S σ ρ H τ _ _ hp R hm fun v r1 H1 ρ1 τ1 R1 o1 q1 => hb S σ ρ1 H1 (τ1 ++ τ) _ _ hp R1 q1 fun w r2 H2 ρ2 τ2 R2 o2 q2 => by
  obtain ⟨dx, rx, q2⟩ := R2.read o1.more q2
  obtain ⟨dy, ry, q2⟩ := R2.read o2 q2
  exact ho _ H2 v w dx dy Q _ rx ry q2 fun p xs ds H3 g hn r3 q3 => by
   obtain ⟨a, b, c, d⟩ := jK (R2.grow g) r3 hn
   exact hq p _ _ ρ2 a.cut.cut b c d q3
abbrev FL1 := D -> (List D -> Prop) -> Prop
def zaE (Γ : Cn) (r : V -> Hp -> VK -> Prop) (f : FL1) : Prop :=
 ∀ (E : Addr -> Prop) (H : Hp) (x : V) (dx : D) (Q : VK) (q : List D -> Prop), ju Γ E H x dx -> f dx q -> (∀ p xs ds H1, Same H H1 -> H1 p = none -> Reps Γ E H1 xs ds -> q ds -> Q (.ref p) (zA H1 p (.lst xs))) -> r x H Q
def Uv (f : FL1) (a : MO) : ME := fun ρ q => a ρ fun r ρ1 => r.on ρ1 fun x => f x fun ds => q (.lst ds) ρ1
theorem zf7 {r : List V -> Hp -> VK -> Prop} (ho : zaE Γ (fun x => r [x]) f) (ha : JO Γ pn ta a) : JF Γ pn (tCB r (Jx ta ZG)) (Uv f a) := fun S σ ρ H τ Q q hp R hm hq =>
 ha S σ ρ H τ _ _ hp R hm fun v r1 H1 ρ1 τ1 R1 o1 q1 => by
  obtain ⟨dx, rx, q1⟩ := R1.read o1 q1
  exact ho _ H1 v dx Q _ rx q1 fun p xs ds H3 g hn r3 q3 => by
   obtain ⟨a, b, c, d⟩ := jK (R1.grow g) r3 hn
   exact hq p _ _ ρ1 a.cut b c d q3
def mB (m : ME) : MT := fun ρ q => m ρ fun d ρ' => match d with | .bl b => q b ρ' | _ => False
theorem QE {E : Addr -> Prop} (r : Rep Γ E H v (.bl b)) : v = .bl b := by cases r; rfl
theorem Ws {E : Addr -> Prop} (r : Rep Γ E H v (.int b)) : v = .int b := by cases r; rfl
theorem zcp {E : Addr -> Prop} (r : Rep Γ E H v (.str b)) : v = .str b := by cases r; rfl
theorem zmD (h : JE Γ pn t m) : JT Γ pn (tB t) (mB m) := fun S σ ρ H τ Q q hp R hm hq =>
 h S σ ρ H τ _ _ hp R hm fun v d H1 ρ1 R1 r1 q1 => by
  cases d with
  | bl b => exact ⟨b, QE r1, hq b H1 ρ1 R1 q1⟩
  | _ => exact aa q1
theorem zcq (h : JE Γ pn t m) : JT Γ pn (zdn t) (mB m) := fun S σ ρ H τ Q q hp R hm hq =>
 h S σ ρ H τ _ _ hp R hm fun v d H1 ρ1 R1 r1 q1 => by
  cases d with
  | bl b => exact ⟨b, QE r1, hq b H1 ρ1 R1 q1⟩
  | _ => exact aa q1
def zdA (a b : MT) : MT := fun ρ q => a ρ fun c ρ1 => if c = true then b ρ1 q else q false ρ1
def mOr (a b : MT) : MT := fun ρ q => a ρ fun c ρ1 => if c = true then q true ρ1 else b ρ1 q
def zdB (a : MT) : MT := fun ρ q => a ρ fun c ρ1 => q (!c) ρ1
theorem zkd (h1 : JT Γ pn t a) (h2 : JT Γ pn u b) : JT Γ pn (zji t u) (zdA a b) := fun S σ ρ H τ Q q hp R hm hq =>
 h1 S σ ρ H τ _ _ hp R hm fun c H1 ρ1 R1 q1 => by
  cases c with
  | true => rw [if_pos rfl] at q1 ⊢; exact h2 S σ ρ1 H1 τ Q q hp R1 q1 hq
  | false => rw [if_neg af] at q1 ⊢; exact hq false H1 ρ1 R1 q1
theorem zlD (h1 : JT Γ pn t a) (h2 : JT Γ pn u b) : JT Γ pn (tOr t u) (mOr a b) := fun S σ ρ H τ Q q hp R hm hq =>
 h1 S σ ρ H τ _ _ hp R hm fun c H1 ρ1 R1 q1 => by
  cases c with
  | true => rw [if_pos rfl] at q1 ⊢; exact hq true H1 ρ1 R1 q1
  | false => rw [if_neg af] at q1 ⊢; exact h2 S σ ρ1 H1 τ Q q hp R1 q1 hq
theorem zke (h1 : JT Γ pn t a) : JT Γ pn (zjj t) (zdB a) := fun S σ ρ H τ Q q hp R hm hq =>
 h1 S σ ρ H τ _ _ hp R hm fun c H1 ρ1 R1 q1 => hq (!c) H1 ρ1 R1 q1
def RL (a b : ME) : ME := fun ρ q => a ρ fun d ρ1 => match d with | .bl c => if c = true then b ρ1 q else q (.bl false) ρ1 | _ => False
def zdC (a b : ME) : ME := fun ρ q => a ρ fun d ρ1 => match d with | .bl c => if c = true then q (.bl true) ρ1 else b ρ1 q | _ => False
def RM (a : ME) : ME := fun ρ q => a ρ fun d ρ1 => match d with | .bl c => q (.bl (!c)) ρ1 | _ => False
theorem zkf (h1 : JE Γ pn t a) (h2 : JE Γ pn u b) : JE Γ pn (zgX t u) (RL a b) := fun S σ ρ H τ Q q hp R hm hq =>
 h1 S σ ρ H τ _ _ hp R hm fun v d H1 ρ1 R1 r1 q1 => by
  cases d with
  | bl c =>
   refine ⟨c, QE r1, ?_⟩
   dsimp only at q1
   cases c with
   | true => rw [if_pos rfl] at q1 ⊢; exact h2 S σ ρ1 H1 τ Q q hp R1 q1 hq
   | false => rw [if_neg af] at q1 ⊢; exact hq _ _ H1 ρ1 R1 (.bl false) q1
  | _ => exact aa q1
theorem zlE (h1 : JE Γ pn t a) (h2 : JE Γ pn u b) : JE Γ pn (zjn t u) (zdC a b) := fun S σ ρ H τ Q q hp R hm hq =>
 h1 S σ ρ H τ _ _ hp R hm fun v d H1 ρ1 R1 r1 q1 => by
  cases d with
  | bl c =>
   refine ⟨c, QE r1, ?_⟩
   dsimp only at q1
   cases c with
   | true => rw [if_pos rfl] at q1 ⊢; exact hq _ _ H1 ρ1 R1 (.bl true) q1
   | false => rw [if_neg af] at q1 ⊢; exact h2 S σ ρ1 H1 τ Q q hp R1 q1 hq
  | _ => exact aa q1
theorem zkg (h1 : JE Γ pn t a) : JE Γ pn (zgY t) (RM a) := fun S σ ρ H τ Q q hp R hm hq =>
 h1 S σ ρ H τ _ _ hp R hm fun v d H1 ρ1 R1 r1 q1 => by
  cases d with
  | bl c => exact ⟨c, QE r1, hq _ _ H1 ρ1 R1 (.bl _) q1⟩
  | _ => exact aa q1
def mIf (c : MT) (a b : ME) : ME := fun ρ q => c ρ fun k ρ1 => if k = true then a ρ1 q else b ρ1 q
theorem zlF (hc : JT Γ pn t c) (h1 : JE Γ pn ta a) (h2 : JE Γ pn tb b) : JE Γ pn (tIf t ta tb) (mIf c a b) := fun S σ ρ H τ Q q hp R hm hq =>
 hc S σ ρ H τ _ _ hp R hm fun k H1 ρ1 R1 q1 => by
  cases k with
  | true => rw [if_pos rfl] at q1 ⊢; exact h1 S σ ρ1 H1 τ Q q hp R1 q1 hq
  | false => rw [if_neg af] at q1 ⊢; exact h2 S σ ρ1 H1 τ Q q hp R1 q1 hq
def zdD : MS := fun N ρ => N.nx ρ
def zf8 (a b : MS) : MS := fun N ρ => a { N with nx := fun ρ' => b N ρ' } ρ
def RN (m : ME) : MS := fun N ρ => m ρ fun _ ρ' => N.nx ρ'
def Wt (m : ME) : MS := fun N ρ => m ρ N.rt
def zdE (c : MT) (a b : MS) : MS := fun N ρ => c ρ fun k ρ1 => if k = true then a N ρ1 else b N ρ1
def zaF : MS := fun _ _ => False
theorem zic : JS Γ pn fr zgZ zdD := fun S σ ρ H τ D N hp R hm hn hr hb hc => hn _ _ _ R hm
theorem zf9 : JS Γ pn fr t zaF := fun S σ ρ H τ D N hp R hm => aa hm
theorem zkh (h1 : JS Γ pn fr t a) (h2 : JS Γ pn fr u b) : JS Γ pn fr (zjs t u) (zf8 a b) := fun S σ ρ H τ D N hp R hm hn hr hb hc =>
 h1 S σ ρ H τ _ _ hp R hm (fun σ' H' ρ' R' m' => h2 S σ' ρ' H' τ D N hp R' m' hn hr hb hc) hr hb hc
theorem zid (h : JE Γ pn t m) : JS Γ pn fr (zg0 t) (RN m) := fun S σ ρ H τ D N hp R hm hn hr hb hc =>
 h S σ ρ H τ _ _ hp R hm fun v d H' ρ' R' r q => hn σ H' ρ' R' q
theorem zki (h : JE Γ pn t m) : JS Γ pn false (zdj t) (Wt m) := fun S σ ρ H τ D N hp R hm hn hr hb hc =>
 h S σ ρ H τ _ _ hp R hm fun v d H' ρ' R' r q => hr v d σ H' ρ' ⟨R', r⟩ q
theorem zie (h : JF Γ pn t m) : JS Γ pn true (zdj t) (Wt m) := fun S σ ρ H τ D N hp R hm hn hr hb hc =>
 h S σ ρ H τ _ _ hp R hm fun p o H' ρ' R' ow h0 ne q => hr _ o σ H' ρ' ⟨p, rfl, R', ow, h0, ne⟩ q
theorem zlG (h0 : JT Γ pn t c) (h1 : JS Γ pn fr ta a) (h2 : JS Γ pn fr tb b) : JS Γ pn fr (zjt t ta tb) (zdE c a b) := fun S σ ρ H τ D N hp R hm hn hr hb hc =>
 h0 S σ ρ H τ _ _ hp R hm fun k H1 ρ1 R1 q1 => by
  cases k with
  | true => rw [if_pos rfl] at q1 ⊢; exact h1 S σ ρ1 H1 τ D N hp R1 q1 hn hr hb hc
  | false => rw [if_neg af] at q1 ⊢; exact h2 S σ ρ1 H1 τ D N hp R1 q1 hn hr hb hc
def zaG (i : Nat) (m : ME) : MS := fun N ρ => m ρ fun d ρ' => N.nx (ρ'.set i (.val d))
def ZZ (i : Nat) (m : ME) : MS := fun N ρ => m ρ fun d ρ' => N.nx (ρ'.set i (.own d))
theorem zeP (hi : i ∉ pn) (h : JE Γ pn t m) : JS Γ pn fr (Wn t (Up i)) (zaG i m) := fun S σ ρ H τ D N hp R hm hn hr hb hc =>
 h S σ ρ H τ _ _ hp R hm fun v d H' ρ' R' r q => hn _ H' _ (R'.asg (hp i hi) r) q
theorem W6 (hi : i ∉ pn) (h : JF Γ pn t m) : JS Γ pn fr (Wn t (Up i)) (ZZ i m) := fun S σ ρ H τ D N hp R hm hn hr hb hc =>
 h S σ ρ H τ _ _ hp R hm fun p o H' ρ' R' ow h0 ne q => hn _ H' _ (R'.asgOwn (hp i hi) ow h0 (fun z => ne (.inl z))) q
abbrev MG := D -> Env -> (Env -> Prop) -> Prop
abbrev Vz := List D -> Env -> (Env -> Prop) -> Prop
def JG (Γ : Cn) (pn : List Nat) (g : TG) (m : MG) : Prop :=
 ∀ (S : Fs) (σ : St) (ρ : Env) (H : Hp) (τ : List (V × D)) (v : V) (d : D) (Q : St -> Hp -> Prop) (q : Env -> Prop), jL pn S -> Rel Γ S H σ ρ τ -> Rep Γ (zr S σ ρ) H v d -> m d ρ q -> (∀ σ' H' ρ', Rel Γ S H' σ' ρ' τ -> q ρ' -> Q σ' H') -> g v σ H Q
def JGs (Γ : Cn) (pn : List Nat) (g : TGs) (m : Vz) : Prop :=
 ∀ (S : Fs) (σ : St) (ρ : Env) (H : Hp) (τ : List (V × D)) (vs : List V) (ds : List D) (Q : St -> Hp -> Prop) (q : Env -> Prop), jL pn S -> Rel Γ S H σ ρ τ -> Reps Γ (zr S σ ρ) H vs ds -> m ds ρ q -> (∀ σ' H' ρ', Rel Γ S H' σ' ρ' τ -> q ρ' -> Q σ' H') -> g vs σ H Q
def zaH (i : Nat) : MG := fun d ρ q => q (ρ.set i (.val d))
theorem zif (hi : i ∉ pn) : JG Γ pn (Up i) (zaH i) := fun S σ ρ H τ v d Q q hp R r hm hq => hq _ _ _ (R.asg (hp i hi) r) hm
def zdF : Vz := fun ds ρ q => match ds with | [] => q ρ | _ => False
def zaI (g : MG) (r : Vz) : Vz := fun ds ρ q => match ds with | d :: ds => g d ρ fun ρ1 => r ds ρ1 q | _ => False
theorem Rel.pushs : ∀ {vs : List V} {ds : List D}, Rel Γ S H σ ρ τ -> Reps Γ (zr S σ ρ) H vs ds -> Rel Γ S H σ ρ (vs.zip ds ++ τ)
 | [], _, R, _ => R
 | _ :: _, [], R, _ => R
 | v :: vs, d :: ds, R, r => (Rel.pushs R r.tail).push r.head
theorem Rel.pops {vs : List V} {ds : List D} (R : Rel Γ S H σ ρ (vs.zip ds ++ τ)) (hl : vs.length = ds.length) : Rel Γ S H σ ρ τ /\ Reps Γ (zr S σ ρ) H vs ds := by
 refine ⟨R.cut, hl, fun i v d h1 h2 => R.tmp (v, d) (bn _ (eG.mpr ⟨i, ?_⟩))⟩
 rw [bN]
 exact ⟨h1, h2⟩
theorem zig : JGs Γ pn gNil zdF := fun S σ ρ H τ vs ds Q q hp R r hm hq => by
 cases ds with
 | nil => have h := r.1; cases vs with | nil => exact ⟨rfl, hq _ _ _ R hm⟩ | cons _ _ => simp at h
 | cons _ _ => exact aa hm
theorem zf_ (h1 : JG Γ pn g m) (h2 : JGs Γ pn u n) : JGs Γ pn (gCons g u) (zaI m n) := fun S σ ρ H τ vs ds Q q hp R r hm hq => by
 cases ds with
 | nil => exact aa hm
 | cons d ds =>
  cases vs with
  | nil => have h := r.1; simp at h
  | cons v vs =>
   refine ⟨v, vs, rfl, h1 S σ ρ H (vs.zip ds ++ τ) v d _ _ hp (R.pushs r.tail) r.head hm fun σ' H' ρ' R' q' => ?_⟩
   obtain ⟨R2, r2⟩ := R'.pops r.tail.1
   exact h2 S σ' ρ' H' τ vs ds Q q hp R2 r2 q' hq
def zdG (m : Vz) (n : Nat) : MG := fun d ρ q => match d with | .tup ds => ds.length = n /\ m ds ρ q | _ => False
theorem zkj (h : JGs Γ pn g m) : JG Γ pn (gTup Γ.K n g) (zdG m n) := fun S σ ρ H τ v d Q q hp R r hm hq => by
 cases d with
 | tup ds =>
  obtain ⟨a, xs, rfl, hs, rs⟩ := r.tuple
  exact ⟨a, xs, rfl, SqT.of hs, rs.1.trans hm.1, h S σ ρ H τ xs ds Q q hp R rs hm.2 hq⟩
 | _ => exact aa hm
abbrev MI := Env -> (List D -> Env -> Prop) -> Prop
def zkk (Γ : Cn) (J : It) (τ' : List (V × D)) (ds : List D) : Prop :=
 ∀ (E : Addr -> Prop) (H : Hp) (i : Nat), (∀ a, E a -> H a ≠ none) -> (∀ x ∈ τ', Rep Γ E H x.1 x.2) ->
  (i < ds.length -> J.go i H /\ ∀ x H', J.yld i H x H' -> Same H H' /\ ∃ d, ds[i]? = some d /\ Rep Γ E H' x d) /\ (i = ds.length -> J.stop i H)
def JI (Γ : Cn) (pn : List Nat) (wi : TI) (m : MI) : Prop :=
 ∀ (S : Fs) (σ : St) (ρ : Env) (H : Hp) (τ : List (V × D)) (Z : It -> Hp -> Prop) (q : List D -> Env -> Prop), jL pn S -> Rel Γ S H σ ρ τ -> m ρ q ->
  (∀ J ds H' ρ' τ', Rel Γ S H' σ ρ' (τ' ++ τ) -> zkk Γ J τ' ds -> q ds ρ' -> Z J H') -> wi σ H Z
def VA (m : ME) : MI := fun ρ q => m ρ fun d ρ' => match d with | .lst ds => q ds ρ' | .fz ns => q (ns.map D.int) ρ' | _ => False
theorem zih (h : JE Γ pn t m) : JI Γ pn (zg2 Γ.K t) (VA m) := fun S σ ρ H τ Z q hp R hm hz =>
 h S σ ρ H τ _ _ hp R hm fun v d H1 ρ1 R1 r1 q1 => by
  cases d with
  | lst ds =>
   obtain ⟨a, xs, rfl, hs, rs⟩ := r1.list
   refine ⟨a, rfl, ⟨xs, .inl (.inl hs)⟩, hz _ ds H1 ρ1 [(.ref a, .lst ds)] (R1.push r1) ?_ q1⟩
   intro E H i hE hx
   have r := hx (.ref a, .lst ds) (by simp)
   have r' : Rep Γ E H (.ref a) (.lst ds) := r
   obtain ⟨a', xs', e, hs', rs'⟩ := r'.list
   cases e
   refine ⟨fun hi => ?_, fun hi => ⟨xs', .inl (.inl hs'), by rw [rs'.1]; omega⟩⟩
   have hi' : i < xs'.length := by rw [rs'.1]; exact hi
   refine ⟨⟨xs', xs'[i], .inl (.inl hs'), ab hi'⟩, fun x H' y => ?_⟩
   obtain ⟨e, y⟩ := y
   subst e
   exact ⟨Same.refl _, ds[i], ab hi, rs'.2 i x _ (y xs' (.inl (.inl hs'))) (ab hi)⟩
  | fz ns =>
   obtain ⟨a, rfl, hs⟩ := r1.script
   refine ⟨a, rfl, ⟨_, hs⟩, hz _ (ns.map D.int) H1 ρ1 [(.ref a, .fz ns)] (R1.push r1) ?_ q1⟩
   intro E H i hE hx
   have r : Rep Γ E H (.ref a) (.fz ns) := hx (.ref a, .fz ns) (by simp)
   obtain ⟨a', e, hs'⟩ := r.script
   cases e
   refine ⟨fun hi => ?_, fun hi => ⟨_, hs', by simpa using gR hi.symm⟩⟩
   have hi' : i < ns.length := by simpa using hi
   refine ⟨⟨_, .int ns[i], hs', by rw [ar, ab hi']; rfl⟩, fun x H' y => ?_⟩
   obtain ⟨e, y⟩ := y
   subst e
   have y' := y _ hs'
   rw [ar, ab hi'] at y'
   cases y'
   exact ⟨Same.refl _, .int ns[i], by rw [ar, ab hi']; rfl, .int _⟩
  | _ => exact aa q1
def RO (m : ME) : MI := fun ρ q => m ρ fun d ρ' => match d with | .tup ds => q ds ρ' | _ => False
def RP (m : ME) : MI := fun ρ q => m ρ fun d ρ' => match d with | .str x => q (x.cps.toList.map fun c => D.str ⟨#[c]⟩) ρ' | _ => False
theorem zkl (h : JE Γ pn t m) : JI Γ pn (zj5 t) (RP m) := fun S σ ρ H τ Z q hp R hm hz =>
 h S σ ρ H τ _ _ hp R hm fun v d H1 ρ1 R1 r1 q1 => by
  cases d with
  | str x =>
   cases zcp r1
   refine ⟨x, rfl, hz _ _ H1 ρ1 [] R1 ?_ q1⟩
   intro E H i hE hx
   refine ⟨fun hi => ?_, fun hi => by show i = x.cps.size; simpa using hi⟩
   have hi' : i < x.cps.size := by simpa using hi
   refine ⟨hi', fun v H' y => ?_⟩
   obtain ⟨e, c, hc, e2⟩ := y
   subst e e2
   refine ⟨Same.refl _, .str ⟨#[c]⟩, ?_, .str _⟩
   have hc' : x.cps.toList[i]? = some c := by simpa using hc
   rw [ar, hc']; rfl
  | _ => exact aa q1
def yS (lo : Int) (n : Nat) : List D := (cg n).map fun (i : Nat) => D.int (lo + (i : Int))
def Yo (m : MA) : MI := fun ρ q => m ρ fun ds ρ' => match ds with
 | [.int j] => (-1000000 <= j /\ j <= 1000000) /\ q (yS 0 j.toNat) ρ'
 | _ => False
theorem zga : zkk Γ (Itr lo n) [] (yS lo n) := fun E H i hE hx => by
 unfold yS
 refine ⟨fun hi => ?_, fun hi => by show n <= i; simp at hi; omega⟩
 have hi' : i < n := by simpa using hi
 refine ⟨hi', fun x H' y => ?_⟩
 obtain ⟨e, y⟩ := y
 subst e y
 refine ⟨Same.refl _, .int (lo + i), ?_, .int _⟩
 rw [ar, List.getElem?_range hi']; rfl
theorem zgb {E : Addr -> Prop} (r : Reps Γ E H vs [.int i]) : vs = [.int i] := by
 match vs, r with
 | [], r => have h := r.1; simp at h
 | [v], r => rw [Ws r.head]
 | _ :: _ :: _, r => have h := r.1; simp at h
theorem zeR (h : JA Γ pn t m) : JI Γ pn (zg3 t) (Yo m) := fun S σ ρ H τ Z q hp R hm hz =>
 h S σ ρ H τ _ _ hp R hm fun vs ds H1 ρ1 R1 r1 q1 => by
  split at q1
  · exact ⟨_, zgb r1, by have := q1.1; omega, by have := q1.1; omega, hz _ _ H1 ρ1 [] R1 zga q1.2⟩
  · exact aa q1
theorem RR.cut (h : RR Γ fr S σ ρ H (τ' ++ τ) v d) : RR Γ fr S σ ρ H τ v d := by
 cases fr with
 | false => exact ⟨h.1.cut, h.2⟩
 | true => obtain ⟨p, e, R, r⟩ := h; exact ⟨p, e, R.cut, r⟩
def Wu (g : MG) (b : MS) : List D -> Ym -> Env -> Prop
 | [], N, ρ => N.nx ρ
 | d :: ds, N, ρ => g d ρ fun ρ1 => b { nx := fun ρ2 => Wu g b ds N ρ2, rt := N.rt, bk := N.nx, ct := fun ρ2 => Wu g b ds N ρ2 } ρ1
def zdH (mi : MI) (g : MG) (b : MS) : MS := fun N ρ => mi ρ fun ds ρ1 => Wu g b ds N ρ1
theorem zkm (hi : JI Γ pn wi mi) (hg : JG Γ pn g mg) (hbd : JS Γ pn fr tb mb) : JS Γ pn fr (zjB wi g tb) (zdH mi mg mb) := fun S σ ρ H τ D N hp R hm hn hr hb hc =>
 hi S σ ρ H τ _ _ hp R hm fun J ds H1 ρ1 τ' R1 ok q1 => by
  refine ⟨fun i m σ H => m = ds.length - i /\ i <= ds.length /\ ∃ ρ, Rel Γ S H σ ρ (τ' ++ τ) /\ Wu mg mb (ds.drop i) N ρ, ⟨ds.length, by simp, bI _, ρ1, R1, by simpa using q1⟩, ?_⟩
  rintro i m σ2 H2 ⟨rfl, hle, ρ2, R2, q2⟩
  obtain ⟨go, stop⟩ := ok (zr S σ2 ρ2) H2 i (fun a z => yz R2 z) fun x hx => R2.tmp x (bn _ hx)
  by_cases hlt : i < ds.length
  · obtain ⟨g1, g2⟩ := go hlt
    have ed : ds.drop i = ds[i] :: ds.drop (i + 1) := dF hlt
    rw [ed] at q2
    refine .inr ⟨g1, fun σ' H' => ∃ ρ', Rel Γ S H' σ' ρ' (τ' ++ τ) /\ Wu mg mb (ds.drop (i + 1)) N ρ', fun σ' H' h => ⟨ds.length - (i + 1), by omega, rfl, hlt, h⟩, fun x H' y => ?_⟩
    obtain ⟨same, d, hd, rx⟩ := g2 x H' y
    rw [ab hlt] at hd
    cases hd
    refine hg S σ2 ρ2 H' (τ' ++ τ) x _ _ _ hp (R2.grow same) rx q2 fun σ3 H3 ρ3 R3 q3 => ?_
    exact hbd S σ3 ρ3 H3 (τ' ++ τ) _ _ hp R3 q3 (fun σ' H' ρ' R' q' => ⟨ρ', R', q'⟩) (fun v d σ' H' ρ' r' q' => hr v d σ' H' ρ' r'.cut q') (fun σ' H' ρ' R' q' => hn σ' H' ρ' R'.cut q') (fun σ' H' ρ' R' q' => ⟨ρ', R', q'⟩)
  · have e : i = ds.length := by omega
    subst e
    rw [fS] at q2
    exact .inl ⟨stop rfl, hn _ _ _ R2.cut q2⟩
def JR (js : List (Option Nat)) (ρ : Env) : Env := js.map fun j => match j with | some j => (ρ[j]?).getD .no | none => .no
def j6 (ρ : Env) (j : Nat) (o : D) : Env := match ρ[j]? with | some (.own _) => ρ.set j (.own o) | _ => ρ
def jm (ρ : Env) (x : Option Nat) (s : Slot) : Env := match x, s with
 | some j, .own o => j6 ρ j o
 | _, _ => ρ
def zS : List (Option Nat) -> Env -> Env -> Env
 | x :: js, s :: ρb, ρ => zS js ρb (jm ρ x s)
 | _, _, ρ => ρ
def Uw (g : MG) (c : MT) (e : ME) : List D -> List D -> Env -> (List D -> Env -> Prop) -> Prop
 | [], acc, ρ, q => q acc ρ
 | d :: ds, acc, ρ, q => g d ρ fun ρ1 => c ρ1 fun b ρ2 => if b = true then e ρ2 fun y ρ3 => Uw g c e ds (acc ++ [y]) ρ3 q else Uw g c e ds acc ρ2 q
def Ux (mi : MI) (js : List (Option Nat)) (g : MG) (c : MT) (e : ME) : ME := fun ρ q => mi ρ fun ds ρ1 => ds.length <= 100000 /\ Uw g c e ds [] (JR js ρ1) fun ys ρb => q (.lst ys) (zS js ρb ρ1)
def Z3 (js : List (Option Nat)) : List Nat := (cg js.length).filter fun k => ((js[k]?).join).isSome
def mTT : MT := fun ρ q => q true ρ
theorem zlH : JT Γ pn tTT mTT := fun S σ ρ H τ Q q hp R hm hq => hq true H ρ R hm
def QM (js : List (Option Nat)) (σ : St) (ρ : Env) (k : Nat) : Option Addr := match (js[k]?).join with
 | some j => match ρ[j]?, σ[j]? with
  | some (.own _), some (some (.ref p)) => some p
  | _, _ => none
 | none => none
theorem QF (h : QM js σ ρ k = some p) : ∃ j o, js[k]? = some (some j) /\ ρ[j]? = some (.own o) /\ σ[j]? = some (some (.ref p)) := by
 unfold QM at h
 cases e : js[k]? with
 | none => rw [e] at h; cases h
 | some x =>
  rw [e] at h
  cases x with
  | none => cases h
  | some j =>
   dsimp only [Option.join] at h
   refine ⟨j, ?_⟩
   have h : (match ρ[j]?, σ[j]? with
    | some (.own _), some (some (.ref p)) => some p
    | _, _ => none) = some p := h
   split at h
   · rename_i o q e1 e2
     cases h
     exact ⟨o, rfl, e1, e2⟩
   · cases h
theorem Wv (h1 : js[k]? = some (some j)) (h2 : ρ[j]? = some (.own o)) (h3 : σ[j]? = some (some (.ref p))) : QM js σ ρ k = some p := by
  unfold QM
  rw [h1]
  show (match ρ[j]?, σ[j]? with
        | some (.own _), some (some (.ref p)) => some p
        | _, _ => none) = some p
  rw [h2, h3]
def Fs.blk (S : Fs) (js : List (Option Nat)) (σ : St) (ρ : Env) (H : Hp) : Fs where
 C := fun a => zr S σ ρ a /\ ∀ k, QM js σ ρ k ≠ some a
 H0 := H
 pin := QM js σ ρ
theorem Q8 {js : List (Option Nat)} {σ : St} {k j : Nat} (h : js[k]? = some (some j)) : (blk js σ)[k]? = some ((σ[j]?).join) := by
 unfold blk; rw [ar, h]; rfl
theorem zgc {js : List (Option Nat)} {ρ : Env} {k j : Nat} (h : js[k]? = some (some j)) : (JR js ρ)[k]? = some ((ρ[j]?).getD .no) := by
 unfold JR; rw [ar, h]; rfl
theorem Z4 {js : List (Option Nat)} {ρ : Env} {k : Nat} {s : Slot} (h : (JR js ρ)[k]? = some s) (hs : s ≠ .no) : ∃ j, js[k]? = some (some j) /\ ρ[j]? = some s := by
 unfold JR at h
 rw [ar] at h
 cases e : js[k]? with
 | none => rw [e] at h; cases h
 | some x =>
  rw [e] at h
  cases x with
  | none => cases h; exact absurd rfl hs
  | some j =>
   refine ⟨j, rfl, ?_⟩
   simp only [bG, Option.some.injEq] at h
   cases q : ρ[j]? with
   | none => rw [q] at h; exact absurd h.symm hs
   | some u => rw [q] at h; cases h; rfl
def Once (js : List (Option Nat)) : Prop := ∀ (k k' j : Nat), js[k]? = some (some j) -> js[k']? = some (some j) -> k = k'
section
variable {S : Fs} {H : Hp} {σ : St} {ρ : Env} {τ : List (V × D)} {js : List (Option Nat)}
theorem Rel.blkEx (R : Rel Γ S H σ ρ τ) : ∀ a, zr (S.blk js σ ρ H) (blk js σ) (JR js ρ) a -> zr S σ ρ a := fun a h => by
 rcases h with h | ⟨k, ⟨o, ho⟩, e⟩
 · exact h.1
 · obtain ⟨j, hj, hr⟩ := Z4 ho (by simp)
   obtain ⟨p, e1, _⟩ := R.own j o hr
   rw [Q8 hj, e1] at e
   cases e
   exact .inr ⟨j, ⟨o, hr⟩, e1⟩
theorem Rel.toBlk (R : Rel Γ S H σ ρ τ) (h1 : Once js) : Rel Γ (S.blk js σ ρ H) H (blk js σ) (JR js ρ) τ where
 len := by simp [blk, JR]
 val := fun k d h => by
  obtain ⟨j, hj, hr⟩ := Z4 h (by simp)
  obtain ⟨v, e, r⟩ := R.val j d hr
  exact ⟨v, by rw [Q8 hj, e]; rfl, r.up (fun b _ => R.blkEx b) fun _ _ _ q => q⟩
 own := fun k o h => by
  obtain ⟨j, hj, hr⟩ := Z4 h (by simp)
  obtain ⟨p, e, r, n, pn⟩ := R.own j o hr
  have hc := Wv hj hr e
  exact ⟨p, by rw [Q8 hj, e]; rfl, r.up (fun _ q => q) (fun b _ => R.blkEx b) fun _ _ _ q => q, fun z => z.2 k hc, .inl hc⟩
 pin := fun k p h => by
  obtain ⟨j, o, hj, hr, e⟩ := QF h
  exact ⟨by rw [Q8 hj, e]; rfl, o, by rw [zgc hj, hr]; rfl⟩
 inj := fun k k' p hk hk' e1 e2 => by
  obtain ⟨o, ho⟩ := hk
  obtain ⟨o', ho'⟩ := hk'
  obtain ⟨j, hj, hr⟩ := Z4 ho (by simp)
  obtain ⟨j', hj', hr'⟩ := Z4 ho' (by simp)
  obtain ⟨p1, q1, _⟩ := R.own j o hr
  obtain ⟨p2, q2, _⟩ := R.own j' o' hr'
  rw [Q8 hj, q1] at e1
  rw [Q8 hj', q2] at e2
  cases e1; cases e2
  have := R.inj j j' _ ⟨o, hr⟩ ⟨o', hr'⟩ q1 q2
  subst this
  exact h1 k k' j hj hj'
 dom := fun a h => yz R h.1
 fr := fun b o h _ => h
 tmp := fun x hx => (R.tmp x hx).up (fun b _ => R.blkEx b) fun _ _ _ q => q
theorem zdI {ρ : Env} : (j6 ρ j o).length = ρ.length := by
 unfold j6; split <;> simp
theorem W7 (h : i ≠ j) : (j6 ρ i o)[j]? = ρ[j]? := by
 unfold j6; split
 · exact getElem?_set_ne h
 · rfl
theorem W8 (h : yd ρ j) : (j6 ρ j o)[j]? = some (.own o) := by
 obtain ⟨u, hu⟩ := h
 unfold j6
 rw [hu]
 dsimp only
 rw [bb, if_pos rfl, if_pos (ay.mp hu).1]
theorem zdJ {ρ : Env} : (jm ρ x s).length = ρ.length := by
 unfold jm; split
 · exact zdI
 · rfl
theorem zeS (h : x = some j -> ∀ o, s ≠ .own o) : (jm ρ x s)[j]? = ρ[j]? := by
 unfold jm; split
 · rename_i i o
   exact W7 fun z => h (by rw [z]) o rfl
 · rfl
theorem Y3 : (jm ρ x s)[j]? = ρ[j]? \/ (yd ρ j /\ yd (jm ρ x s) j) := by
 unfold jm; split
 · rename_i i o
   by_cases e : i = j
   · subst e
     by_cases h : yd ρ i
     · exact .inr ⟨h, o, W8 h⟩
     · refine .inl ?_
       unfold j6
       split
       · rename_i u hu; exact absurd ⟨u, hu⟩ h
       · rfl
   · exact .inl (W7 e)
 · exact .inl rfl
theorem VB : ∀ {js : List (Option Nat)} {ρb ρ : Env}, (zS js ρb ρ).length = ρ.length
 | [], _, _ => by simp [zS]
 | x :: js, [], _ => by simp [zS]
 | x :: js, s :: ρb, ρ => by rw [zS, VB, zdJ]
theorem Y4 : ∀ {js : List (Option Nat)} {ρb ρ : Env} {j : Nat}, (zS js ρb ρ)[j]? = ρ[j]? \/ (yd ρ j /\ yd (zS js ρb ρ) j)
 | [], _, _, _ => .inl (by simp [zS])
 | x :: js, [], _, _ => .inl (by simp [zS])
 | x :: js, s :: ρb, ρ, j => by
  rw [zS]
  rcases Y4 (js := js) (ρb := ρb) (ρ := jm ρ x s) (j := j) with h | ⟨h1, h2⟩
  · rcases Y3 (ρ := ρ) (x := x) (s := s) (j := j) with g | ⟨g1, g2⟩
    · exact .inl (h.trans g)
    · obtain ⟨o, ho⟩ := g2
      exact .inr ⟨g1, o, h.trans ho⟩
  · refine .inr ⟨?_, h2⟩
    rcases Y3 (ρ := ρ) (x := x) (s := s) (j := j) with g | ⟨g1, g2⟩
    · obtain ⟨o, ho⟩ := h1
      exact ⟨o, g.symm.trans ho⟩
    · exact g1
theorem Zh : ∀ {js : List (Option Nat)} {ρb ρ : Env} {j : Nat}, (∀ (k : Nat), js[k]? = some (some j) -> ∀ o, ρb[k]? ≠ some (Slot.own o)) -> (zS js ρb ρ)[j]? = ρ[j]?
 | [], _, _, _, _ => by simp [zS]
 | x :: js, [], ρ, j, _ => by simp [zS]
 | x :: js, s :: ρb, ρ, j, h => by
  have h' : ∀ (k : Nat), js[k]? = some (some j) -> ∀ o, ρb[k]? ≠ some (Slot.own o) := fun k hk o => by
   have := h (k + 1) (by simpa using hk) o
   simpa using this
  rw [zS, Zh h']
  exact zeS fun e o z => h 0 (by simp [e]) o (by simp [z])
theorem W9 : ∀ {js : List (Option Nat)} {ρb ρ : Env} {j k : Nat} {o : D}, Once js -> js[k]? = some (some j) -> ρb[k]? = some (Slot.own o) -> yd ρ j -> (zS js ρb ρ)[j]? = some (Slot.own o)
 | [], _, _, _, _, _, _, h, _, _ => by simp at h
 | x :: js, [], _, _, _, _, _, _, h, _ => by simp at h
 | x :: js, s :: ρb, ρ, j, k, o, on, h1, h2, hl => by
  have on' : Once js := fun a b i ha hb => by
   have := on (a + 1) (b + 1) i (by simpa using ha) (by simpa using hb)
   omega
  rw [zS]
  cases k with
  | zero =>
   simp at h1 h2
   subst h1 h2
   rw [Zh (fun k hk => ?_)]
   · exact W8 hl
   · have := on 0 (k + 1) j rfl (by simpa using hk)
     omega
  | succ k =>
   have h1' : js[k]? = some (some j) := by simpa using h1
   have h2' : ρb[k]? = some (Slot.own o) := by simpa using h2
   refine W9 on' h1' h2' ?_
   rcases Y3 (ρ := ρ) (x := x) (s := s) (j := j) with g | ⟨_, g2⟩
   · obtain ⟨u, hu⟩ := hl
     exact ⟨u, g.trans hu⟩
   · exact g2
theorem Rel.ofBlk (R : Rel Γ S H σ ρ τ) (h1 : Once js) (B : Rel Γ (S.blk js σ ρ H) H2 σb ρb τb) :
 Rel Γ S H2 σ (zS js ρb ρ) τ /\ ∀ a, zr S σ (zS js ρb ρ) a -> zr (S.blk js σ ρ H) σb ρb a := by
 have at_ : ∀ (j : Nat) (o : D), ρ[j]? = some (Slot.own o) -> (∃ (k : Nat) (o' : D), js[k]? = some (some j) /\ ρb[k]? = some (Slot.own o') /\ (zS js ρb ρ)[j]? = some (Slot.own o')) \/ ((∀ (k : Nat), js[k]? ≠ some (some j)) /\ (zS js ρb ρ)[j]? = some (Slot.own o)) := fun j o ho => by
  by_cases h : ∃ (k : Nat), js[k]? = some (some j)
  · obtain ⟨k, hk⟩ := h
    obtain ⟨p, e, _⟩ := R.own j o ho
    obtain ⟨_, o', ho'⟩ := B.pin k p (Wv hk ho e)
    exact .inl ⟨k, o', hk, ho', W9 h1 hk ho' ⟨o, ho⟩⟩
  · have h' : ∀ (k : Nat), js[k]? ≠ some (some j) := fun k hk => h ⟨k, hk⟩
    exact .inr ⟨h', by rw [Zh fun k hk => absurd hk (h' k)]; exact ho⟩
 have own_iff : ∀ j, yd (zS js ρb ρ) j -> yd ρ j := fun j ⟨o, ho⟩ => by
  rcases Y4 (js := js) (ρb := ρb) (ρ := ρ) (j := j) with g | ⟨g, _⟩
  · exact ⟨o, g.symm.trans ho⟩
  · exact g
 have exE : ∀ a, zr S σ (zS js ρb ρ) a -> zr S σ ρ a := fun a h => by
  rcases h with h | ⟨j, hj, e⟩
  · exact .inl h
  · exact .inr ⟨j, own_iff j hj, e⟩
 have exB : ∀ a, zr S σ ρ a -> zr (S.blk js σ ρ H) σb ρb a := fun a h => by
  by_cases hc : ∃ k, QM js σ ρ k = some a
  · obtain ⟨k, hk⟩ := hc
    obtain ⟨e, ow⟩ := B.pin k a hk
    exact .inr ⟨k, ow, e⟩
  · exact .inl ⟨h, fun k z => hc ⟨k, z⟩⟩
 have keepc : ∀ b u, (∀ k, QM js σ ρ k ≠ some b) -> H b = some u -> H2 b = some u := fun b u n q => B.fr b u q n
 have captEx : ∀ k b, QM js σ ρ k = some b -> zr S σ ρ b := fun k b h => by
  obtain ⟨j, o, _, hr, e⟩ := QF h
  exact .inr ⟨j, ⟨o, hr⟩, e⟩
 have keep : ∀ b u, ¬ zr S σ ρ b -> H b = some u -> H2 b = some u := fun b u n q => keepc b u (fun k z => n (captEx k b z)) q
 refine ⟨?_, fun a h => exB a (exE a h)⟩
 exact {
  len := by rw [VB]; exact R.len
  val := fun j d hj => by
   have hr : ρ[j]? = some (.val d) := by
    rcases Y4 (js := js) (ρb := ρb) (ρ := ρ) (j := j) with g | ⟨_, o, g⟩
    · exact g.symm.trans hj
    · rw [hj] at g; cases g
   obtain ⟨v, e, r⟩ := R.val j d hr
   exact ⟨v, e, r.up (fun b _ => exE b) keep⟩
  own := fun j o hj => by
   obtain ⟨o0, ho⟩ := own_iff j ⟨o, hj⟩
   obtain ⟨p, e, r, n, pn⟩ := R.own j o0 ho
   refine ⟨p, e, ?_, n, pn⟩
   rcases at_ j o0 ho with ⟨k, o', hk, ho', hm⟩ | ⟨hk, hm⟩
   · rw [hm] at hj; cases hj
     have hc := Wv hk ho e
     obtain ⟨e2, _⟩ := B.pin k p hc
     obtain ⟨p', e3, r', _⟩ := B.own k o ho'
     rw [e2] at e3; cases e3
     exact r'.up (fun _ q => q) (fun b _ z => exB b (exE b z)) fun _ _ _ q => q
   · rw [hm] at hj; cases hj
     refine r.up (fun u q => keepc p u (fun k z => ?_) q) (fun b _ => exE b) keep
     obtain ⟨j', o', hk', hr', e'⟩ := QF z
     have := R.inj j j' p ⟨o, ho⟩ ⟨o', hr'⟩ e e'
     subst this
     exact hk k hk'
  pin := fun j p hj => by
   obtain ⟨e, o, ho⟩ := R.pin j p hj
   refine ⟨e, ?_⟩
   rcases at_ j o ho with ⟨k, o', _, _, hm⟩ | ⟨_, hm⟩
   · exact ⟨o', hm⟩
   · exact ⟨o, hm⟩
  inj := fun i j p hi hj e1 e2 => R.inj i j p (own_iff i hi) (own_iff j hj) e1 e2
  dom := fun a ha => by
   by_cases hc : ∃ k, QM js σ ρ k = some a
   · obtain ⟨k, hk⟩ := hc
     obtain ⟨e, o, ho⟩ := B.pin k a hk
     obtain ⟨p, e', r, _⟩ := B.own k o ho
     rw [e] at e'; cases e'
     exact r.ne0
   · cases q : H a with
     | none => exact absurd q (R.dom a ha)
     | some u => rw [keepc a u (fun k z => hc ⟨k, z⟩) q]; simp
  fr := fun b u h0 n => by
   refine keepc b u (fun k z => ?_) (R.fr b u h0 n)
   obtain ⟨j, o, _, hr, e⟩ := QF z
   obtain ⟨p, e', _, _, pn⟩ := R.own j o hr
   rw [e] at e'; cases e'
   rcases pn with q | ⟨_, q⟩
   · exact n j q
   · rw [q] at h0; cases h0
  tmp := fun x hx => (R.tmp x hx).up (fun b _ => exE b) keep }
end
end
section
variable {Γ : Cn} {pn : List Nat} {fr : Bool}
theorem zgd {S : Fs} : jL (Z3 js) (S.blk js σ ρ H) := fun k hk => by
 show QM js σ ρ k = none
 cases e : QM js σ ρ k with
 | none => rfl
 | some p =>
  obtain ⟨j, o, hj, _⟩ := QF e
  refine absurd (gg.mpr ⟨bZ.mpr (ay.mp hj).1, ?_⟩) hk
  rw [hj]; rfl
theorem zge {α β : Type} {xs : List α} {ys : List β} {x : α} {y : β} (h : ys.length = xs.length) : (xs ++ [x]).zip (ys ++ [y]) = xs.zip ys ++ [(x, y)] := by
 rw [List.zip_append h.symm]; rfl
theorem Ww (h1 : Once js) (hi : JI Γ pn wi mi) (hg : JG Γ (Z3 js) g mg) (hc : JT Γ (Z3 js) tc mc) (he : JE Γ (Z3 js) te me) :
 JF Γ pn (zdv wi js g tc te) (Ux mi js mg mc me) := fun S σ ρ H τ Q q hp R hm hq =>
 hi S σ ρ H τ _ _ hp R hm fun J ds H1 ρ1 τ' R1 ok ⟨hlen, q1⟩ => by
  have line : (100000 : Nat) < az := by decide
  refine ⟨fun i m ys σ' H' => m = ds.length - i /\ i <= ds.length /\ ys.length <= i /\ ∃ ρb acc, acc.length = ys.length /\ Rel Γ (S.blk js σ ρ1 H1) H' σ' ρb (ys.zip acc ++ (τ' ++ τ)) /\ Uw mg mc me (ds.drop i) acc ρb fun ys ρb => q (.lst ys) (zS js ρb ρ1),
   ⟨ds.length, by simp, bI _, aC _, JR js ρ1, [], rfl, R1.toBlk h1, by simpa using q1⟩, ?_⟩
  rintro i m ys σ2 H2 ⟨rfl, hle, hyl, ρ2, acc, hacc, R2, q2⟩
  obtain ⟨go, stop⟩ := ok (zr (S.blk js σ ρ1 H1) σ2 ρ2) H2 i (fun a z => yz R2 z) fun x hx => R2.tmp x (aH _ (bn _ hx))
  by_cases hlt : i < ds.length
  · obtain ⟨g1, g2⟩ := go hlt
    have ed : ds.drop i = ds[i] :: ds.drop (i + 1) := dF hlt
    rw [ed] at q2
    refine .inr ⟨g1, by omega, fun ys' σ' H' => ys'.length <= i + 1 /\ ∃ ρb acc, acc.length = ys'.length /\ Rel Γ (S.blk js σ ρ1 H1) H' σ' ρb (ys'.zip acc ++ (τ' ++ τ)) /\ Uw mg mc me (ds.drop (i + 1)) acc ρb fun ys ρb => q (.lst ys) (zS js ρb ρ1),
     fun ys' σ' H' h => ⟨ds.length - (i + 1), by omega, rfl, hlt, h.1, h.2⟩, fun x H' y => ?_⟩
    obtain ⟨same, d, hd, rx⟩ := g2 x H' y
    rw [ab hlt] at hd
    cases hd
    refine hg _ σ2 ρ2 H' _ x _ _ _ zgd (R2.grow same) rx q2 fun σ3 H3 ρ3 R3 q3 => ?_
    refine hc _ σ3 ρ3 H3 _ _ _ zgd R3 q3 fun b H4 ρ4 R4 q4 => ?_
    cases b with
    | false =>
     rw [if_neg af] at q4 ⊢
     exact ⟨by omega, ρ4, acc, hacc, R4, q4⟩
    | true =>
     rw [if_pos rfl] at q4 ⊢
     refine he _ σ3 ρ4 H4 _ _ _ zgd R4 q4 fun y d H5 ρ5 R5 r5 q5 => ?_
     refine ⟨by simp; omega, ρ5, acc ++ [d], by simp [hacc], { R5 with tmp := fun z hz => ?_ }, q5⟩
     rw [zge hacc] at hz
     rcases bH.mp hz with hz | hz
     · rcases bH.mp hz with hz | hz
       · exact R5.tmp z (bn _ hz)
       · have e : z = (y, d) := by simpa using hz
         subst e; exact r5
     · exact R5.tmp z (aH _ hz)
  · have e : i = ds.length := by omega
    subst e
    rw [fS] at q2
    refine .inl ⟨stop rfl, by omega, fun p hn => ?_⟩
    obtain ⟨R3, sub⟩ := R1.ofBlk h1 R2
    have rs := (R2.pops hacc.symm).2
    have rs' : Reps Γ (zr S σ (zS js ρ2 ρ1)) H2 ys acc := rs.up (fun b _ => sub b) fun _ _ _ z => z
    obtain ⟨a, b, c, d⟩ := jK R3 rs' hn
    exact hq p _ _ _ a.cut b c d q2
theorem Yp {S : Fs} {H : Hp} {σ : St} {ρ : Env} {τ : List (V × D)} {i : Nat} {ds : List D} (R : Rel Γ S H σ ρ τ) (h : ρ[i]? = some (.own (.lst ds))) : ∃ p xs, σ[i]? = some (some (.ref p)) /\ H p = some (.lst xs) /\ Reps Γ (zr S σ ρ) H xs ds := by
 obtain ⟨p, e, ⟨xs, hx, r⟩, _⟩ := R.own i _ h
 exact ⟨p, xs, e, hx, r⟩
theorem Rel.lset {ρ : Env} (R : Rel Γ S H σ ρ τ) (h : ρ[i]? = some (.own (.lst ds))) (e : σ[i]? = some (some (.ref p))) (r : Reps Γ (zr S σ ρ) H ys es) :
 Rel Γ S (zA H p (.lst ys)) σ (ρ.set i (.own (.lst es))) τ := by
 have hk : ∀ b u, b ≠ p -> H b = some u -> zA H p (.lst ys) b = some u := fun b u n q => by rw [zp n]; exact q
 refine R.write h e hk ⟨ys, zU, r.up (fun _ _ z => z) fun b o n q => hk b o (fun z => n ?_) q⟩
 rw [z]; exact .inr ⟨i, ⟨_, h⟩, e⟩
def U5 (s : Option Slot) (k : List D -> Prop) : Prop := match s with | some (.own (.lst ds)) => k ds | _ => False
theorem Uy {k : List D -> Prop} (h : U5 s k) : ∃ ds, s = some (.own (.lst ds)) /\ k ds := by
 unfold U5 at h
 split at h
 · exact ⟨_, rfl, h⟩
 · exact aa h
def Uz (f : List D -> D -> (D -> List D -> Prop) -> Prop) (i : Nat) (a : ME) : ME := fun ρ q => U5 ρ[i]? fun _ => a ρ fun d ρ1 => U5 ρ1[i]? fun ds => f ds d fun r es => q r (ρ1.set i (.own (.lst es)))
theorem zcs {r : V -> List V -> Hp -> VK -> Prop} {f : List D -> D -> (D -> List D -> Prop) -> Prop} {i : Nat} {ta : TE} {a : ME} (ha : JE Γ pn ta a)
 (hr : ∀ (E : Addr -> Prop) (H : Hp) (p : Addr) (xs : List V) (ds : List D) (y : V) (d : D) (Q : VK) (q : D -> List D -> Prop), H p = some (.lst xs) -> Reps Γ E H xs ds -> Rep Γ E H y d -> f ds d q -> (∀ v ys r es, Rep Γ E H v r -> Reps Γ E H ys es -> q r es -> Q v (zA H p (.lst ys))) -> r (.ref p) [y] H Q) :
 JE Γ pn (tBM Γ.K "list" r (J5 i) (Jx ta ZG)) (Uz f i a) := fun S σ ρ H τ Q q hp R hm hq => by
 obtain ⟨_, h0, hm⟩ := Uy hm
 obtain ⟨p, xs, e, hx, rs⟩ := Yp R h0
 refine ⟨_, e, .inl ⟨rfl, xs, .inl (.inl hx)⟩, ?_⟩
 refine ha S σ ρ H τ _ _ hp R hm fun y d H1 ρ1 R1 r1 q1 => ?_
 obtain ⟨ds, h1, q1⟩ := Uy q1
 obtain ⟨p', xs', e', hx', rs'⟩ := Yp R1 h1
 rw [e] at e'; cases e'
 refine hr (zr S σ ρ1) H1 p xs' ds y d Q _ hx' rs' r1 q1 fun v ys r es rv re q' => ?_
 have hk : ∀ b u, ¬ zr S σ ρ1 b -> H1 b = some u -> zA H1 p (.lst ys) b = some u := fun b u n z => by rw [zp (fun w => n (by rw [w]; exact .inr ⟨i, ⟨_, h1⟩, e⟩))]; exact z
 refine hq v r _ _ (R1.lset h1 e re) (rv.up (fun b _ z => ?_) hk) q'
 rcases z with z | ⟨j, ⟨o, ho⟩, ej⟩
 · exact .inl z
 · by_cases ij : i = j
   · subst ij; exact .inr ⟨i, ⟨_, h1⟩, ej⟩
   · rw [getElem?_set_ne ij] at ho; exact .inr ⟨j, ⟨o, ho⟩, ej⟩
def Wx : List D -> D -> (D -> List D -> Prop) -> Prop := fun ds d q => ds.length < 100000 /\ q .non (ds ++ [d])
theorem zeT (ha : JE Γ pn ta a) : JE Γ pn (tBM Γ.K "list" zcf (J5 i) (Jx ta ZG)) (Uz Wx i a) :=
 zcs ha fun E H p xs ds y d Q q hx rs ry ⟨hl, hq⟩ k => ⟨p, xs, y, rfl, rfl, hx, by rw [rs.1]; exact fv hl (by decide), k _ _ _ _ .non (rs.append (.cons ry .nil)) hq⟩
def VC (i : Nat) (a v : ME) : MS := fun N ρ => v ρ fun d ρ0 => U5 ρ0[i]? fun _ => a ρ0 fun x ρ1 => U5 ρ1[i]? fun ds => match x with
 | .int j => (0 <= j /\ j.toNat < ds.length) /\ N.nx (ρ1.set i (.own (.lst (ds.set j.toNat d))))
 | _ => False
theorem zgf {i : Nat} {tv ta : TE} {v a : ME} (hv : JE Γ pn tv v) (ha : JE Γ pn ta a) : JS Γ pn fr (Wn tv (zjx (J5 i) ta zhb)) (VC i a v) := fun S σ ρ H τ D N hp R hm hn hr hb hc =>
 hv S σ ρ H τ _ _ hp R hm fun w d H0 ρ0 R0 r0 q0 => by
  obtain ⟨_, h0, q0⟩ := Uy q0
  obtain ⟨p, xs, e, hx, rs⟩ := Yp R0 h0
  refine ⟨_, e, ?_⟩
  refine ha S σ ρ0 H0 ((w, d) :: τ) _ _ hp (R0.push r0) q0 fun y x H1 ρ1 R1 r1 q1 => ?_
  obtain ⟨ds, h1, q1⟩ := Uy q1
  cases x with
  | int j =>
   obtain ⟨⟨j0, j1⟩, q1⟩ := q1
   cases Ws r1
   obtain ⟨p', xs', e', hx', rs'⟩ := Yp R1 h1
   rw [e] at e'; cases e'
   have hl : j.toNat < xs'.length := by rw [rs'.1]; exact j1
   refine ⟨p, xs', j, j.toNat, rfl, rfl, hx', ?_, hn _ _ _ (R1.pop.1.lset h1 e (rs'.set _ R1.pop.2)) q1⟩
   unfold Jk
   rw [if_pos j0, if_pos (by omega)]
  | _ => exact aa q1
end
abbrev PSp := List Slot -> (D -> List D -> Prop) -> (D -> List D -> Prop) -> Prop
def Yq : List Nat -> Env -> (List D -> Prop) -> Prop
 | [], _, k => k []
 | i :: r, ρ, k => match ρ[i]? with | some (.own o) => Yq r ρ fun os => k (o :: os) | _ => False
def zgg (pn : List Nat) (ρ : Env) (os : List D) : Prop := os.length = pn.length /\ ∀ (k i : Nat) o, pn[k]? = some i -> os[k]? = some o -> ρ[i]? = some (.own o)
theorem zct : ∀ {pn : List Nat} {ρ : Env} {k : List D -> Prop}, Yq pn ρ k -> ∃ os, zgg pn ρ os /\ k os
 | [], ρ, k, h => ⟨[], ⟨rfl, fun k i o h => by simp at h⟩, h⟩
 | i :: r, ρ, k, h => by
  unfold Yq at h
  split at h
  · rename_i o ho
    obtain ⟨os, ⟨hl, hp⟩, hk⟩ := zct h
    refine ⟨o :: os, ⟨by simp [hl], fun j x u h1 h2 => ?_⟩, hk⟩
    cases j with
    | zero => simp at h1 h2; subst h1 h2; exact ho
    | succ j => simp at h1 h2; exact hp j x u h1 h2
  · exact aa h
def Z0 : D -> List D -> Prop := fun _ _ => False
def yK (Γ : Cn) (pn : List Nat) (fr : Bool) (n : Nat) (p : PSp) : Sp := fun vs H Q _ => vs.length = n /\ ∃ (S : Fs) (ss : List Slot) (q : D -> List D -> Prop), jL pn S /\ S.H0 = H /\ Rel Γ S H (vs.map some) ss [] /\ p ss q Z0 /\
 ∀ v d H' σ' ρ' os, RR Γ fr S σ' ρ' H' [] v d -> zgg pn ρ' os -> q d os -> Q v H'
section
variable {Γ : Cn} {pn : List Nat} {fr : Bool}
theorem J9 {α : Type} {l : List α} {n i : Nat} {x y : α} (h : (l ++ au n x)[i]? = some y) (hy : y ≠ x) : l[i]? = some y := by
 by_cases hi : i < l.length
 · rwa [bL hi] at h
 · rw [ck (by omega), dY] at h
   split at h
   · cases h; exact absurd rfl hy
   · cases h
theorem Yr {α : Type} {l m : List α} {i : Nat} {y : α} (h : l[i]? = some y) : (l ++ m)[i]? = some y := by
 rw [bL (ay.mp h).1]; exact h
theorem Rel.ext (R : Rel Γ S H σ ρ τ) (n : Nat) : Rel Γ S H (σ ++ au n none) (ρ ++ au n .no) τ := by
 have ow : ∀ i, yd (ρ ++ au n .no) i -> yd ρ i := fun i ⟨o, h⟩ => ⟨o, J9 h (by simp)⟩
 have he : ∀ b, zr S (σ ++ au n none) (ρ ++ au n .no) b -> zr S σ ρ b := fun b h => by
  rcases h with h | ⟨i, hi, e⟩
  · exact .inl h
  · exact .inr ⟨i, ow i hi, J9 e (by simp)⟩
 exact {
  len := by simp [R.len]
  val := fun i d h => let ⟨v, e, r⟩ := R.val i d (J9 h (by simp)); ⟨v, Yr e, r.up (fun b _ => he b) fun _ _ _ z => z⟩
  own := fun i o h => let ⟨p, e, r, q⟩ := R.own i o (J9 h (by simp)); ⟨p, Yr e, r.up (fun _ z => z) (fun b _ => he b) fun _ _ _ z => z, q⟩
  pin := fun i p h => let ⟨e, o, q⟩ := R.pin i p h; ⟨Yr e, o, Yr q⟩
  inj := fun i j p hi hj e1 e2 => R.inj i j p (ow i hi) (ow j hj) (J9 e1 (by simp)) (J9 e2 (by simp))
  dom := R.dom
  fr := R.fr
  tmp := fun x hx => (R.tmp x hx).up (fun b _ => he b) fun _ _ _ z => z }
theorem U6 {vs : List V} {ds : List D} (R : Rel Γ S H σ ρ τ) (r : Reps Γ (zr S σ ρ) H vs ds) :
 Rel Γ ⟨zr S σ ρ, H, fun _ => none⟩ H (vs.map some) (ds.map .val) [] := by
 have no : ∀ i, ¬ yd (ds.map Slot.val) i := fun i ⟨o, h⟩ => by
  rw [ar] at h
  cases e : ds[i]? with
  | none => rw [e] at h; cases h
  | some d => rw [e] at h; cases h
 have he : ∀ b, zr ⟨zr S σ ρ, H, fun _ => none⟩ (vs.map some) (ds.map .val) b -> zr S σ ρ b := fun b h => h.elim id fun ⟨i, hi, _⟩ => absurd hi (no i)
 exact {
  len := by simp [r.1]
  val := fun i d h => by
   rw [ar] at h
   cases e : ds[i]? with
   | none => rw [e] at h; cases h
   | some d' =>
    rw [e] at h; cases h
    obtain ⟨v, h1, h2⟩ := r.get e
    exact ⟨v, by rw [ar, h1]; rfl, h2.up (fun b _ => he b) fun _ _ _ z => z⟩
  own := fun i o h => absurd ⟨o, h⟩ (no i)
  pin := fun i p h => by cases h
  inj := fun i j p hi => absurd hi (no i)
  dom := fun a h => yz R h
  fr := fun b o h _ => h
  tmp := fun x h => nomatch h }
def UA (p : PSp) (a : MA) : ME := fun ρ q => a ρ fun ds ρ1 => p (ds.map .val) (fun d _ => q d ρ1) Z0
theorem VD (R : Rel Γ S H σ ρ τ) (R' : Rel Γ ⟨zr S σ ρ, H, fun _ => none⟩ H' σ' ρ' []) (r : Rep Γ (zr ⟨zr S σ ρ, H, fun _ => none⟩ σ' ρ') H' v d) :
 Rel Γ S H' σ ρ τ /\ Rep Γ (zr S σ ρ) H' v d :=
 ⟨R.grow fun b o h => R'.fr b o h fun i => by simp, r.up (fun b _ z => .inl z) fun _ _ _ z => z⟩
theorem je_call (ha : JA Γ pn ta a) (hn : ∀ ss q, p ss q Z0 -> ss.length = n) : JE Γ pn (Ur (yK Γ [] false n p) [] E0 ta) (UA p a) := fun S σ ρ H τ Q q hp R hm hq =>
 ha S σ ρ H τ _ _ hp R hm fun vs ds H1 ρ1 R1 r1 q1 => by
  rw [bj]
  have hl := hn _ _ q1
  refine ⟨by rw [r1.1]; simpa using hl, ⟨zr S σ ρ1, H1, fun _ => none⟩, ds.map .val, _, fun _ _ => rfl, rfl, U6 R1 r1, q1, fun v d H' σ' ρ' os ⟨R', r'⟩ _ q' => ?_⟩
  obtain ⟨a, b⟩ := VD R1 R' r'
  exact hq v d H' ρ1 a b q'
def Y5 (j : Nat) (p : PSp) (a : MA) : ME := fun ρ q => match ρ[j]? with
 | some (.own _) => a ρ fun ds ρ1 => match ρ1[j]? with
  | some (.own o) => p (.own o :: ds.map .val) (fun d os => match os with | [o'] => q d (ρ1.set j (.own o')) | _ => False) Z0
  | _ => False
 | _ => False
def U7 (x : Addr) : Nat -> Option Addr := fun i => if i = 0 then some x else none
theorem zeU {S : Fs} {σ : St} {ρ : Env} {τ : List (V × D)} {vs : List V} {ds : List D} {E : Addr -> Prop} (hd : ∀ a, E a -> H a ≠ none) (r : Reps Γ (fun a => E a \/ a = x) H vs ds) (ow : OwnAt Γ (fun a => E a \/ a = x) H x o) (nx : ¬ E x) :
 Rel Γ ⟨E, H, U7 x⟩ H (some (.ref x) :: vs.map some) (.own o :: ds.map .val) [] := by
 have no : ∀ i, yd (.own o :: ds.map Slot.val) i -> i = 0 := fun i ⟨u, h⟩ => by
  cases i with
  | zero => rfl
  | succ i =>
   rw [bD, ar] at h
   cases e : ds[i]? with
   | none => rw [e] at h; cases h
   | some d => rw [e] at h; cases h
 have he : ∀ b, zr ⟨E, H, U7 x⟩ (some (.ref x) :: vs.map some) (.own o :: ds.map .val) b -> E b \/ b = x := fun b h => h.elim .inl fun ⟨i, hi, e⟩ => by
  have := no i hi
  subst this
  simp at e
  exact .inr e.symm
 exact {
  len := by simp [r.1]
  val := fun i d h => by
   cases i with
   | zero => simp at h
   | succ i =>
    rw [bD, ar] at h
    cases e : ds[i]? with
    | none => rw [e] at h; cases h
    | some d' =>
     rw [e] at h; cases h
     obtain ⟨v, h1, h2⟩ := r.get e
     exact ⟨v, by rw [bD, ar, h1]; rfl, h2.up (fun b _ => he b) fun _ _ _ z => z⟩
  own := fun i u h => by
   have := no i ⟨u, h⟩
   subst this
   simp at h
   subst h
   exact ⟨x, rfl, ow.up (fun _ z => z) (fun b _ => he b) fun _ _ _ z => z, nx, .inl rfl⟩
  pin := fun i p h => by
   unfold U7 at h
   dsimp only at h
   split at h
   · cases h; rename_i hi; subst hi; exact ⟨rfl, o, rfl⟩
   · cases h
  inj := fun i j p hi hj _ _ => by rw [no i hi, no j hj]
  dom := hd
  fr := fun b u h _ => h
  tmp := fun y h => nomatch h }
theorem zlI {ρ' : Env} {os : List D} (h : zgg [0] ρ' os) : ∃ o, os = [o] /\ ρ'[0]? = some (.own o) := by
 obtain ⟨hl, hp⟩ := h
 match os, hl with
 | [o], _ => exact ⟨o, rfl, hp 0 0 o rfl rfl⟩
theorem zeV {E : Addr -> Prop} (R' : Rel Γ ⟨E, H, U7 x⟩ H' σ' ρ' []) (ho : ρ'[0]? = some (.own o)) :
 (∀ b u, b ≠ x -> H b = some u -> H' b = some u) /\ OwnAt Γ (zr ⟨E, H, U7 x⟩ σ' ρ') H' x o /\ ∀ b, (E b \/ b = x) -> zr ⟨E, H, U7 x⟩ σ' ρ' b := by
 obtain ⟨e0, w0⟩ := R'.pin 0 x (by show (if (0 : Nat) = 0 then some x else none) = _; rfl)
 obtain ⟨p, e1, ow, _⟩ := R'.own 0 o ho
 rw [e0] at e1; cases e1
 refine ⟨fun b u hb h => R'.fr b u h fun i => ?_, ow, fun b hb => ?_⟩
 · show (if i = 0 then some x else none) ≠ some b
   split
   · intro z; cases z; exact hb rfl
   · intro z; cases z
 · rcases hb with hb | hb
   · exact .inl hb
   · subst hb; exact .inr ⟨0, w0, e0⟩
theorem zgh (ha : JA Γ pn ta a) (hn : ∀ ss q, p ss q Z0 -> ss.length = n) : JE Γ pn (Ur (yK Γ [0] false n p) [] E0 (Jx (J5 j) ta)) (Y5 j p a) := fun S σ ρ H τ Q q hp R hm hq => by
 unfold Y5 at hm
 split at hm
 · rename_i o0 h0
   obtain ⟨x, e, _⟩ := R.own j o0 h0
   refine ⟨_, e, ?_⟩
   refine ha S σ ρ H τ _ _ hp R hm fun vs ds H1 ρ1 R1 r1 q1 => ?_
   show yK Γ [0] false n p ((V.ref x :: vs) ++ []) H1 Q E0
   rw [bj]
   split at q1
   · rename_i o h1
     obtain ⟨x', e', ow, nC, _⟩ := R1.own j o h1
     rw [e] at e'; cases e'
     have ex1 : ∀ b, (zr S σ ρ1 b /\ b ≠ x) \/ b = x -> zr S σ ρ1 b := fun b h => h.elim And.left fun z => by rw [z]; exact .inr ⟨j, ⟨o, h1⟩, e⟩
     have ex2 : ∀ b, zr S σ ρ1 b -> (zr S σ ρ1 b /\ b ≠ x) \/ b = x := fun b h => by
      by_cases z : b = x
      · exact .inr z
      · exact .inl ⟨h, z⟩
     have hl := hn _ _ q1
     refine ⟨by have := r1.1; simp at hl; simp; omega, ⟨fun a => zr S σ ρ1 a /\ a ≠ x, H1, U7 x⟩, _, _, fun i hi => ?_, rfl,
      zeU (S := S) (σ := σ) (ρ := ρ1) (τ := τ) (fun a h => yz R1 h.1) (r1.up (fun b _ => ex1 b) fun _ _ _ z => z) (ow.up (fun _ z => z) (fun b _ => ex1 b) fun _ _ _ z => z) (fun z => z.2 rfl), q1, fun v d H' σ' ρ' os ⟨R', r'⟩ ps q' => ?_⟩
     · show (if i = 0 then some x else none) = none
       rw [if_neg (by simpa using hi)]
     · obtain ⟨o', rfl, ho'⟩ := zlI ps
       obtain ⟨k1, k2, k3⟩ := zeV R' ho'
       have k2' : OwnAt Γ (zr S σ ρ1) H' x o' := k2.up (fun _ z => z) (fun b _ z => k3 b (ex2 b z)) fun _ _ _ z => z
       refine hq v d H' _ (R1.write h1 e k1 k2') (r'.up (fun b _ z => k3 b (ex2 b ?_)) fun _ _ _ z => z) q'
       rcases z with z | ⟨i, ⟨u, hu⟩, ei⟩
       · exact .inl z
       · by_cases ij : j = i
         · subst ij; exact .inr ⟨j, ⟨o, h1⟩, ei⟩
         · rw [getElem?_set_ne ij] at hu; exact .inr ⟨i, ⟨u, hu⟩, ei⟩
   · exact aa q1
 · exact aa hm
theorem Rel.addS {S : Fs} (R : Rel Γ S H σ ρ τ) (hp : H p = none) (g : Same H H') (hn : H' p ≠ none) : Rel Γ (S.add p) H' σ ρ τ := by
 have he : ∀ b, H b ≠ none -> zr (S.add p) σ ρ b -> zr S σ ρ b := fun b hb h => by
  rcases h with (h | h) | h
  · exact .inl h
  · subst h; exact absurd hp hb
  · exact .inr h
 exact {
  len := R.len
  val := fun i d h => let ⟨v, e, r⟩ := R.val i d h; ⟨v, e, r.up he fun b o _ q => g b o q⟩
  own := fun i o h => by
   obtain ⟨q, e, r, n, pn⟩ := R.own i o h
   refine ⟨q, e, r.up (fun u => g q u) he fun b o _ q => g b o q, ?_, pn⟩
   rintro (z | z)
   · exact n z
   · subst z; exact r.ne0 hp
  pin := R.pin
  inj := R.inj
  dom := fun a h => by
   rcases h with h | h
   · cases e : H a with
     | none => exact absurd e (R.dom a h)
     | some u => rw [g a u e]; simp
   · subst h; exact hn
  fr := fun b o h n => g b o (R.fr b o h n)
  tmp := fun x hx => (R.tmp x hx).up he fun b o _ q => g b o q }
theorem zii (ha : JA Γ pn ta a) (hn : ∀ ss q, p ss q Z0 -> ss.length = n) : JF Γ pn (Ur (yK Γ [] true n p) [] E0 ta) (UA p a) := fun S σ ρ H τ Q q hp R hm hq =>
 ha S σ ρ H τ _ _ hp R hm fun vs ds H1 ρ1 R1 r1 q1 => by
  rw [bj]
  have hl := hn _ _ q1
  refine ⟨by rw [r1.1]; simpa using hl, ⟨zr S σ ρ1, H1, fun _ => none⟩, ds.map .val, _, fun _ _ => rfl, rfl, U6 R1 r1, q1, fun v d H' σ' ρ' os ⟨p, e, R', ow, h0, ne⟩ _ q' => ?_⟩
  subst e
  have h0 : H1 p = none := h0
  have same : Same H1 H' := fun b o h => R'.fr b o h fun i => by show (none : Option Addr) ≠ some b; simp
  refine hq p d H' ρ1 (R1.addS h0 same ow.ne0) (ow.up (fun _ z => z) (fun b _ z => ?_) fun _ _ _ z => z) (R1.new h0) (fun z => yz R1 z h0) q'
  rcases z with (z | z) | z
  · exact .inl (.inl (.inl z))
  · exact .inl (.inr z)
  · exact .inl (.inl (.inr z))
end
section
variable {X : Cx} {m : Str} {disp : Addr -> Sp -> Prop} {pos apos : Pos} {e o : Expr} {es : List Expr} {ta : TE} {t : TA}
end
section
variable {Γ : Cn} {pn : List Nat}
theorem zt {E : Addr -> Prop} (r : ju Γ E H v d) (h : jM d = true) : v = vD d := by
 cases d with
 | non => exact Rep.flat (show Rep Γ E H v .non from r) rfl
 | bl b => exact Rep.flat (show Rep Γ E H v (.bl b) from r) rfl
 | int b => exact Rep.flat (show Rep Γ E H v (.int b) from r) rfl
 | str b => exact Rep.flat (show Rep Γ E H v (.str b) from r) rfl
 | ty b => exact Rep.flat (show Rep Γ E H v (.ty b) from r) rfl
 | _ => cases h
theorem yt {E : Addr -> Prop} (r : ju Γ E H v (.int i)) : v = .int i := zt r rfl
theorem y8 {E : Addr -> Prop} (r : ju Γ E H v (.str i)) : v = .str i := zt r rfl
theorem zij {E : Addr -> Prop} (r : ju Γ E H v (.bl i)) : v = .bl i := zt r rfl
def Jr (g : Int -> Int -> D) : F2 := fun x y q => match x, y with | .int i, .int j => q (g i j) | _, _ => False
def fI (C : Int -> Int -> Prop) (g : Int -> Int -> D) : F2 := fun x y q => match x, y with | .int i, .int j => C i j /\ q (g i j) | _, _ => False
theorem UB {gv : Int -> Int -> V} {g : Int -> Int -> D} (hf : ∀ i j, jM (g i j) = true) (hv : ∀ i j, gv i j = vD (g i j)) : yj Γ (ZV gv) (Jr g) := fun E H x y dx dy Q q _ rx ry h k => by
 unfold Jr at h
 split at h
 · rename_i i j
   refine ⟨i, j, yt rx, yt ry, k _ _ H (Same.refl H) ?_ h⟩
   rw [hv]; exact Zg (hf i j)
 · exact aa h
theorem zdK {C : Int -> Int -> Prop} {gv : Int -> Int -> V} {g : Int -> Int -> D} (hf : ∀ i j, jM (g i j) = true) (hv : ∀ i j, gv i j = vD (g i j)) : yj Γ (rI C gv) (fI C g) := fun E H x y dx dy Q q _ rx ry h k => by
 unfold fI at h
 split at h
 · rename_i i j
   refine ⟨i, j, yt rx, yt ry, h.1, k _ _ H (Same.refl H) ?_ h.2⟩
   rw [hv]; exact Zg (hf i j)
 · exact aa h
def Z5 : D -> D -> Option Bool
 | .non, .non => some true
 | .non, .int _ => some false | .int _, .non => some false | .non, .bl _ => some false | .bl _, .non => some false | .non, .str _ => some false | .str _, .non => some false
 | .int i, .int j => some (decide (i = j))
 | .bl a, .bl b => some (decide (a = b))
 | .str a, .str b => some (decide (a = b))
 | .int _, .str _ => some false | .str _, .int _ => some false | .bl _, .str _ => some false | .str _, .bl _ => some false
 | _, _ => none
theorem zko {α β : Type} [DecidableEq α] [DecidableEq β] {f : α -> β} (hf : ∀ a b, f a = f b -> a = b) (a b : α) : decide (f a = f b) = decide (a = b) := by
 by_cases h : a = b
 · subst h; simp
 · rw [decide_eq_false h, decide_eq_false fun z => h (hf a b z)]
theorem zeW (h : Z5 x y = some b) : jM x = true /\ jM y = true /\ zfP (vD x) (vD y) = true /\ decide (vD x = vD y) = b := by
 unfold Z5 at h
 split at h <;> first
  | (cases h; refine ⟨rfl, rfl, rfl, ?_⟩; first | rfl | (simp [vD]) | exact zko (fun _ _ z => by injection z) _ _)
  | cases h
def fEq : F2 := fun x y q => match Z5 x y with | some b => q (.bl b) | none => False
def fNe : F2 := fun x y q => match Z5 x y with | some b => q (.bl (!b)) | none => False
theorem yA : yj Γ rEq fEq := fun E H x y dx dy Q q _ rx ry h k => by
 unfold fEq at h
 split at h
 · rename_i b hb
   obtain ⟨f1, f2, s, e⟩ := zeW hb
   rw [zt rx f1, zt ry f2]
   exact ⟨s, by rw [e]; exact k _ _ H (Same.refl H) (.bl _) h⟩
 · exact aa h
theorem UC : yj Γ rNe fNe := fun E H x y dx dy Q q _ rx ry h k => by
 unfold fNe at h
 split at h
 · rename_i b hb
   obtain ⟨f1, f2, s, e⟩ := zeW hb
   rw [zt rx f1, zt ry f2]
   exact ⟨s, by rw [e]; exact k _ _ H (Same.refl H) (.bl _) h⟩
 · exact aa h
def Jy : D -> Bool | .non => true | _ => false
def zkp : F2 := fun x y q => match y with | .non => q (.bl (Jy x)) | _ => False
def zhj : F2 := fun x y q => match y with | .non => q (.bl (!Jy x)) | _ => False
theorem zaK {E : Addr -> Prop} (r : ju Γ E H v d) : decide (v = .non) = Jy d := by
 cases d with
 | non => rw [zt r rfl]; rfl
 | bl b => rw [zt r rfl]; rfl
 | int b => rw [zt r rfl]; rfl
 | str b => rw [zt r rfl]; rfl
 | ty b => rw [zt r rfl]; rfl
 | lst ds => obtain ⟨a, _, rfl, _⟩ := r; rfl
 | tup ds => obtain ⟨a, _, rfl, _⟩ := Rep.tuple r; rfl
 | fz ds => obtain ⟨a, rfl, _⟩ := Rep.script r; rfl
 | dK ds => obtain ⟨a, _, rfl, _⟩ := r; rfl
 | dT ds => obtain ⟨a, _, rfl, _⟩ := r; rfl
 | obj c fs => obtain ⟨a, _, _, _, rfl, _⟩ := r; rfl
 | exc k => cases r; rfl
 | kt xs => obtain ⟨a, rfl, _⟩ := Rep.kept r; rfl
 | kd xs => obtain ⟨a, rfl, _⟩ := Rep.table r; rfl
theorem VE : yj Γ (fun x y H Q => y = .non /\ Q (.bl (decide (x = .non))) H) zkp := fun E H x y dx dy Q q _ rx ry h k => by
 cases dy with
 | non => refine ⟨zt ry rfl, ?_⟩; rw [zaK rx]; exact k _ _ H (Same.refl H) (.bl _) h
 | _ => exact aa h
theorem zik : yj Γ (fun x y H Q => y = .non /\ Q (.bl (!decide (x = .non))) H) zhj := fun E H x y dx dy Q q _ rx ry h k => by
 cases dy with
 | non => refine ⟨zt ry rfl, ?_⟩; rw [zaK rx]; exact k _ _ H (Same.refl H) (.bl _) h
 | _ => exact aa h
def RQ : F2 := fun x y q => match x, y with | .str a, .str b => a.length + b.length <= 100000 /\ q (.str (a ++ b)) | _, _ => False
theorem zil : yj Γ (fun x y H Q => ∃ i j, x = .str i /\ y = .str j /\ i.length + j.length <= az /\ Q (.str (i ++ j)) H) RQ := fun E H x y dx dy Q q _ rx ry h k => by
 unfold RQ at h
 split at h
 · exact ⟨_, _, y8 rx, y8 ry, aO h.1 (by decide), k _ _ H (Same.refl H) (.str _) h.2⟩
 · exact aa h
def zgi : F2 := fun x y q => match x, y with | .str a, .str b => q (.bl (!decide (b.cps.toList < a.cps.toList))) | _, _ => False
theorem VF : yj Γ (fun x y H Q => ∃ i j, x = .str i /\ y = .str j /\ Q (.bl (!(decide (j.cps.toList < i.cps.toList)))) H) zgi := fun E H x y dx dy Q q _ rx ry h k => by
 unfold zgi at h
 split at h
 · exact ⟨_, _, y8 rx, y8 ry, k _ _ H (Same.refl H) (.bl _) h⟩
 · exact aa h
def eqF : D -> D -> Bool
 | .non, .non => true
 | .bl a, .bl b => a == b
 | .bl a, .int b => (if a then 1 else 0) == b
 | .int a, .bl b => a == (if b then 1 else 0)
 | .int a, .int b => a == b
 | .str a, .str b => a == b
 | _, _ => false
def y3 : D -> Bool | .non => true | .bl _ => true | .int _ => true | .str _ => true | _ => false
theorem jN (h : y3 d = true) : jM d = true := by cases d <;> first | rfl | cases h
theorem zkq (h1 : y3 x = true) (h2 : y3 y = true) : JH (vD x) (vD y) = eqF x y := by
 cases x <;> cases y <;> first | rfl | (exact absurd h1 af) | (exact absurd h2 af)
theorem Q9 (h : y3 d = true) : Je (vD d) = true := by cases d <;> first | rfl | cases h
theorem Y6 {E : Addr -> Prop} : ∀ {xs : List V} {ds : List D}, Reps Γ E H xs ds -> ds.all y3 = true -> xs = ds.map vD
 | [], [], _, _ => rfl
 | [], _ :: _, r, _ => by have h := r.1; simp at h
 | _ :: _, [], r, _ => by have h := r.1; simp at h
 | v :: xs, d :: ds, r, h => by
  rw [bx, aD] at h
  rw [aQ, ← Y6 r.tail h.2, ← Rep.flat r.head (jN h.1)]
def YV (x : D) (ds : List D) : Bool := ds.any fun y => eqF y x
theorem zaL {ds : List D} (h1 : y3 x = true) (h2 : ds.all y3 = true) : inV (vD x) (ds.map vD) = YV x ds := by
 unfold inV YV
 rw [d5]
 induction ds with
 | nil => rfl
 | cons d ds ih =>
  rw [bx, aD] at h2
  rw [bJ, bJ, ih h2.2]
  show (JH (vD d) (vD x) || _) = _
  rw [zkq h2.1 h1]
def Wy : D -> Option (List D)
 | .lst ds => some ds
 | .tup ds => some ds
 | .kt xs => some (xs.map D.str)
 | _ => none
def fIn (neg : Bool) : F2 := fun x y q => match Wy y with
 | some ds => y3 x = true /\ ds.all y3 = true /\ q (.bl (if neg then !YV x ds else YV x ds))
 | none => False
theorem UD : yj Γ (rIn Γ.K neg) (fIn neg) := fun E H x y dx dy Q q _ rx ry h k => by
 unfold fIn at h
 cases dy with
 | lst ds =>
  obtain ⟨f1, f2, h⟩ := h
  obtain ⟨a, xs, rfl, ha, rs⟩ := ry
  have e := Y6 rs f2
  subst e
  refine ⟨a, _, rfl, .inl (.inl (.inl ha)), ?_, ?_, ?_⟩
  · rw [zt rx (jN f1)]; exact Q9 f1
  · rw [d6, aP]; exact fun d hd => Q9 (aP.mp f2 d hd)
  · rw [zt rx (jN f1), zaL f1 f2]; exact k _ _ H (Same.refl H) (.bl _) h
 | tup ds =>
  obtain ⟨f1, f2, h⟩ := h
  obtain ⟨a, xs, rfl, ha, rs⟩ := Rep.tuple ry
  have e := Y6 rs f2
  subst e
  refine ⟨a, _, rfl, .inr (SqT.of ha), ?_, ?_, ?_⟩
  · rw [zt rx (jN f1)]; exact Q9 f1
  · rw [d6, aP]; exact fun d hd => Q9 (aP.mp f2 d hd)
  · rw [zt rx (jN f1), zaL f1 f2]; exact k _ _ H (Same.refl H) (.bl _) h
 | kt xs =>
  obtain ⟨f1, f2, h⟩ := h
  obtain ⟨a, rfl, ha⟩ := Rep.kept ry
  have e : xs.map V.str = (xs.map D.str).map vD := by rw [fw]; rfl
  rw [e] at ha
  refine ⟨a, _, rfl, .inr ha, ?_, ?_, ?_⟩
  · rw [zt rx (jN f1)]; exact Q9 f1
  · rw [d6, aP]; exact fun d hd => Q9 (aP.mp f2 d hd)
  · rw [zt rx (jN f1), zaL f1 f2]; exact k _ _ H (Same.refl H) (.bl _) h
 | _ => exact aa h
def U8 : F2 := fun x y q => match x, y with
 | .lst ds, .int i => match Jk ds.length i with | some j => q (ds.getD j .non) | none => False
 | .fz ns, .int i => match Jk ns.length i with | some j => q (.int (ns.getD j 0)) | none => False
 | _, _ => False
theorem VG (h : Jk n i = some j) : j < n := by
 unfold Jk at h
 split at h
 · split at h
   · cases h; omega
   · cases h
 · split at h
   · cases h; omega
   · cases h
theorem zkr : yj Γ (zfW Γ.K) U8 := fun E H x y dx dy Q q _ rx ry h k => by
 unfold U8 at h
 split at h
 · rename_i ds i
   split at h
   · rename_i j hj
     obtain ⟨a, xs, rfl, ha, rs⟩ := rx
     have hl := VG hj
     have hl' : j < xs.length := by rw [rs.1]; exact hl
     refine ⟨a, xs, i, xs[j], rfl, yt ry, .inl (.inl ha), ?_, k _ _ H (Same.refl H) (rs.2 j _ _ (ab hl') ?_) h⟩
     · unfold Vv; rw [rs.1, hj]; exact ab hl'
     · rw [aJ, ab hl]; rfl
   · exact aa h
 · rename_i ns i
   split at h
   · rename_i j hj
     obtain ⟨a, rfl, ha⟩ := Rep.script rx
     have hl := VG hj
     refine ⟨a, _, i, .int (ns.getD j 0), rfl, yt ry, ha, ?_, k _ _ H (Same.refl H) (.int _) h⟩
     unfold Vv
     rw [aA, hj]
     show (ns.map V.int)[j]? = _
     rw [ar, aJ, ab hl]; rfl
   · exact aa h
 · exact aa h
def zaM : F2 := fun x y q => match x, y with
 | .tup ds, .int i => match Jk ds.length i with | some j => q (ds.getD j .non) | none => False
 | _, _ => False
theorem zks : yj Γ (zfX Γ.K) zaM := fun E H x y dx dy Q q _ rx ry h k => by
 unfold zaM at h
 split at h
 · rename_i ds i
   split at h
   · rename_i j hj
     obtain ⟨a, xs, rfl, ha, rs⟩ := Rep.tuple rx
     have hl := VG hj
     have hl' : j < xs.length := by rw [rs.1]; exact hl
     refine ⟨a, xs, i, xs[j], rfl, yt ry, SqT.of ha, ?_, k _ _ H (Same.refl H) (rs.2 j _ _ (ab hl') ?_) h⟩
     · unfold Vv; rw [rs.1, hj]; exact ab hl'
     · rw [aJ, ab hl]; rfl
   · exact aa h
 · exact aa h
def zaN : F2 := fun x y q => match x, y with
 | .str z, .int i => z.length <= 100000 /\ match Jk z.cps.toList.length i with | some j => q (.str ⟨#[z.cps.toList.getD j 0]⟩) | none => False
 | _, _ => False
theorem zkt : yj Γ zfY zaN := fun E H x y dx dy Q q _ rx ry h k => by
 unfold zaN at h
 split at h
 · rename_i z i
   obtain ⟨hz, h⟩ := h
   split at h
   · rename_i j hj
     refine ⟨z, i, z.cps.toList.getD j 0, y8 rx, yt ry, aO hz (by decide), ?_, k _ _ H (Same.refl H) (.str _) h⟩
     unfold Vv
     rw [hj]
     show z.cps.toList[j]? = _
     rw [aJ, ab (VG hj)]; rfl
   · exact aa h
 · exact aa h
def zgj : F1 := fun x q => match x with
 | .lst ds => q (.int ds.length)
 | .tup ds => q (.int ds.length)
 | .fz ns => q (.int ns.length)
 | .kt xs => q (.int xs.length)
 | .str z => z.length <= 100000 /\ q (.int z.length)
 | _ => False
theorem zku : Qu Γ (fun x H Q => ∃ y n, [x] = [y] /\ zjK Γ.K y H n /\ Q (.int n) H) zgj := fun E H x dx Q q _ rx h k => by
 cases dx with
 | lst ds =>
  obtain ⟨a, xs, rfl, ha, rs⟩ := rx
  refine ⟨_, xs.length, rfl, .inl ⟨xs, .inl (.inl ha), rfl⟩, ?_⟩
  rw [rs.1]; exact k _ _ H (Same.refl H) (.int _) h
 | tup ds =>
  obtain ⟨a, xs, rfl, ha, rs⟩ := Rep.tuple rx
  refine ⟨_, xs.length, rfl, .inr ⟨xs, SqT.of ha, rfl⟩, ?_⟩
  rw [rs.1]; exact k _ _ H (Same.refl H) (.int _) h
 | fz ns =>
  obtain ⟨a, rfl, ha⟩ := Rep.script rx
  refine ⟨_, _, rfl, .inl ⟨_, ha, rfl⟩, ?_⟩
  rw [aA]; exact k _ _ H (Same.refl H) (.int _) h
 | kt xs =>
  obtain ⟨a, rfl, ha⟩ := Rep.kept rx
  refine ⟨_, _, rfl, .inr ⟨_, ha, rfl⟩, ?_⟩
  rw [aA]; exact k _ _ H (Same.refl H) (.int _) h
 | str z =>
  rw [y8 rx]
  exact ⟨_, z.length, rfl, ⟨aO h.1 (by decide), rfl⟩, k _ _ H (Same.refl H) (.int _) h.2⟩
 | _ => exact aa h
def jO {α : Type} (xs : List α) (lo hi : Option Int) : List α := (xs.drop (HT.sIx xs.length 0 lo)).take (HT.sIx xs.length xs.length hi - HT.sIx xs.length 0 lo)
theorem U9 {E : Addr -> Prop} (r : Reps Γ E H xs ds) : Reps Γ E H (Y2 xs lo hi) (jO ds lo hi) := by
 unfold Y2 jO
 rw [r.1]
 exact (r.drop _).take _
abbrev VH := Env -> (Option Int -> Env -> Prop) -> Prop
def JOI (Γ : Cn) (pn : List Nat) (t : TO) (m : VH) : Prop :=
 ∀ (S : Fs) (σ : St) (ρ : Env) (H : Hp) (τ : List (V × D)) (Q : Option Int -> Hp -> Prop) (q : Option Int -> Env -> Prop), jL pn S -> Rel Γ S H σ ρ τ -> m ρ q -> (∀ i H' ρ', Rel Γ S H' σ ρ' τ -> q i ρ' -> Q i H') -> t σ H Q
def Wz : VH := fun ρ q => q none ρ
def RS (m : ME) : VH := fun ρ q => m ρ fun d ρ' => match d with | .int i => q (some i) ρ' | _ => False
theorem zim : JOI Γ pn zcd Wz := fun S σ ρ H τ Q q hp R hm hq => hq none H ρ R hm
theorem zin (h : JE Γ pn t m) : JOI Γ pn (zg9 t) (RS m) := fun S σ ρ H τ Q q hp R hm hq =>
 h S σ ρ H τ _ _ hp R hm fun v d H1 ρ1 R1 r1 q1 => by
  cases d with
  | int i => exact ⟨i, Ws r1, hq _ H1 ρ1 R1 q1⟩
  | _ => exact aa q1
def zdL (a : MO) (l u : VH) : ME := fun ρ q => a ρ fun r ρ1 => l ρ1 fun lo ρ2 => u ρ2 fun hi ρ3 => r.on ρ3 fun x => match x with
 | .lst ds => q (.lst (jO ds lo hi)) ρ3
 | .fz ns => q (.lst ((jO ns lo hi).map D.int)) ρ3
 | _ => False
theorem zio {α β : Type} (f : α -> β) (xs : List α) (lo hi : Option Int) : jO (xs.map f) lo hi = (jO xs lo hi).map f := by
 unfold jO; rw [aA, List.map_take, gJ]
theorem zeX {E : Addr -> Prop} (ns : List Int) : Reps Γ E H (ns.map V.int) (ns.map D.int) := ⟨by simp, fun i v d h1 h2 => by
 rw [ar] at h1 h2
 cases e : ns[i]? with
 | none => rw [e] at h1; cases h1
 | some n => rw [e] at h1 h2; cases h1; cases h2; exact .int n⟩
theorem zkv (ha : JO Γ pn ta a) (hl : JOI Γ pn tl l) (hu : JOI Γ pn tu u) : JF Γ pn (tSl (zjX Γ.K) ta tl tu) (zdL a l u) := fun S σ ρ H τ Q q hp R hm hq =>
 ha S σ ρ H τ _ _ hp R hm fun v r1 H1 ρ1 τ1 R1 o1 q1 => hl S σ ρ1 H1 (τ1 ++ τ) _ _ hp R1 q1 fun lo H2 ρ2 R2 q2 => hu S σ ρ2 H2 (τ1 ++ τ) _ _ hp R2 q2 fun hi H3 ρ3 R3 q3 => by
  obtain ⟨dx, rx, q3⟩ := R3.read o1 q3
  cases dx with
  | lst ds =>
   obtain ⟨b, xs, rfl, hb, rs⟩ := rx
   refine ⟨b, xs, rfl, .inl (.inl hb), fun p hn => ?_⟩
   obtain ⟨k1, k2, k3, k4⟩ := jK R3 (U9 (lo := lo) (hi := hi) rs) hn
   exact hq p _ _ ρ3 k1.cut k2 k3 k4 q3
  | fz ns =>
   obtain ⟨b, rfl, hb⟩ := Rep.script rx
   refine ⟨b, _, rfl, hb, fun p hn => ?_⟩
   have r := U9 (lo := lo) (hi := hi) (zeX (Γ := Γ) (E := zr S σ ρ3) (H := H3) ns)
   rw [zio] at r
   obtain ⟨k1, k2, k3, k4⟩ := jK R3 r hn
   exact hq p _ _ ρ3 k1.cut k2 k3 k4 q3
  | _ => exact aa q3
def zdM : FL2 := fun x y q => match x, y with | .lst a, .lst b => a.length + b.length <= 100000 /\ q (a ++ b) | _, _ => False
theorem zkw : RK Γ zj0 zdM := fun E H x y dx dy Q q rx ry h k => by
 unfold zdM at h
 split at h
 · obtain ⟨a, xs, rfl, ha, ra⟩ := rx
   obtain ⟨b, ys, rfl, hb, rb⟩ := ry
   exact ⟨a, b, xs, ys, rfl, rfl, ha, hb, by rw [ra.1, rb.1]; exact aO h.1 (by decide), fun p hp => k p _ _ H (Same.refl H) hp (ra.append rb) h.2⟩
 · exact aa h
def RU : FL1 := fun x q => match x with | .lst a => q a | .tup a => q a | _ => False
theorem ziq : zaE Γ (fun x H Q => ∃ p ys, [x] = [.ref p] /\ (yl Γ.K H p ys \/ SqT Γ.K H p ys) /\ ∀ l, H l = none -> Q (.ref l) (zA H l (.lst ys))) RU := fun E H x dx Q q rx h k => by
 unfold RU at h
 split at h
 · obtain ⟨a, xs, rfl, ha, ra⟩ := rx
   exact ⟨a, xs, rfl, .inl (.inl (.inl ha)), fun p hp => k p _ _ H (Same.refl H) hp ra h⟩
 · obtain ⟨a, xs, rfl, ha, ra⟩ := Rep.tuple rx
   exact ⟨a, xs, rfl, .inr (SqT.of ha), fun p hp => k p _ _ H (Same.refl H) hp ra h⟩
 · exact aa h
def VI : F1 := fun x q => match x with | .lst a => q (.tup a) | .tup a => q (.tup a) | _ => False
theorem zgk : Qu Γ (fun x H Q => ∃ p ys, [x] = [.ref p] /\ ((yl Γ.K H p ys /\ ∀ l, H l = none -> Q (.ref l) (zA H l (.tup ys))) \/ (SqT Γ.K H p ys /\ Q (.ref p) H))) VI := fun E H x dx Q q hE rx h k => by
 unfold VI at h
 split at h
 · obtain ⟨a, xs, rfl, ha, ra⟩ := rx
   refine ⟨a, xs, rfl, .inl ⟨.inl (.inl ha), fun p hp => ?_⟩⟩
   have g := Yn hp (.tup xs)
   have r' := ra.up (E' := E) (H' := zA H p (.tup xs)) (fun _ _ z => z) fun b o _ q => g b o q
   exact k _ _ _ g (.tup (fun z => hE p z hp) zU r'.1 r'.2) h
 · obtain ⟨a, xs, rfl, ha, ra⟩ := Rep.tuple rx
   exact ⟨a, xs, rfl, .inr ⟨SqT.of ha, k _ _ H (Same.refl H) rx h⟩⟩
 · exact aa h
def RV : F2 := Jr fun i j => .int (if j > i then j else i)
def RW : F2 := Jr fun i j => .int (if j < i then j else i)
theorem zir : yj Γ (fun x y H Q => ∃ i j, [x, y] = [.int i, .int j] /\ Q (.int (if j > i then j else i)) H) RV := fun E H x y dx dy Q q _ rx ry h k => by
 unfold RV Jr at h
 split at h
 · exact ⟨_, _, by rw [yt rx, yt ry], k _ _ H (Same.refl H) (.int _) h⟩
 · exact aa h
theorem zis : yj Γ (fun x y H Q => ∃ i j, [x, y] = [.int i, .int j] /\ Q (.int (if j < i then j else i)) H) RW := fun E H x y dx dy Q q _ rx ry h k => by
 unfold RW Jr at h
 split at h
 · exact ⟨_, _, by rw [yt rx, yt ry], k _ _ H (Same.refl H) (.int _) h⟩
 · exact aa h
def zgl : F1 := fun x q => match x with | .int i => q (.int i) | .bl b => q (.int (if b then 1 else 0)) | _ => False
theorem zkx : Qu Γ (fun x H Q => (∃ i, [x] = [.int i] /\ Q (.int i) H) \/ ∃ k, [x] = [.bl k] /\ Q (.int (if k then 1 else 0)) H) zgl := fun E H x dx Q q _ rx h k => by
 cases dx with
 | int i => exact .inl ⟨i, by rw [yt rx], k _ _ H (Same.refl H) (.int _) h⟩
 | bl i => exact .inr ⟨i, by rw [zij rx], k _ _ H (Same.refl H) (.int _) h⟩
 | _ => exact aa h
def jg : List D -> Option (List Bool)
 | [] => some []
 | .bl b :: r => (jg r).map (b :: ·)
 | _ => none
theorem zcu {E : Addr -> Prop} : ∀ {xs : List V} {ds : List D} {bs : List Bool}, Reps Γ E H xs ds -> jg ds = some bs -> xs = bs.map V.bl
 | [], [], bs, _, h => by cases h; rfl
 | [], _ :: _, _, r, _ => by have h := r.1; simp at h
 | _ :: _, [], _, r, _ => by have h := r.1; simp at h
 | v :: xs, d :: ds, bs, r, h => by
  cases d with
  | bl b =>
   have h : (jg ds).map (b :: ·) = some bs := h
   cases e : jg ds with
   | none => rw [e] at h; cases h
   | some r' =>
    rw [e] at h; cases h
    rw [aQ, ← zcu r.tail e, ← QE r.head]
  | _ => cases h
def zdN : F1 := fun x q => match x with | .lst ds => (match jg ds with | some bs => q (.bl (bs.all id)) | none => False) | _ => False
theorem zky : Qu Γ (fun x H Q => ∃ (a : Addr) (bs : List Bool), [x] = [.ref a] /\ yl Γ.K H a (bs.map V.bl) /\ Q (.bl (bs.all id)) H) zdN := fun E H x dx Q q _ rx h k => by
 cases dx with
 | lst ds =>
  obtain ⟨a, xs, rfl, ha, rs⟩ := rx
  dsimp only [zdN] at h
  split at h
  · rename_i bs hb
    have e := zcu rs hb
    subst e
    exact ⟨a, bs, rfl, .inl (.inl ha), k _ _ H (Same.refl H) (.bl _) h⟩
  · exact aa h
 | _ => exact aa h
def Qv : D -> Option String
 | .non => some "NoneType" | .bl _ => some "bool" | .int _ => some "int" | .str _ => some "str" | .lst _ => some "list" | .tup _ => some "tuple" | .dK _ => some "dict" | .dT _ => some "dict" | _ => none
def Zi (a b : String) : Option Bool := if ["NoneType", "bool", "int", "str", "list", "tuple", "dict"].contains a && ["bool", "int", "str", "list", "tuple", "dict"].contains b then some (a == b || (a == "bool" && b == "int")) else none
theorem zeY (h : Zi a b = some r) : dn K (.type a) (.type b) = some r := by
 unfold Zi at h
 split at h
 · rename_i hc
   simp only [aD, List.contains_iff_mem, ak, ax, or_false] at hc
   cases h
   obtain ⟨h1, h2⟩ := hc
   rcases h1 with rfl | rfl | rfl | rfl | rfl | rfl | rfl <;> rcases h2 with rfl | rfl | rfl | rfl | rfl | rfl <;> kernel_rfl
 · cases h
def VJ : F2 := fun x y q => match Qv x, y with
 | some a, .ty b => (match Zi a b with | some r => q (.bl r) | none => False)
 | _, _ => False
theorem zit {E : Addr -> Prop} (r : ju Γ E H v d) (h : Qv d = some a) : Vx Γ.K H v (.type a) := by
 cases d with
 | non => cases h; rw [zt r rfl]; exact .of .non
 | bl b => cases h; rw [zt r rfl]; exact .of (.bl b)
 | int b => cases h; rw [zt r rfl]; exact .of (.int b)
 | str b => cases h; rw [zt r rfl]; exact .of (.str b)
 | lst ds => cases h; obtain ⟨a, xs, rfl, ha, _⟩ := r; exact .of (.lst ha)
 | tup ds => cases h; obtain ⟨a, xs, rfl, ha, _⟩ := Rep.tuple r; exact .of (.tup ha)
 | dK ds => cases h; obtain ⟨a, xs, rfl, ha, _⟩ := r; exact .of (.dK ha)
 | dT ds => cases h; obtain ⟨a, xs, rfl, ha, _⟩ := r; exact .of (.dT ha)
 | _ => cases h
theorem ziu : yj Γ (fun x y H Q => ∃ z t c b, [x, y] = [z, .ty c] /\ Vx Γ.K H z t /\ dn Γ.K t (.type c) = some b /\ Q (.bl b) H) VJ := fun E H x y dx dy Q q _ rx ry h k => by
 unfold VJ at h
 split at h
 · rename_i a b ha
   split at h
   · rename_i r hr
     exact ⟨x, _, b, r, by rw [zt ry rfl]; rfl, zit rx ha, zeY hr, k _ _ H (Same.refl H) (.bl _) h⟩
   · exact aa h
 · exact aa h
def Y7 (f f' : F2) (a b c : ME) : ME := fun ρ q => a ρ fun x ρ1 => b ρ1 fun y ρ2 => f x y fun d => match d with
 | .bl k => if k = true then c ρ2 fun z ρ3 => f' y z fun e => q e ρ3 else q (.bl false) ρ2
 | _ => False
theorem zaP (h1 : yj Γ r f) (h2 : yj Γ r' f') (ha : JE Γ pn ta a) (hb : JE Γ pn tb b) (hc : JE Γ pn tc c) : JE Γ pn (zao r r' ta tb tc) (Y7 f f' a b c) := fun S σ ρ H τ Q q hp R hm hq =>
 ha S σ ρ H τ _ _ hp R hm fun v x H1 ρ1 R1 r1 q1 => hb S σ ρ1 H1 ((v, x) :: τ) _ _ hp (R1.push r1) q1 fun w y H2 ρ2 R2 r2 q2 =>
  h1 _ H2 v w x y _ _ (fun a z => yz R2 z) R2.pop.2.b r2.b q2 fun u d H3 g r3 q3 => by
   cases d with
   | bl k =>
    refine ⟨k, QE r3, ?_⟩
    have R3 := (R2.pop.1.push r2).grow g
    dsimp only at q3
    cases k with
    | false => rw [if_neg af] at q3 ⊢; exact hq _ _ H3 ρ2 R3.pop.1 (.bl false) q3
    | true =>
     rw [if_pos rfl] at q3 ⊢
     refine hc S σ ρ2 H3 _ _ _ hp R3 q3 fun w' z H4 ρ4 R4 r4 q4 => ?_
     exact h2 _ H4 w w' y z Q _ (fun a z => yz R4 z) R4.pop.2.b r4.b q4 fun u' e H5 g' r5 q5 => hq u' e H5 ρ4 (R4.pop.1.grow g') r5 q5
   | _ => exact aa q3
def zdO : D -> Option Bool
 | .non => some false | .bl b => some b | .int i => some (i != 0) | .lst ds => some (!ds.isEmpty) | .tup ds => some (!ds.isEmpty) | .dK ds => some (!ds.isEmpty)
 | .str y => some ((y.length : Int) != 0)
 | _ => none
def zdP (a : MO) : MT := fun ρ q => a ρ fun r ρ1 => r.on ρ1 fun x => (match x with | .str y => y.length <= 100000 | _ => True) /\ match zdO x with | some b => q b ρ1 | none => False
theorem ZH {α β : Type} {xs : List α} {ys : List β} (h : xs.length = ys.length) : xs.isEmpty = ys.isEmpty := by
 cases xs <;> cases ys <;> first | rfl | simp at h
theorem zkz (ha : JO Γ pn ta a) : JT Γ pn (fun σ H Q => ta σ H fun x H' => ∃ k, zfS Γ.K x H' k /\ Q k H') (zdP a) := fun S σ ρ H τ Q q hp R hm hq =>
 ha S σ ρ H τ _ _ hp R hm fun v r1 H1 ρ1 τ1 R1 o1 q1 => by
  obtain ⟨dx, rx, hs, q1⟩ := R1.read o1 q1
  cases dx with
  | non => rw [zt rx rfl]; exact ⟨false, rfl, hq _ H1 ρ1 R1.cut q1⟩
  | bl b => rw [zt rx rfl]; exact ⟨b, rfl, hq _ H1 ρ1 R1.cut q1⟩
  | int i => rw [zt rx rfl]; exact ⟨_, rfl, hq _ H1 ρ1 R1.cut q1⟩
  | str y => rw [zt rx rfl]; exact ⟨_, ⟨aO hs (by decide), rfl⟩, hq _ H1 ρ1 R1.cut q1⟩
  | lst ds => obtain ⟨a, xs, rfl, h, rs⟩ := rx; exact ⟨_, .inl ⟨xs, .inl (.inl h), by rw [ZH rs.1]⟩, hq _ H1 ρ1 R1.cut q1⟩
  | tup ds => obtain ⟨a, xs, rfl, h, rs⟩ := Rep.tuple rx; exact ⟨_, .inr (.inl ⟨xs, SqT.of h, by rw [ZH rs.1]⟩), hq _ H1 ρ1 R1.cut q1⟩
  | dK ds => obtain ⟨a, xs, rfl, h, hk, rs⟩ := rx; exact ⟨_, .inr (.inr ⟨xs, h, by rw [ZH (show xs.length = ds.length by have := congrArg ci hk; simpa using this)]⟩), hq _ H1 ρ1 R1.cut q1⟩
  | _ => exact aa q1
end
structure DE (X : Cx) (cls : Nat -> Option Addr) (pn : List Nat) (e : Expr) (m : ME) : Prop where
 h : ∃ t, PE X e t /\ JE ⟨X.K, cls⟩ pn t m
structure DF (X : Cx) (cls : Nat -> Option Addr) (pn : List Nat) (e : Expr) (m : ME) : Prop where
 h : ∃ t, PE X e t /\ JF ⟨X.K, cls⟩ pn t m
structure DO (X : Cx) (cls : Nat -> Option Addr) (pn : List Nat) (e : Expr) (m : MO) : Prop where
 h : ∃ t, PE X e t /\ JO ⟨X.K, cls⟩ pn t m
structure DT (X : Cx) (cls : Nat -> Option Addr) (pn : List Nat) (e : Expr) (m : MT) : Prop where
 h : ∃ t, PT X e t /\ JT ⟨X.K, cls⟩ pn t m
structure DW (X : Cx) (cls : Nat -> Option Addr) (pn : List Nat) (e : Expr) (m : MT) : Prop where
 h : ∃ t, PW X e t /\ JT ⟨X.K, cls⟩ pn t m
structure DTs (X : Cx) (cls : Nat -> Option Addr) (pn : List Nat) (e : List Expr) (m : MT) : Prop where
 h : ∃ t, PTs X e t /\ JT ⟨X.K, cls⟩ pn t m
structure DA (X : Cx) (cls : Nat -> Option Addr) (pn : List Nat) (e : List Expr) (m : MA) : Prop where
 h : ∃ t, PA X e t /\ JA ⟨X.K, cls⟩ pn t m
structure DS (X : Cx) (cls : Nat -> Option Addr) (pn : List Nat) (fr : Bool) (e : Stmt) (m : MS) : Prop where
 h : ∃ t, PS X e t /\ JS ⟨X.K, cls⟩ pn fr t m
structure Ra (X : Cx) (cls : Nat -> Option Addr) (pn : List Nat) (fr : Bool) (e : List Stmt) (m : MS) : Prop where
 h : ∃ t, PSs X e t /\ JS ⟨X.K, cls⟩ pn fr t m
structure DG (X : Cx) (cls : Nat -> Option Addr) (pn : List Nat) (e : Expr) (m : MG) : Prop where
 h : ∃ t, PG X e t /\ JG ⟨X.K, cls⟩ pn t m
structure DGs (X : Cx) (cls : Nat -> Option Addr) (pn : List Nat) (e : List Expr) (m : Vz) : Prop where
 h : ∃ t, PGs X e t /\ JGs ⟨X.K, cls⟩ pn t m
structure DI (X : Cx) (cls : Nat -> Option Addr) (pn : List Nat) (tg e : Expr) (m : MI) : Prop where
 h : ∃ t, PI X tg e t /\ JI ⟨X.K, cls⟩ pn t m
structure DP (X : Cx) (cls : Nat -> Option Addr) (pn : List Nat) (e : Option Expr) (m : VH) : Prop where
 h : ∃ t, PO X e t /\ JOI ⟨X.K, cls⟩ pn t m
section
variable {X : Cx} {cls : Nat -> Option Addr} {pn : List Nat} {a b c e : Expr} {es : List Expr} {pos p : Pos} {x : Str}
theorem zf : DE X cls pn (.Constant (.int i) j pos) (mC (.int i)) := ⟨_, zjf, Wq rfl rfl⟩
theorem Zz : DE X cls pn (.Constant (.bool i) j pos) (mC (.bl i)) := ⟨_, zlq, Wq rfl rfl⟩
theorem yT : DE X cls pn (.Constant .none j pos) (mC .non) := ⟨_, zjg, Wq rfl rfl⟩
theorem zx : DE X cls pn (.Constant (.str i) j pos) (mC (.str i)) := ⟨_, zak, Wq rfl rfl⟩
theorem WA (hg : Gl X x) (hm : ∃ t, X.mg x = some (.int i t)) (hd : (x == ("__debug__" : Str)) = false := by decide) : DE X cls pn (.Name x pos) (mC (.int i)) := by
 obtain ⟨t, hm⟩ := hm
 exact ⟨_, Wm hg hm (v := .int i) ⟨t, rfl⟩ hd, Wq rfl rfl⟩
theorem jy (hg : Gl X x) (hm : X.mg x = none) (hv : bB x = some (.type n)) (hn : x ≠ "__name__" := by decide) (hd : (x == ("__debug__" : Str)) = false := by decide) : DE X cls pn (.Name x pos) (mC (.ty n)) :=
 ⟨_, zhO (v := .ty n) hg hm hv rfl hn hd, Wq rfl rfl⟩
theorem dv (i : Nat) (hi : i ∉ pn) (hN : X.N[i]? = some x := by kernel_rfl) (hv : Zx X.env.scope x := by first | exact Or.inl rfl | exact Or.inr (Or.inl rfl) | exact Or.inr (Or.inr rfl)) (hd : (x == ("__debug__" : Str)) = false := by decide)
 (hcd : (x == ("__classdict__" : Str)) = false := by decide) : DE X cls pn (.Name x pos) (zaB i) := ⟨_, JQ hN hv hd hcd, zj9 hi⟩
theorem zZ (i : Nat) (hN : X.N[i]? = some x := by kernel_rfl) (hv : Zx X.env.scope x := by first | exact Or.inl rfl | exact Or.inr (Or.inl rfl) | exact Or.inr (Or.inr rfl)) (hd : (x == ("__debug__" : Str)) = false := by decide)
 (hcd : (x == ("__classdict__" : Str)) = false := by decide) : DE X cls pn (.Name x pos) (Vy i) := ⟨_, JQ hN hv hd hcd, zh_⟩
theorem zh (i : Nat) (hN : X.N[i]? = some x := by kernel_rfl) (hv : Zx X.env.scope x := by first | exact Or.inl rfl | exact Or.inr (Or.inl rfl) | exact Or.inr (Or.inr rfl)) (hd : (x == ("__debug__" : Str)) = false := by decide)
 (hcd : (x == ("__classdict__" : Str)) = false := by decide) : DO X cls pn (.Name x pos) (mOv i) := ⟨_, JQ hN hv hd hcd, zj_⟩
theorem zc (h : DE X cls pn e m) : DO X cls pn e (mO m) := let ⟨t, a, b⟩ := h.h; ⟨t, a, zlB b⟩
theorem yg (h : DF X cls pn e m) : DE X cls pn e m := let ⟨t, a, b⟩ := h.h; ⟨t, a, UP b⟩
theorem zl : DA X cls pn [] zf5 := ⟨_, Jp, zka⟩
theorem zd (h : DE X cls pn e m) (r : DA X cls pn es n) (hs : aj (e :: es) X.env = (false, eval e X.env) :: aj es X.env := by kernel_rfl) : DA X cls pn (e :: es) (RJ m n) :=
 let ⟨_, a, b⟩ := h.h; let ⟨_, c, d⟩ := r.h; ⟨_, jh a c hs, zia b d⟩
theorem ziv (h : QD es = some ss) : DA X cls pn es (zdx ss) := ⟨_, zck h, zib⟩
theorem yU (h : DA X cls pn es m) : DF X cls pn (.List es pos) (zdy m) := let ⟨_, a, b⟩ := h.h; ⟨_, zjO a, zkb b⟩
theorem Z6 (h : DA X cls pn es m) : DE X cls pn (.Tuple es x1 pos) (zdz m) := let ⟨_, a, b⟩ := h.h; ⟨_, zjN a, zkc b⟩
theorem Ys (ho : yr X (cn op) r) (hk : yj ⟨X.K, cls⟩ r f) (ha : DO X cls pn a ma) (hb : DO X cls pn b mb) : DE X cls pn (.BinOp a op b pos) (Jq f ma mb) :=
 let ⟨_, pa, ja⟩ := ha.h; let ⟨_, pb, jb⟩ := hb.h; ⟨_, zg4 ho pa pb, Uu hk ja jb⟩
theorem zhm (ho : yr X (cn op) r) (hk : RK ⟨X.K, cls⟩ r f) (ha : DO X cls pn a ma) (hb : DO X cls pn b mb) : DF X cls pn (.BinOp a op b pos) (Wr f ma mb) :=
 let ⟨_, pa, ja⟩ := ha.h; let ⟨_, pb, jb⟩ := hb.h; ⟨_, zg4 ho pa pb, zlC hk ja jb⟩
def zkA : F2 := Jr fun i j => .int (i + j)
def zkB : F2 := Jr fun i j => .int (i - j)
def zkC : F2 := fI CMul fun i j => .int (i * j)
def zkD : F2 := fI (fun _ j => 0 < j) fun i j => .int (i % j)
def zkE : F2 := fI Wo fun i j => .int (i ^ j.toNat)
variable {ma mb : MO}
theorem QG (ha : DO X cls pn a ma) (hb : DO X cls pn b mb) : DE X cls pn (.BinOp a .Add b pos) (Jq zkA ma mb) := Ys zjE (UB (fun _ _ => rfl) fun _ _ => rfl) ha hb
theorem zkF (ha : DO X cls pn a ma) (hb : DO X cls pn b mb) : DE X cls pn (.BinOp a .Sub b pos) (Jq zkB ma mb) := Ys zjF (UB (fun _ _ => rfl) fun _ _ => rfl) ha hb
theorem Y8 (ha : DO X cls pn a ma) (hb : DO X cls pn b mb) : DE X cls pn (.BinOp a .Mult b pos) (Jq zkC ma mb) := Ys zjG (zdK (fun _ _ => rfl) fun _ _ => rfl) ha hb
theorem Zj (ha : DO X cls pn a ma) (hb : DO X cls pn b mb) : DE X cls pn (.BinOp a .Mod b pos) (Jq zkD ma mb) := Ys zjH (zdK (fun _ _ => rfl) fun _ _ => rfl) ha hb
theorem zaQ (ha : DO X cls pn a ma) (hb : DO X cls pn b mb) : DE X cls pn (.BinOp a .Pow b pos) (Jq zkE ma mb) := Ys zjI (zdK (fun _ _ => rfl) fun _ _ => rfl) ha hb
theorem zcv (ha : DO X cls pn a ma) (hb : DO X cls pn b mb) : DE X cls pn (.BinOp a .Add b pos) (Jq RQ ma mb) := Ys zdp zil ha hb
theorem VL (ha : DO X cls pn a ma) (hb : DO X cls pn b mb) : DF X cls pn (.BinOp a .Add b pos) (Wr zdM ma mb) := zhm zj1 zkw ha hb
theorem jn (ho : yr X (aT op) r) (hk : yj ⟨X.K, cls⟩ r f) (ha : DO X cls pn a ma) (hb : DO X cls pn b mb) (hm : cy op b = false) : DE X cls pn (.Compare a [op] [b] pos) (Jq f ma mb) :=
 let ⟨_, pa, ja⟩ := ha.h; let ⟨_, pb, jb⟩ := hb.h; ⟨_, zhX ho pa pb hm, Uu hk ja jb⟩
theorem zJ (ho : yr X (aT op) r) (hk : yj ⟨X.K, cls⟩ r f) (ha : DO X cls pn a ma) (hb : DO X cls pn b mb) (hm : cy op b = false) : DT X cls pn (.Compare a [op] [b] pos) (mB (Jq f ma mb)) :=
 let ⟨_, pa, ja⟩ := ha.h; let ⟨_, pb, jb⟩ := hb.h; ⟨_, zhY ho pa pb hm, zcq (Uu hk ja jb)⟩
def fLt : F2 := Jr fun i j => .bl (decide (i < j))
def fLe : F2 := Jr fun i j => .bl (decide (i <= j))
def fGt : F2 := Jr fun i j => .bl (decide (j < i))
def fGe : F2 := Jr fun i j => .bl (decide (j <= i))
theorem zhn : yj ⟨X.K, cls⟩ (ZV fun i j => .bl (decide (i < j))) fLt := UB (fun _ _ => rfl) fun _ _ => rfl
theorem VM : yj ⟨X.K, cls⟩ (ZV fun i j => .bl (decide (i <= j))) fLe := UB (fun _ _ => rfl) fun _ _ => rfl
theorem zlJ : yj ⟨X.K, cls⟩ (ZV fun i j => .bl (decide (j < i))) fGt := UB (fun _ _ => rfl) fun _ _ => rfl
theorem zho : yj ⟨X.K, cls⟩ (ZV fun i j => .bl (decide (j <= i))) fGe := UB (fun _ _ => rfl) fun _ _ => rfl
theorem zaR (ho : yr X (aT op) r) (hk : yj ⟨X.K, cls⟩ r f) (ho' : yr X (aT op') r') (hk' : yj ⟨X.K, cls⟩ r' f') (ha : DE X cls pn a m1) (hb : DE X cls pn b m2) (hc : DE X cls pn c m3)
 (hm : fX [op, op'] [b, c] = false := by with_unfolding_all rfl) : DE X cls pn (.Compare a [op, op'] [b, c] pos) (Y7 f f' m1 m2 m3) :=
 let ⟨_, pa, ja⟩ := ha.h; let ⟨_, pb, jb⟩ := hb.h; let ⟨_, pc, jc⟩ := hc.h; ⟨_, zfQ ho ho' pa pb pc hm, zaP hk hk' ja jb jc⟩
theorem zaS (ho : yr X (aT op) r) (hk : yj ⟨X.K, cls⟩ r f) (ho' : yr X (aT op') r') (hk' : yj ⟨X.K, cls⟩ r' f') (ha : DE X cls pn a m1) (hb : DE X cls pn b m2) (hc : DE X cls pn c m3)
 (hm : fX [op, op'] [b, c] = false := by with_unfolding_all rfl) : DT X cls pn (.Compare a [op, op'] [b, c] pos) (mB (Y7 f f' m1 m2 m3)) :=
 let ⟨_, pa, ja⟩ := ha.h; let ⟨_, pb, jb⟩ := hb.h; let ⟨_, pc, jc⟩ := hc.h; ⟨_, zfR ho ho' pa pb pc hm, zcq (zaP hk hk' ja jb jc)⟩
theorem jo (h : DE X cls pn e m) (he : ∀ whole, isTrue e X.env whole = (do let v ← whole; fH e.pos; dk [v] (truthy v)) := by intro _; kernel_rfl) : DT X cls pn e (mB m) := let ⟨_, a, b⟩ := h.h; ⟨_, zjh a he, zmD b⟩
theorem VN (h : DO X cls pn e m) (he : ∀ whole, isTrue e X.env whole = (do let v ← whole; fH e.pos; dk [v] (truthy v)) := by intro _; kernel_rfl) : DT X cls pn e (zdP m) := let ⟨_, a, b⟩ := h.h; ⟨_, zfT a he, zkz b⟩
theorem jp (h : DT X cls pn a m) : DT X cls pn (.UnaryOp .Not a pos) (zdB m) := let ⟨_, a, b⟩ := h.h; ⟨_, zjm a, zke b⟩
theorem ZI (h : DW X cls pn e m) : DT X cls pn e m := let ⟨_, a, b⟩ := h.h; ⟨_, a.pt, b⟩
theorem WB (h : DT X cls pn a m) : DW X cls pn (.BoolOp .And [a] pos) m := let ⟨_, a, b⟩ := h.h; ⟨_, zhP a, b⟩
theorem Zk (h : DT X cls pn a m) : DW X cls pn (.BoolOp .Or [a] pos) m := let ⟨_, a, b⟩ := h.h; ⟨_, zjk a, b⟩
theorem zaT (h : DT X cls pn a m) (r : DW X cls pn (.BoolOp .And (b :: es) pos) n) : DW X cls pn (.BoolOp .And (a :: b :: es) pos) (zdA m n) := let ⟨_, a, b⟩ := h.h; let ⟨_, c, d⟩ := r.h; ⟨_, zjl a c, zkd b d⟩
theorem Qw (h : DT X cls pn a m) (r : DW X cls pn (.BoolOp .Or (b :: es) pos) n) : DW X cls pn (.BoolOp .Or (a :: b :: es) pos) (mOr m n) := let ⟨_, a, b⟩ := h.h; let ⟨_, c, d⟩ := r.h; ⟨_, zlr a c, zlD b d⟩
theorem JU (h : DE X cls pn a m) : DE X cls pn (.BoolOp op [a] pos) m := let ⟨_, a, b⟩ := h.h; ⟨_, zjo a, b⟩
theorem Zl (h : DE X cls pn a m) (r : DE X cls pn (.BoolOp .And (b :: es) pos) n) : DE X cls pn (.BoolOp .And (a :: b :: es) pos) (RL m n) := let ⟨_, a, b⟩ := h.h; let ⟨_, c, d⟩ := r.h; ⟨_, zjp a c, zkf b d⟩
theorem zhp (h : DE X cls pn a m) (r : DE X cls pn (.BoolOp .Or (b :: es) pos) n) : DE X cls pn (.BoolOp .Or (a :: b :: es) pos) (zdC m n) := let ⟨_, a, b⟩ := h.h; let ⟨_, c, d⟩ := r.h; ⟨_, zls a c, zlE b d⟩
theorem zkG (h : DE X cls pn a m) : DE X cls pn (.UnaryOp .Not a pos) (RM m) := let ⟨_, a, b⟩ := h.h; ⟨_, zjq a, zkg b⟩
theorem RX (h : DT X cls pn c t) (h1 : DE X cls pn a m) (h2 : DE X cls pn b n) : DE X cls pn (.IfExp c a b pos) (mIf t m n) := let ⟨_, a, b⟩ := h.h; let ⟨_, c, d⟩ := h1.h; let ⟨_, e, f⟩ := h2.h; ⟨_, zal a c e, zlF b d f⟩
def fIx : F2 := fun x y q => match x with | .tup _ => zaM x y q | .str _ => zaN x y q | _ => U8 x y q
theorem zlK : yj ⟨X.K, cls⟩ (rIx X.K) fIx := fun E H x y dx dy Q q hE rx ry h k => by
 unfold fIx at h
 split at h
 · exact .inr (.inl (zks E H x y _ dy Q q hE rx ry h k))
 · exact .inr (.inr (zkt E H x y _ dy Q q hE rx ry h k))
 · exact .inl (zkr E H x y _ dy Q q hE rx ry h k)
theorem zv (ha : DO X cls pn a ma) (hb : DO X cls pn b mb) (hs : Us b) : DE X cls pn (.Subscript a b pos) (Jq fIx ma mb) :=
 let ⟨_, pa, ja⟩ := ha.h; let ⟨_, pb, jb⟩ := hb.h; ⟨_, zha zjW pa pb hs, Uu zlK ja jb⟩
theorem zlL (hr : IxR X r) (hk : yj ⟨X.K, cls⟩ r f) (ha : DO X cls pn a ma) (hb : DO X cls pn b mb) (hs : Us b) : DE X cls pn (.Subscript a b pos) (Jq f ma mb) :=
 let ⟨_, pa, ja⟩ := ha.h; let ⟨_, pb, jb⟩ := hb.h; ⟨_, zha hr pa pb hs, Uu hk ja jb⟩
theorem UE : DP X cls pn none Wz := ⟨_, zh1, zim⟩
theorem UF (h : DE X cls pn e m) : DP X cls pn (some e) (RS m) := let ⟨_, a, b⟩ := h.h; ⟨_, zh2 a, zin b⟩
theorem zaU (ha : DO X cls pn a ma) (hl : DP X cls pn lo l) (hu : DP X cls pn hi u) : DF X cls pn (.Subscript a (.Slice lo hi none p2) pos) (zdL ma l u) :=
 let ⟨_, a, b⟩ := ha.h; let ⟨_, c, d⟩ := hl.h; let ⟨_, e, f⟩ := hu.h; ⟨_, zat zh3 a c e, zkv b d f⟩
theorem zdQ {id : String} {r : List V -> Hp -> VK -> Prop} {f : F1} (hc : je X (.builtin id) r) (hk : Qu ⟨X.K, cls⟩ (fun y => r [y]) f) (hg : Gl X x) (hm : X.mg x = none) (hv : bB x = some (.builtin id)) (ha : DO X cls pn a ma)
 (hs : aj [a] X.env = [(false, eval a X.env)] := by kernel_rfl) (hn : x ≠ "__name__" := by decide) (hd : (x == ("__debug__" : Str)) = false := by decide) : DE X cls pn (.Call (.Name x p) [a] [] pos) (QL f ma) :=
 let ⟨_, pa, ja⟩ := ha.h; ⟨_, zas hc hg hm hv (jh pa Jp hs) hn hd hs rfl, zaC hk ja⟩
theorem RY {id : String} {r : List V -> Hp -> VK -> Prop} {f : F1} (hc : je X (.type id) r) (hk : Qu ⟨X.K, cls⟩ (fun y => r [y]) f) (hg : Gl X x) (hm : X.mg x = none) (hv : bB x = some (.type id)) (ha : DO X cls pn a ma)
 (hs : aj [a] X.env = [(false, eval a X.env)] := by kernel_rfl) (hn : x ≠ "__name__" := by decide) (hd : (x == ("__debug__" : Str)) = false := by decide) : DE X cls pn (.Call (.Name x p) [a] [] pos) (QL f ma) :=
 let ⟨_, pa, ja⟩ := ha.h; ⟨_, W1 hc hg hm hv (jh pa Jp hs) hn hd hs rfl, zaC hk ja⟩
theorem zlM {id : String} {r : List V -> Hp -> VK -> Prop} {f : FL1} (hc : je X (.type id) r) (hk : zaE ⟨X.K, cls⟩ (fun y => r [y]) f) (hg : Gl X x) (hm : X.mg x = none) (hv : bB x = some (.type id)) (ha : DO X cls pn a ma)
 (hs : aj [a] X.env = [(false, eval a X.env)] := by kernel_rfl) (hn : x ≠ "__name__" := by decide) (hd : (x == ("__debug__" : Str)) = false := by decide) : DF X cls pn (.Call (.Name x p) [a] [] pos) (Uv f ma) :=
 let ⟨_, pa, ja⟩ := ha.h; ⟨_, W1 hc hg hm hv (jh pa Jp hs) hn hd hs rfl, zf7 hk ja⟩
theorem zdR {id : String} {r : List V -> Hp -> VK -> Prop} {f : F2} (hc : je X (.builtin id) r) (hk : yj ⟨X.K, cls⟩ (fun y z => r [y, z]) f) (hg : Gl X x) (hm : X.mg x = none) (hv : bB x = some (.builtin id)) (ha : DO X cls pn a ma) (hb : DO X cls pn b mb)
 (hs : aj [a, b] X.env = (false, eval a X.env) :: aj [b] X.env := by kernel_rfl) (hs2 : aj [b] X.env = [(false, eval b X.env)] := by kernel_rfl) (hp : (backTo pos (aj [b] X.env)).any (·.1) = false := by kernel_rfl)
 (hn : x ≠ "__name__" := by decide) (hd : (x == ("__debug__" : Str)) = false := by decide) : DE X cls pn (.Call (.Name x p) [a, b] [] pos) (Jq f ma mb) :=
 let ⟨_, pa, ja⟩ := ha.h; let ⟨_, pb, jb⟩ := hb.h; ⟨_, zas hc hg hm hv (jh pa (jh pb Jp hs2) hs) hn hd hs hp, zf6 hk ja jb⟩
theorem jU (hg : Gl X "len") (hm : X.mg "len" = none) (ha : DO X cls pn a ma) (hs : aj [a] X.env = [(false, eval a X.env)] := by kernel_rfl) : DE X cls pn (.Call (.Name "len" p) [a] [] pos) (QL zgj ma) :=
 zdQ zfU zku hg hm (by kernel_rfl) ha hs
theorem Z7 (hc : X.calm = true) (hg : Gl X "all") (hm : X.mg "all" = none) (ha : DO X cls pn a ma) (hs : aj [a] X.env = [(false, eval a X.env)] := by kernel_rfl) : DE X cls pn (.Call (.Name "all" p) [a] [] pos) (QL zdN ma) :=
 zdQ (zf3 hc) zky hg hm (by kernel_rfl) ha hs
theorem zcw (hg : Gl X "int") (hm : X.mg "int" = none) (ha : DO X cls pn a ma) (hs : aj [a] X.env = [(false, eval a X.env)] := by kernel_rfl) : DE X cls pn (.Call (.Name "int" p) [a] [] pos) (QL zgl ma) :=
 RY zeC zkx hg hm (by kernel_rfl) ha hs
theorem zcx (hg : Gl X "list") (hm : X.mg "list" = none) (ha : DO X cls pn a ma) (hs : aj [a] X.env = [(false, eval a X.env)] := by kernel_rfl) : DF X cls pn (.Call (.Name "list" p) [a] [] pos) (Uv RU ma) :=
 zlM zax ziq hg hm (by kernel_rfl) ha hs
theorem Va (hg : Gl X "tuple") (hm : X.mg "tuple" = none) (ha : DO X cls pn a ma) (hs : aj [a] X.env = [(false, eval a X.env)] := by kernel_rfl) : DE X cls pn (.Call (.Name "tuple" p) [a] [] pos) (QL VI ma) :=
 RY Rv zgk hg hm (by kernel_rfl) ha hs
theorem ziw (hc : X.calm = true) (hg : Gl X "max") (hm : X.mg "max" = none) (ha : DO X cls pn a ma) (hb : DO X cls pn b mb) (hs : aj [a, b] X.env = (false, eval a X.env) :: aj [b] X.env := by kernel_rfl) (hs2 : aj [b] X.env = [(false, eval b X.env)] := by kernel_rfl)
 (hp : (backTo pos (aj [b] X.env)).any (·.1) = false := by kernel_rfl) : DE X cls pn (.Call (.Name "max" p) [a, b] [] pos) (Jq RV ma mb) := zdR (zeA hc) zir hg hm (by kernel_rfl) ha hb hs hs2 hp
theorem zix (hc : X.calm = true) (hg : Gl X "min") (hm : X.mg "min" = none) (ha : DO X cls pn a ma) (hb : DO X cls pn b mb) (hs : aj [a, b] X.env = (false, eval a X.env) :: aj [b] X.env := by kernel_rfl) (hs2 : aj [b] X.env = [(false, eval b X.env)] := by kernel_rfl)
 (hp : (backTo pos (aj [b] X.env)).any (·.1) = false := by kernel_rfl) : DE X cls pn (.Call (.Name "min" p) [a, b] [] pos) (Jq RW ma mb) := zdR (zeB hc) zis hg hm (by kernel_rfl) ha hb hs hs2 hp
theorem yH (hg : Gl X "isinstance") (hm : X.mg "isinstance" = none) (ha : DO X cls pn a ma) (hb : DO X cls pn b mb) (hs : aj [a, b] X.env = (false, eval a X.env) :: aj [b] X.env := by kernel_rfl) (hs2 : aj [b] X.env = [(false, eval b X.env)] := by kernel_rfl)
 (hp : (backTo pos (aj [b] X.env)).any (·.1) = false := by kernel_rfl) : DE X cls pn (.Call (.Name "isinstance" p) [a, b] [] pos) (Jq VJ ma mb) := zdR zaz ziu hg hm (by kernel_rfl) ha hb hs hs2 hp
end
structure HM (P : Program) (w : World) (K : ae) (mg : Str -> Option Value) (base : Heap) (cls : Nat -> Option Addr) (x : Str) (k : Nat) (ps : List Str) (pn : List Nat) (fr : Bool) (p : PSp) : Prop where
 has : Has P w K mg base x k ps (yK ⟨K, cls⟩ pn fr ps.length p)
 len : ∀ ss q, p ss q Z0 -> ss.length = ps.length
section
variable {X : Cx} {cls : Nat -> Option Addr} {pn : List Nat} {a b c e o tg iter : Expr} {es : List Expr} {pos p pos' apos cpos : Pos} {x : Str} {ma mb : MO} {st : Stmt} {sts : List Stmt} {fr : Bool}
theorem zB : Ra X cls pn fr [] zdD := ⟨_, zhQ, zic⟩
theorem zg (h : DS X cls pn fr st m) (r : Ra X cls pn fr sts n) : Ra X cls pn fr (st :: sts) (zf8 m n) := let ⟨_, a, b⟩ := h.h; let ⟨_, c, d⟩ := r.h; ⟨_, zfI a c, zkh b d⟩
theorem zk (h : DS X cls pn fr st m) : Ra X cls pn fr [st] m := let ⟨_, a, b⟩ := h.h; ⟨_, zhR a, b⟩
theorem Vb : DS X cls pn fr st zaF := ⟨_, zfJ, zf9⟩
theorem JK (h : DE X cls pn e m) (hs : cW e none pos.line X.env = pure false := by kernel_rfl) : DS X cls pn fr (.Expr e pos) (RN m) := let ⟨_, a, b⟩ := h.h; ⟨_, zhS a hs, zid b⟩
theorem zq (h : DE X cls pn e m) : DS X cls pn false (.Return (some e) pos) (Wt m) := let ⟨_, a, b⟩ := h.h; ⟨_, zam a, zki b⟩
theorem ziy (h : DF X cls pn e m) : DS X cls pn true (.Return (some e) pos) (Wt m) := let ⟨_, a, b⟩ := h.h; ⟨_, zam a, zie b⟩
theorem zP (h : DT X cls pn c t) (h1 : Ra X cls pn fr s1 m) (h2 : Ra X cls pn fr s2 n) : DS X cls pn fr (.If c s1 s2 pos) (zdE t m n) :=
 let ⟨_, a, b⟩ := h.h; let ⟨_, c, d⟩ := h1.h; let ⟨_, e, f⟩ := h2.h; ⟨_, zlu a c e, zlG b d f⟩
theorem yo (hi' : i ∉ pn) (hN : X.N.Nodup) (hi : X.N[i]? = some x) (hx : Loc X.env.scope x) (he : DE X cls pn e m) (hs : cW e (some (.Name x pos')) pos.line X.env = pure false := by kernel_rfl)
 (hf : X.fn x = true \/ X.env.scope.names.lookup x = some .local := by first | exact .inl rfl | exact .inr rfl | assumption) : DS X cls pn fr (.Assign [.Name x pos'] e pos) (zaG i m) :=
 let ⟨_, a, b⟩ := he.h; ⟨_, zeu hN hi hx a hs hf, zeP hi' b⟩
theorem QH (hi' : i ∉ pn) (hN : X.N.Nodup) (hi : X.N[i]? = some x) (hx : Loc X.env.scope x) (he : DF X cls pn e m) (hs : cW e (some (.Name x pos')) pos.line X.env = pure false := by kernel_rfl)
 (hf : X.fn x = true \/ X.env.scope.names.lookup x = some .local := by first | exact .inl rfl | exact .inr rfl | assumption) : DS X cls pn fr (.Assign [.Name x pos'] e pos) (ZZ i m) :=
 let ⟨_, a, b⟩ := he.h; ⟨_, zeu hN hi hx a hs hf, W6 hi' b⟩
theorem z0 (hi' : i ∉ pn) (hN : X.N.Nodup) (hi : X.N[i]? = some x) (hx : Loc X.env.scope x) (hf : X.fn x = true \/ X.env.scope.names.lookup x = some .local := by first | exact .inl rfl | exact .inr rfl | assumption) : DG X cls pn (.Name x pos) (zaH i) :=
 ⟨_, zhT hN hi hx hf, zif hi'⟩
theorem UG : DGs X cls pn [] zdF := ⟨_, zhU, zig⟩
theorem j7 (h : DG X cls pn e m) (r : DGs X cls pn es n) (hs : (bT (e :: es) X.env).map (·.2) = assign e X.env :: (bT es X.env).map (·.2) := by kernel_rfl) : DGs X cls pn (e :: es) (zaI m n) :=
 let ⟨_, a, b⟩ := h.h; let ⟨_, c, d⟩ := r.h; ⟨_, zfL a c hs, zf_ b d⟩
theorem VO (hc : X.calm = true) (h : DGs X cls pn es m) (hn : (bT es X.env).length = n := by kernel_rfl) (hst : (bT es X.env).findIdx? (·.1) = none := by kernel_rfl) : DG X cls pn (.Tuple es k pos) (zdG m n) :=
 let ⟨_, a, b⟩ := h.h; ⟨_, zjw hc a hn hst, zkj b⟩
theorem Qa (h : DE X cls pn iter m) : DI X cls pn tg iter (VA m) := let ⟨_, a, b⟩ := h.h; ⟨_, zhV a, zih b⟩
theorem zeZ (h : DE X cls pn iter m) : DI X cls pn tg iter (RP m) := let ⟨_, a, b⟩ := h.h; ⟨_, zj6 a, zkl b⟩
theorem QI (hg : Gl X "range") (hm : X.mg "range" = none) (h : DA X cls pn [a] m) (hs : aj [a] X.env = [(false, eval a X.env)] := by kernel_rfl) : DI X cls pn tg (.Call (.Name "range" p) [a] [] pos) (Yo m) :=
 let ⟨_, a, b⟩ := h.h; ⟨_, zex hg hm a hs, zeR b⟩
theorem VP (hp : PassesOwn (model X.prog X.w) X.A X.env X.xe) (hc : X.calm = true) (hi : DI X cls pn tg iter mi) (hg : DG X cls pn tg mg) (hb : Ra X cls pn fr sts m) (hs : ∀ x, bE iter X.env x = pure x := by intro _; kernel_rfl) :
 DS X cls pn fr (.For tg iter sts [] pos) (zdH mi mg m) := let ⟨_, a, b⟩ := hi.h; let ⟨_, c, d⟩ := hg.h; let ⟨_, e, f⟩ := hb.h; ⟨_, zjC hp hc a c e hs, zkm b d f⟩
theorem yL : DTs X cls pn [] mTT := ⟨_, zh5, zlH⟩
theorem ziz (h : DT X cls pn c m) : DTs X cls pn [c] m := let ⟨_, a, b⟩ := h.h; ⟨_, zh6 a, b⟩
def Yt (js : List (Option Nat)) : Bool := decide ((js.filterMap id).Nodup)
theorem Once.of_b : ∀ {js : List (Option Nat)}, Yt js = true -> Once js
 | [], _ => fun k k' j h => by simp at h
 | none :: js, h => fun k k' j h1 h2 => by
  have ih := Once.of_b (js := js) (by simpa [Yt] using h)
  cases k with
  | zero => simp at h1
  | succ k => cases k' with
   | zero => simp at h2
   | succ k' => rw [ih k k' j (by simpa using h1) (by simpa using h2)]
 | some i :: js, h => fun k k' j h1 h2 => by
  have h' : ¬ i ∈ js.filterMap id /\ (js.filterMap id).Nodup := by simpa [Yt] using h
  have ih := Once.of_b (js := js) (by simpa [Yt] using h'.2)
  have no : ∀ k, js[k]? = some (some i) -> False := fun k hk => h'.1 (fh.mpr ⟨some i, eL hk, rfl⟩)
  cases k with
  | zero =>
   simp at h1; subst h1
   cases k' with
   | zero => rfl
   | succ k' => exact (no k' (by simpa using h2)).elim
  | succ k => cases k' with
   | zero => simp at h2; subst h2; exact (no k (by simpa using h1)).elim
   | succ k' => rw [ih k k' j (by simpa using h1) (by simpa using h2)]
variable {N' : List Str} {js : List (Option Nat)} {scope : Scope} {elt : Expr} {ifs : List Expr}
def zkH (Γ : Cn) (pn : List Nat) (m : ME) : TE := fun σ H Q => ∃ (S : Fs) (ρ : Env) (τ : List (V × D)) (q : EK), jL pn S /\ Rel Γ S H σ ρ τ /\ m ρ q /\ ∀ v d H' ρ', Rel Γ S H' σ ρ' τ -> Rep Γ (zr S σ ρ') H' v d -> q d ρ' -> Q v H'
def zkI (Γ : Cn) (pn : List Nat) (m : MT) : TT := fun σ H Q => ∃ (S : Fs) (ρ : Env) (τ : List (V × D)) (q : Bool -> Env -> Prop), jL pn S /\ Rel Γ S H σ ρ τ /\ m ρ q /\ ∀ b H' ρ', Rel Γ S H' σ ρ' τ -> q b ρ' -> Q b H'
def zkJ (Γ : Cn) (pn : List Nat) (m : MG) : TG := fun v σ H Q => ∃ (S : Fs) (ρ : Env) (τ : List (V × D)) (d : D) (q : Env -> Prop), jL pn S /\ Rel Γ S H σ ρ τ /\ Rep Γ (zr S σ ρ) H v d /\ m d ρ q /\ ∀ σ' H' ρ', Rel Γ S H' σ' ρ' τ -> q ρ' -> Q σ' H'
theorem zaV : JE Γ pn (zkH Γ pn m) m := fun S σ ρ H τ Q q hp R hm hq => ⟨S, ρ, τ, q, hp, R, hm, hq⟩
theorem zaW : JT Γ pn (zkI Γ pn m) m := fun S σ ρ H τ Q q hp R hm hq => ⟨S, ρ, τ, q, hp, R, hm, hq⟩
theorem zaX : JG Γ pn (zkJ Γ pn m) m := fun S σ ρ H τ v d Q q hp R r hm hq => ⟨S, ρ, τ, d, q, hp, R, r, hm, hq⟩
theorem DE.pe (h : DE X cls pn e m) : PE X e (zkH ⟨X.K, cls⟩ pn m) := fun pins s σ H Q I ⟨S, ρ, τ, q, hp, R, hm, hq⟩ => let ⟨t, a, b⟩ := h.h; a pins s σ H Q I (b S σ ρ H τ Q q hp R hm hq)
theorem DTs.pt (h : DTs X cls pn es m) : PTs X es (zkI ⟨X.K, cls⟩ pn m) := fun pins s σ H Q I ⟨S, ρ, τ, q, hp, R, hm, hq⟩ => let ⟨t, a, b⟩ := h.h; a pins s σ H Q I (b S σ ρ H τ Q q hp R hm hq)
theorem DG.pg (h : DG X cls pn e m) : PG X e (zkJ ⟨X.K, cls⟩ pn m) := fun pins s σ H v u Q I r ⟨S, ρ, τ, d, q, hp, R, rd, hm, hq⟩ => let ⟨t, a, b⟩ := h.h; a pins s σ H v u Q I r (b S σ ρ H τ v d Q q hp R rd hm hq)
theorem jC (hc : X.calm = true) (K : CompOk X N' js scope) (h1 : Yt js = true) (hi : DI X cls pn tg iter mi) (hg : ∀ s2 H2 fp C cl, DG (z4 X N' scope cl C s2 H2 fp) cls (Z3 js) tg g)
 (ht : ∀ s2 H2 fp C cl, DTs (z4 X N' scope cl C s2 H2 fp) cls (Z3 js) ifs t) (he : ∀ s2 H2 fp C cl, DE (z4 X N' scope cl C s2 H2 fp) cls (Z3 js) elt m)
 (hs : ∀ x, bE iter X.env x = pure x := by intro _; kernel_rfl) : DF X cls pn (.ListComp elt [⟨tg, iter, ifs, 0⟩] scope pos) (Ux mi js g t m) :=
 let ⟨_, a, b⟩ := hi.h
 ⟨_, zh7 hc K a (fun s2 H2 fp C cl => ⟨(hg s2 H2 fp C cl).pg, (ht s2 H2 fp C cl).pt, (he s2 H2 fp C cl).pe⟩) hs, Ww (Once.of_b h1) b zaX zaW zaV⟩
theorem UH {py spos : Pos} (hi' : i ∉ pn) (hc : X.calm = true) (hN : X.N.Nodup) (hi0 : X.N[i]? = some y) (hy : X.env.scope.names.lookup y = some .local) (K : CompOk X N' js scope) (h1 : Yt js = true) (hi : DI X cls pn tg iter mi)
 (hg : ∀ s2 H2 fp C cl, DG (z4 X N' scope cl C s2 H2 fp) cls (Z3 js) tg g) (ht : ∀ s2 H2 fp C cl, DTs (z4 X N' scope cl C s2 H2 fp) cls (Z3 js) ifs t) (he : ∀ s2 H2 fp C cl, DE (z4 X N' scope cl C s2 H2 fp) cls (Z3 js) elt m)
 (hsw : cW (.ListComp elt [⟨tg, iter, ifs, 0⟩] scope pos) (some (.Name y py)) spos.line X.env = pure true := by kernel_rfl) (hs : ∀ x, bE iter X.env x = pure x := by intro _; kernel_rfl) :
 DS X cls pn fr (.Assign [.Name y py] (.ListComp elt [⟨tg, iter, ifs, 0⟩] scope pos) spos) (zaG i (Ux mi js g t m)) :=
 let ⟨_, a, b⟩ := hi.h
 ⟨_, zci hc hN hi0 hy K a (fun s2 H2 fp C cl => ⟨(hg s2 H2 fp C cl).pg, (ht s2 H2 fp C cl).pt, (he s2 H2 fp C cl).pe⟩) hsw hs, zeP hi' (UP (Ww (Once.of_b h1) b zaX zaW zaV))⟩
theorem zdS {py spos : Pos} (hi' : i ∉ pn) (hc : X.calm = true) (hN : X.N.Nodup) (hi0 : X.N[i]? = some y) (hy : X.env.scope.names.lookup y = some .local) (K : CompOk X N' js scope) (h1 : Yt js = true) (hi : DI X cls pn tg iter mi)
 (hg : ∀ s2 H2 fp C cl, DG (z4 X N' scope cl C s2 H2 fp) cls (Z3 js) tg g) (ht : ∀ s2 H2 fp C cl, DTs (z4 X N' scope cl C s2 H2 fp) cls (Z3 js) ifs t) (he : ∀ s2 H2 fp C cl, DE (z4 X N' scope cl C s2 H2 fp) cls (Z3 js) elt m)
 (hsw : cW (.ListComp elt [⟨tg, iter, ifs, 0⟩] scope pos) (some (.Name y py)) spos.line X.env = pure true := by kernel_rfl) (hs : ∀ x, bE iter X.env x = pure x := by intro _; kernel_rfl) :
 DS X cls pn fr (.Assign [.Name y py] (.ListComp elt [⟨tg, iter, ifs, 0⟩] scope pos) spos) (ZZ i (Ux mi js g t m)) :=
 let ⟨_, a, b⟩ := hi.h
 ⟨_, zci hc hN hi0 hy K a (fun s2 H2 fp C cl => ⟨(hg s2 H2 fp C cl).pg, (ht s2 H2 fp C cl).pt, (he s2 H2 fp C cl).pe⟩) hsw hs, W6 hi' (Ww (Once.of_b h1) b zaX zaW zaV)⟩
theorem zcy {id : String} {r : V -> List V -> Hp -> VK -> Prop} {m : ME} {i : Nat} {name : Str} {mm : ME} (slot : PySem.Slot "list" name id) (hty : typeOf (.builtin id) = pure (.type "method_descriptor")) (hm : MtR X id r) (i' : X.N[i]? = some x) (hj : ∀ ta, JE ⟨X.K, cls⟩ pn ta m -> JE ⟨X.K, cls⟩ pn (tBM X.K "list" r (J5 i) (Jx ta ZG)) mm) (ha : DE X cls pn e m)
 (hv : Zx X.env.scope x) (hd : (x == ("__debug__" : Str)) = false) (hcd : (x == ("__classdict__" : Str)) = false)
 (hbase : cz (.Name x p) name X.env (eval (.Name x p) X.env) = eval (.Name x p) X.env) (hfew : ((backTo cpos (aj [e] X.env)).all (fun x => !x.1) && (eN cpos (da [] X.env)).all (fun x => x.1.isSome)
  && decide (([e] : List Expr).length + ([] : List Keyword).length + (if ([] : List Keyword).isEmpty then 0 else 1) < 30)) = true) (hline : (apos.endLine == cpos.line) = true) (hs : aj [e] X.env = [(false, eval e X.env)]) :
 DE X cls pn (.Call (.Attribute (.Name x p) name apos) [e] [] cpos) mm :=
 let ⟨_, a, b⟩ := ha.h; ⟨_, zdu PySem.F.plainAttrs_list slot hty hm (JQ i' hv hd hcd) (jh a Jp hs) hbase hfew hline hs rfl, hj _ b⟩
theorem QJ (i : Nat) (ha : DE X cls pn e m) (i' : X.N[i]? = some x := by kernel_rfl) (hv : Zx X.env.scope x := by first | exact Or.inl rfl | exact Or.inr (Or.inl rfl) | exact Or.inr (Or.inr rfl)) (hd : (x == ("__debug__" : Str)) = false := by decide) (hcd : (x == ("__classdict__" : Str)) = false := by decide)
 (hbase : cz (.Name x p) "append" X.env (eval (.Name x p) X.env) = eval (.Name x p) X.env := by kernel_rfl) (hfew : ((backTo cpos (aj [e] X.env)).all (fun x => !x.1) && (eN cpos (da [] X.env)).all (fun x => x.1.isSome)
  && decide (([e] : List Expr).length + ([] : List Keyword).length + (if ([] : List Keyword).isEmpty then 0 else 1) < 30)) = true := by kernel_rfl) (hline : (apos.endLine == cpos.line) = true := by kernel_rfl) (hs : aj [e] X.env = [(false, eval e X.env)] := by kernel_rfl) :
 DE X cls pn (.Call (.Attribute (.Name x p) "append" apos) [e] [] cpos) (Uz Wx i m) := zcy PySem.F.slot_list_append PySem.F.type_list_append zeJ i' (fun _ => zeT) ha hv hd hcd hbase hfew hline hs
theorem Vc (i : Nat) {pn' : Pos} (hv : DE X cls pn value v) (hi : DE X cls pn a m) (i' : X.N[i]? = some x := by kernel_rfl) (hvis : Zx X.env.scope x := by first | exact Or.inl rfl | exact Or.inr (Or.inl rfl) | exact Or.inr (Or.inr rfl))
 (hd : (x == ("__debug__" : Str)) = false := by decide) (hcd : (x == ("__classdict__" : Str)) = false := by decide)
 (ha : ∀ v, assign (.Subscript (.Name x p) a pos) X.env v = (do
  let ov ← dk [v] (eval (.Name x p) X.env)
  let iv ← dk [v, ov] (eval a X.env)
  fH pos
  dk [v, ov, iv] (setItem ov iv v)
  release [v, ov, iv] []) := by intro _; kernel_rfl) (hs : swapsWithSole [.Subscript (.Name x p) a pos] value pn'.line X.env = pure false := by kernel_rfl) (hw : swappedStores [.Subscript (.Name x p) a pos] value X.env = pure none := by kernel_rfl)
 (h1 : (bT [.Subscript (.Name x p) a pos] X.env).map (·.2) = [assign (.Subscript (.Name x p) a pos) X.env] := by kernel_rfl) : DS X cls pn fr (.Assign [.Subscript (.Name x p) a pos] value pn') (VC i m v) :=
 let ⟨_, pa, ja⟩ := hv.h; let ⟨_, pb, jb⟩ := hi.h; ⟨_, zjz pa (zjy (JQ i' hvis hd hcd) pb zfZ ha) hs hw h1, zgf ja jb⟩
theorem yh (h : HM X.prog X.w X.K X.mg X.base cls x k ps [] false sp) (hr : Room k X.A) (hg : Gl X x) (ha : DA X cls pn (e :: es) m) (hd : (x == ("__debug__" : Str)) = false := by decide)
 (hs : aj (e :: es) X.env = (false, eval e X.env) :: aj es X.env := by kernel_rfl) (hp : (backTo pos (aj es X.env)).any (·.1) = false := by kernel_rfl) : DE X cls pn (.Call (.Name x p) (e :: es) [] pos) (UA sp m) :=
 let ⟨_, pa, ja⟩ := ha.h; ⟨_, Yl h.has hr hg pa hd hs hp, M.je_call ja h.len⟩
theorem UI (h : HM X.prog X.w X.K X.mg X.base cls x k ps [] true sp) (hr : Room k X.A) (hg : Gl X x) (ha : DA X cls pn (e :: es) m) (hd : (x == ("__debug__" : Str)) = false := by decide)
 (hs : aj (e :: es) X.env = (false, eval e X.env) :: aj es X.env := by kernel_rfl) (hp : (backTo pos (aj es X.env)).any (·.1) = false := by kernel_rfl) : DF X cls pn (.Call (.Name x p) (e :: es) [] pos) (UA sp m) :=
 let ⟨_, pa, ja⟩ := ha.h; ⟨_, Yl h.has hr hg pa hd hs hp, zii ja h.len⟩
theorem zM (h : HM X.prog X.w X.K X.mg X.base cls x k ps [0] false sp) (hr : Room k X.A) (hg : Gl X x) (ha : DA X cls pn es m) (j' : X.N[j]? = some y := by kernel_rfl)
 (hvis : Zx X.env.scope y := by first | exact Or.inl rfl | exact Or.inr (Or.inl rfl) | exact Or.inr (Or.inr rfl)) (hyd : (y == ("__debug__" : Str)) = false := by decide) (hcd : (y == ("__classdict__" : Str)) = false := by decide) (hd : (x == ("__debug__" : Str)) = false := by decide)
 (hs : aj (.Name y py :: es) X.env = (false, eval (.Name y py) X.env) :: aj es X.env := by kernel_rfl) (hp : (backTo pos (aj es X.env)).any (·.1) = false := by kernel_rfl) : DE X cls pn (.Call (.Name x p) (.Name y py :: es) [] pos) (Y5 j sp m) :=
 let ⟨_, pa, ja⟩ := ha.h; ⟨_, Yl h.has hr hg (jh (JQ j' hvis hyd hcd) pa hs) hd hs hp, zgh ja h.len⟩
end
section
variable {Γ : Cn} {pn : List Nat} {fr : Bool} {E : St -> XK} {z : Nat -> Env -> Prop}
end
section
variable {X : Cx} {cls : Nat -> Option Addr} {pn : List Nat} {a b c e o tg iter : Expr} {es : List Expr} {pos p pos' apos cpos : Pos} {x : Str} {ma mb : MO} {st : Stmt} {sts : List Stmt} {fr : Bool} {E : St -> XK} {z : Nat -> Env -> Prop}
end
section
variable {X : Cx} {cls : Nat -> Option Addr} {pn : List Nat} {pos p np pc tp : Pos} {x n : Str}
end
def JV : D -> Bool | .non => true | .bl _ => true | .int _ => true | .str _ => true | _ => false
def ZJ : List (Option Bool) -> Option Bool
 | [] => some true
 | some b :: r => (match ZJ r with | some c => some (b && c) | none => none)
 | none :: _ => none
def yx : Nat -> D -> D -> Option Bool
 | 0, x, y => if JV x && JV y then some (JH (vD x) (vD y)) else none
 | n + 1, x, y => if JV x && JV y then some (JH (vD x) (vD y)) else match x, y with
  | .lst xs, .lst ys => if xs.length = ys.length then ZJ (bo (yx n) xs ys) else some false
  | .tup xs, .tup ys => (match ZJ (bo (yx n) xs ys) with | some b => some (b && xs.length == ys.length) | none => none)
  | .lst _, .tup _ => some false
  | .tup _, .lst _ => some false
  | _, _ => none
def eOf (l : List (Option Bool)) (j : Nat) : Bool := match l[j]? with | some (some c) => c | _ => true
theorem Y9 : ∀ {l : List (Option Bool)} {b : Bool}, ZJ l = some b -> (∀ j o, l[j]? = some o -> o = some (eOf l j)) /\ b = (cg l.length).all (eOf l)
 | [], b, h => by cases h; exact ⟨fun j o h => by simp at h, rfl⟩
 | some c :: r, b, h => by
  unfold ZJ at h
  split at h
  · rename_i d hd
    cases h
    obtain ⟨h1, h2⟩ := Y9 hd
    refine ⟨fun j o h => ?_, ?_⟩
    · cases j with
      | zero => simp at h; subst h; rfl
      | succ j => simp at h; rw [h1 j o h]; show _ = some (eOf (some c :: r) (j + 1)); unfold eOf; simp
    · rw [h2, aB, List.range_succ_eq_map, bx, d6]
      congr 1
  · cases h
 | none :: r, b, h => by cases h
section
variable {Γ : Cn} {E : Addr -> Prop} {H : Hp}
theorem ji (h : JV d = true) : jM d = true /\ Je (vD d) = true := by
 cases d <;> first | exact ⟨rfl, rfl⟩ | cases h
theorem zcA (hp : (JV x && JV y) = true) (hv : v = vD x) (hw : w = vD y) (h : some (JH (vD x) (vD y)) = some b) : DQ H n v w b := by
 rw [aD] at hp
 cases h
 subst hv hw
 exact .fl (ji hp.1).2 (ji hp.2).2
theorem VQ (ih : ∀ (x y : D) (v w : V) (b : Bool), yx n x y = some b -> Rep Γ E H v x -> Rep Γ E H w y -> DQ H n v w b) (rx : Reps Γ E H vs xs) (ry : Reps Γ E H ws ys) (hl : l = bo (yx n) xs ys)
 (ha : ∀ j o, l[j]? = some o -> o = some (eOf l j)) (j : Nat) (v w : V) (hv : vs[j]? = some v) (hw : ws[j]? = some w) : DQ H n v w (eOf l j) := by
 have lx := rx.1
 have ly := ry.1
 have j1 : j < xs.length := by rw [← lx]; exact (ay.mp hv).1
 have j2 : j < ys.length := by rw [← ly]; exact (ay.mp hw).1
 have e : l[j]? = some (yx n xs[j] ys[j]) := by
  rw [hl, List.getElem?_zipWith, ab j1, ab j2]
 exact ih _ _ v w _ (ha j _ e) (rx.2 j v _ hv (ab j1)) (ry.2 j w _ hw (ab j2))
theorem zcB : ∀ (n : Nat) (x y : D) (v w : V) (b : Bool), yx n x y = some b -> ju Γ E H v x -> ju Γ E H w y -> DQ H n v w b
 | 0, x, y, v, w, b, h, rx, ry => by
  unfold yx at h
  split at h
  · rename_i hp
    have hp' := hp
    rw [aD] at hp'
    exact zcA hp (zt rx (ji hp'.1).1) (zt ry (ji hp'.2).1) h
  · cases h
 | n + 1, x, y, v, w, b, h, rx, ry => by
  have ih : ∀ (x y : D) (v w : V) (b : Bool), yx n x y = some b -> Rep Γ E H v x -> Rep Γ E H w y -> DQ H n v w b := fun x y v w b h r1 r2 => zcB n x y v w b h r1.b r2.b
  unfold yx at h
  split at h
  · rename_i hp
    have hp' := hp
    rw [aD] at hp'
    exact zcA hp (zt rx (ji hp'.1).1) (zt ry (ji hp'.2).1) h
  · split at h
    · rename_i xs ys _
      obtain ⟨a, vs, rfl, ha, r1⟩ := rx
      obtain ⟨c, ws, rfl, hc, r2⟩ := ry
      have l1 := r1.1
      have l2 := r2.1
      split at h
      · rename_i hl
        obtain ⟨h1, h2⟩ := Y9 h
        have hlen : (bo (yx n) xs ys).length = vs.length := by rw [eU]; omega
        rw [h2, hlen]
        exact .ll _ ha hc (by omega) fun j v w hv hw => VQ ih r1 r2 rfl h1 j v w hv hw
      · cases h
        exact .ln ha hc (by omega)
    · rename_i xs ys _
      obtain ⟨a, vs, rfl, ha, r1⟩ := Rep.tuple rx
      obtain ⟨c, ws, rfl, hc, r2⟩ := Rep.tuple ry
      have l1 := r1.1
      have l2 := r2.1
      split at h
      · rename_i d hd
        cases h
        obtain ⟨h1, h2⟩ := Y9 hd
        have hlen : (bo (yx n) xs ys).length = min vs.length ws.length := by rw [eU, l1, l2]
        rw [h2, hlen, ← l1, ← l2]
        exact .tt _ ha hc fun j v w hv hw => VQ ih r1 r2 rfl h1 j v w hv hw
      · cases h
    · obtain ⟨a, vs, rfl, ha, r1⟩ := rx
      obtain ⟨c, ws, rfl, hc, r2⟩ := Rep.tuple ry
      cases h
      exact .lt ha hc
    · obtain ⟨a, vs, rfl, ha, r1⟩ := Rep.tuple rx
      obtain ⟨c, ws, rfl, hc, r2⟩ := ry
      cases h
      exact .tl ha hc
    · cases h
def Vd : D -> Bool | .lst _ => true | .tup _ => true | _ => false
def zdT (neg : Bool) : F2 := fun x y q => match Vd x && Vd y, yx 40 x y with | true, some b => q (.bl (if neg then !b else b)) | _, _ => False
theorem VR (h : Vd d = true) (r : ju Γ E H v d) : zdw v = true := by
 cases d with
 | lst ds => obtain ⟨a, _, rfl, _⟩ := r; rfl
 | tup ds => obtain ⟨a, _, rfl, _⟩ := Rep.tuple r; rfl
 | _ => cases h
theorem VS : yj Γ (zf4 neg) (zdT neg) := fun E H x y dx dy Q q _ rx ry h k => by
 unfold zdT at h
 split at h
 · rename_i b hs hb
   rw [aD] at hs
   exact ⟨b, zcB 40 dx dy x y b hb rx ry, VR hs.1 rx, VR hs.2 ry, k _ _ H (Same.refl H) (.bl _) h⟩
 · exact aa h
end
end M
namespace L2
open PySem PySem.Spec PyProof.Rows
section
variable {prog : Program} {w : World} {A : Around} {E : Value -> Shared -> Prop} {s : Shared}
end
section
variable {X : Cx} {pos : Pos}
end
end L2
namespace M
open PySem L2
section
variable {Γ : Cn} {pn : List Nat} {X : Cx} {cls : Nat -> Option Addr} {es : List Expr} {pos : Pos}
end
def ziA : PSp := fun ss q _ => ∃ ns : List Int, ss = [.val (.fz ns)] /\ ns.length <= 63 /\ q (.bl true) []
def VT (K : ae) : Sp := fun vs H Q _ => ∃ (a : Addr) (ns : List Int), vs = [.ref a] /\ yl K H a (ns.map V.int) /\ ns.length <= 63 /\ ∀ H', Q (.bl true) H'
theorem ze0 {cls : Nat -> Option Addr} (h : VT K vs H Q E) : yK ⟨K, cls⟩ [] false 1 ziA vs H Q E := by
 obtain ⟨a, ns, rfl, hS, hl, hQ⟩ := h
 have rep : Rep ⟨K, cls⟩ (fun _ => False) H (.ref a) (.fz ns) := .fz (hS.imp (fun z => ⟨id, z⟩) id)
 have no : ∀ i, ¬ yd [Slot.val (D.fz ns)] i := fun i ⟨o, h⟩ => by
  cases i with
  | zero => simp at h
  | succ i => simp at h
 have he : ∀ b, zr ⟨fun _ => False, H, fun _ => none⟩ [some (.ref a)] [Slot.val (D.fz ns)] b -> False := fun b h => h.elim id fun ⟨i, hi, _⟩ => no i hi
 refine ⟨rfl, ⟨fun _ => False, H, fun _ => none⟩, [.val (.fz ns)], fun d _ => d = .bl true, fun _ _ => rfl, rfl, ?_, ⟨ns, rfl, hl, rfl⟩, fun v d H' σ' ρ' os ⟨R', r'⟩ _ q' => ?_⟩
 · exact {
    len := rfl
    val := fun i d h => by
     cases i with
     | zero => simp at h; subst h; exact ⟨_, rfl, rep.up (fun b _ z => he b z) fun _ _ _ z => z⟩
     | succ i => simp at h
    own := fun i o h => absurd ⟨o, h⟩ (no i)
    pin := fun i p h => by cases h
    inj := fun i j p hi => absurd hi (no i)
    dom := fun a h => aa h
    fr := fun b o h _ => h
    tmp := fun x h => nomatch h }
 · subst q'
   rw [QE r']
   exact hQ H'
inductive O (α : Type) where
 | no | ex (k : Nat) (ρ : Env) | ok (a : α) (ρ : Env)
section
variable {α β : Type}
def O.bind : O α -> (α -> Env -> O β) -> O β
 | .no, _ => .no
 | .ex k ρ, _ => .ex k ρ
 | .ok a ρ, f => f a ρ
def O.on (z : Nat -> Env -> Prop) (q : α -> Env -> Prop) : O α -> Prop
 | .no => False
 | .ex k ρ => z k ρ
 | .ok a ρ => q a ρ
def yY (q : α -> Prop) : Option α -> Prop
 | none => False
 | some a => q a
def yi (r : Option α) (ρ : Env) : O α := match r with | none => .no | some a => .ok a ρ
def gd (c : Prop) [Decidable c] (r : O α) : O α := if c then r else .no
theorem yB {z : Nat -> Env -> Prop} {q : α -> Env -> Prop} : (yi r ρ).on z q -> yY (fun a => q a ρ) r := by
 cases r <;> exact id
theorem zdU {z : Nat -> Env -> Prop} {q : α -> Env -> Prop} {c : Prop} [Decidable c] {r : O α} (h : (gd c r).on z q) : c /\ r.on z q := by
 unfold gd at h
 split at h
 · exact ⟨‹_›, h⟩
 · exact aa h
abbrev G (α : Type) := Env -> O α
abbrev Mi (α : Type) := Env -> (α -> Env -> Prop) -> Prop
class Ag (z : Nat -> Env -> Prop) (m : Mi α) (g : G α) : Prop where
 h : ∀ ρ q, (g ρ).on z q -> m ρ q
theorem Ag.step {z : Nat -> Env -> Prop} [i : Ag z m g] {f : α -> Env -> O β} {q : β -> Env -> Prop} {k : α -> Env -> Prop} (h : ((g ρ).bind f).on z q) (hk : ∀ a ρ', (f a ρ').on z q -> k a ρ') : m ρ k := by
 refine i.h ρ k ?_
 cases e : g ρ with
 | no => rw [e] at h; exact h
 | ex j ρ' => rw [e] at h; exact h
 | ok a ρ' => rw [e] at h; exact hk a ρ' h
end
def Zf : Nat -> Env -> Prop := fun _ _ => False
variable {z : Nat -> Env -> Prop}
class Yu (f : F1) (h : D -> Option D) : Prop where
 h : ∀ x q, yY q (h x) -> f x q
class z3 (f : F2) (h : D -> D -> Option D) : Prop where
 h : ∀ x y q, yY q (h x y) -> f x y q
class zgm (f : FL1) (h : D -> Option (List D)) : Prop where
 h : ∀ x q, yY q (h x) -> f x q
class zgn (f : FL2) (h : D -> D -> Option (List D)) : Prop where
 h : ∀ x y q, yY q (h x y) -> f x y q
def JL (g : Int -> Int -> D) : D -> D -> Option D
 | .int i, .int j => some (g i j)
 | _, _ => none
instance {g : Int -> Int -> D} : z3 (Jr g) (JL g) := ⟨fun x y q h => by
 unfold JL at h
 split at h
 · exact h
 · exact aa h⟩
def hI (C : Int -> Int -> Prop) [∀ i j, Decidable (C i j)] (g : Int -> Int -> D) : D -> D -> Option D
 | .int i, .int j => if C i j then some (g i j) else none
 | _, _ => none
instance {C : Int -> Int -> Prop} [∀ i j, Decidable (C i j)] {g : Int -> Int -> D} : z3 (fI C g) (hI C g) := ⟨fun x y q h => by
 unfold hI at h
 split at h
 · split at h
   · exact ⟨‹_›, h⟩
   · exact aa h
 · exact aa h⟩
instance {i j : Int} : Decidable (CMul i j) := inferInstanceAs (Decidable (_ \/ _))
instance {i j : Int} : Decidable (Wo i j) := inferInstanceAs (Decidable (_ /\ _))
def Jn := JL fun i j => .int (i + j)
def zdV := JL fun i j => .int (i - j)
def Yv := hI CMul fun i j => .int (i * j)
def ZK := hI (fun _ j => 0 < j) fun i j => .int (i % j)
def WC := hI Wo fun i j => .int (i ^ j.toNat)
def hLt := JL fun i j => .bl (decide (i < j))
def Rb := JL fun i j => .bl (decide (i <= j))
def hGt := JL fun i j => .bl (decide (j < i))
def hGe := JL fun i j => .bl (decide (j <= i))
def VU := JL fun i j => .int (if j > i then j else i)
def VV := JL fun i j => .int (if j < i then j else i)
instance : z3 zkA Jn := inferInstanceAs (z3 (Jr _) (JL _))
instance : z3 zkB zdV := inferInstanceAs (z3 (Jr _) (JL _))
instance : z3 zkC Yv := inferInstanceAs (z3 (fI _ _) (hI _ _))
instance : z3 zkD ZK := inferInstanceAs (z3 (fI _ _) (hI _ _))
instance : z3 zkE WC := inferInstanceAs (z3 (fI _ _) (hI _ _))
instance : z3 fLt hLt := inferInstanceAs (z3 (Jr _) (JL _))
instance : z3 fLe Rb := inferInstanceAs (z3 (Jr _) (JL _))
instance : z3 fGt hGt := inferInstanceAs (z3 (Jr _) (JL _))
instance : z3 fGe hGe := inferInstanceAs (z3 (Jr _) (JL _))
instance : z3 RV VU := inferInstanceAs (z3 (Jr _) (JL _))
instance : z3 RW VV := inferInstanceAs (z3 (Jr _) (JL _))
def jx (x y : D) : Option D := (Z5 x y).map D.bl
def J4 (x y : D) : Option D := (Z5 x y).map fun b => D.bl (!b)
instance : z3 fEq jx := ⟨fun x y q h => by
 unfold jx at h; unfold fEq
 cases e : Z5 x y with
 | none => rw [e] at h; exact h
 | some b => rw [e] at h; exact h⟩
instance : z3 fNe J4 := ⟨fun x y q h => by
 unfold J4 at h; unfold fNe
 cases e : Z5 x y with
 | none => rw [e] at h; exact h
 | some b => rw [e] at h; exact h⟩
def Ua (x y : D) : Option D := match y with | .non => some (.bl (Jy x)) | _ => none
def RZ (x y : D) : Option D := match y with | .non => some (.bl (!Jy x)) | _ => none
instance : z3 zkp Ua := ⟨fun x y q h => by cases y <;> first | exact h | exact aa h⟩
instance : z3 zhj RZ := ⟨fun x y q h => by cases y <;> first | exact h | exact aa h⟩
def Yw (x y : D) : Option D := match x, y with | .str a, .str b => if a.length + b.length <= 100000 then some (.str (a ++ b)) else none | _, _ => none
instance : z3 RQ Yw := ⟨fun x y q h => by
 unfold Yw at h
 split at h
 · split at h
   · exact ⟨‹_›, h⟩
   · exact aa h
 · exact aa h⟩
def y4 (x y : D) : Option D := match x, y with | .str a, .str b => some (.bl (!decide (b.cps.toList < a.cps.toList))) | _, _ => none
instance : z3 zgi y4 := ⟨fun x y q h => by
 unfold y4 at h
 split at h
 · exact h
 · exact aa h⟩
def QV (neg : Bool) (x y : D) : Option D := match Wy y with
 | some ds => if y3 x = true /\ ds.all y3 = true then some (.bl (if neg then !YV x ds else YV x ds)) else none
 | none => none
instance {neg : Bool} : z3 (fIn neg) (QV neg) := ⟨fun x y q h => by
 unfold QV at h; unfold fIn
 cases e : Wy y with
 | none => rw [e] at h; exact h
 | some ds =>
  rw [e] at h
  dsimp only at h ⊢
  split at h
  · rename_i c; exact ⟨c.1, c.2, h⟩
  · exact aa h⟩
def zH (x y : D) : Option D := match x, y with
 | .lst ds, .int i => (Jk ds.length i).map fun j => ds.getD j .non
 | .tup ds, .int i => (Jk ds.length i).map fun j => ds.getD j .non
 | .fz ns, .int i => (Jk ns.length i).map fun j => .int (ns.getD j 0)
 | .str w, .int i => if w.length <= 100000 then (Jk w.cps.toList.length i).map fun j => .str ⟨#[w.cps.toList.getD j 0]⟩ else none
 | _, _ => none
instance : z3 fIx zH := ⟨fun x y q h => by
 unfold zH at h
 split at h
 · rename_i ds i
   show U8 (.lst ds) (.int i) q
   unfold U8
   dsimp only
   cases e : Jk ds.length i with
   | none => rw [e] at h; exact h
   | some j => rw [e] at h; exact h
 · rename_i ds i
   show zaM (.tup ds) (.int i) q
   unfold zaM
   dsimp only
   cases e : Jk ds.length i with
   | none => rw [e] at h; exact h
   | some j => rw [e] at h; exact h
 · rename_i ds i
   show U8 (.fz ds) (.int i) q
   unfold U8
   dsimp only
   cases e : Jk ds.length i with
   | none => rw [e] at h; exact h
   | some j => rw [e] at h; exact h
 · rename_i w i
   show zaN (.str w) (.int i) q
   unfold zaN
   dsimp only
   split at h
   · refine ⟨‹_›, ?_⟩
     cases e : Jk w.cps.toList.length i with
     | none => rw [e] at h; exact h
     | some j => rw [e] at h; exact h
   · exact aa h
 · exact aa h⟩
def yM : D -> Option D
 | .lst ds => some (.int ds.length)
 | .tup ds => some (.int ds.length)
 | .fz ns => some (.int ns.length)
 | .kt xs => some (.int xs.length)
 | .str w => if w.length <= 100000 then some (.int w.length) else none
 | _ => none
instance : Yu zgj yM := ⟨fun x q h => by
 cases x with
 | str w =>
  unfold yM at h
  dsimp only at h
  split at h
  · exact ⟨‹_›, h⟩
  · exact aa h
 | _ => first | exact h | exact aa h⟩
def Yx (x y : D) : Option (List D) := match x, y with | .lst a, .lst b => if a.length + b.length <= 100000 then some (a ++ b) else none | _, _ => none
instance : zgn zdM Yx := ⟨fun x y q h => by
 unfold Yx at h
 split at h
 · split at h
   · exact ⟨‹_›, h⟩
   · exact aa h
 · exact aa h⟩
def VW : D -> Option (List D) | .lst a => some a | .tup a => some a | _ => none
instance : zgm RU VW := ⟨fun x q h => by cases x <;> first | exact h | exact aa h⟩
def Z8 : D -> Option D | .lst a => some (.tup a) | .tup a => some (.tup a) | _ => none
instance : Yu VI Z8 := ⟨fun x q h => by cases x <;> first | exact h | exact aa h⟩
def zaZ : D -> Option D | .int i => some (.int i) | .bl b => some (.int (if b then 1 else 0)) | _ => none
instance : Yu zgl zaZ := ⟨fun x q h => by cases x <;> first | exact h | exact aa h⟩
def j8 : D -> Option D | .lst ds => (jg ds).map fun bs => .bl (bs.all id) | _ => none
instance : Yu zdN j8 := ⟨fun x q h => by
 cases x with
 | lst ds =>
  unfold j8 at h
  show match jg ds with | some bs => q (.bl (bs.all id)) | none => False
  dsimp only at h
  cases e : jg ds with
  | none => rw [e] at h; exact h
  | some bs => rw [e] at h; exact h
 | _ => exact aa h⟩
def yp (x y : D) : Option D := match Qv x, y with
 | some a, .ty b => (Zi a b).map D.bl
 | _, _ => none
instance : z3 VJ yp := ⟨fun x y q h => by
 unfold yp at h
 unfold VJ
 split at h
 · rename_i a b e
   try rw [e]
   try dsimp only
   cases e2 : Zi a b with
   | none => rw [e2] at h; exact h
   | some r => rw [e2] at h; exact h
 · exact aa h⟩
def QN (neg : Bool) (x y : D) : Option D := if (Vd x && Vd y) = true then (yx 40 x y).map fun b => .bl (if neg then !b else b) else none
instance {neg : Bool} : z3 (zdT neg) (QN neg) := ⟨fun x y q h => by
 unfold QN at h
 unfold zdT
 split at h
 · rename_i e
   rw [e]
   cases e2 : yx 40 x y with
   | none => rw [e2] at h; exact h
   | some b => rw [e2] at h; exact h
 · exact aa h⟩
def gC (d : D) : G D := fun ρ => .ok d ρ
instance {d : D} : Ag z (mC d) (gC d) := ⟨fun ρ q h => h⟩
def Yy (i : Nat) : G D := fun ρ => match ρ[i]? with
 | some (.val d) => .ok d ρ
 | some (.own o) => .ok o (ρ.set i (.val o))
 | _ => .no
instance {i : Nat} : Ag z (zaB i) (Yy i) := ⟨fun ρ q h => by
 unfold Yy at h; unfold zaB
 split at h
 · rename_i e; (try rw [e]); exact h
 · rename_i e; (try rw [e]); exact h
 · exact aa h⟩
def ze (i : Nat) : G D := fun ρ => match ρ[i]? with
 | some (.val d) => .ok d ρ
 | _ => .no
instance {i : Nat} : Ag z (Vy i) (ze i) := ⟨fun ρ q h => by
 unfold ze at h; unfold Vy
 split at h
 · rename_i e; (try rw [e]); exact h
 · exact aa h⟩
def zj (i : Nat) : G Opd := fun ρ => match ρ[i]? with
 | some (.val _) => .ok (.v i) ρ
 | some (.own _) => .ok (.v i) ρ
 | _ => .no
instance {i : Nat} : Ag z (mOv i) (zj i) := ⟨fun ρ q h => by
 unfold zj at h; unfold mOv
 split at h
 · rename_i e; (try rw [e]); exact h
 · rename_i e; (try rw [e]); exact h
 · exact aa h⟩
def gO (g : G D) : G Opd := fun ρ => (g ρ).bind fun d ρ' => .ok (.d d) ρ'
instance {m : ME} {g : G D} [Ag z m g] : Ag z (mO m) (gO g) := ⟨fun ρ q h => by
 unfold gO at h
 unfold mO
 exact Ag.step h fun _ _ h => h⟩
def QY : Option Slot -> Option D
 | some (.val d) => some d
 | some (.own d) => some d
 | _ => none
def Opd.get (r : Opd) (ρ : Env) : Option D := match r with
 | .d x => some x
 | .v i => QY ρ[i]?
theorem Js {r : Opd} {k : D -> Prop} (h : yY k (r.get ρ)) : r.on ρ k := by
 cases r with
 | d x => exact h
 | v i =>
  show Ut ρ[i]? k
  have h : yY k (QY ρ[i]?) := h
  unfold QY at h
  split at h
  · rename_i e; (try rw [e]); exact h
  · rename_i e; (try rw [e]); exact h
  · exact aa h
theorem y9 {α β : Type} {r : Option α} {f : α -> Option β} {q : β -> Prop} (h : yY q (r.bind f)) : yY (fun a => yY q (f a)) r := by
 cases r <;> exact h
theorem ye {α : Type} {r : Option α} {p q : α -> Prop} (h : yY p r) (k : ∀ a, p a -> q a) : yY q r := by
 cases r with
 | none => exact h
 | some a => exact k a h
def gNil : G (List D) := fun ρ => .ok [] ρ
def gCons (a : G D) (r : G (List D)) : G (List D) := fun ρ => (a ρ).bind fun d ρ1 => (r ρ1).bind fun ds ρ2 => .ok (d :: ds) ρ2
def VX (ss : List Str) : G (List D) := fun ρ => .ok (ss.map D.str) ρ
instance : Ag z zf5 gNil := ⟨fun ρ q h => h⟩
instance {m : ME} {n : MA} {g : G D} {k : G (List D)} [Ag z m g] [Ag z n k] : Ag z (RJ m n) (gCons g k) := ⟨fun ρ q h => by
 unfold gCons at h
 unfold RJ
 exact Ag.step h fun _ _ h => Ag.step h fun _ _ h => h⟩
instance {ss : List Str} : Ag z (zdx ss) (VX ss) := ⟨fun ρ q h => h⟩
def yZ (g : G (List D)) : G D := fun ρ => (g ρ).bind fun ds ρ' => gd (ds.length <= 1000) (.ok (.lst ds) ρ')
def gTup (g : G (List D)) : G D := fun ρ => (g ρ).bind fun ds ρ' => gd (ds.length <= 1000) (.ok (.tup ds) ρ')
instance {m : MA} {g : G (List D)} [Ag z m g] : Ag z (zdy m) (yZ g) := ⟨fun ρ q h => by
 unfold yZ at h
 unfold zdy
 exact Ag.step h fun _ _ h => zdU h⟩
instance {m : MA} {g : G (List D)} [Ag z m g] : Ag z (zdz m) (gTup g) := ⟨fun ρ q h => by
 unfold gTup at h
 unfold zdz
 exact Ag.step h fun _ _ h => zdU h⟩
def zi (f : D -> D -> Option D) (a b : G Opd) : G D := fun ρ => (a ρ).bind fun r ρ1 => (b ρ1).bind fun s ρ2 => yi ((r.get ρ2).bind fun x => (s.get ρ2).bind fun y => f x y) ρ2
instance {f : F2} {k : D -> D -> Option D} {a b : MO} {ga gb : G Opd} [i : z3 f k] [Ag z a ga] [Ag z b gb] : Ag z (Jq f a b) (zi k ga gb) :=
 ⟨fun ρ q h => by
 unfold zi at h
 unfold Jq
 exact Ag.step h fun _ _ h => Ag.step h fun _ _ h => Js (ye (y9 (yB h)) fun _ h => Js (ye (y9 h) fun _ h => i.h _ _ _ h))⟩
def zF (f : D -> Option D) (a : G Opd) : G D := fun ρ => (a ρ).bind fun r ρ1 => yi ((r.get ρ1).bind fun x => f x) ρ1
instance {f : F1} {k : D -> Option D} {a : MO} {ga : G Opd} [i : Yu f k] [Ag z a ga] : Ag z (QL f a) (zF k ga) :=
 ⟨fun ρ q h => by
 unfold zF at h
 unfold QL
 exact Ag.step h fun _ _ h => Js (ye (y9 (yB h)) fun _ h => i.h _ _ h)⟩
def Qb (f : D -> D -> Option (List D)) (a b : G Opd) : G D := fun ρ => (a ρ).bind fun r ρ1 => (b ρ1).bind fun s ρ2 => yi ((r.get ρ2).bind fun x => (s.get ρ2).bind fun y => (f x y).map D.lst) ρ2
theorem WD {α β : Type} {r : Option α} {f : α -> β} {q : β -> Prop} (h : yY q (r.map f)) : yY (fun a => q (f a)) r := by
 cases r <;> exact h
instance {f : FL2} {k : D -> D -> Option (List D)} {a b : MO} {ga gb : G Opd} [i : zgn f k] [Ag z a ga] [Ag z b gb] : Ag z (Wr f a b) (Qb k ga gb) :=
 ⟨fun ρ q h => by
 unfold Qb at h
 unfold Wr
 exact Ag.step h fun _ _ h => Ag.step h fun _ _ h => Js (ye (y9 (yB h)) fun _ h => Js (ye (y9 h) fun _ h => i.h _ _ _ (WD h)))⟩
def Qx (f : D -> Option (List D)) (a : G Opd) : G D := fun ρ => (a ρ).bind fun r ρ1 => yi ((r.get ρ1).bind fun x => (f x).map D.lst) ρ1
instance {f : FL1} {k : D -> Option (List D)} {a : MO} {ga : G Opd} [i : zgm f k] [Ag z a ga] : Ag z (Uv f a) (Qx k ga) :=
 ⟨fun ρ q h => by
 unfold Qx at h
 unfold Uv
 exact Ag.step h fun _ _ h => Js (ye (y9 (yB h)) fun _ h => i.h _ _ (WD h))⟩
def asB (d : D) (ρ : Env) : O Bool := match d with | .bl b => .ok b ρ | _ => .no
def gB (g : G D) : G Bool := fun ρ => (g ρ).bind asB
instance {m : ME} {g : G D} [Ag z m g] : Ag z (mB m) (gB g) := ⟨fun ρ q h => by
 unfold gB at h
 unfold mB
 exact Ag.step h fun d _ h => by cases d <;> first | exact h | exact aa h⟩
def Yz (a b : G Bool) : G Bool := fun ρ => (a ρ).bind fun c ρ1 => if c = true then b ρ1 else .ok false ρ1
def JM (a b : G Bool) : G Bool := fun ρ => (a ρ).bind fun c ρ1 => if c = true then .ok true ρ1 else b ρ1
def y6 (a : G Bool) : G Bool := fun ρ => (a ρ).bind fun c ρ1 => .ok (!c) ρ1
instance {a b : MT} {ga gb : G Bool} [Ag z a ga] [i : Ag z b gb] : Ag z (zdA a b) (Yz ga gb) := ⟨fun ρ q h => by
 unfold Yz at h
 unfold zdA
 exact Ag.step h fun c _ h => by
  cases c with
  | true => exact i.h _ _ h
  | false => exact h⟩
instance {a b : MT} {ga gb : G Bool} [Ag z a ga] [i : Ag z b gb] : Ag z (mOr a b) (JM ga gb) := ⟨fun ρ q h => by
 unfold JM at h
 unfold mOr
 exact Ag.step h fun c _ h => by
  cases c with
  | true => exact h
  | false => exact i.h _ _ h⟩
instance {a : MT} {ga : G Bool} [Ag z a ga] : Ag z (zdB a) (y6 ga) := ⟨fun ρ q h => by
 unfold y6 at h
 unfold zdB
 exact Ag.step h fun c _ h => h⟩
def Jf (a b : G D) : G D := fun ρ => (a ρ).bind fun d ρ1 => (asB d ρ1).bind fun c ρ1 => if c = true then b ρ1 else .ok (.bl false) ρ1
def WE (a b : G D) : G D := fun ρ => (a ρ).bind fun d ρ1 => (asB d ρ1).bind fun c ρ1 => if c = true then .ok (.bl true) ρ1 else b ρ1
def VY (a : G D) : G D := fun ρ => (a ρ).bind fun d ρ1 => (asB d ρ1).bind fun c ρ1 => .ok (.bl (!c)) ρ1
instance {a b : ME} {ga gb : G D} [Ag z a ga] [i : Ag z b gb] : Ag z (RL a b) (Jf ga gb) := ⟨fun ρ q h => by
 unfold Jf at h
 unfold RL
 exact Ag.step h fun d _ h => by
  cases d with
  | bl c =>
   cases c with
   | true => exact i.h _ _ h
   | false => exact h
  | _ => exact aa h⟩
instance {a b : ME} {ga gb : G D} [Ag z a ga] [i : Ag z b gb] : Ag z (zdC a b) (WE ga gb) := ⟨fun ρ q h => by
 unfold WE at h
 unfold zdC
 exact Ag.step h fun d _ h => by
  cases d with
  | bl c =>
   cases c with
   | true => exact h
   | false => exact i.h _ _ h
  | _ => exact aa h⟩
instance {a : ME} {ga : G D} [Ag z a ga] : Ag z (RM a) (VY ga) := ⟨fun ρ q h => by
 unfold VY at h
 unfold RM
 exact Ag.step h fun d _ h => by
  cases d <;> first | exact h | exact aa h⟩
def YW (c : G Bool) (a b : G D) : G D := fun ρ => (c ρ).bind fun k ρ1 => if k = true then a ρ1 else b ρ1
instance {c : MT} {a b : ME} {gc : G Bool} {ga gb : G D} [Ag z c gc] [i : Ag z a ga] [j : Ag z b gb] : Ag z (mIf c a b) (YW gc ga gb) := ⟨fun ρ q h => by
 unfold YW at h
 unfold mIf
 exact Ag.step h fun k _ h => by
  cases k with
  | true => exact i.h _ _ h
  | false => exact j.h _ _ h⟩
def jD (f f' : D -> D -> Option D) (a b c : G D) : G D := fun ρ => (a ρ).bind fun x ρ1 => (b ρ1).bind fun y ρ2 => (yi (f x y) ρ2).bind fun d ρ2 => (asB d ρ2).bind fun k ρ2 => if k = true then (c ρ2).bind fun z ρ3 => yi (f' y z) ρ3 else .ok (.bl false) ρ2
theorem O.on_bind {α β : Type} {r : O α} {f : α -> Env -> O β} {q : β -> Env -> Prop} (h : (r.bind f).on z q) : r.on z fun a ρ => (f a ρ).on z q := by cases r <;> exact h
instance {f f' : F2} {k k' : D -> D -> Option D} {a b c : ME} {ga gb gc : G D} [i : z3 f k] [j : z3 f' k'] [Ag z a ga] [Ag z b gb] [Ag z c gc] : Ag z (Y7 f f' a b c) (jD k k' ga gb gc) :=
 ⟨fun ρ q h => by
 unfold jD at h
 unfold Y7
 exact Ag.step h fun x _ h => Ag.step h fun y ρ2 h => by
    refine i.h _ _ _ (ye (yB (O.on_bind h)) fun d h => ?_)
    cases d with
    | bl b =>
     cases b with
     | true =>
      show c ρ2 fun z ρ3 => f' y z fun e => q e ρ3
      have h : ((gc ρ2).bind fun z ρ3 => yi (k' y z) ρ3).on z q := h
      exact Ag.step h fun w ρ3 h => j.h _ _ _ (yB h)
     | false => exact h
    | _ => exact aa h⟩
def zdW (x : D) : Option Bool := match x with | .str y => if y.length <= 100000 then some ((y.length : Int) != 0) else none | x => zdO x
def QO (a : G Opd) : G Bool := fun ρ => (a ρ).bind fun r ρ1 => yi ((r.get ρ1).bind zdW) ρ1
instance {a : MO} {ga : G Opd} [Ag z a ga] : Ag z (zdP a) (QO ga) := ⟨fun ρ q h => by
 unfold QO at h
 unfold zdP
 exact Ag.step h fun r ρ1 h => Js (ye (y9 (yB h)) fun x h => by
  cases x with
  | str y =>
   unfold zdW at h
   dsimp only at h
   split at h
   · exact ⟨‹_›, h⟩
   · exact aa h
  | _ => first | exact ⟨trivial, h⟩ | exact aa h)⟩
def jE : G (Option Int) := fun ρ => .ok none ρ
def asI (d : D) (ρ : Env) : O (Option Int) := match d with | .int i => .ok (some i) ρ | _ => .no
def Jg (g : G D) : G (Option Int) := fun ρ => (g ρ).bind asI
instance : Ag z Wz jE := ⟨fun ρ q h => h⟩
instance {m : ME} {g : G D} [Ag z m g] : Ag z (RS m) (Jg g) := ⟨fun ρ q h => by
 unfold Jg at h
 unfold RS
 exact Ag.step h fun d _ h => by cases d <;> first | exact h | exact aa h⟩
def zgo (x : D) (lo hi : Option Int) : Option D := match x with | .lst ds => some (.lst (jO ds lo hi)) | .fz ns => some (.lst ((jO ns lo hi).map D.int)) | _ => none
def QP (a : G Opd) (l u : G (Option Int)) : G D := fun ρ => (a ρ).bind fun r ρ1 => (l ρ1).bind fun lo ρ2 => (u ρ2).bind fun hi ρ3 => yi ((r.get ρ3).bind fun x => zgo x lo hi) ρ3
instance {a : MO} {l u : VH} {ga : G Opd} {gl gu : G (Option Int)} [Ag z a ga] [Ag z l gl] [Ag z u gu] : Ag z (zdL a l u) (QP ga gl gu) :=
 ⟨fun ρ q h => by
 unfold QP at h
 unfold zdL
 exact Ag.step h fun _ _ h => Ag.step h fun _ _ h => Ag.step h fun _ _ h => Js (ye (y9 (yB h)) fun x h => by cases x <;> first | exact h | exact aa h)⟩
class AgG (m : MG) (g : D -> Env -> Option Env) : Prop where
 h : ∀ d ρ q, yY q (g d ρ) -> m d ρ q
class zdX (m : Vz) (g : List D -> Env -> Option Env) : Prop where
 h : ∀ d ρ q, yY q (g d ρ) -> m d ρ q
def zm (i : Nat) : D -> Env -> Option Env := fun d ρ => some (ρ.set i (.val d))
instance {i : Nat} : AgG (zaH i) (zm i) := ⟨fun d ρ q h => h⟩
def jz : List D -> Env -> Option Env := fun ds ρ => match ds with | [] => some ρ | _ => none
def zY (g : D -> Env -> Option Env) (r : List D -> Env -> Option Env) : List D -> Env -> Option Env := fun ds ρ => match ds with | d :: ds => (g d ρ).bind fun ρ1 => r ds ρ1 | [] => none
instance : zdX zdF jz := ⟨fun d ρ q h => by cases d <;> exact h⟩
instance {g : MG} {r : Vz} {k : D -> Env -> Option Env} {l : List D -> Env -> Option Env} [i : AgG g k] [j : zdX r l] : zdX (zaI g r) (zY k l) := ⟨fun d ρ q h => by
 cases d with
 | nil => exact h
 | cons d ds => exact i.h _ _ _ (ye (y9 h) fun ρ1 h => j.h _ _ _ h)⟩
def jq (g : List D -> Env -> Option Env) (n : Nat) : D -> Env -> Option Env := fun d ρ => match d with | .tup ds => if ds.length = n then g ds ρ else none | _ => none
instance {m : Vz} {n : Nat} {g : List D -> Env -> Option Env} [i : zdX m g] : AgG (zdG m n) (jq g n) := ⟨fun d ρ q h => by
 cases d with
 | tup ds =>
  unfold jq at h
  dsimp only at h
  split at h
  · exact ⟨‹_›, i.h _ _ _ h⟩
  · exact aa h
 | _ => exact aa h⟩
def itL : D -> Option (List D) | .lst ds => some ds | .fz ns => some (ns.map D.int) | _ => none
def z9 (g : G D) : G (List D) := fun ρ => (g ρ).bind fun d ρ' => yi (itL d) ρ'
instance {m : ME} {g : G D} [Ag z m g] : Ag z (VA m) (z9 g) := ⟨fun ρ q h => by
 unfold z9 at h
 unfold VA
 exact Ag.step h fun d _ h => by cases d <;> first | exact h | exact aa h⟩
def itS : D -> Option (List D) | .str x => some (x.cps.toList.map fun c => D.str ⟨#[c]⟩) | _ => none
def QZ (g : G D) : G (List D) := fun ρ => (g ρ).bind fun d ρ' => yi (itS d) ρ'
instance {m : ME} {g : G D} [Ag z m g] : Ag z (RP m) (QZ g) := ⟨fun ρ q h => by
 unfold QZ at h
 unfold RP
 exact Ag.step h fun d _ h => by cases d <;> first | exact h | exact aa h⟩
def WF : List D -> Option (List D) | [.int j] => if -1000000 <= j /\ j <= 1000000 then some (yS 0 j.toNat) else none | _ => none
def yC (g : G (List D)) : G (List D) := fun ρ => (g ρ).bind fun ds ρ' => yi (WF ds) ρ'
instance {m : MA} {g : G (List D)} [Ag z m g] : Ag z (Yo m) (yC g) := ⟨fun ρ q h => by
 unfold yC at h
 unfold Yo
 exact Ag.step h fun ds _ h => by
  unfold WF at h
  split at h
  · try dsimp only
    split at h
    · exact ⟨‹_›, h⟩
    · exact aa h
  · exact aa h⟩
def zW (g : D -> Env -> Option Env) (c : G Bool) (e : G D) : List D -> Env -> O (List D)
 | [], ρ => .ok [] ρ
 | d :: ds, ρ => (yi (g d ρ) ρ).bind fun ρ1 _ => (c ρ1).bind fun b ρ2 => if b = true then (e ρ2).bind fun y ρ3 => (zW g c e ds ρ3).bind fun ys ρ4 => .ok (y :: ys) ρ4 else zW g c e ds ρ2
theorem Ve {g : MG} {c : MT} {e : ME} {k : D -> Env -> Option Env} {gc : G Bool} {ge : G D} [i : AgG g k] [Ag z c gc] [Ag z e ge] : ∀ (ds acc : List D) (ρ : Env) (q : List D -> Env -> Prop), (zW k gc ge ds ρ).on z (fun ys ρ' => q (acc ++ ys) ρ') -> Uw g c e ds acc ρ q
 | [], acc, ρ, q, h => by
  have h : q (acc ++ []) ρ := h
  rw [bj] at h
  exact h
 | d :: ds, acc, ρ, q, h => by
  have h := yB (O.on_bind h)
  refine i.h _ _ _ (ye h fun ρ1 h => Ag.step h fun b ρ2 h => ?_)
  cases b with
  | true =>
   rw [if_pos rfl] at h ⊢
   refine Ag.step (g := ge) h fun y ρ3 h => ?_
   refine Ve (k := k) (gc := gc) (ge := ge) ds (acc ++ [y]) ρ3 q ?_
   have h := O.on_bind h
   have e : ∀ ys, acc ++ [y] ++ ys = acc ++ y :: ys := fun ys => by simp
   simp only [e]
   exact h
  | false =>
   rw [if_neg af] at h ⊢
   exact Ve (k := k) (gc := gc) (ge := ge) ds acc ρ2 q h
def yb : G Bool := fun ρ => .ok true ρ
instance : Ag z mTT yb := ⟨fun ρ q h => h⟩
def zkL (js : List (Option Nat)) (ρ1 : Env) : O (List D) -> O D
 | .ok ys ρb => .ok (.lst ys) (zS js ρb ρ1)
 | _ => .no
def zQ (gi : G (List D)) (js : List (Option Nat)) (g : D -> Env -> Option Env) (c : G Bool) (e : G D) : G D := fun ρ => (gi ρ).bind fun ds ρ1 => gd (ds.length <= 100000) (zkL js ρ1 (zW g c e ds (JR js ρ1)))
instance {mi : MI} {js : List (Option Nat)} {g : MG} {c : MT} {e : ME} {gi : G (List D)} {k : D -> Env -> Option Env} {gc : G Bool} {ge : G D} [Ag z mi gi] [AgG g k] [Ag Zf c gc] [Ag Zf e ge] : Ag z (Ux mi js g c e) (zQ gi js k gc ge) :=
 ⟨fun ρ q h => by
 unfold zQ at h
 unfold Ux
 exact Ag.step h fun ds ρ1 h => by
    obtain ⟨a, h⟩ := zdU h
    refine ⟨a, Ve (z := Zf) (k := k) (gc := gc) (ge := ge) ds [] _ _ ?_⟩
    cases hc : zW k gc ge ds (JR js ρ1) with
    | no => rw [hc] at h; exact aa h
    | ex j ρ' => rw [hc] at h; exact aa h
    | ok ys ρb => rw [hc] at h; exact h⟩
inductive RF where
 | no | ex (k : Nat) | ok (d : D) (os : List D)
abbrev Fn := List Slot -> RF
def zy (F : Fn) : PSp := fun ss q z => match F ss with
 | .no => False
 | .ex k => z (.exc k) []
 | .ok d os => q d os
def zht (r : RF) (ρ : Env) : O D := match r with | .ok d _ => .ok d ρ | _ => .no
def zz (F : Fn) (a : G (List D)) : G D := fun ρ => (a ρ).bind fun ds ρ1 => zht (F (ds.map .val)) ρ1
instance {F : Fn} {a : MA} {ga : G (List D)} [Ag z a ga] : Ag z (UA (zy F) a) (zz F ga) := ⟨fun ρ q h => by
 unfold zz at h
 unfold UA
 exact Ag.step h fun ds ρ1 h => by
  unfold zy
  cases e : F (ds.map .val) with
  | no => rw [e] at h; exact h
  | ex k => rw [e] at h; exact aa h
  | ok d os => rw [e] at h; exact h⟩
def ZM : Option Slot -> Option D | some (.own o) => some o | _ => none
def VZ (j : Nat) (r : RF) (ρ : Env) : O D := match r with | .ok d [o] => .ok d (ρ.set j (.own o)) | _ => .no
def zE (j : Nat) (F : Fn) (a : G (List D)) : G D := fun ρ => (yi (ZM ρ[j]?) ρ).bind fun _ ρ => (a ρ).bind fun ds ρ1 => (yi (ZM ρ1[j]?) ρ1).bind fun o ρ1 => VZ j (F (.own o :: ds.map .val)) ρ1
theorem Ub (h : ZM s = some o) : s = some (.own o) := by
 unfold ZM at h
 split at h
 · cases h; rfl
 · cases h
instance {j : Nat} {F : Fn} {a : MA} {ga : G (List D)} [Ag z a ga] : Ag z (Y5 j (zy F) a) (zE j F ga) := ⟨fun ρ q h => by
 unfold zE at h; unfold Y5
 cases e : ZM ρ[j]? with
 | none => rw [e] at h; exact aa h
 | some o =>
  rw [Ub e]
  rw [e] at h
  have h : ((ga ρ).bind fun ds ρ1 => (yi (ZM ρ1[j]?) ρ1).bind fun o ρ1 => VZ j (F (.own o :: ds.map .val)) ρ1).on z q := h
  refine Ag.step h fun ds ρ1 h => ?_
  cases e1 : ZM ρ1[j]? with
  | none => rw [e1] at h; exact aa h
  | some o1 =>
   rw [Ub e1]
   rw [e1] at h
   have h : (VZ j (F (.own o1 :: ds.map .val)) ρ1).on z q := h
   show zy F (.own o1 :: ds.map .val) _ Z0
   unfold zy
   cases e2 : F (.own o1 :: ds.map .val) with
   | no => rw [e2] at h; exact h
   | ex k => rw [e2] at h; exact aa h
   | ok d os =>
    rw [e2] at h
    match os, h with
    | [], h => exact aa h
    | [o'], h => exact h
    | _ :: _ :: _, h => exact aa h⟩
class AgM (f : List D -> D -> (D -> List D -> Prop) -> Prop) (h : List D -> D -> Option (D × List D)) : Prop where
 h : ∀ ds d q, yY (fun r => q r.1 r.2) (h ds d) -> f ds d q
def yI (ds : List D) (d : D) : Option (D × List D) := if ds.length < 100000 then some (.non, ds ++ [d]) else none
instance : AgM Wx yI := ⟨fun ds d q h => by
 unfold yI at h
 split at h
 · exact ⟨‹_›, h⟩
 · exact aa h⟩
def YA : Option Slot -> Option (List D) | some (.own (.lst ds)) => some ds | _ => none
theorem YB {k : List D -> Prop} (h : yY k (YA s)) : U5 s k := by
 unfold YA at h
 split at h
 · exact h
 · exact aa h
def Qz (f : List D -> D -> Option (D × List D)) (i : Nat) (a : G D) : G D := fun ρ => (yi (YA ρ[i]?) ρ).bind fun _ ρ => (a ρ).bind fun d ρ1 => (yi (YA ρ1[i]?) ρ1).bind fun ds ρ1 => (yi (f ds d) ρ1).bind fun r ρ1 => .ok r.1 (ρ1.set i (.own (.lst r.2)))
instance {f : List D -> D -> (D -> List D -> Prop) -> Prop} {k : List D -> D -> Option (D × List D)} {i : Nat} {a : ME} {ga : G D} [j : AgM f k] [Ag z a ga] : Ag z (Uz f i a) (Qz k i ga) := ⟨fun ρ q h =>
 YB (ye (yB (O.on_bind h)) fun _ h => Ag.step h fun d ρ1 h => YB (ye (yB (O.on_bind h)) fun ds h => j.h _ _ _ (yB (O.on_bind h))))⟩
inductive End where
 | nx | rt (d : D) | bk | ct
def UQ (z : Nat -> Env -> Prop) (N : Ym) : O End -> Prop
 | .no => False
 | .ex k ρ => z k ρ
 | .ok .nx ρ => N.nx ρ
 | .ok (.rt d) ρ => N.rt d ρ
 | .ok .bk ρ => N.bk ρ
 | .ok .ct ρ => N.ct ρ
class Jt (z : Nat -> Env -> Prop) (m : MS) (g : G End) : Prop where
 h : ∀ N ρ, UQ z N (g ρ) -> m N ρ
theorem Ag.stepS {α : Type} {m : Mi α} {g : G α} [i : Ag z m g] {ρ : Env} {f : α -> Env -> O End} {N : Ym} {k : α -> Env -> Prop} (h : UQ z N ((g ρ).bind f)) (hk : ∀ a ρ', UQ z N (f a ρ') -> k a ρ') : m ρ k := by
 refine i.h ρ k ?_
 cases e : g ρ with
 | no => rw [e] at h; exact h
 | ex j ρ' => rw [e] at h; exact h
 | ok a ρ' => rw [e] at h; exact hk a ρ' h
theorem WG {α : Type} {N : Ym} {r : Option α} {ρ : Env} {f : α -> Env -> O End} (h : UQ z N ((yi r ρ).bind f)) : yY (fun a => UQ z N (f a ρ)) r := by
 cases r <;> exact h
theorem zkN {c : Prop} [Decidable c] (h : UQ z N (gd c r)) : c /\ UQ z N r := by
 unfold gd at h
 split at h
 · exact ⟨‹_›, h⟩
 · exact aa h
def zO : G End := fun ρ => .ok .nx ρ
def V0 : G End := fun _ => .no
instance : Jt z zdD zO := ⟨fun N ρ h => h⟩
instance : Jt z zaF V0 := ⟨fun N ρ h => h⟩
def WH (r : O End) (b : G End) : O End := match r with | .ok .nx ρ => b ρ | r => r
def zo (a b : G End) : G End := fun ρ => WH (a ρ) b
instance {a b : MS} {ga gb : G End} [i : Jt z a ga] [j : Jt z b gb] : Jt z (zf8 a b) (zo ga gb) := ⟨fun N ρ h => by
 refine i.h _ _ ?_
 unfold zo at h
 cases e : ga ρ with
 | no => rw [e] at h; exact h
 | ex k ρ' => rw [e] at h; exact h
 | ok n ρ' =>
  rw [e] at h
  cases n with
  | nx => exact j.h _ _ h
  | rt d => exact h
  | bk => exact h
  | ct => exact h⟩
def jP (g : G D) : G End := fun ρ => (g ρ).bind fun _ ρ' => .ok .nx ρ'
def zI (g : G D) : G End := fun ρ => (g ρ).bind fun d ρ' => .ok (.rt d) ρ'
instance {m : ME} {g : G D} [Ag z m g] : Jt z (RN m) (jP g) := ⟨fun N ρ h => by
 unfold jP at h
 unfold RN
 exact Ag.stepS h fun _ _ h => h⟩
instance {m : ME} {g : G D} [Ag z m g] : Jt z (Wt m) (zI g) := ⟨fun N ρ h => by
 unfold zI at h
 unfold Wt
 exact Ag.stepS h fun _ _ h => h⟩
def zR (c : G Bool) (a b : G End) : G End := fun ρ => (c ρ).bind fun k ρ1 => if k = true then a ρ1 else b ρ1
instance {c : MT} {a b : MS} {gc : G Bool} {ga gb : G End} [Ag z c gc] [i : Jt z a ga] [j : Jt z b gb] : Jt z (zdE c a b) (zR gc ga gb) := ⟨fun N ρ h => by
 unfold zR at h
 unfold zdE
 exact Ag.stepS h fun k _ h => by
  cases k with
  | true => exact i.h _ _ h
  | false => exact j.h _ _ h⟩
def yk (i : Nat) (g : G D) : G End := fun ρ => (g ρ).bind fun d ρ' => .ok .nx (ρ'.set i (.val d))
def yJ (i : Nat) (g : G D) : G End := fun ρ => (g ρ).bind fun d ρ' => .ok .nx (ρ'.set i (.own d))
instance {i : Nat} {m : ME} {g : G D} [Ag z m g] : Jt z (zaG i m) (yk i g) := ⟨fun N ρ h => by
 unfold yk at h
 unfold zaG
 exact Ag.stepS h fun _ _ h => h⟩
instance {i : Nat} {m : ME} {g : G D} [Ag z m g] : Jt z (ZZ i m) (yJ i g) := ⟨fun N ρ h => by
 unfold yJ at h
 unfold ZZ
 exact Ag.stepS h fun _ _ h => h⟩
def Zm (i : Nat) (a v : G D) : G End := fun ρ => (v ρ).bind fun d ρ0 => (yi (YA ρ0[i]?) ρ0).bind fun _ ρ0 => (a ρ0).bind fun x ρ1 => (yi (YA ρ1[i]?) ρ1).bind fun ds ρ1 => match x with
 | .int j => gd (0 <= j /\ j.toNat < ds.length) (.ok .nx (ρ1.set i (.own (.lst (ds.set j.toNat d)))))
 | _ => .no
instance {i : Nat} {a v : ME} {ga gv : G D} [Ag z a ga] [Ag z v gv] : Jt z (VC i a v) (Zm i ga gv) := ⟨fun N ρ h => by
 unfold Zm at h
 unfold VC
 exact Ag.stepS h fun d ρ0 h =>
  YB (ye (WG h) fun _ h => Ag.stepS h fun x ρ1 h => YB (ye (WG h) fun ds h => by
   cases x with
   | int j => exact zkN h
   | _ => exact aa h))⟩
def YC (r : O End) (k : G End) : O End := match r with
 | .ok .nx ρ => k ρ
 | .ok .ct ρ => k ρ
 | .ok .bk ρ => .ok .nx ρ
 | r => r
theorem zgp {N : Ym} [i : Jt z b gb] {p : Env -> Prop} (h : UQ z N (YC (gb ρ) k)) (hk : ∀ ρ', UQ z N (k ρ') -> p ρ') : b { nx := p, rt := N.rt, bk := N.nx, ct := p } ρ := by
 refine i.h _ _ ?_
 cases e : gb ρ with
 | no => rw [e] at h; exact h
 | ex k ρ' => rw [e] at h; exact h
 | ok n ρ' =>
  rw [e] at h
  cases n with
  | nx => exact hk _ h
  | rt d => exact h
  | bk => exact h
  | ct => exact hk _ h
def Jo (g : D -> Env -> Option Env) (b : G End) : List D -> G End
 | [], ρ => .ok .nx ρ
 | d :: ds, ρ => (yi (g d ρ) ρ).bind fun ρ1 _ => YC (b ρ1) (Jo g b ds)
theorem zcD {k : D -> Env -> Option Env} [i : AgG g k] [Jt z b gb] : ∀ (ds : List D) (ρ : Env), UQ z N (Jo k gb ds ρ) -> Wu g b ds N ρ
 | [], ρ, h => h
 | d :: ds, ρ, h => i.h _ _ _ (ye (WG h) fun ρ1 h => zgp h fun ρ' h => zcD ds ρ' h)
def ZN (gi : G (List D)) (g : D -> Env -> Option Env) (b : G End) : G End := fun ρ => (gi ρ).bind fun ds ρ1 => Jo g b ds ρ1
instance {mi : MI} {g : MG} {b : MS} {gi : G (List D)} {k : D -> Env -> Option Env} {gb : G End} [Ag z mi gi] [AgG g k] [Jt z b gb] : Jt z (zdH mi g b) (ZN gi k gb) := ⟨fun N ρ h => by
 unfold ZN at h
 unfold zdH
 exact Ag.stepS h fun ds ρ1 h => zcD ds ρ1 h⟩
def za1 : List Nat -> Env -> Option (List D)
 | [], _ => some []
 | i :: r, ρ => (ZM ρ[i]?).bind fun o => (za1 r ρ).map (o :: ·)
theorem zcE : ∀ {pn : List Nat} {ρ : Env} {k : List D -> Prop}, yY k (za1 pn ρ) -> Yq pn ρ k
 | [], ρ, k, h => h
 | i :: r, ρ, k, h => by
  unfold za1 at h
  unfold Yq
  cases e : ZM ρ[i]? with
  | none => rw [e] at h; exact aa h
  | some o =>
   rw [e] at h
   rw [Ub e]
   exact zcE (WD h)
def Uc (pn : List Nat) (d : D) (ρ : Env) : RF := match za1 pn ρ with | some os => .ok d os | none => .no
def zdY (pn : List Nat) (fr : Bool) : O End -> RF
 | .ok .nx ρ => if fr = true then .no else Uc pn .non ρ
 | .ok (.rt d) ρ => Uc pn d ρ
 | .ex k _ => .ex k
 | _ => .no
def yf (pn : List Nat) (n nl : Nat) (fr : Bool) (g : G End) : Fn := fun ss => if ss.length = n then zdY pn fr (g (ss ++ au nl .no)) else .no
theorem zN {ss : List Slot} {q : D -> List D -> Prop} {z : D -> List D -> Prop} (h : zy (yf pn n nl fr g) ss q z) : ss.length = n := by
 unfold zy yf at h
 by_cases e : ss.length = n
 · exact e
 · rw [if_neg e] at h; exact aa h
theorem zcF {q : D -> List D -> Prop} {z : D -> List D -> Prop} (h : match Uc pn d ρ with | .no => False | .ex k => z (.exc k) [] | .ok d os => q d os) : Yq pn ρ (q d) := by
 refine zcE ?_
 unfold Uc at h
 cases e : za1 pn ρ with
 | none => rw [e] at h; exact h
 | some os => rw [e] at h; exact h
theorem zdZ {q z : D -> List D -> Prop} [i : Jt (fun k _ => z (.exc k) []) b g] (h : zy (yf pn n nl fr g) ss q z) :
 b { nx := fun ρ => fr = false /\ Yq pn ρ (q .non), rt := fun d ρ => Yq pn ρ (q d), bk := fun _ => False, ct := fun _ => False } (ss ++ au nl .no) := by
 have hl := zN h
 unfold zy yf at h
 rw [if_pos hl] at h
 refine i.h _ _ ?_
 cases e : g (ss ++ au nl .no) with
 | no => rw [e] at h; exact h
 | ex k ρ => rw [e] at h; exact h
 | ok n ρ =>
  rw [e] at h
  cases n with
  | nx =>
   cases fr with
   | true => exact aa h
   | false => exact ⟨rfl, zcF h⟩
  | rt d => exact zcF h
  | bk => exact h
  | ct => exact h
theorem yV {mg : Str -> Option Value} {cls : Nat -> Option Addr} {N ps : List Str} (F : Fun K x qual st f fd) (S : zL N ps (zu st)) (hn : ps.length = n)
 (hb : ∀ (cdv : Value) (A : Around) (outer : List PySem.Env) (s : Shared) (H : Hp) (E : XK), Room k (A.deeper (PyProof.Rows.envOfC qual (zu st) s.heap.objs.size f cdv)) ->
  ∃ b, Ra (U2 yR P w K mg base N qual (zu st) f cdv A outer s H E).nox cls pn fr (JJ st) b /\ Jt Zf b g) : FnOk P w K mg base yR (k + 1) f fd ps (yK ⟨K, cls⟩ pn fr n (zy (yf pn n (N.length - n) fr g))) := by
 subst hn
 refine F.ok S (fun vs H Q E h => h.1) fun cdv A outer s H vs Q E hr h => ?_
 obtain ⟨b, hd, ag⟩ := hb cdv A outer s H E hr
 obtain ⟨t, a, c⟩ := hd.h
 refine ⟨t, a, ?_⟩
 obtain ⟨hl, S, ss, q, hpin, h0, R, hq, hQ⟩ := h
 have hsl : ss.length = ps.length := by have := R.len; simp at this; omega
 have hm := zdZ (i := (ag : Jt (fun k _ => Z0 (.exc k) []) b g)) hq
 unfold L2.start
 rw [hl]
 have rt : ∀ v d σ' H' ρ', RR ⟨K, cls⟩ fr S σ' ρ' H' [] v d -> Yq pn ρ' (q d) -> Q v H' := fun v d σ' H' ρ' r' q' => by
  obtain ⟨os, a, b⟩ := zct q'
  exact hQ _ _ _ _ _ os r' a b
 refine c S _ _ H [] _ _ hpin (R.ext _) hm (fun σ' H' ρ' R' q' => ?_) rt (fun _ _ _ _ z => aa z) fun _ _ _ _ z => aa z
 obtain ⟨e, q'⟩ := q'
 subst e
 exact rt _ _ _ _ _ ⟨R', .non⟩ q'
end M
namespace M
open PySem L2
theorem za2 {A : Around} (r : Room k A) : A.units + 41 < cLine := by have := r.un; omega
theorem zd0 (hF : ∀ ns : List Int, ns.length <= 63 -> F [.val (.fz ns)] = .ok (.bl true) []) {cls : Nat -> Option Addr} (h : VT K vs H Q E) : yK ⟨K, cls⟩ [] false 1 (zy F) vs H Q E := by
 obtain ⟨hl, S, ss, q, a, b, c, ⟨ns, e, hn, hq⟩, d⟩ := ze0 (cls := cls) h
 refine ⟨hl, S, ss, q, a, b, c, ?_, d⟩
 subst e
 unfold zy
 rw [hF ns hn]
 exact hq
section
variable {α β : Type}
theorem zw {f : α -> Env -> O β} : (O.ok a ρ).bind f = f a ρ := rfl
theorem zcG {f : α -> Env -> O β} : (O.no : O α).bind f = .no := rfl
theorem zcH {f : α -> Env -> O β} : (O.ex k ρ : O α).bind f = .ex k ρ := rfl
theorem yD : yi (some a) ρ = .ok a ρ := rfl
theorem za3 : yi (none : Option α) ρ = .no := rfl
theorem zcI : gd True r = r := rfl
theorem za4 {c : Prop} [Decidable c] (h : c) : gd c r = r := if_pos h
theorem zcJ : WH (.ok .nx ρ) b = b ρ := rfl
theorem zcK : WH (.ok (.rt d) ρ) b = .ok (.rt d) ρ := rfl
theorem zcL : WH (.ok .bk ρ) b = .ok .bk ρ := rfl
theorem zcM : WH (.ok .ct ρ) b = .ok .ct ρ := rfl
theorem zcN : WH (.ex k ρ) b = .ex k ρ := rfl
theorem za5 : YC (.ok .nx ρ) b = b ρ := rfl
theorem za6 : YC (.ok (.rt d) ρ) b = .ok (.rt d) ρ := rfl
theorem za7 : YC (.ok .bk ρ) b = .ok .nx ρ := rfl
theorem za8 : YC (.ok .ct ρ) b = b ρ := rfl
theorem zd1 : (Opd.d x).get ρ = some x := rfl
theorem R6 : (Opd.v i).get ρ = QY ρ[i]? := rfl
theorem ZA : QY (some (.val d)) = some d := rfl
theorem Rc : QY (some (.own d)) = some d := rfl
theorem za9 : ZM (some (.own d)) = some d := rfl
theorem Re : YA (some (.own (.lst ds))) = some ds := rfl
theorem V1 : asB (.bl b) ρ = .ok b ρ := rfl
theorem zcO : asI (.int b) ρ = .ok (some b) ρ := rfl
theorem za_ {d : D} {os : List D} {ρ : Env} : zht (.ok d os) ρ = .ok d ρ := rfl
theorem Rf {ρ : Env} : VZ j (.ok d [o]) ρ = .ok d (ρ.set j (.own o)) := rfl
theorem zcP : zdY pn false (.ok .nx ρ) = Uc pn .non ρ := rfl
theorem WI : zdY pn fr (.ok (.rt d) ρ) = Uc pn d ρ := rfl
theorem zcQ : zdY pn fr (.ex k ρ) = .ex k := rfl
theorem Vf : Uc [] d ρ = .ok d [] := rfl
theorem ze2 : Uc [0] d (.own o :: ρ) = .ok d [o] := rfl
theorem V2 {n : Nat} {r : Int} (h0 : 0 <= r) (h1 : r < n) : Jk n r = some r.toNat := by
 unfold Jk
 rw [if_pos h0, if_pos h1]
theorem Q0 {ds : List D} {r : Int} (h0 : 0 <= r) (h1 : r < ds.length) : zH (.lst ds) (.int r) = some (ds.getD r.toNat .non) := by
 unfold zH; dsimp only; rw [V2 h0 h1]; rfl
theorem ZB {ds : List D} {r : Int} (h0 : 0 <= r) (h1 : r < ds.length) : zH (.tup ds) (.int r) = some (ds.getD r.toNat .non) := by
 unfold zH; dsimp only; rw [V2 h0 h1]; rfl
theorem zlN {ns : List Int} {r : Int} (h0 : 0 <= r) (h1 : r < ns.length) : zH (.fz ns) (.int r) = some (.int (ns.getD r.toNat 0)) := by
 unfold zH; dsimp only; rw [V2 h0 h1]; rfl
theorem zhu {w : Str} {r : Int} (hl : w.length <= 100000) (h0 : 0 <= r) (h1 : r < w.cps.toList.length) : zH (.str w) (.int r) = some (.str ⟨#[w.cps.toList.getD r.toNat 0]⟩) := by
 unfold zH; dsimp only; rw [if_pos hl, V2 h0 h1]; rfl
section
variable {a b c d e f g h : D} {ds : List D}
theorem ix0 : zH (.lst (a :: ds)) (.int 0) = some a := Q0 (by omega) (by simp only [aB]; omega)
theorem ix1 : zH (.lst (a :: b :: ds)) (.int 1) = some b := Q0 (by omega) (by simp only [aB]; omega)
theorem ix2 : zH (.lst (a :: b :: c :: ds)) (.int 2) = some c := Q0 (by omega) (by simp only [aB]; omega)
theorem ix3 : zH (.lst (a :: b :: c :: d :: ds)) (.int 3) = some d := Q0 (by omega) (by simp only [aB]; omega)
theorem ix4 : zH (.lst (a :: b :: c :: d :: e :: ds)) (.int 4) = some e := Q0 (by omega) (by simp only [aB]; omega)
theorem ix5 : zH (.lst (a :: b :: c :: d :: e :: f :: ds)) (.int 5) = some f := Q0 (by omega) (by simp only [aB]; omega)
theorem ix6 : zH (.lst (a :: b :: c :: d :: e :: f :: g :: ds)) (.int 6) = some g := Q0 (by omega) (by simp only [aB]; omega)
theorem ix7 : zH (.lst (a :: b :: c :: d :: e :: f :: g :: h :: ds)) (.int 7) = some h := Q0 (by omega) (by simp only [aB]; omega)
theorem it0 : zH (.tup (a :: ds)) (.int 0) = some a := ZB (by omega) (by simp only [aB]; omega)
theorem it1 : zH (.tup (a :: b :: ds)) (.int 1) = some b := ZB (by omega) (by simp only [aB]; omega)
theorem it2 : zH (.tup (a :: b :: c :: ds)) (.int 2) = some c := ZB (by omega) (by simp only [aB]; omega)
theorem it3 : zH (.tup (a :: b :: c :: d :: ds)) (.int 3) = some d := ZB (by omega) (by simp only [aB]; omega)
theorem it4 : zH (.tup (a :: b :: c :: d :: e :: ds)) (.int 4) = some e := ZB (by omega) (by simp only [aB]; omega)
theorem it5 : zH (.tup (a :: b :: c :: d :: e :: f :: ds)) (.int 5) = some f := ZB (by omega) (by simp only [aB]; omega)
theorem it6 : zH (.tup (a :: b :: c :: d :: e :: f :: g :: ds)) (.int 6) = some g := ZB (by omega) (by simp only [aB]; omega)
theorem it7 : zH (.tup (a :: b :: c :: d :: e :: f :: g :: h :: ds)) (.int 7) = some h := ZB (by omega) (by simp only [aB]; omega)
end
theorem zcR : Jy .non = true := rfl
theorem zcS : Jy (.bl b) = false := rfl
theorem zcT : Jy (.int i) = false := rfl
theorem zcU : Jy (.str x) = false := rfl
theorem zcV : Jy (.lst l) = false := rfl
theorem zcW : Jy (.tup l) = false := rfl
theorem zcX : Jy (.obj c fs) = false := rfl
theorem YX : ∀ {a b : List Char}, a.map dl = b.map dl -> a = b
 | [], [], _ => rfl
 | [], _ :: _, h => by simp at h
 | _ :: _, [], h => by simp at h
 | x :: a, y :: b, h => by
  simp only [aQ, dd] at h
  rw [YX h.2, Char.toNat_inj.mp h.1]
theorem Ud : (av a = av b) = (a = b) := by
 apply propext
 constructor
 · intro h
   rw [d9, d9] at h
   have h : (a.toList.map dl) = (b.toList.map dl) := by
    have := congrArg (fun s => s.cps.toList) h
    simpa using this
   exact String.toList_inj.mp (YX h)
 · intro h; rw [h]
end
end M
namespace L2
open PySem PySem.Spec PyProof.Rows
section
variable {prog : Program} {w : World} {A : Around} {E : Value -> Shared -> Prop} {s : Shared}
end
section
variable {prog : Program} {w : World} {A : Around} {R : Result -> Shared -> Prop}
end
section
variable {prog : Program} {w : World} {A : Around} {E : Value -> Shared -> Prop} {s : Shared}
end
section
variable {X : Cx}
theorem Inv.like {s s' : Shared} (I : Inv X pins σ H s) (h : s'.heap = s.heap) (o : s'.os = s.os) (g : s'.gens = s.gens) : Inv X pins σ H s' := by
 obtain ⟨hp, gn, dr, tk, os⟩ := s
 obtain ⟨hp', gn', dr', tk', os'⟩ := s'
 cases h; cases o; cases g
 exact ⟨I.ok, I.os, I.bare, I.base, I.loc, I.cell, I.free, I.freeC, I.pin, I.hok, I.len⟩
theorem vals_strs : ∀ {vs : List Value} {ss : List Str}, StrsAre vs ss -> Vals (ss.map V.str) vs
 | _, _, .nil => .nil
 | _, _, .cons y t r => .cons ⟨t, rfl⟩ (vals_strs r)
end
theorem Rg {ns : List Int} {its : List Value} {i : Nat} {v : Value} (r : Vals (ns.map V.int) its) (h : its.toArray[i]? = some v) : ∃ t, v = .int (ns.getD i 0) t := by
 have hv : its[i]? = some v := by simpa using h
 have hi : i < its.length := (ay.mp hv).1
 have hl := r.length
 rw [aA] at hl
 obtain ⟨u, hu, ru⟩ := r.get (i := i) (x := .int (ns.getD i 0)) (by
  rw [ar, ab (by omega), aJ, ab (by omega)]; rfl)
 rw [hv] at hu; cases hu
 exact ru
section
variable {X : Cx}
end
section
variable {prog : Program} {w : World} {A : Around} {R : Result -> Shared -> Prop} {I : Addr} {fp wr : List Addr} {G : Array GenState -> Array GenState -> Prop} {n : Nat} {P : Nat -> Value -> Prop} {St : Nat -> Shared -> Prop}
end
section
variable {prog : Program} {w : World} {A : Around} {E : Value -> Shared -> Prop} {s : Shared}
end
section
variable {prog : Program} {w : World} {A : Around} {R : Result -> Shared -> Prop} {I : Addr} {fp wr : List Addr} {G : Array GenState -> Array GenState -> Prop} {n : Nat} {P : Nat -> Value -> Prop} {St : Nat -> Shared -> Prop}
end
section
variable {prog : Program} {w : World} {A : Around} {E : Value -> Shared -> Prop} {s : Shared}
end
section
variable {X : Cx} {pins : List (Addr × Obj)} {σ : St} {H : Hp} {s : Shared} {h' : Heap}
theorem Inv.turnedL {t' : Nat} {fp : List Addr} (I : Inv X pins σ H s) (k : ∀ b o, b ∉ fp -> s.heap.get? b = some o -> h'.get? b = some o) (hf : ∀ b ∈ fp, FpOk X pins H b) : Inv X pins σ H { s with heap := h', toks := t' } := by
 have nit : ∀ b u, H b = some u -> b ∉ fp := fun b u e z => by rw [(hf b z).1] at e; cases e
 have nL : X.env.locals ∉ fp := fun z => (hf _ z).2.1 rfl
 refine I.step (g' := s.gens) (d' := s.drawn) (ch := fp) (fun b hb => let ⟨_, b1, _, b3, b4, b5⟩ := hf b hb; ⟨b3, b1, b4, b5⟩) (fun b o _ _ hc e _ => k b o hc e) (fun b o _ _ hc e _ => ⟨o.slots, k b o hc e⟩) (fun _ _ _ _ n => n)
  (fun b o hc e => ⟨o, k b o hc e⟩) (fun _ _ e => e) (fun _ _ _ e => e) (fun b ps e => ⟨#[], by rw [e]; simp⟩) (fun m hm => ?_) (fun b u e => ?_) I.bare
 · obtain ⟨o, es, ep, ho, r⟩ := hm
   exact ⟨o, es, ep, k _ o nL ho, r⟩
 · refine (I.hok b u e).stay (fun c v hc q => k c v ?_ q) (fun _ q => q) fun _ _ q => q
   rcases hc with z | z
   · rw [z]; exact nit b u e
   · exact nit c _ z
theorem Inv.turnLay {t' : Nat} {fp : List Addr} {T : Addr} {o : HO} (I : Inv X pins σ H s) (k : ∀ b o, b ∉ fp -> s.heap.get? b = some o -> h'.get? b = some o) (hf : ∀ b ∈ fp, FpOk X pins H b) (hT : s.heap.objs.size <= T) (new : ObjOk X.prog X.w (zA H T o) h' T o) :
 Inv X pins σ (zA H T o) { s with heap := h', toks := t' } := by
 have hn : H T = none := I.hok.fresh hT
 have nit : ∀ b u, H b = some u -> b ∉ fp := fun b u e z => by rw [(hf b z).1] at e; cases e
 have nL : X.env.locals ∉ fp := fun z => (hf _ z).2.1 rfl
 have neT : ∀ b o, s.heap.get? b = some o -> b ≠ T := fun b o e => aM (aG (ai e) hT)
 refine I.step (g' := s.gens) (d' := s.drawn) (ch := fp) (fun b hb => let ⟨_, b1, _, b3, b4, b5⟩ := hf b hb; ⟨b3, b1, b4, b5⟩) (fun b o _ _ hc e _ => k b o hc e) (fun b o _ _ hc e _ => ⟨o.slots, k b o hc e⟩) (fun b o _ e n => by rw [zp (neT b o e)]; exact n)
  (fun b o hc e => ⟨o, k b o hc e⟩) (fun b xs q => by rw [zp (zV q hn)]; exact q) (fun b u xs q => by rw [zp (zV q hn)]; exact q) (fun b ps q => ⟨#[], by rw [zp (zV q hn), q]; simp⟩) (fun m hm => ?_) (fun b u e => ?_) I.bare
 · obtain ⟨o, es, ep, ho, r⟩ := hm
   exact ⟨o, es, ep, k _ o nL ho, r⟩
 · by_cases hb : b = T
   · subst hb; rw [zU] at e; cases e; exact new
   · rw [zp hb] at e
     refine (I.hok b u e).stay (fun c v hc q => k c v ?_ q) (fun c q => by rw [zp (zV q hn)]; exact q) fun c xs q => by rw [zp (zV q hn)]; exact q
     rcases hc with z | z
     · rw [z]; exact nit b u e
     · exact nit c _ z
end
def QQ : List Int -> Int
 | [] => 0
 | x :: xs => xs.foldl (fun a b => if b > a then b else a) x
theorem Rh (ns : List Int) : ∀ k, k < ns.length -> ns.getD (gr (fun i j => decide (ns.getD i 0 > ns.getD j 0)) k) 0 = QQ (ns.take (k + 1))
 | 0, h => by cases ns with | nil => simp at h | cons x xs => rfl
 | k + 1, h => by
  have ih := Rh ns k (by omega)
  have hne : ns.take (k + 1) ≠ [] := fun z => by have := congrArg ci z; rw [bV, bO] at this; omega
  have e : ns.take (k + 1 + 1) = ns.take (k + 1) ++ [ns.getD (k + 1) 0] := by
   rw [List.take_succ, ab h]; simp [aJ, ab h]
  have f : ∀ (l : List Int) (y : Int), l ≠ [] -> QQ (l ++ [y]) = if y > QQ l then y else QQ l := fun l y hl => by
   cases l with
   | nil => exact absurd rfl hl
   | cons a r => show (r ++ [y]).foldl _ a = _; rw [List.foldl_append]; rfl
  rw [e, f _ _ hne, ← ih]
  show ns.getD (if decide (ns.getD (k + 1) 0 > ns.getD (gr _ k) 0) = true then k + 1 else gr _ k) 0 = _
  by_cases c : ns.getD (k + 1) 0 > ns.getD (gr (fun i j => decide (ns.getD i 0 > ns.getD j 0)) k) 0
  · rw [if_pos (decide_eq_true c), if_pos c]
  · rw [if_neg (by rw [decide_eq_false c]; exact af), if_neg c]
theorem zgq {ns : List Int} (h : ns ≠ []) : ns.getD (gr (fun i j => decide (ns.getD i 0 > ns.getD j 0)) (ns.length - 1)) 0 = QQ ns := by
 have hl := eV.mpr h
 rw [Rh ns _ (by omega), show ns.length - 1 + 1 = ns.length by omega, dW]
section
variable {X : Cx}
theorem ze3 (hc : X.calm = true) : je X (.builtin "max") (fun vs H Q => ∃ (a : Addr) (ns : List Int), vs = [.ref a] /\ yl X.K H a (ns.map V.int) /\ ns ≠ [] /\ Q (.int (QQ ns)) H) := by
 intro pins s σ H vs us Q I rv h
 obtain ⟨a, ns, rfl, hq, h0, q⟩ := h
 obtain ⟨u, rfl, ru⟩ := rv.one
 cases ru
 obtain ⟨its, r, pl, hz⟩ := I.list hq
 have hl := r.length
 rw [aA] at hl
 have hlt : a < s.heap.objs.size := by obtain ⟨o, n, e, _⟩ := pl; exact ai e
 refine call_max_walkS (dN pl.isList ⟨_, _, _, _, _, _, _, _, rfl, (g9 (by simpa using I.ok.hd hc) s.heap.objs.size a (aM hlt) its.toArray).toS, ⟨⟨_, aE _ rfl, rfl, rfl⟩, pl.isList.push _⟩, ?_, ?_, CmpOf.ints_gt (fun i => ns.getD i 0) fun i v hv => Rg r hv, fun v s' pv hm => ?_⟩)
 · intro b hb
   show b < (s.heap.push _).objs.size; rw [cj]; simp at hb
   rcases hb with rfl | rfl
   · exact fP _
   · exact fD hlt
 · rw [ah, ← hl]; exact eV.mpr h0
 · obtain ⟨t, e⟩ := Rg r pv
   rw [ah, ← hl, zgq h0] at e
   have I1 : Inv X pins σ H { s with heap := s'.heap, toks := s'.toks } := I.kept fun b o e => hm.heap b o (by simp only [cH]; exact aM (ai e)) (am _ e)
   exact ⟨.int (QQ ns), H, I1.like rfl hm.os hm.gens, ⟨_, e⟩, q⟩
end
section
variable {X : Cx} {pins : List (Addr × Obj)} {σ : St} {H : Hp} {s : Shared}
end
end L2
namespace M
open PySem L2
section
variable {X : Cx} {cls : Nat -> Option Addr} {pn : List Nat} {a e : Expr} {es : List Expr} {pos p pc tp : Pos} {x : Str} {ma : MO}
end
def QA : List D -> Option (List Int)
 | [] => some []
 | .int i :: r => (QA r).map (i :: ·)
 | _ :: _ => none
def ZC : List D -> Option (List Str)
 | [] => some []
 | .str i :: r => (ZC r).map (i :: ·)
 | _ :: _ => none
section
variable {Γ : Cn} {E : Addr -> Prop} {H : Hp}
theorem zba : ∀ {ds : List D} {ns : List Int}, QA ds = some ns -> ds = ns.map D.int
 | [], _, h => by cases h; rfl
 | d :: r, ns, h => by
  cases d with
  | int i =>
   unfold QA at h
   cases e : QA r with
   | none => rw [e] at h; cases h
   | some ms => rw [e] at h; cases h; rw [zba e]; rfl
  | _ => cases h
theorem zbb : ∀ {ds : List D} {ns : List Str}, ZC ds = some ns -> ds = ns.map D.str
 | [], _, h => by cases h; rfl
 | d :: r, ns, h => by
  cases d with
  | str i =>
   unfold ZC at h
   cases e : ZC r with
   | none => rw [e] at h; cases h
   | some ms => rw [e] at h; cases h; rw [zbb e]; rfl
  | _ => cases h
theorem ze4 (ns : List Int) : QA (ns.map D.int) = some ns := by
 induction ns with
 | nil => rfl
 | cons i r ih => show (QA (r.map D.int)).map _ = _; rw [ih]; rfl
theorem ze5 (ns : List Str) : ZC (ns.map D.str) = some ns := by
 induction ns with
 | nil => rfl
 | cons i r ih => show (ZC (r.map D.str)).map _ = _; rw [ih]; rfl
theorem zbc {α : Type} {f : α -> D} {g : α -> V} (hf : ∀ a, jM (f a) = true) (hg : ∀ a, vD (f a) = g a) {ns : List α} (r : Reps Γ E H xs (ns.map f)) : xs = ns.map g := by
 refine List.ext_getElem? fun i => ?_
 have hl := r.1
 rw [aA] at hl
 cases e : ns[i]? with
 | none => rw [ar, e, List.getElem?_eq_none (by rw [hl]; exact List.getElem?_eq_none_iff.mp e)]; rfl
 | some n =>
  obtain ⟨v, h1, h2⟩ := r.get (i := i) (d := f n) (by rw [ar, e]; rfl)
  rw [h1, ar, e, h2.flat (hf n), hg]; rfl
theorem zbd {ns : List Int} (r : Reps Γ E H xs (ns.map D.int)) : xs = ns.map V.int := zbc (fun _ => rfl) (fun _ => rfl) r
theorem zbe {ns : List Str} (r : Reps Γ E H xs (ns.map D.str)) : xs = ns.map V.str := zbc (fun _ => rfl) (fun _ => rfl) r
theorem ze6 (ns : List Str) : Reps Γ E H (ns.map V.str) (ns.map D.str) := ⟨by simp, fun i v d h1 h2 => by
 rw [ar] at h1 h2
 cases e : ns[i]? with
 | none => rw [e] at h1; cases h1
 | some x => rw [e] at h1 h2; cases h1; cases h2; exact .str x⟩
theorem zbf (r : ju Γ E H v (.lst ds)) : ∃ a xs, v = .ref a /\ H a = some (.lst xs) /\ Reps Γ E H xs ds := r
def Vg : D -> Option (List D) | .lst ds => some ds | _ => none
theorem ze7 {ns : List Int} (r : ju Γ E H v d) (h : (Vg d).bind QA = some ns) : ∃ a, v = .ref a /\ yl Γ.K H a (ns.map V.int) := by
 cases d with
 | lst ds =>
  obtain ⟨a, xs, rfl, hH, rs⟩ := zbf r
  rw [zba (ds := ds) h] at rs
  exact ⟨a, rfl, .inl (.inl (by rw [hH, zbd rs]))⟩
 | _ => cases h
theorem ze8 {ns : List Str} (r : ju Γ E H v d) (h : (Vg d).bind ZC = some ns) : ∃ a, v = .ref a /\ yl Γ.K H a (ns.map V.str) := by
 cases d with
 | lst ds =>
  obtain ⟨a, xs, rfl, hH, rs⟩ := zbf r
  rw [zbb (ds := ds) h] at rs
  exact ⟨a, rfl, .inl (.inl (by rw [hH, zbe rs]))⟩
 | _ => cases h
end
def hIs (g : List Int -> Option D) (x : D) : Option D := ((Vg x).bind QA).bind g
def fIs (g : List Int -> Option D) : F1 := fun x q => yY q (hIs g x)
instance {g : List Int -> Option D} : Yu (fIs g) (hIs g) := ⟨fun x q h => h⟩
theorem zkO {g : List Int -> Option D} {q : D -> Prop} (h : yY q (hIs g x)) : ∃ ns d, (Vg x).bind QA = some ns /\ g ns = some d /\ q d := by
 unfold hIs at h
 cases e : (Vg x).bind QA with
 | none => rw [e] at h; exact aa h
 | some ns =>
  rw [e] at h
  have h : yY q (g ns) := h
  cases e2 : g ns with
  | none => rw [e2] at h; exact aa h
  | some d => rw [e2] at h; exact ⟨ns, d, rfl, e2, h⟩
def R7 (ns : List Int) : Option D := if ns = [] then none else some (.int (QQ ns))
def zd2 := fIs R7
def V3 := hIs R7
instance : Yu zd2 V3 := ⟨fun x q h => h⟩
section
variable {Γ : Cn}
theorem ziB : Qu Γ (fun x H Q => ∃ (a : Addr) (ns : List Int), [x] = [.ref a] /\ yl Γ.K H a (ns.map V.int) /\ ns ≠ [] /\ Q (.int (QQ ns)) H) zd2 := fun E H x dx Q q _ rx h k => by
 obtain ⟨ns, d, h1, h2, h3⟩ := zkO h
 obtain ⟨a, rfl, sq⟩ := ze7 rx h1
 unfold R7 at h2
 split at h2
 · cases h2
 · cases h2; exact ⟨a, ns, rfl, sq, ‹_›, k _ _ H (Same.refl H) (.int _) h3⟩
end
section
variable {X : Cx} {cls : Nat -> Option Addr} {pn : List Nat} {a e de : Expr} {es : List Expr} {pos p p2 pos2 kp : Pos} {x : Str} {ma : MO} {md : ME}
theorem ziC (hc : X.calm = true) (hg : Gl X "max") (hm : X.mg "max" = none) (ha : DO X cls pn a ma) (hs : aj [a] X.env = [(false, eval a X.env)] := by kernel_rfl) : DE X cls pn (.Call (.Name "max" p) [a] [] pos) (QL zd2 ma) := zdQ (ze3 hc) ziB hg hm (by kernel_rfl) ha hs
end
section
variable {Γ : Cn}
end
section
variable {X : Cx} {cls : Nat -> Option Addr} {pn : List Nat} {a b e de : Expr} {es : List Expr} {pos p p2 pos2 kp : Pos} {x : Str} {ma mb : MO}
end
def zd3 (x : D) : Option (List Str) := (Vg x).bind ZC
section
variable {X : Cx} {cls : Nat -> Option Addr} {pn : List Nat} {a b e de : Expr} {es : List Expr} {pos p p2 pos2 kp : Pos} {x : Str} {ma mb : MO}
end
section
variable {Γ : Cn} {pn : List Nat}
end
variable {z : Nat -> Env -> Prop}
section
variable {X : Cx} {cls : Nat -> Option Addr} {pn : List Nat} {a e o : Expr} {es tes : List Expr} {pos p apos tp : Pos} {kt : Nat} {m : MA} {x : Str}
end
section
variable {X : Cx} {cls : Nat -> Option Addr} {pn : List Nat} {e o : Expr} {es : List Expr} {pos apos : Pos} {m : Str} {k : Nat} {ps : List Str} {tbl : Nat -> Option Fn} {ma : ME} {mr : MA}
end
def V4 (j : Nat) (p : PSp) : ME := fun ρ q => Ut ρ[j]? fun o => p [.val o] (fun d _ => jM d = true /\ q d ρ) Z0
section
variable {Γ : Cn} {pn : List Nat}
theorem zgr (hn : ∀ ss q, p ss q Z0 -> ss.length = 1) : JE Γ pn (Ur (yK Γ [] false 1 p) [] E0 (Jx (J5 j) ZG)) (V4 j p) := fun S σ ρ H τ Q q hp R hm hq => by
 have hm : Ut ρ[j]? _ := hm
 cases e : ρ[j]? with
 | none => rw [e] at hm; exact aa hm
 | some s =>
  rw [e] at hm
  cases s with
  | no => exact aa hm
  | val d =>
   obtain ⟨v, e1, r⟩ := R.val j d e
   refine ⟨v, e1, ?_⟩
   show yK Γ [] false 1 p ([v] ++ []) H Q E0
   rw [bj]
   refine ⟨rfl, ⟨zr S σ ρ, H, fun _ => none⟩, [.val d], _, fun _ _ => rfl, rfl, U6 R (.cons r .nil), hm, fun w d' H' σ' ρ' os ⟨R', r'⟩ _ q' => ?_⟩
   obtain ⟨a, b⟩ := VD R R' r'
   exact hq w d' H' ρ a b q'.2
  | own o =>
   obtain ⟨x, e1, ow, nC, _⟩ := R.own j o e
   refine ⟨_, e1, ?_⟩
   show yK Γ [] false 1 p ([.ref x] ++ []) H Q E0
   rw [bj]
   have R0 : Rel Γ ⟨fun a => zr S σ ρ a /\ a ≠ x, H, fun _ => none⟩ H ([V.ref x].map some) [.val o] [] := by
    have no : ∀ i, ¬ yd [Slot.val o] i := fun i ⟨u, h⟩ => by
     cases i with
     | zero => simp at h
     | succ i => simp at h
    have he : ∀ b, zr ⟨fun a => zr S σ ρ a /\ a ≠ x, H, fun _ => none⟩ ([V.ref x].map some) [.val o] b -> zr S σ ρ b /\ b ≠ x := fun b h => h.elim id fun ⟨i, hi, _⟩ => absurd hi (no i)
    have ow' := ow.up (E' := zr ⟨fun a => zr S σ ρ a /\ a ≠ x, H, fun _ => none⟩ ([V.ref x].map some) [.val o]) (H' := H) (fun _ z => z) (fun b _ z => (he b z).1) fun _ _ _ z => z
    exact {
     len := rfl
     val := fun i d h => by
      cases i with
      | zero => simp at h; subst h; exact ⟨_, rfl, ow'.rep fun z => (he x z).2 rfl⟩
      | succ i => simp at h
     own := fun i o h => absurd ⟨o, h⟩ (no i)
     pin := fun i p h => by cases h
     inj := fun i j p hi => absurd hi (no i)
     dom := fun a h => yz R h.1
     fr := fun b o h _ => h
     tmp := fun x h => nomatch h }
   refine ⟨rfl, _, [.val o], _, fun _ _ => rfl, rfl, R0, hm, fun w d' H' σ' ρ' os ⟨R', r'⟩ _ q' => ?_⟩
   have R2 : Rel Γ S H' σ ρ τ := R.grow fun b o h => R'.fr b o h fun i => by simp
   rw [r'.flat q'.1]
   exact hq _ d' H' ρ R2 (Zg q'.1) q'.2
end
def UJ (r : RF) (ρ : Env) : O D := match r with | .ok d _ => (if jM d = true then .ok d ρ else .no) | _ => .no
def Zn (j : Nat) (F : Fn) : G D := fun ρ => (yi (QY ρ[j]?) ρ).bind fun o ρ => UJ (F [.val o]) ρ
theorem zgs {k : D -> Prop} (h : yY k (QY s)) : Ut s k := by
 unfold QY at h
 split at h
 · exact h
 · exact h
 · exact aa h
instance {j : Nat} {F : Fn} : Ag z (V4 j (zy F)) (Zn j F) := ⟨fun ρ q h => by
 unfold Zn at h
 unfold V4
 refine zgs (ye (yB (O.on_bind h)) fun o h => ?_)
 unfold zy
 unfold UJ at h
 cases e : F [.val o] with
 | no => rw [e] at h; exact aa h
 | ex k => rw [e] at h; exact aa h
 | ok d os =>
  rw [e] at h
  dsimp only at h ⊢
  split at h
  · exact ⟨‹_›, h⟩
  · exact aa h⟩
section
variable {X : Cx} {cls : Nat -> Option Addr} {pn : List Nat} {pos p py : Pos} {x y : Str}
theorem zbg (h : HM X.prog X.w X.K X.mg X.base cls x k [a0] [] false F) (hr : Room k X.A) (hg : Gl X x) (j' : X.N[j]? = some y := by kernel_rfl)
 (hvis : Zx X.env.scope y := by first | exact Or.inl rfl | exact Or.inr (Or.inl rfl) | exact Or.inr (Or.inr rfl)) (hyd : (y == ("__debug__" : Str)) = false := by decide) (hcd : (y == ("__classdict__" : Str)) = false := by decide) (hd : (x == ("__debug__" : Str)) = false := by decide)
 (hs : aj [.Name y py] X.env = [(false, eval (.Name y py) X.env)] := by kernel_rfl) : DE X cls pn (.Call (.Name x p) [.Name y py] [] pos) (V4 j F) :=
 ⟨_, Yl h.has hr hg (jh (JQ j' hvis hyd hcd) Jp hs) hd hs rfl, zgr h.len⟩
end
end M
namespace M
open PySem L2
def JW (z : Str) (y : D) : Option D := (zd3 y).bind fun ys => if (ys.map (·.length)).sum + ys.length * z.length <= 100000 then some (.str (aN z ys)) else none
def zd4 (a : ME) (b : MO) : ME := fun ρ q => a ρ fun x ρ1 => match x with | .str z => b ρ1 fun r ρ2 => r.on ρ2 fun y => yY (fun d => q d ρ2) (JW z y) | _ => False
def jf (a : G D) (b : G Opd) : G D := fun ρ => (a ρ).bind fun x ρ1 => match x with | .str z => (b ρ1).bind fun r ρ2 => yi ((r.get ρ2).bind fun y => JW z y) ρ2 | _ => .no
variable {z : Nat -> Env -> Prop}
instance {a : ME} {b : MO} {ga : G D} {gb : G Opd} [Ag z a ga] [Ag z b gb] : Ag z (zd4 a b) (jf ga gb) := ⟨fun ρ q h => by
 unfold jf at h
 unfold zd4
 exact Ag.step h fun x ρ1 h => by
  cases x with
  | str w => exact Ag.step h fun r ρ2 h => Js (ye (y9 (yB h)) fun _ h => h)
  | _ => exact aa h⟩
section
variable {X : Cx} {cls : Nat -> Option Addr} {pn : List Nat} {a e : Expr} {cpos apos : Pos} {ma : ME} {mb : MO}
theorem Z9 (ha : DE X cls pn a ma) (hb : DO X cls pn e mb) (hbase : cz a "join" X.env (eval a X.env) = eval a X.env := by kernel_rfl) (hfew : ((backTo cpos (aj [e] X.env)).all (fun x => !x.1) && (eN cpos (da [] X.env)).all (fun x => x.1.isSome)
      && decide (([e] : List Expr).length + ([] : List Keyword).length + (if ([] : List Keyword).isEmpty then 0 else 1) < 30)) = true := by kernel_rfl) (hline : (apos.endLine == cpos.line) = true := by kernel_rfl) (hs : aj [e] X.env = [(false, eval e X.env)] := by kernel_rfl) :
    DE X cls pn (.Call (.Attribute a "join" apos) [e] [] cpos) (zd4 ma mb) := by
  obtain ⟨ta, pa, ja⟩ := ha.h
  obtain ⟨tb, pb, jb⟩ := hb.h
  refine ⟨_, zdu ee PySem.F.slot_str_join PySem.F.type_str_join zh8 pa (jh pb Jp hs) hbase hfew hline hs rfl, fun S σ ρ H τ Q q hp R hm hq => ja S σ ρ H τ _ _ hp R hm fun v d H1 ρ1 R1 r1 q1 => ?_⟩
  cases d with
  | str w =>
    cases zcp r1
    refine ⟨rfl, jb S σ ρ1 H1 τ _ _ hp R1 q1 fun v2 r2 H2 ρ2 τ2 R2 o2 q2 => ?_⟩
    obtain ⟨dy, ry, q2⟩ := R2.read o2 q2
    unfold JW at q2
    cases e : zd3 dy with
    | none => rw [e] at q2; exact aa q2
    | some ys =>
      rw [e] at q2
      dsimp only [bv] at q2
      split at q2
      · rename_i hl
        obtain ⟨b, rfl, sq⟩ := ze8 ry e
        exact ⟨w, b, ys, rfl, rfl, sq, aO hl (by decide), hq _ _ H2 ρ2 R2.cut (.str _) q2⟩
      · exact aa q2
  | _ => exact aa q1
end
end M
namespace M
open PySem L2
end M
namespace L2
open PySem PySem.Spec PyProof.Rows
def YD (i j : Int) : Prop := 0 < j /\ j < 18446744073709551616
theorem zgt : yr X (cn .FloorDiv) (rI YD fun i j => .int (i / j)) := opI fun i j _ _ _ _ _ hc q => by
  have h1 : (0 : Int) < j := hc.1
  have h2 : j < 18446744073709551616 := hc.2
  refine floordiv_int (by omega) (by rw [Int.fdiv_eq_ediv_of_nonneg i (by omega)]; exact q) (.inl (PyProof.noPylong_of_log2 ?_))
  have hn : j.natAbs ≠ 0 := by omega
  have hl : j.natAbs < 2 ^ 64 := by have : (2 : Nat) ^ 64 = 18446744073709551616 := by decide
                                    omega
  exact fv ((Nat.log2_lt hn).mpr hl) (by decide)
end L2
namespace M
open PySem L2
def ze9 : F2 := fI YD fun i j => .int (i / j)
instance {i j : Int} : Decidable (YD i j) := inferInstanceAs (Decidable (_ /\ _))
def JX := hI YD fun i j => .int (i / j)
instance : z3 ze9 JX := inferInstanceAs (z3 (fI _ _) (hI _ _))
theorem YE {cls : Nat -> Option Addr} (ha : DO X cls pn a ma) (hb : DO X cls pn b mb) : DE X cls pn (.BinOp a .FloorDiv b pos) (Jq ze9 ma mb) := Ys zgt (zdK (fun _ _ => rfl) fun _ _ => rfl) ha hb
abbrev FI (K : ae) (C : Addr) (m : Str) (f : Addr) : Prop := dm K (.ref C) m = some (some (.ref f))
abbrev FN0 (K : ae) (C : Addr) (m : Str) : Prop := dm K (.ref C) m = some none
abbrev NI (K : ae) (x : Str) (f : Addr) : Prop := cq K ba x = some (some (.ref f))
abbrev NZ (K : ae) (x : Str) : Prop := cq K ba x = some none
abbrev CI (K : ae) (cd : Value) (x : Str) : Prop := dq K cd x = true
abbrev KI (K : ae) (f : Addr) : Prop := cO K (.ref f) = true
abbrev LK (K : ae) (f : Addr) (oc : Value) (od : Option Addr) (x q : Str) (st : Stmt) (kV dc pm : Value) (an : Option Addr) (cd ct : Value) (sl : Array (Option Value)) : Prop := K.lookup f = some ⟨oc, od, .func (cb x q (Q7 st) (JJ st) (zu st) .none kV dc pm an cd ct), sl⟩
end M
namespace PySem
open Sem (wp)
section
variable {prog : Program} {w : World} {A : Around} {E : Value -> Shared -> Prop} {s : Shared}
theorem V5 {Q : Value -> Shared -> Prop} (hit : s.heap.IsTupleIter it l i) (hl : s.heap.IsTuple l items) (hx : items[i]? = some x)
 (hQ : ∀ h', h'.IsTupleIter it l (i + 1) -> fu it s.heap h' -> Q x { s with heap := h' }) : wpAny (model prog w) A (aL (.ref it)) Q E s := by
 have ⟨o, ho, hc, hd⟩ := hit
 have ⟨ol, hol, _, nl, hdl⟩ := hl
 unfold aL
 refine ac (aX (name := av "__next__") hit.typeIs F.slot_tuple_iterator_next (be F.slot_tuple_iterator_next hit.typeIs F.entry_tuple_iterator_next ?_ (F.args_tuple_iterator_next_1 _)))
 show wpAny _ _ (field (.ref it) 0 >>= _) _ _ s; refine ac (aU ho hd (x := .ref l) rfl ?_)
 show wpAny _ _ (if (Value.ref l == Value.none) = true then _ else _) _ _ s; rw [if_neg (show ¬ ((Value.ref l == Value.none) = true) from af)]
 show wpAny _ _ (field (.ref it) 1 >>= _) _ _ s; refine ac (aU ho hd (x := .int i 0) rfl ?_)
 show wpAny _ _ (seqItems? (.ref l) >>= _) _ _ s; refine ac (br hol hdl ?_)
 simp only [dL, hx]; refine ac (wpAny_setField ho hd (by simp) (ao ⟨x, rfl, ao (hQ _ ?_ (eW ..))⟩))
 exact ⟨_, bu _ ho (Obj.isFreed_of_fields (fj hd _)), (Obj.cls_mapFields ..).trans hc, by rw [fj hd]; simp [rawInt]⟩
theorem ze_ {Q : Value -> Shared -> Prop} (hh : A.handled = none) (hit : s.heap.IsTupleIter it l i) (hl : s.heap.IsTuple l items) (hx : items[i]? = none)
 (hE : ∀ h' e, Heap.ExtBut it s.heap h' -> (∃ o, h'.get? e = some o /\ o.cls = .type "StopIteration") -> E (.ref e) { s with heap := h' }) : wpAny (model prog w) A (aL (.ref it)) Q E s := by
 have ⟨o, ho, hc, hd⟩ := hit
 have ⟨ol, hol, _, nl, hdl⟩ := hl
 unfold aL
 refine ac (aX (name := av "__next__") hit.typeIs F.slot_tuple_iterator_next (be F.slot_tuple_iterator_next hit.typeIs F.entry_tuple_iterator_next ?_ (F.args_tuple_iterator_next_1 _)))
 show wpAny _ _ (field (.ref it) 0 >>= _) _ _ s; refine ac (aU ho hd (x := .ref l) rfl ?_)
 show wpAny _ _ (if (Value.ref l == Value.none) = true then _ else _) _ _ s; rw [if_neg (show ¬ ((Value.ref l == Value.none) = true) from af)]
 show wpAny _ _ (field (.ref it) 1 >>= _) _ _ s; refine ac (aU ho hd (x := .int i 0) rfl ?_)
 show wpAny _ _ (seqItems? (.ref l) >>= _) _ _ s; refine ac (br hol hdl ?_)
 simp only [dL, hx]; refine ac (ft (ac (wpAny_setField ho hd (by simp) ?_)))
 show wpAny _ _ (newExc (.type "StopIteration") [] >>= _) _ _ _; refine ac ?_
 simp only [newExc, newTuple]; refine ac (bF ?_ (by size_fits))
 refine ac (m := firstArgMember _ _) (wpAny_of_eq (a := Value.none) (by first | rfl | (simp only [firstArgMember]; rfl)) (bF ?_ (by size_fits)))
 simp only [raiseNew]; refine ac (wpAny_handled ?_)
 first | rw [show A.in1.handled = none from hh] | rw [hh]
 exact ac (ao (wpAny_throw (hE _ _ (((eW ..).extBut.push _).push _) ⟨_, aE _ rfl, rfl⟩)))
theorem zfa {Q : Option Value -> Shared -> Prop} (D : ZipApart z TI TO i1 i2 l1 l2) (hz : IsZip s.heap z TI TO .none) (hI : IsPair s.heap TI (.ref i1) (.ref i2)) (hO : IsPair s.heap TO a b)
 (h1 : s.heap.IsTupleIter i1 l1 k1) (h2 : s.heap.IsTupleIter i2 l2 k2) (hl1 : s.heap.IsTuple l1 xs) (hl2 : s.heap.IsTuple l2 ys) (hx : xs[k1]? = some x) (hy : ys[k2]? = some y)
 (hQ : ∀ h', IsZip h' z TI TO (rawInt s.heap.objs.size) -> IsPair h' TO x y -> h'.IsTupleIter i1 l1 (k1 + 1) -> h'.IsTupleIter i2 l2 (k2 + 1) -> IsPair h' s.heap.objs.size x y ->
  (∀ c o, c ∉ [z, TO, i1, i2] -> s.heap.get? c = some o -> h'.get? c = some o) -> Q (some (.ref s.heap.objs.size)) { s with heap := h' }) : wpAny (model prog w) A (pyNext (.ref z)) Q E s := by
 have hT : s.TypeIs (.ref z) "zip" := ⟨_, hz, rfl⟩
 unfold pyNext
 refine ac (dU (aX (name := av "__next__") hT F.slot_zip_next (be F.slot_zip_next hT F.entry_zip_next ?_ (F.args_zip_next_1 _))))
 show wpAny _ _ (field (.ref z) 2 >>= _) _ _ _; refine ac (aU hz rfl (x := .bool false) rfl ?_)
 show wpAny _ _ (field (.ref z) 3 >>= _) _ _ _; refine ac (aU hz rfl (x := .ref TI) rfl (ac (br hI rfl ?_)))
 show wpAny _ _ (aK (.ref z) >>= _) _ _ _; refine ac ?_
 unfold aK; refine ac (aU hz rfl (x := .none) rfl (ao ?_))
 simp only [if_true]; refine ac (ft (ac (aU hz rfl (x := .ref TO) rfl (ac (bK hz (by simp) fun g1 z1 s1 => ?_)))))
 replace z1 : IsZip g1 z TI TO .ellipsis := z1
 refine ac ?_; simp only [fT, gk, cC, dt]
 refine ac (ac (fe ?_)); show wpAny _ _ (aL (.ref i1) >>= _) _ _ _
 have e1 : ∀ c o, c ≠ z -> s.heap.get? c = some o -> g1.get? c = some o := fun c o n q => s1.extBut _ _ n q
 have tup : ∀ {h h' : Heap} {c : Addr} {vs : Array Value}, h.IsTuple c vs -> (∀ o, h.get? c = some o -> h'.get? c = some o) -> h'.IsTuple c vs := fun ⟨o, q, r⟩ k => ⟨o, k o q, r⟩
 have hl1' : di g1 l1 xs := tup hl1 fun o => e1 _ o D.l1z
 refine ac (V5 (h1.at fun o => e1 _ o D.i1z) hl1' hx fun g2 it1 s2 => ao ?_)
 have e2 : ∀ c o, c ≠ i1 -> g1.get? c = some o -> g2.get? c = some o := fun c o n q => s2.extBut _ _ n q
 have o2 : IsPair g2 TO a b := e2 _ _ D.TOi1 (e1 _ _ D.TOz hO)
 refine ac (br o2 rfl (ac (wpAny_updateSeq_pair o2 fun g3 o3 s3 => ?_)))
 replace o3 : IsPair g3 TO x b := o3
 have e3 : ∀ c o, c ≠ TO -> g2.get? c = some o -> g3.get? c = some o := fun c o n q => s3.extBut _ _ n q
 refine ac (gf (ao ?_))
 refine ac (ac (fe ?_)); show wpAny _ _ (aL (.ref i2) >>= _) _ _ _
 have hl2' : di g3 l2 ys := tup hl2 fun o q => e3 _ o D.l2TO (e2 _ o D.l2i1 (e1 _ o D.l2z q))
 refine ac (V5 (h2.at fun o q => e3 _ o D.TOi2.symm (e2 _ o D.i12.symm (e1 _ o D.i2z q))) hl2' hy fun g4 it2 s4 => ao ?_)
 have e4 : ∀ c o, c ≠ i2 -> g3.get? c = some o -> g4.get? c = some o := fun c o n q => s4.extBut _ _ n q
 have o4 : IsPair g4 TO x b := e4 _ _ D.TOi2 o3
 refine ac (br o4 rfl (ac (wpAny_updateSeq_pair o4 fun g5 o5 s5 => ?_)))
 replace o5 : IsPair g5 TO x y := o5
 have e5 : ∀ c o, c ≠ TO -> g4.get? c = some o -> g5.get? c = some o := fun c o n q => s5.extBut _ _ n q
 refine ac (gf (ao (ao (ac (br o5 rfl (ac (wpAny_newTuple ?_)))))))
 have sz : g5.objs.size = s.heap.objs.size := by rw [s5.1, s4.1, s3.1, s2.1, s1.1]
 have z5 : IsZip g5 z TI TO .ellipsis := e5 _ _ D.TOz.symm (e4 _ _ D.i2z.symm (e3 _ _ D.TOz.symm (e2 _ _ D.i1z.symm z1)))
 have a1 : g5.IsTupleIter i1 l1 (k1 + 1) := it1.at fun o q => e5 _ o D.TOi1.symm (e4 _ o D.i12 (e3 _ o D.TOi1.symm q))
 have a2 : g5.IsTupleIter i2 l2 (k2 + 1) := it2.at fun o q => e5 _ o D.TOi2.symm q
 have zlt : z < g5.objs.size := ai z5
 show wpAny _ _ (cw (.ref z) (.ref g5.objs.size) >>= _) _ _ _; refine ac ?_
 unfold cw
 have z6 : IsZip (g5.push { cls := .type "tuple", data := .seq #[x, y] }) z TI TO .ellipsis := am _ z5
 refine ac (bK z6 (by simp) fun g7 z7 s7 => ?_)
 replace z7 : IsZip g7 z TI TO (rawInt g5.objs.size) := z7
 refine bK z7 (by simp) fun g8 z8 s8 => ?_
 replace z8 : IsZip g8 z TI TO (rawInt g5.objs.size) := z8
 have up : ∀ c o, c ≠ z -> g5.get? c = some o -> g8.get? c = some o := fun c o n q => s8.extBut _ _ n (s7.extBut _ _ n (am _ q))
 have t8 : IsPair g8 g5.objs.size x y := s8.extBut _ _ (cM zlt) (s7.extBut _ _ (cM zlt) (aE _ rfl))
 rw [sz] at z8 t8
 refine ao ⟨_, rfl, ao ?_⟩
 show Q (some (.ref g5.objs.size)) _
 rw [sz]
 refine hQ g8 z8 (up _ _ D.TOz o5) (a1.at fun o q => up _ o D.i1z q) (a2.at fun o q => up _ o D.i2z q) t8 fun c o n q => ?_
 simp only [ak, ax, or_false, not_or] at n
 exact up c o n.1 (e5 c o n.2.1 (e4 c o n.2.2.2 (e3 c o n.2.1 (e2 c o n.2.2.1 (e1 c o n.1 q)))))
theorem zgu {Q : Option Value -> Shared -> Prop} (hh : A.handled = none) (D : ZipApart z TI TO i1 i2 l1 l2) (hz : IsZip s.heap z TI TO .none) (hI : IsPair s.heap TI (.ref i1) (.ref i2)) (hO : IsPair s.heap TO a b)
 (h1 : s.heap.IsTupleIter i1 l1 k1) (hl1 : s.heap.IsTuple l1 xs) (hx : xs[k1]? = none)
 (hQ : ∀ h', (∀ c o, c ∉ [z, TO, i1, i2] -> s.heap.get? c = some o -> h'.get? c = some o) -> Q none { s with heap := h' }) : wpAny (model prog w) A (pyNext (.ref z)) Q E s := by
 have hT : s.TypeIs (.ref z) "zip" := ⟨_, hz, rfl⟩
 unfold pyNext
 refine ac (dU (aX (name := av "__next__") hT F.slot_zip_next (be F.slot_zip_next hT F.entry_zip_next ?_ (F.args_zip_next_1 _))))
 show wpAny _ _ (field (.ref z) 2 >>= _) _ _ _; refine ac (aU hz rfl (x := .bool false) rfl ?_)
 show wpAny _ _ (field (.ref z) 3 >>= _) _ _ _; refine ac (aU hz rfl (x := .ref TI) rfl (ac (br hI rfl ?_)))
 show wpAny _ _ (aK (.ref z) >>= _) _ _ _; refine ac ?_
 unfold aK; refine ac (aU hz rfl (x := .none) rfl (ao ?_))
 simp only [if_true]; refine ac (ft (ac (aU hz rfl (x := .ref TO) rfl (ac (bK hz (by simp) fun g1 z1 s1 => ?_)))))
 replace z1 : IsZip g1 z TI TO .ellipsis := z1
 refine ac ?_; simp only [fT, gk, cC, dt]
 refine ac (ac (fe ?_)); show wpAny _ _ (aL (.ref i1) >>= _) _ _ _
 have e1 : ∀ c o, c ≠ z -> s.heap.get? c = some o -> g1.get? c = some o := fun c o n q => s1.extBut _ _ n q
 have hl1' : di g1 l1 xs := let ⟨o, q, r⟩ := hl1; ⟨o, e1 _ o D.l1z q, r⟩
 refine ac (ze_ hh (h1.at fun o => e1 _ o D.i1z) hl1' hx fun g2 e s2 ⟨oe, q, hc⟩ => ?_)
 have z2 : IsZip g2 z TI TO .ellipsis := s2 _ _ D.i1z.symm z1
 have ne : e ≠ z := fun x => by subst x; rw [z2] at q; cases q; simp at hc
 refine bK z2 (by simp) fun g3 _ s3 => ac (wpAny_isInstance (T := "StopIteration") (b := true) ⟨oe, s3.extBut _ _ ne q, hc⟩ isSubtype_stop (ao (hQ _ fun c o n q => ?_)))
 simp only [ak, ax, or_false, not_or] at n
 exact s3.extBut _ _ n.1 (s2 _ _ n.2.2.1 (e1 _ _ n.1 q))
end
abbrev zd5 (h : Heap) (a : Addr) : Heap := h.push { cls := .type "tuple_iterator", data := .fields #[.ref a, .int 0 0] }
abbrev zd6 (h : Heap) (a b : Addr) : Heap := (zd5 h a).push { cls := .type "tuple_iterator", data := .fields #[.ref b, .int 0 0] }
abbrev zd7 (h : Heap) (a b : Addr) : Heap := (zd6 h a b).push { cls := .type "tuple", data := .seq #[.ref h.objs.size, .ref (zd5 h a).objs.size] }
abbrev zd8 (h : Heap) (a b : Addr) : Heap := (zd7 h a b).push { cls := .type "tuple", data := .seq #[.none, .none] }
abbrev WJ (h : Heap) (a b : Addr) : Heap := (zd8 h a b).push { cls := .type "zip", data := .fields #[.none, .bool false, .bool false, .ref (zd6 h a b).objs.size, .ref (zd7 h a b).objs.size] }
theorem di.push' {h : Heap} (t : h.IsTuple a xs) (o : Obj) : (h.push o).IsTuple a xs := let ⟨u, q, r⟩ := t; ⟨u, am _ q, r⟩
theorem zd9 (a b : Addr) (xs ys : Array Value) :
 Meets (Builtin.«zip.__new__» ⟨[.type "zip", .ref a, .ref b], []⟩) (fun _ R s => s.heap.IsTuple a xs /\ s.heap.IsTuple b ys /\ R (.ok (.ret (.ref (zd8 s.heap a b).objs.size))) { s with heap := WJ s.heap a b }) :=
 .of_wp fun prog w A R s h => by
  obtain ⟨hp, g, d, tk, os⟩ := s
  obtain ⟨h1, h2, h⟩ := h
  have hsub := sub_zip
  have k1 : di (g0 ⟨hp, g, d, tk, os⟩) a xs := h1
  have k2 : di (g0 ⟨hp.push { cls := .type "tuple_iterator", data := .fields #[.ref a, .int 0 0] }, g, d, tk, os⟩) b ys := di.push' h2 _
  wp_walk using dD k1, dD k2
  exact ⟨_, rfl, h⟩
section
variable {prog : Program} {w : World} {A : Around} {E : Value -> Shared -> Prop} {s : Shared}
theorem zfb {Q : Value -> Shared -> Prop} (h1 : s.heap.IsTuple a xs) (h2 : s.heap.IsTuple b ys)
 (h : ∀ h', IsZip h' (s.heap.objs.size + 4) (s.heap.objs.size + 2) (s.heap.objs.size + 3) .none -> IsPair h' (s.heap.objs.size + 2) (.ref s.heap.objs.size) (.ref (s.heap.objs.size + 1)) ->
  IsPair h' (s.heap.objs.size + 3) .none .none -> h'.IsTupleIter s.heap.objs.size a 0 -> h'.IsTupleIter (s.heap.objs.size + 1) b 0 -> (∀ c o, s.heap.get? c = some o -> h'.get? c = some o) -> Q (.ref (s.heap.objs.size + 4)) { s with heap := h' }) :
 wpAny (model prog w) A (call (.type "zip") [.ref a, .ref b]) Q E s := by
 refine callType_new F.called_zip (by decide) (F.typeCall_zip_2 _ _) (F.newCall_zip_2 _ _) (fun obj => F.args_object_init_3 obj _ _) F.entry_zip_new (zd9 a b xs ys) ⟨h1, h2, ?_⟩
 have n1 : (zd5 s.heap a).objs.size = s.heap.objs.size + 1 := cj ..
 have n2 : (zd6 s.heap a b).objs.size = s.heap.objs.size + 2 := by rw [cj, n1]
 have n3 : (zd7 s.heap a b).objs.size = s.heap.objs.size + 3 := by rw [cj, n2]
 have n4 : (zd8 s.heap a b).objs.size = s.heap.objs.size + 4 := by rw [cj, n3]
 have up : ∀ {h : Heap} {o : Obj} {c u}, h.get? c = some u -> (h.push o).get? c = some u := fun q => am _ q
 have g5 : (WJ s.heap a b).get? (zd8 s.heap a b).objs.size = some _ := aE _ rfl
 have g4 : (WJ s.heap a b).get? (zd7 s.heap a b).objs.size = some _ := up (aE _ rfl)
 have g3 : (WJ s.heap a b).get? (zd6 s.heap a b).objs.size = some _ := up (up (aE _ rfl))
 have g2 : (WJ s.heap a b).get? (zd5 s.heap a).objs.size = some _ := up (up (up (aE _ rfl)))
 have g1 : (WJ s.heap a b).get? s.heap.objs.size = some _ := up (up (up (up (aE _ rfl))))
 show _ /\ _
 rw [n2, n3, n4] at g5
 rw [n1, n2] at g3
 rw [n3] at g4
 rw [n1] at g2
 rw [n4]
 exact ⟨⟨_, g5, rfl⟩, h _ g5 g3 g4 ⟨_, g1, rfl, rfl⟩ ⟨_, g2, rfl, rfl⟩ fun c o x => up (up (up (up (up x))))⟩
end
end PySem
namespace L2
open PySem PySem.Spec PyProof.Rows
def Itz (K : ae) (a b : Addr) : It := ⟨fun i H => ∃ xs ys x y, SqT K H a xs /\ SqT K H b ys /\ xs[i]? = some x /\ ys[i]? = some y,
 fun i H v H' => ∃ T x y, v = .ref T /\ H T = none /\ H' = zA H T (.tup [x, y]) /\ (∀ xs, SqT K H a xs -> xs[i]? = some x) /\ ∀ ys, SqT K H b ys -> ys[i]? = some y,
 fun i H => ∃ xs ys, SqT K H a xs /\ SqT K H b ys /\ xs.length <= i⟩
theorem zgv {P : Program} {w : World} {K : ae} {es : List Expr} {kt : Nat} {pt : Pos} (a b z TI TO i1 i2 : Addr) (D : ZipApart z TI TO i1 i2 a b) :
 Y0 P w K (.Tuple es kt pt) (Itz K a b) [z, TO, i1, i2, TI] z (fun i h => (∃ u v, IsZip h z TI TO .none /\ IsPair h TI (.ref i1) (.ref i2) /\ IsPair h TO u v) /\ h.IsTupleIter i1 a i /\ h.IsTupleIter i2 b i) where
 mem := by simp
 obj := fun i h st c hc => by
  obtain ⟨⟨u, v, hz, hI, hO⟩, ⟨o1, e1, c1, d1⟩, ⟨o2, e2, c2, d2⟩⟩ := st
  simp only [ak, ax, or_false] at hc
  rcases hc with rfl | rfl | rfl | rfl | rfl
  · exact ⟨_, hz, fun v z => by cases z⟩
  · exact ⟨_, hO, fun v z => by cases z⟩
  · exact ⟨_, e1, fun v z => by rw [d1] at z; cases z⟩
  · exact ⟨_, e2, fun v z => by rw [d2] at z; cases z⟩
  · exact ⟨_, hI, fun v z => by cases z⟩
 keep := fun i h h' ⟨⟨u, v, hz, hI, hO⟩, h1, h2⟩ k => ⟨⟨u, v, k z (by simp) _ hz, k TI (by simp) _ hI, k TO (by simp) _ hO⟩, h1.at fun o q => k i1 (by simp) o q, h2.at fun o q => k i2 (by simp) o q⟩
 item := by
  intro X hP hw hK hc i pins s σ H E I hf st hg
  subst hP hw hK
  obtain ⟨xs, ys, x, y, ha, hb, hx, hy⟩ := hg
  obtain ⟨is, rv, p, _⟩ := I.tuple ha
  obtain ⟨js, rw', q, _⟩ := I.tuple hb
  obtain ⟨u, hu, ru⟩ := rv.get hx
  obtain ⟨v, hv, rv'⟩ := rw'.get hy
  obtain ⟨⟨o1, o2, hz, hI, hO⟩, h1, h2⟩ := st
  refine zfa D hz hI hO h1 h2 (show s.heap.IsTuple a is.toArray from p) (show s.heap.IsTuple b js.toArray from q) (x := u) (y := v) (by simpa using hu) (by simpa using hv) fun h' z1 t1 k1 k2 T1 up => ?_
  refine ⟨_, rfl, wpAny_letOwnedTupleGo_zip z1 fun h2' z2 s2 => ?_⟩
  have lt : ∀ c ∈ [z, TO, i1, i2, TI], c < s.heap.objs.size := fun c hc => by
   obtain ⟨_, e1, _⟩ := h1
   obtain ⟨_, e2, _⟩ := h2
   simp only [ak, ax, or_false] at hc
   rcases hc with rfl | rfl | rfl | rfl | rfl
   · exact ai hz
   · exact ai hO
   · exact ai e1
   · exact ai e2
   · exact ai hI
  have nz : s.heap.objs.size ≠ z := cM (lt z (by simp))
  have T2 : h2'.get? s.heap.objs.size = some _ := (s2.2 _ nz).trans T1
  have k0 : ∀ c o, c ∉ [z, TO, i1, i2, TI] -> s.heap.get? c = some o -> h2'.get? c = some o := fun c o n e => by
   simp only [ak, ax, or_false, not_or] at n
   exact (s2.2 c n.1).trans (up c o (by simp [n.1, n.2.1, n.2.2.1, n.2.2.2.1]) e)
  have I1 := I.turnLay (t' := s.toks) (T := s.heap.objs.size) (o := .tup [x, y]) k0 hf (aC _) ⟨by show 2 <= az; decide, [u, v], .cons ru (.cons rv' .nil), ⟨_, T2, rfl, _, rfl⟩⟩
  refine ⟨.ref s.heap.objs.size, _, I1, rfl, ⟨_, x, y, rfl, I.hok.fresh (aC _), rfl, fun zs h => by rw [I.tuple_inj h ha]; exact hx, fun zs h => by rw [I.tuple_inj h hb]; exact hy⟩,
   ⟨⟨u, v, z2, (s2.2 _ D.TIz).trans (up TI _ (by simp [D.TIz, D.TITO, D.TIi1, D.TIi2]) hI), (s2.2 _ D.TOz).trans t1⟩, k1.at fun o e => (s2.2 _ D.i1z).trans e, k2.at fun o e => (s2.2 _ D.i2z).trans e⟩, fun c hc => ?_⟩
  rw [zp (aM (lt c hc))]
  exact (hf c hc).1
 done := by
  intro X hP hw hK hc i pins s σ H E I hf st hg
  subst hP hw hK
  obtain ⟨xs, ys, ha, hb, hx⟩ := hg
  obtain ⟨is, rv, p, _⟩ := I.tuple ha
  obtain ⟨⟨o1, o2, hz, hI, hO⟩, h1, h2⟩ := st
  have hl := rv.length
  refine zgu (I.ok.hd hc) D hz hI hO h1 (show s.heap.IsTuple a is.toArray from p) (by simp; omega) fun h' up => ⟨rfl, I.turnedL (t' := s.toks) (fun c o n e => up c o (fun m => n ?_) e) hf⟩
  simp only [ak, ax, or_false] at m ⊢
  rcases m with m | m | m | m <;> simp [m]
 self := fun _ i s Q E st h => let ⟨⟨_, _, hz, _⟩, _⟩ := st; cr hz h
def zkP (K : ae) (ta : TA) : TI := fun σ H R => ta σ H fun vs H1 => ∃ a b, vs = [.ref a, .ref b] /\ (∃ xs ys, SqT K H1 a xs /\ SqT K H1 b ys) /\ R (Itz K a b) H1
theorem Vals.two' (r : Vals [v1, v2] us) : ∃ u1 u2, us = [u1, u2] /\ RelV v1 u1 /\ RelV v2 u2 := by
 cases r with
 | cons h1 r => cases r with
  | cons h2 r => cases r; exact ⟨_, _, rfl, h1, h2⟩
theorem zkQ {X : Cx} {es : List Expr} {kt : Nat} {pt p pos : Pos} {e f : Expr} {ta : TA} (hg : Gl X "zip") (hm : X.mg "zip" = none) (ha : PA X [e, f] ta) (hs : aj [e, f] X.env = (false, eval e X.env) :: aj [f] X.env := by kernel_rfl)
 (hp : (backTo pos (aj [f] X.env)).any (·.1) = false := by kernel_rfl) : PI X (.Tuple es kt pt) (.Call (.Name "zip" p) [e, f] [] pos) (zkP X.K ta) := by
 intro pins s σ H R I h
 refine Call_ (QB I hg hm (by rfl) (bc (zK (ha pos pins s σ H _ I h) fun us s1 ⟨vs, H1, I1, r1, q1⟩ => ?_) hs hp))
 obtain ⟨a, b, rfl, ⟨xs, ys, hx, hy⟩, q⟩ := q1
 obtain ⟨u, u', rfl, ru, ru'⟩ := r1.two'
 cases ru
 cases ru'
 obtain ⟨is, rv, pl, _⟩ := I1.tuple hx
 obtain ⟨js, rw', ql, _⟩ := I1.tuple hy
 refine zfb (show s1.heap.IsTuple a is.toArray from pl) (show s1.heap.IsTuple b js.toArray from ql) fun h' hz hI hO h1 h2 k => ?_
 have I2 : Inv X pins σ H1 { s1 with heap := h' } := I1.kept (t' := s1.toks) k
 refine cr hz ?_
 have la : a < s1.heap.objs.size := let ⟨_, e, _⟩ := pl; ai e
 have lb : b < s1.heap.objs.size := let ⟨_, e, _⟩ := ql; ai e
 refine ⟨s1.heap.objs.size + 4, _, _, _, H1, rfl, I2, zgv a b _ _ _ _ _ (fL la lb), ⟨⟨_, _, hz, hI, hO⟩, h1, h2⟩, fun c hc => ?_, q⟩
 have le : s1.heap.objs.size <= c := by
  simp only [ak, ax, or_false] at hc
  rcases hc with rfl | rfl | rfl | rfl | rfl <;> omega
 exact I1.fpOk le (I1.hok.fresh le)
end L2
namespace PySem.AutoSeq1
open PySem PySem.Spec PyProof.Rows
theorem ext_tup (l : Addr) (items : Array Value) (n : Nat) (b : Addr) (items2 : Array Value) (hs0 : ¬(!items.isEmpty && bz (items.size + items2.size)) = true) (hs1 : items.size <= az) (hs2 : items.size + items2.size <= az + 1) :
 Meets (Builtin.«list.extend» ⟨[.ref l, .ref b], []⟩) (fun _ R s => s.heap.get? l = some { cls := .type "list", dict := none, data := .seq items n, slots := #[] } /\ IsTup s.heap b items2 /\ R (.ok (.ret Value.none)) { s with heap := s.heap.update l (bQ fun x => x ++ items2), toks := s.toks }) :=
 .of_wp fun prog w A R s h => by
  obtain ⟨hp, g, d, tk, os⟩ := s
  obtain ⟨hl, ⟨o, ho, hc, n2, hd⟩, h⟩ := h
  obtain ⟨c, d', dat, sl⟩ := o
  cases hc
  cases hd
  have f1 := idx_int
  have f2 := sub_tuple_tuple
  have f3 := sub_list_list
  have f4 := sub_tuple_list
  have f5 := sub_list_tuple
  have hz' : (items ++ items2).size <= az + 1 := by rw [Array.size_append]; exact hs2
  wp_walk using (cG hl rfl (hz := hs1) (_hz' := hz')), eE hl, eE ho
  exact ⟨_, rfl, h⟩
end PySem.AutoSeq1
namespace PyProof.Rows.KTD
open PySem PySem.Spec PySem.Calls PyProof.V
section
variable {prog : Program} {w : World} {A : Around} {E : Value -> Shared -> Prop} {s : Shared} {δ : Type} {R : δ -> Value -> Prop} {D : List (Str × δ)} {a : Addr} {k : Str} {tk : Tok}
theorem TabOf.ty (T : TabOf R s.heap a D) : s.TypeIs (.ref a) "dict" := let ⟨_, o, _, _, ho, hc, _⟩ := T; ⟨o, ho, hc.1⟩
theorem V6 {Q : Option Value -> Shared -> Prop} {o : Obj} {es : Array DictEntry} (ho : s.heap.get? a = some o) (hd : o.data = .dict es ep) (hr : Rows R es.toList D) (h : Q ((es.toList.find? fun e => e.key.isStr k).map (·.val)) { s with toks := s.toks + 1 }) : wpAny (model prog w) A (gY a (.str k tk)) Q E s := by
 unfold gY; try with_reducible refine bh ?_
 refine ac (wpAny_pyHash_str (ac (kt_dictFind_strs (s := { s with toks := s.toks + 1 }) ho hd (by obtain ⟨l⟩ := es; simpa using hr.exact) ?_)))
 have e : findBy (fun k v => v.isStr k) es k = (es.toList.find? fun e => e.key.isStr k).map (·.val) := by obtain ⟨l⟩ := es; simp [findBy]
 rw [← e, findBy_of_findIdx?] at h
 cases c : es.findIdx? fun e => e.key.isStr k with
 | none => rw [c] at h; exact ao h
 | some i => rw [c] at h; exact ac (wpAny_dictEntries (s := { s with toks := s.toks + 1 }) ho hd (ao h))
theorem getItem_es {Q : Value -> Shared -> Prop} {o : Obj} {es : Array DictEntry} (T : s.TypeIs (.ref a) "dict") (ho : s.heap.get? a = some o) (hd : o.data = .dict es ep) (hr : Rows R es.toList D) (hv : (es.toList.find? fun e => e.key.isStr k).map (·.val) = some v) (h : Q v { s with toks := s.toks + 1 }) : wpAny (model prog w) A (eP (.ref a) (.str k tk)) Q E s := by
 unfold eP; try with_reducible refine bh ?_
 refine ac (wpAny_sequenceKey T (by decide) (ac (aX (name := av "__getitem__") T dO (be dO T entry_dict_getitem ?_ (args_dict_getitem _ _)))))
 show wpAny _ _ (gY a (.str k tk) >>= _) _ _ s
 exact ac (V6 ho hd hr (by rw [hv]; exact ao ⟨v, rfl, ao h⟩))
theorem has_tab {Q : Bool -> Shared -> Prop} (T : TabOf R s.heap a D) (h : Q (datumAt k D).isSome { s with toks := s.toks + 1 }) : wpAny (model prog w) A (contains (.ref a) (.str k tk)) Q E s := by
 unfold contains; try with_reducible refine bh ?_
 refine ac (eF T.ty dE.lookup ?_)
 show wpAny _ _ (if (some (Value.builtin "dict.__contains__") == some Value.none) = true then _ else _) _ E s; rw [if_neg (by rw [beq_builtin_none]; exact af)]
 refine ac (wpAny_callSpecialUnlessNone?_slot (name := av "__contains__") T.ty dE (be dE T.ty entry_dict_contains ?_ (args_dict_contains _ _)))
 show wpAny _ _ (gY a (.str k tk) >>= _) _ _ s
 obtain ⟨h0, o, es, ep, ho, _, hd, hr⟩ := T
 refine ac (V6 ho hd hr ?_)
 cases c : datumAt k D with
 | some d => obtain ⟨v, hv, _⟩ := hr.find_some c; rw [hv]; rw [c] at h; exact ao ⟨_, rfl, aV h⟩
 | none =>
  rw [hr.find_none c]; rw [c] at h
  show wpAny _ _ (Builtin.Dict.pendingKey? a (.str k tk) >>= _) _ _ _; exact ac (wpAny_pendingKey_other h0 (ao ⟨_, rfl, aV h⟩))
end
end PyProof.Rows.KTD
namespace L2
open PySem PySem.Spec PyProof.Rows
variable {X : Cx}
def zhw (K : ae) : V -> List V -> Hp -> VK -> Prop := fun x vs H Q => ∃ l b xs zs, x = .ref l /\ vs = [.ref b] /\ H l = some (.lst xs) /\ SqT K H b zs /\ xs.length + zs.length <= az /\ Q .non (zA H l (.lst (xs ++ zs)))
theorem ziD : MtM X "list.extend" (zhw X.K) := by
 intro pins s σ H x vs v us Q I rx rv h
 obtain ⟨l, b, xs, zs, rfl, rfl, hH, hB, hz, q⟩ := h
 cases rx
 obtain ⟨u, rfl, ru⟩ := rv.one
 cases ru
 obtain ⟨z, its, n, r, hl, e⟩ := I.lstM hH
 obtain ⟨js, r2, e2, _⟩ := I.tuple hB
 have l2 := r2.length
 have hsz : its.toArray.size + js.toArray.size <= az := by rw [ah, ah]; omega
 have hlong : ¬ (!its.toArray.isEmpty && bz (its.toArray.size + js.toArray.size)) = true := by rw [zay hsz, eJ]; exact af
 refine cX F.slot_list_extend ⟨_, e, rfl⟩ F.entry_list_extend (F.args_list_extend_2 _ _) (AutoSeq1.ext_tup l its.toArray n b js.toArray hlong (by rw [ah]; omega) (by omega)) ⟨e, e2, ?_⟩
 refine ⟨.non, _, I.lset (its' := its ++ js) hH e (by simp) (r.append r2) ?_, rfl, q⟩
 rw [aI]; omega
end L2
namespace M
open PySem L2
def RT (K : ae) (ss : List Str) (v : Value) : Prop := ∃ t, v = .ref t /\ W5 K t (ss.map V.str)
theorem KnD.tab {X : Cx} {s : Shared} (I : Inv X pins σ H s) (h : KnD X.K a kvs) : PyProof.Rows.KTD.TabOf (RT X.K) s.heap a kvs :=
 let ⟨h0, o, es, n, ho, hc, hd, hr⟩ := h; ⟨h0, o, es, n, I.kIn a o ho, hc, hd, hr⟩
def zhx (K : ae) (neg : Bool) : R2 := fun x y H Q => ∃ k a kvs, x = .str k /\ y = .ref a /\ KnD K a kvs /\ Q (.bl (if neg then !(bA k kvs).isSome else (bA k kvs).isSome)) H
theorem V7 {X : Cx} : yr X (aT .NotIn) (zhx X.K true) := by
 intro pins s σ H x y v u Q I rx ry h
 obtain ⟨k, a, kvs, rfl, rfl, hd, q⟩ := h
 obtain ⟨t, rfl⟩ := rx
 cases ry
 show wpAny _ _ ((do return .bool (!(← contains (.ref a) (.str k t)))) : Sem Value) _ _ s
 exact ac (PyProof.Rows.KTD.has_tab (hd.tab I) (ao ⟨.bl (!(bA k kvs).isSome), H, I.tok _, rfl, q⟩))
def zhy (K : ae) : R2 := fun x y H Q => ∃ k a kvs ss, x = .ref a /\ y = .str k /\ KnD K a kvs /\ bA k kvs = some ss /\ ∀ t, W5 K t (ss.map V.str) -> Q (.ref t) H
theorem zlO {X : Cx} : IxR X (zhy X.K) := by
 intro value slice pins s σ H x y v u Q I rx ry h hs
 obtain ⟨k, a, kvs, ss, rfl, rfl, hd, hk, q⟩ := h
 cases rx
 obtain ⟨t, rfl⟩ := ry
 obtain ⟨h0, o, es, n, ho, hc, hd', hr⟩ := hd.tab I
 obtain ⟨v, hv, t', rfl, kt⟩ := hr.find_some hk
 exact PyProof.Rows.subscriptTail_builtinR (x := .ref t') ⟨o, ho, hc.1⟩ dO.lookup (PyProof.Rows.KTD.getItem_es ⟨o, ho, hc.1⟩ ho hd' hr hv ⟨rfl, .ref t', H, I.tok _, rfl, q t' kt⟩) hs
section
variable {Γ : Cn} {pn : List Nat} {X : Cx} {cls : Nat -> Option Addr} {a b e : Expr} {pos p apos cpos : Pos} {x : Str} {ma mb : MO} {z : Nat -> Env -> Prop}
theorem zbS : je X (.type "str") (fun xs H Q => (∃ i, xs = [.int i] /\ i.natAbs.log2 < 1920 /\ Q (.str (toString i)) H) \/ ∃ x, xs = [.str x] /\ Q (.str x) H) := by
 intro pins s σ H xs us Q I r h
 rcases h with h | ⟨x, rfl, q⟩
 · exact zap pins s σ H xs us Q I r h
 · obtain ⟨u, rfl, t, rfl⟩ := QX r
   exact PySem.P.str_of_str ⟨.str x, H, I, ⟨_, rfl⟩, q⟩
def zd_ : F1 := fun x q => match x with | .int i => i.natAbs < 10 ^ 30 /\ q (.str (toString i)) | .str y => q (.str y) | _ => False
theorem ziE : Qu Γ (fun x H Q => (∃ i, [x] = [.int i] /\ i.natAbs.log2 < 1920 /\ Q (.str (toString i)) H) \/ ∃ y, [x] = [.str y] /\ Q (.str y) H) zd_ := fun E H x dx Q q _ rx h k => by
 cases dx with
 | int i =>
  refine .inl ⟨i, by rw [yt rx], ?_, k _ _ H (Same.refl H) (.str _) h.2⟩
  by_cases h0 : i.natAbs = 0
  · rw [h0]; decide
  · exact (Nat.log2_lt h0).mpr (aG h.1 (by decide +kernel))
 | str y => exact .inr ⟨y, by rw [y8 rx], k _ _ H (Same.refl H) (.str _) h⟩
 | _ => exact aa h
def jY : D -> Option D | .int i => if i.natAbs < 10 ^ 30 then some (.str (toString i)) else none | .str y => some (.str y) | _ => none
instance : Yu zd_ jY := ⟨fun x q h => by
 cases x with
 | int i =>
  unfold jY at h
  dsimp only at h
  split at h
  · exact ⟨‹_›, h⟩
  · exact aa h
 | str y => exact h
 | _ => exact aa h⟩
theorem jW (hg : Gl X "str") (hm : X.mg "str" = none) (ha : DO X cls pn a ma) (hs : aj [a] X.env = [(false, eval a X.env)] := by kernel_rfl) : DE X cls pn (.Call (.Name "str" p) [a] [] pos) (QL zd_ ma) :=
 RY zbS ziE hg hm (by kernel_rfl) ha hs
def zbh : FL2 := fun x y q => match x, y with | .lst a, .int k => (0 <= k /\ k < 100000 /\ a.length * k.toNat <= 100000) /\ q (au k.toNat a).flatten | _, _ => False
theorem Reps.rep {E : Addr -> Prop} (r : Reps Γ E H xs ds) : ∀ n : Nat, Reps Γ E H (au n xs).flatten (au n ds).flatten
 | 0 => .nil
 | n + 1 => by rw [aZ, aZ, bp, bp]; exact r.append (Reps.rep r n)
theorem zkR : RK Γ zj2 zbh := fun E H x y dx dy Q q rx ry h k => by
 unfold zbh at h
 split at h
 · obtain ⟨a, xs, rfl, ha, ra⟩ := rx
   obtain ⟨⟨h0, h1, h2⟩, h3⟩ := h
   exact ⟨a, _, xs, rfl, yt ry, ha, by omega, by omega, by rw [ra.1]; exact aO h2 (by decide), fun p hp => k p _ _ H (Same.refl H) hp (ra.rep _) h3⟩
 · exact aa h
def Vh (x y : D) : Option (List D) := match x, y with | .lst a, .int k => if 0 <= k /\ k < 100000 /\ a.length * k.toNat <= 100000 then some (au k.toNat a).flatten else none | _, _ => none
instance : zgn zbh Vh := ⟨fun x y q h => by
 unfold Vh at h
 unfold zbh
 split at h
 · split at h
   · exact ⟨‹_›, h⟩
   · exact aa h
 · exact aa h⟩
theorem zkS (ha : DO X cls pn a ma) (hb : DO X cls pn b mb) : DF X cls pn (.BinOp a .Mult b pos) (Wr zbh ma mb) := zhm zj3 zkR ha hb
def zea (a : MO) (l u : VH) : ME := fun ρ q => a ρ fun r ρ1 => l ρ1 fun lo ρ2 => u ρ2 fun hi ρ3 => r.on ρ3 fun x => match x with
 | .tup ds => ¬ (HT.sIx ds.length 0 lo = 0 /\ HT.sIx ds.length ds.length hi = ds.length) /\ q (.tup (jO ds lo hi)) ρ3
 | _ => False
theorem zkT {ta : TE} {tl tu : TO} {a : MO} {l u : VH} (ha : JO Γ pn ta a) (hl : JOI Γ pn tl l) (hu : JOI Γ pn tu u) : JE Γ pn (tSl (zjT Γ.K) ta tl tu) (zea a l u) := fun S σ ρ H τ Q q hp R hm hq =>
 ha S σ ρ H τ _ _ hp R hm fun v r1 H1 ρ1 τ1 R1 o1 q1 => hl S σ ρ1 H1 (τ1 ++ τ) _ _ hp R1 q1 fun lo H2 ρ2 R2 q2 => hu S σ ρ2 H2 (τ1 ++ τ) _ _ hp R2 q2 fun hi H3 ρ3 R3 q3 => by
  obtain ⟨dx, rx, q3⟩ := R3.read o1 q3
  cases dx with
  | tup ds =>
   obtain ⟨b, xs, rfl, hb, rs⟩ := Rep.tuple rx
   refine ⟨b, xs, rfl, SqT.of hb, by rw [rs.1]; exact q3.1, fun p hn => ?_⟩
   have t := zcn R3 (U9 (lo := lo) (hi := hi) rs) hn
   exact hq _ _ _ ρ3 t.1.cut t.2 q3.2
  | _ => exact aa q3
def zbi (x : D) (lo hi : Option Int) : Option D := match x with | .tup ds => if HT.sIx ds.length 0 lo = 0 /\ HT.sIx ds.length ds.length hi = ds.length then none else some (.tup (jO ds lo hi)) | _ => none
def zeb (a : G Opd) (l u : G (Option Int)) : G D := fun ρ => (a ρ).bind fun r ρ1 => (l ρ1).bind fun lo ρ2 => (u ρ2).bind fun hi ρ3 => yi ((r.get ρ3).bind fun x => zbi x lo hi) ρ3
instance {a : MO} {l u : VH} {ga : G Opd} {gl gu : G (Option Int)} [Ag z a ga] [Ag z l gl] [Ag z u gu] : Ag z (zea a l u) (zeb ga gl gu) :=
 ⟨fun ρ q h => by
 unfold zeb at h
 unfold zea
 exact Ag.step h fun _ _ h => Ag.step h fun _ _ h => Ag.step h fun _ _ h => Js (ye (y9 (yB h)) fun x h => by
    cases x with
    | tup w =>
     unfold zbi at h
     dsimp only at h
     split at h
     · exact aa h
     · exact ⟨‹_›, h⟩
    | _ => exact aa h)⟩
theorem zkU (ha : DO X cls pn a ma) (hl : DP X cls pn lo l) (hu : DP X cls pn hi u) : DE X cls pn (.Subscript a (.Slice lo hi none p2) pos) (zea ma l u) :=
 let ⟨_, a, b⟩ := ha.h; let ⟨_, c, d⟩ := hl.h; let ⟨_, e, f⟩ := hu.h; ⟨_, zat zjU a c e, zkT b d f⟩
def zec : List D -> D -> (D -> List D -> Prop) -> Prop := fun ds d q => match d with | .tup es => ds.length + es.length <= 100000 /\ q .non (ds ++ es) | _ => False
theorem ziF {i : Nat} {ta : TE} {a : ME} (ha : JE Γ pn ta a) : JE Γ pn (tBM Γ.K "list" (zhw Γ.K) (J5 i) (Jx ta ZG)) (Uz zec i a) :=
 zcs ha fun E H p xs ds y d Q q hx rs ry hm k => by
  cases d with
  | tup es =>
   obtain ⟨b, zs, rfl, hb, rz⟩ := ry.tuple
   exact ⟨p, b, xs, zs, rfl, rfl, hx, SqT.of hb, by rw [rs.1, rz.1]; exact aO hm.1 (by decide), k _ _ _ _ .non (rs.append rz) hm.2⟩
  | _ => exact aa hm
def V8 (ds : List D) (d : D) : Option (D × List D) := match d with | .tup es => if ds.length + es.length <= 100000 then some (.non, ds ++ es) else none | _ => none
instance : AgM zec V8 := ⟨fun ds d q h => by
 cases d with
 | tup es =>
  unfold V8 at h
  dsimp only at h
  split at h
  · exact ⟨‹_›, h⟩
  · exact aa h
 | _ => exact aa h⟩
theorem ziG (i : Nat) (ha : DE X cls pn e m) (i' : X.N[i]? = some x := by kernel_rfl) (hv : Zx X.env.scope x := by first | exact Or.inl rfl | exact Or.inr (Or.inl rfl) | exact Or.inr (Or.inr rfl)) (hd : (x == ("__debug__" : Str)) = false := by decide) (hcd : (x == ("__classdict__" : Str)) = false := by decide)
 (hbase : cz (.Name x p) "extend" X.env (eval (.Name x p) X.env) = eval (.Name x p) X.env := by kernel_rfl) (hfew : ((backTo cpos (aj [e] X.env)).all (fun x => !x.1) && (eN cpos (da [] X.env)).all (fun x => x.1.isSome)
  && decide (([e] : List Expr).length + ([] : List Keyword).length + (if ([] : List Keyword).isEmpty then 0 else 1) < 30)) = true := by kernel_rfl) (hline : (apos.endLine == cpos.line) = true := by kernel_rfl) (hs : aj [e] X.env = [(false, eval e X.env)] := by kernel_rfl) :
 DE X cls pn (.Call (.Attribute (.Name x p) "extend" apos) [e] [] cpos) (Uz zec i m) := zcy PySem.F.slot_list_extend PySem.F.type_list_extend ziD i' (fun _ => ziF) ha hv hd hcd hbase hfew hline hs
theorem zkV (h : ∀ E H, Rep Γ E H v d) : JE Γ pn (tC v) (mC d) := fun S σ ρ H τ Q q _ R hm hq => hq v d H ρ R (h _ _) hm
theorem zlP {ss : List Str} (hg : Gl X x) (hm : X.mg x = some (.ref T)) (hk : W5 X.K T (ss.map V.str)) (hd : (x == ("__debug__" : Str)) = false := by decide) : DE X cls pn (.Name x pos) (mC (.kt ss)) :=
 ⟨_, Wm hg hm (v := .ref T) rfl hd, zkV fun _ _ => .kt hk⟩
theorem zlQ (hg : Gl X x) (hm : X.mg x = some (.ref T)) (hk : KnD X.K T kvs) (hd : (x == ("__debug__" : Str)) = false := by decide) : DE X cls pn (.Name x pos) (mC (.kd kvs)) :=
 ⟨_, Wm hg hm (v := .ref T) rfl hd, zkV fun _ _ => .kd hk⟩
theorem zfc {ss : List Str} (hg : Gl X x) (hm : ∃ T, X.mg x = some (.ref T) /\ W5 X.K T (ss.map V.str)) (hd : (x == ("__debug__" : Str)) = false := by decide) : DE X cls pn (.Name x pos) (mC (.kt ss)) := let ⟨_, a, b⟩ := hm; zlP hg a b hd
theorem V9 (hg : Gl X x) (hm : ∃ T, X.mg x = some (.ref T) /\ KnD X.K T kvs) (hd : (x == ("__debug__" : Str)) = false := by decide) : DE X cls pn (.Name x pos) (mC (.kd kvs)) := let ⟨_, a, b⟩ := hm; zlQ hg a b hd
def jZ (k : Str) (kvs : List (Str × List Str)) : Option (List Str) := bA k kvs
def YF (neg : Bool) (x y : D) : Option D := match x, y with | .str k, .kd kvs => some (.bl (if neg then !(jZ k kvs).isSome else (jZ k kvs).isSome)) | _, _ => none
def zed (neg : Bool) : F2 := fun x y q => yY q (YF neg x y)
instance {neg : Bool} : z3 (zed neg) (YF neg) := ⟨fun _ _ _ h => h⟩
theorem zcZ : yj Γ (zhx Γ.K neg) (zed neg) := fun E H x y dx dy Q q _ rx ry h k => by
 unfold zed YF at h
 split at h
 · obtain ⟨a, rfl, hd⟩ := Rep.table ry
   exact ⟨_, a, _, y8 rx, rfl, hd, k _ _ H (Same.refl H) (.bl _) h⟩
 · exact aa h
def YG (x y : D) : Option D := match x, y with | .kd kvs, .str k => (jZ k kvs).map D.kt | _, _ => none
def R8 : F2 := fun x y q => yY q (YG x y)
instance : z3 R8 YG := ⟨fun _ _ _ h => h⟩
theorem ziH : yj Γ (zhy Γ.K) R8 := fun E H x y dx dy Q q _ rx ry h k => by
 unfold R8 YG at h
 split at h
 · rename_i kvs w
   obtain ⟨a, rfl, hd⟩ := Rep.table rx
   cases c : jZ w kvs with
   | none => rw [c] at h; exact aa h
   | some ss => rw [c] at h; exact ⟨w, a, kvs, ss, rfl, y8 ry, hd, c, fun t kt => k _ _ H (Same.refl H) (.kt kt) h⟩
 · exact aa h
theorem zc0 (ha : DO X cls pn a ma) (hb : DO X cls pn b mb) (hs : Us b) : DE X cls pn (.Subscript a b pos) (Jq R8 ma mb) := zlL zlO ziH ha hb hs
def WK (K : ae) (ss : List Str) (v : Value) : Bool := match v with
 | .ref t => (match K.lookup t with
  | some o => o.cls == .type "tuple" && (match o.data with | .seq its _ => decide (its.size <= 1000) && bt its.toList ss | _ => false)
  | none => false)
 | _ => false
theorem vals_strs : ∀ {vs : List Value} {ss : List Str}, bt vs ss = true -> Vals (ss.map V.str) vs
 | [], [], _ => .nil
 | [], _ :: _, h => by simp [bt] at h
 | _ :: _, [], h => by simp [bt] at h
 | v :: vs, s :: ss, h => by
  unfold bt at h
  cases v with
  | str y t =>
   simp only [aD] at h
   have e : y = s := by simpa using h.1
   exact .cons ⟨t, by rw [e]⟩ (vals_strs h.2)
  | _ => simp at h
theorem zc1 (h : WK K ss v = true) : RT K ss v := by
 unfold WK at h
 split at h
 · rename_i t
   split at h
   · rename_i o ho
     rw [aD] at h
     obtain ⟨h1, h2⟩ := h
     split at h2
     · rename_i its n hd
       rw [aD] at h2
       exact ⟨t, rfl, o, its, n, ho, by simpa using h1, hd, aO (by simpa using h2.1) (by decide), vals_strs h2.2⟩
     · cases h2
   · cases h
 · cases h
theorem zlR {ss : List Str} (h : WK K ss (.ref T) = true) : W5 K T (ss.map V.str) := by
 obtain ⟨t, e, r⟩ := zc1 h
 cases e; exact r
theorem zlS {K : ae} (h : cx (WK K) (fun a => K.lookup a) T kvs = true) : KnD K T kvs := by
 simp only [cx, aD] at h
 obtain ⟨h0, h⟩ := h
 split at h
 · rename_i o ho
   simp only [aD] at h
   obtain ⟨⟨⟨e1, e2⟩, e3⟩, e4⟩ := h
   split at e4
   · rename_i es ep hd
     exact ⟨by simpa using h0, o, es, ep, ho, ⟨beq_iff_eq.mp e1, by simpa using e2, by simpa using e3⟩, hd, PyProof.Rows.KTD.rows_of_look (fun _ _ => zc1) e4⟩
   · cases e4
 · cases h
def itT : D -> Option (List D) | .tup ds => some ds | _ => none
def Q1 (g : G D) : G (List D) := fun ρ => (g ρ).bind fun d ρ' => yi (itT d) ρ'
instance {m : ME} {g : G D} [Ag z m g] : Ag z (RO m) (Q1 g) := ⟨fun ρ q h => by
 unfold Q1 at h
 unfold RO
 exact Ag.step h fun d _ h => by cases d <;> first | exact h | exact aa h⟩
theorem zkW (h : JE Γ pn t m) : JI Γ pn (zfM Γ.K t) (RO m) := fun S σ ρ H τ Z q hp R hm hz =>
 h S σ ρ H τ _ _ hp R hm fun v d H1 ρ1 R1 r1 q1 => by
  cases d with
  | tup ds =>
   obtain ⟨a, xs, rfl, hs, rs⟩ := r1.tuple
   refine ⟨a, rfl, ⟨xs, SqT.of hs⟩, hz _ ds H1 ρ1 [(.ref a, .tup ds)] (R1.push r1) ?_ q1⟩
   intro E H i hE hx
   have r' : Rep Γ E H (.ref a) (.tup ds) := hx (.ref a, .tup ds) (by simp)
   obtain ⟨a', xs', e, hs', rs'⟩ := r'.tuple
   cases e
   refine ⟨fun hi => ?_, fun hi => ⟨xs', SqT.of hs', by rw [rs'.1]; omega⟩⟩
   have hi' : i < xs'.length := by rw [rs'.1]; exact hi
   refine ⟨⟨xs', xs'[i], SqT.of hs', ab hi'⟩, fun x H' y => ?_⟩
   obtain ⟨e, y⟩ := y
   subst e
   exact ⟨Same.refl _, ds[i], ab hi, rs'.2 i x _ (y xs' (SqT.of hs')) (ab hi)⟩
  | _ => exact aa q1
theorem zbj (h : DE X cls pn iter m) : DI X cls pn tg iter (RO m) := let ⟨_, a, b⟩ := h.h; ⟨_, zew a, zkW b⟩
def YH (ss : List Str) (ds : List D) : List D := (ss.zip ds).map fun x => .tup [.str x.1, x.2]
def itZ : List D -> Option (List D) | [.kt ss, .tup ds] => if ss.length = ds.length then some (YH ss ds) else none | _ => none
def R9 (m : MA) : MI := fun ρ q => m ρ fun ds ρ' => yY (fun l => q l ρ') (itZ ds)
def zaa (g : G (List D)) : G (List D) := fun ρ => (g ρ).bind fun ds ρ' => yi (itZ ds) ρ'
instance {m : MA} {g : G (List D)} [Ag z m g] : Ag z (R9 m) (zaa g) := ⟨fun ρ q h => by
 unfold zaa at h
 unfold R9
 exact Ag.step h fun ds _ h => yB h⟩
theorem zkX (h : JA Γ pn t m) : JI Γ pn (zkP Γ.K t) (R9 m) := fun S σ ρ H τ Z q hp R hm hz =>
 h S σ ρ H τ _ _ hp R hm fun vs ds H1 ρ1 R1 r1 q1 => by
  unfold itZ at q1
  split at q1
  · rename_i ss ds
    split at q1
    · rename_i hl
      match vs, r1 with
      | [], r1 => have h := r1.1; simp at h
      | [_], r1 => have h := r1.1; simp at h
      | _ :: _ :: _ :: _, r1 => have h := r1.1; simp at h
      | [v, u], r1 =>
       have r0 := r1.head
       have rt := r1.tail.head
       obtain ⟨a, rfl, ha⟩ := Rep.kept r0
       obtain ⟨b, ys, rfl, hb, rs⟩ := rt.tuple
       refine ⟨a, b, rfl, ⟨_, _, ha, SqT.of hb⟩, hz _ (YH ss ds) H1 ρ1 [(.ref b, .tup ds), (.ref a, .kt ss)] ((R1.push r0).push rt) ?_ q1⟩
       intro E H i hE hx
       have e1 : Rep Γ E H (.ref a) (.kt ss) := hx (.ref a, .kt ss) (by simp)
       have e2 : Rep Γ E H (.ref b) (.tup ds) := hx (.ref b, .tup ds) (by simp)
       obtain ⟨a', q, ha'⟩ := Rep.kept e1
       cases q
       obtain ⟨b', zs, q, hb', rs'⟩ := e2.tuple
       cases q
       have ln : (YH ss ds).length = ds.length := by unfold YH; rw [aA, cD, hl, gS]
       rw [ln]
       refine ⟨fun hi => ?_, fun hi => ⟨_, zs, ha', SqT.of hb', by rw [aA, hl]; omega⟩⟩
       have hi1 : i < ss.length := by omega
       have hi2 : i < zs.length := by rw [rs'.1]; exact hi
       have g1 : (ss.map V.str)[i]? = some (V.str ss[i]) := by rw [ar, ab hi1]; rfl
       refine ⟨⟨_, zs, _, zs[i], ha', SqT.of hb', g1, ab hi2⟩, fun x H' y => ?_⟩
       obtain ⟨T, u, w, rfl, hT, rfl, y1, y2⟩ := y
       have u1 := (y1 _ ha').symm.trans g1
       cases u1
       have g := Yn hT (.tup [V.str ss[i], w])
       refine ⟨g, .tup [.str ss[i], ds[i]], ?_, ?_⟩
       · unfold YH
         rw [ar, (bN (z := (ss[i], ds[i]))).mpr ⟨ab hi1, ab hi⟩]; rfl
       have rv : Rep Γ E (zA H T (.tup [V.str ss[i], w])) w ds[i] := (rs'.2 i w _ (y2 zs (SqT.of hb')) (ab hi)).up (fun _ _ z => z) fun b o _ q => g b o q
       have rr : Reps Γ E (zA H T (.tup [V.str ss[i], w])) [V.str ss[i], w] [.str ss[i], ds[i]] := .cons (.str _) (.cons rv .nil)
       exact .tup (fun z => hE T z hT) zU rr.1 rr.2
    · exact aa q1
  · exact aa q1
theorem zkY (hg : Gl X "zip") (hm : X.mg "zip" = none) (h : DA X cls pn [a, b] m) (hs : aj [a, b] X.env = (false, eval a X.env) :: aj [b] X.env := by kernel_rfl)
 (hp : (backTo pos (aj [b] X.env)).any (·.1) = false := by kernel_rfl) : DI X cls pn (.Tuple tes kt tp) (.Call (.Name "zip" p) [a, b] [] pos) (R9 m) :=
 let ⟨_, c, d⟩ := h.h; ⟨_, zkQ hg hm c hs hp, zkX d⟩
end
end M
namespace L2
open PySem PySem.Spec PyProof.Rows
open PySem.Builtin PySem.Builtin.Str
theorem zgw {prog : Program} {w : World} {A : Around} {E : Value -> Shared -> Prop} {s : Shared} {x y : PySem.Str} {t u : Tok} {Q : Value -> Shared -> Prop} (hy : (y.length == 0) = false) (hsz : x.length <= az)
 (hsz2 : (partsBetween x (occurrences x y 0 x.length (x.length + 1)) y.length).length <= az)
 (hq : ∀ l tk, l.map (·.1) = cp x y -> Q (.ref s.heap.objs.size) { s with toks := tk, heap := s.heap.push { cls := .type "list", data := .seq (gM l).toArray } }) :
 wpAny (model prog w) A (call (.builtin "str.split") [.str x t, .str y u]) Q E s := by
 cases h1 : (decide (x.length < y.length) || decide (strKind x < strKind y))
 · cases hf : (occurrences x y 0 x.length (x.length + 1)).isEmpty
   · refine cX F.slot_str_split (eh _ _ _) F.entry_str_split (F.args_str_split_2 _ _) (meets_str_split_sep x y t u h1 hy hf hsz hsz2) ?_
     show wants Q E _ { s with toks := _, heap := s.heap.push { cls := .type "list", data := .seq (strsFrom s.toks (partsBetween x (occurrences x y 0 x.length (x.length + 1)) y.length)).toArray } }
     rw [strsFrom_eq]
     exact hq (numbered s.toks _) _ ((numbered_texts _ _).trans ((if_neg (ne_true_of_eq_false h1)).trans (if_neg (ne_true_of_eq_false hf))).symm)
   · exact cX F.slot_str_split (eh _ _ _) F.entry_str_split (F.args_str_split_2 _ _) (meets_str_split_not_found x y t u h1 hy hf)
      (hq [(x, t)] s.toks ((if_neg (ne_true_of_eq_false h1)).trans (if_pos hf)).symm)
 · exact cX F.slot_str_split (eh _ _ _) F.entry_str_split (F.args_str_split_2 _ _) (meets_str_split_cannot_occur x y t u h1)
    (hq [(x, t)] s.toks (if_pos h1).symm)
def zkZ : V -> List V -> Hp -> VK -> Prop := fun x vs H Q => ∃ a z, x = .str a /\ vs = [.str z] /\ z.length = 1 /\ a.length <= 100000 /\ ∀ l, H l = none -> Q (.ref l) (zA H l (.lst ((cp a z).map V.str)))
theorem Wa : ∀ (l : List (PySem.Str × Tok)), Vals ((l.map (·.1)).map V.str) (gM l)
 | [] => .nil
 | p :: r => .cons ⟨p.2, rfl⟩ (Wa r)
theorem zgx {X : Cx} : MtR X "str.split" zkZ := by
 intro pins s σ H x vs v us Q I rx rv h
 obtain ⟨a, z, rfl, rfl, hz, ha, q⟩ := h
 obtain ⟨t, rfl⟩ := rx
 obtain ⟨u, rfl, t2, rfl⟩ := QX rv
 have hs := eO
 have hn : (partsBetween a (occurrences a z 0 a.length (a.length + 1)) z.length).length <= az := by
  rw [dG]
  have := StrLaws.occ_length_le a z 0 a.length (a.length + 1)
  omega
 refine zgw (by rw [hz]; rfl) (by omega) hn fun l tk e => ?_
 have hl : ((cp a z).map V.str).length <= az := by
  rw [aA]
  unfold cp
  split
  · simp only [aB, bO]; omega
  · split
    · simp only [aB, bO]; omega
    · exact hn
 refine ⟨.ref s.heap.objs.size, _, I.laid (fun b o h => am _ h) (aC _) (show ObjOk X.prog X.w _ _ _ (.lst ((cp a z).map V.str)) from ⟨hl, gM l, 0, ?_, aE _ rfl⟩), rfl, q _ (I.hok.fresh (aC _))⟩
 rw [← e]; exact Wa l
theorem zfe {X : Cx} : je X (.type "int") (fun xs H Q => ∃ x i, xs = [.str x] /\ x.length <= 640 /\ intText? x = some i /\ Q (.int i) H) := by
 intro pins s σ H xs us Q I r h
 obtain ⟨x, i, rfl, hl, hi, q⟩ := h
 obtain ⟨u, rfl, t, rfl⟩ := QX r
 exact PySem.W.KIN.call_text hi hl ⟨.int i, H, I.tok _, ⟨_, rfl⟩, q⟩
end L2
namespace M
open PySem L2
section
variable {Γ : Cn} {pn : List Nat} {X : Cx} {cls : Nat -> Option Addr} {a b e : Expr} {pos p apos cpos p3 : Pos} {x : Str} {ma mb : MO} {z : Nat -> Env -> Prop}
def j9 (z : Str) (x : D) : Option (List D) := match x with | .str a => if z.length = 1 /\ a.length <= 100000 then some ((cp a z).map D.str) else none | _ => none
def zbk (z : Str) : FL1 := fun x q => yY q (j9 z x)
instance {y : Str} : zgm (zbk y) (j9 y) := ⟨fun _ _ h => h⟩
theorem zbl {y : String} {c3 : Nat} (ha : DO X cls pn a ma) (hbase : cz a "split" X.env (eval a X.env) = eval a X.env := by kernel_rfl) (hfew : ((backTo cpos (aj [.Constant (.str y) c3 p3] X.env)).all (fun x => !x.1) && (eN cpos (da [] X.env)).all (fun x => x.1.isSome)
      && decide (([.Constant (.str y) c3 p3] : List Expr).length + ([] : List Keyword).length + (if ([] : List Keyword).isEmpty then 0 else 1) < 30)) = true := by kernel_rfl) (hline : (apos.endLine == cpos.line) = true := by kernel_rfl) (hs : aj [.Constant (.str y) c3 p3] X.env = [(false, eval (.Constant (.str y) c3 p3) X.env)] := by kernel_rfl) :
    DF X cls pn (.Call (.Attribute a "split" apos) [.Constant (.str y) c3 p3] [] cpos) (Uv (zbk y) ma) := by
  obtain ⟨ta, pa, ja⟩ := ha.h
  refine ⟨_, zdu ee PySem.F.slot_str_split PySem.F.type_str_split zgx pa (jh zak Jp hs) hbase hfew hline hs rfl, fun S σ ρ H τ Q q hp R hm hq => ja S σ ρ H τ _ _ hp R hm fun v r1 H1 ρ1 τ1 R1 o1 q1 => ?_⟩
  obtain ⟨dx, rx, q1⟩ := R1.read o1 q1
  cases dx with
  | str w =>
    cases y8 rx
    unfold zbk j9 at q1
    dsimp only at q1
    split at q1
    · rename_i c
      refine ⟨rfl, w, y, rfl, rfl, c.1, c.2, fun l hl => ?_⟩
      obtain ⟨a1, b1, c1, d1⟩ := jK R1 (ze6 (cp w y)) hl
      exact hq l _ _ ρ1 a1.cut b1 c1 d1 q1
    · exact aa q1
  | _ => exact aa q1
def UK : D -> Option D | .str x => if x.length <= 640 then (intText? x).map D.int else none | _ => none
def zab : F1 := fun x q => yY q (UK x)
instance : Yu zab UK := ⟨fun _ _ h => h⟩
theorem ziI : Qu Γ (fun x H Q => ∃ y i, [x] = [.str y] /\ y.length <= 640 /\ intText? y = some i /\ Q (.int i) H) zab := fun E H x dx Q q _ rx h k => by
 cases dx with
 | str w =>
  cases y8 rx
  unfold zab UK at h
  dsimp only at h
  split at h
  · rename_i c
    cases e : intText? w with
    | none => rw [e] at h; exact aa h
    | some i => rw [e] at h; exact ⟨w, i, rfl, c, e, k _ _ H (Same.refl H) (.int i) h⟩
  · exact aa h
 | _ => exact aa h
theorem ziJ (hg : Gl X "int") (hm : X.mg "int" = none) (ha : DO X cls pn a ma) (hs : aj [a] X.env = [(false, eval a X.env)] := by kernel_rfl) : DE X cls pn (.Call (.Name "int" p) [a] [] pos) (QL zab ma) :=
 RY zfe ziI hg hm (by kernel_rfl) ha hs
end
section
variable {Γ : Cn} {pn : List Nat} {X : Cx} {cls : Nat -> Option Addr} {a b c e : Expr} {pos p apos cpos p3 : Pos} {x : Str} {ma mb : MO} {z : Nat -> Env -> Prop} {fr : Bool}
def zmE : Slot -> Slot | .own o => .val o | s => s
def frz (ρ : Env) : Env := ρ.map zmE
def zgy (m : ME) : ME := fun ρ q => m (frz ρ) fun d _ => jM d = true /\ q d ρ
theorem zbm {ρ : Env} (i : Nat) : ¬ yd (frz ρ) i := fun ⟨o, h⟩ => by
 unfold frz at h
 rw [ar] at h
 cases e : ρ[i]? with
 | none => rw [e] at h; cases h
 | some s => rw [e] at h; cases s <;> cases h
theorem zk0 {t : TE} {m : ME} (h : JE Γ pn t m) : JE Γ pn t (zgy m) := fun S σ ρ H τ Q q hp R hm hq => by
 have he : ∀ b, zr ⟨S.C, H, fun _ => none⟩ σ (frz ρ) b -> S.C b := fun b h => h.elim id fun ⟨i, hi, _⟩ => absurd hi (zbm i)
 have R0 : Rel Γ ⟨S.C, H, fun _ => none⟩ H σ (frz ρ) [] := {
  len := by unfold frz; rw [aA]; exact R.len
  val := fun i d h => by
   unfold frz at h
   rw [ar] at h
   cases e : ρ[i]? with
   | none => rw [e] at h; cases h
   | some s =>
    rw [e] at h
    cases s with
    | no => cases h
    | val d' =>
     cases h
     obtain ⟨v, e1, r⟩ := R.val i d e
     exact ⟨v, e1, r.up (fun b _ z => .inl (he b z)) fun _ _ _ z => z⟩
    | own o =>
     cases h
     obtain ⟨x, e1, ow, nC, _⟩ := R.own i d e
     exact ⟨_, e1, (ow.up (fun _ z => z) (fun b _ z => .inl (he b z)) fun _ _ _ z => z).rep fun z => nC (he x z)⟩
  own := fun i o h => absurd ⟨o, h⟩ (zbm i)
  pin := fun i p h => by cases h
  inj := fun i j p hi => absurd hi (zbm i)
  dom := R.dom
  fr := fun b o h _ => h
  tmp := fun x h => nomatch h }
 refine h _ σ (frz ρ) H [] Q _ (fun _ _ => rfl) R0 hm fun v d H' ρ' R' r' q' => ?_
 rw [r'.flat q'.1]
 exact hq _ d H' ρ (R.grow fun b o h => R'.fr b o h fun i => by simp) (Zg q'.1) q'.2
theorem zk1 {m : ME} (h : DE X cls pn e m) : DE X cls pn e (zgy m) := let ⟨_, a, b⟩ := h.h; ⟨_, a, zk0 b⟩
def zbn (g : G D) : G D := fun ρ => match g (frz ρ) with | .ok d _ => if jM d = true then .ok d ρ else .no | _ => .no
instance {m : ME} {g : G D} [i : Ag z m g] : Ag z (zgy m) (zbn g) := ⟨fun ρ q h => by
 unfold zbn at h
 refine i.h (frz ρ) _ ?_
 cases e : g (frz ρ) with
 | no => rw [e] at h; exact aa h
 | ex k ρ' => rw [e] at h; exact aa h
 | ok d ρ' =>
  rw [e] at h
  dsimp only at h
  split at h
  · exact ⟨‹_›, h⟩
  · exact aa h⟩
def Ya (i : Nat) : MS := fun N ρ => match ρ[i]? with | some (.own o) => N.rt o (ρ.set i .no) | _ => False
theorem zff {i : Nat} (hi : i ∉ pn) : JS Γ pn true (zdj (J5 i)) (Ya i) := fun S σ ρ H τ D N hp R hm hn hr hb hc => by
 unfold Ya at hm
 cases e : ρ[i]? with
 | none => rw [e] at hm; exact aa hm
 | some s =>
  rw [e] at hm
  cases s with
  | no => exact aa hm
  | val d => exact aa hm
  | own o =>
   have hpi := hp i hi
   obtain ⟨x, e1, ow, nC, hx⟩ := R.own i o e
   have hx0 : S.H0 x = none := by
    rcases hx with z | z
    · rw [hpi] at z; cases z
    · exact z.2
   have own_ne : ∀ j, yd (ρ.set i .no) j -> j ≠ i /\ yd ρ j := fun j ⟨o, ho⟩ => by
    by_cases e : i = j
    · subst e; cases getElem?_set_here ho
    · rw [getElem?_set_ne e] at ho; exact ⟨aS e, o, ho⟩
   have he : ∀ b, H b ≠ none -> zr (S.add x) (σ.set i none) (ρ.set i .no) b -> zr S σ ρ b := fun b _ h => by
    rcases h with (h | h) | ⟨j, hj, e⟩
    · exact .inl h
    · subst h; exact .inr ⟨i, ⟨o, ‹_›⟩, e1⟩
    · obtain ⟨ne, oj⟩ := own_ne j hj
      rw [getElem?_set_ne (aS ne)] at e
      exact .inr ⟨j, oj, e⟩
   have keep : ∀ b o, ¬ zr S σ ρ b -> H b = some o -> H b = some o := fun _ _ _ q => q
   have R2 : Rel Γ (S.add x) H (σ.set i none) (ρ.set i .no) τ := {
    len := by simp [R.len]
    val := fun j e hj => by
     by_cases eq : i = j
     · subst eq; cases getElem?_set_here hj
     · rw [getElem?_set_ne eq] at hj
       obtain ⟨w, e1, r⟩ := R.val j e hj
       exact ⟨w, by rw [getElem?_set_ne eq]; exact e1, r.up he keep⟩
    own := fun j o' hj => by
     obtain ⟨ne, oj⟩ := own_ne j ⟨o', hj⟩
     rw [getElem?_set_ne (aS ne)] at hj
     obtain ⟨p, e2, r, nC', q⟩ := R.own j o' hj
     refine ⟨p, by rw [getElem?_set_ne (aS ne)]; exact e2, r.up (fun _ z => z) he fun _ _ _ z => z, ?_, q⟩
     rintro (z | z)
     · exact nC' z
     · subst z; exact ne (R.inj j i p oj ⟨o, e⟩ e2 e1)
    pin := fun j p hj => by
     have ne : i ≠ j := fun z => by
      have hj : S.pin j = some p := hj
      rw [← z, hpi] at hj; cases hj
     obtain ⟨e, o, q⟩ := R.pin j p hj
     exact ⟨by rw [getElem?_set_ne ne]; exact e, o, by rw [getElem?_set_ne ne]; exact q⟩
    inj := fun j l p hj hl e1 e2 => by
     obtain ⟨n1, o1⟩ := own_ne j hj
     obtain ⟨n2, o2⟩ := own_ne l hl
     rw [getElem?_set_ne (aS n1)] at e1
     rw [getElem?_set_ne (aS n2)] at e2
     exact R.inj j l p o1 o2 e1 e2
    dom := fun a h => h.elim (R.dom a) fun z => by subst z; exact ow.ne0
    fr := fun b o h hb => R.fr b o h hb
    tmp := fun y hy => (R.tmp y hy).up he keep }
   refine ⟨_, e1, hr _ o (σ.set i none) H (ρ.set i .no) ⟨x, rfl, R2, ow.up (fun _ z => z) he fun _ _ _ z => z, hx0, ?_⟩ hm⟩
   rintro (z | ⟨j, hj, e2⟩)
   · exact nC z
   · obtain ⟨ne, oj⟩ := own_ne j hj
     rw [getElem?_set_ne (aS ne)] at e2
     exact ne (R.inj j i x oj ⟨o, e⟩ e2 e1)
theorem zfg {i : Nat} (hi : i ∉ pn) (hN : X.N[i]? = some x := by kernel_rfl) (hv : Zx X.env.scope x := by first | exact Or.inl rfl | exact Or.inr (Or.inl rfl) | exact Or.inr (Or.inr rfl)) (hd : (x == ("__debug__" : Str)) = false := by decide)
 (hcd : (x == ("__classdict__" : Str)) = false := by decide) : DS X cls pn true (.Return (some (.Name x p)) pos) (Ya i) := ⟨_, zam (JQ hN hv hd hcd), zff hi⟩
def WL (i : Nat) : G End := fun ρ => match ρ[i]? with | some (.own o) => .ok (.rt o) (ρ.set i .no) | _ => .no
instance {i : Nat} : Jt z (Ya i) (WL i) := ⟨fun N ρ h => by
 unfold WL at h
 unfold Ya
 split at h
 · exact h
 · exact aa h⟩
theorem zlT {t : TT} {ta tb : TE} {c : MT} {a b : ME} (hc : JT Γ pn t c) (h1 : JF Γ pn ta a) (h2 : JF Γ pn tb b) : JF Γ pn (tIf t ta tb) (mIf c a b) := fun S σ ρ H τ Q q hp R hm hq =>
 hc S σ ρ H τ _ _ hp R hm fun k H1 ρ1 R1 q1 => by
  cases k with
  | true => rw [if_pos rfl] at q1 ⊢; exact h1 S σ ρ1 H1 τ Q q hp R1 q1 hq
  | false => rw [if_neg af] at q1 ⊢; exact h2 S σ ρ1 H1 τ Q q hp R1 q1 hq
theorem zlU {t : MT} {m n : ME} (h : DT X cls pn c t) (h1 : DF X cls pn a m) (h2 : DF X cls pn b n) : DF X cls pn (.IfExp c a b pos) (mIf t m n) := let ⟨_, a, b⟩ := h.h; let ⟨_, c, d⟩ := h1.h; let ⟨_, e, f⟩ := h2.h; ⟨_, zal a c e, zlT b d f⟩
end
end M
namespace L2
open PySem PySem.Spec PyProof.Rows
def zk2 (K : ae) (a b : Addr) : It := ⟨fun i H => ∃ xs ys x y, yl K H a xs /\ yl K H b ys /\ xs[i]? = some x /\ ys[i]? = some y,
 fun i H v H' => ∃ T x y, v = .ref T /\ H T = none /\ H' = zA H T (.tup [x, y]) /\ (∀ xs, yl K H a xs -> xs[i]? = some x) /\ ∀ ys, yl K H b ys -> ys[i]? = some y,
 fun i H => ∃ xs ys, yl K H a xs /\ yl K H b ys /\ (xs.length <= i \/ ys.length <= i)⟩
theorem zfh {P : Program} {w : World} {K : ae} {es : List Expr} {kt : Nat} {pt : Pos} (a b z TI TO i1 i2 : Addr) (D : ZipApart z TI TO i1 i2 a b) :
 Y0 P w K (.Tuple es kt pt) (zk2 K a b) [z, TO, i1, i2, TI] z (fun i h => (∃ u v, IsZip h z TI TO .none /\ IsPair h TI (.ref i1) (.ref i2) /\ IsPair h TO u v) /\ h.IsListIter i1 a i /\ h.IsListIter i2 b i) where
 mem := by simp
 obj := fun i h st c hc => by
  obtain ⟨⟨u, v, hz, hI, hO⟩, ⟨o1, e1, c1, d1⟩, ⟨o2, e2, c2, d2⟩⟩ := st
  simp only [ak, ax, or_false] at hc
  rcases hc with rfl | rfl | rfl | rfl | rfl
  · exact ⟨_, hz, fun v z => by cases z⟩
  · exact ⟨_, hO, fun v z => by cases z⟩
  · exact ⟨_, e1, fun v z => by rw [d1] at z; cases z⟩
  · exact ⟨_, e2, fun v z => by rw [d2] at z; cases z⟩
  · exact ⟨_, hI, fun v z => by cases z⟩
 keep := fun i h h' ⟨⟨u, v, hz, hI, hO⟩, h1, h2⟩ k => ⟨⟨u, v, k z (by simp) _ hz, k TI (by simp) _ hI, k TO (by simp) _ hO⟩, let ⟨o, e, r⟩ := h1; ⟨o, k i1 (by simp) o e, r⟩, let ⟨o, e, r⟩ := h2; ⟨o, k i2 (by simp) o e, r⟩⟩
 item := by
  intro X hP hw hK hc i pins s σ H E I hf st hg
  subst hP hw hK
  obtain ⟨xs, ys, x, y, ha, hb, hx, hy⟩ := hg
  obtain ⟨is, rv, p, _⟩ := I.list ha
  obtain ⟨js, rw', q, _⟩ := I.list hb
  obtain ⟨u, hu, ru⟩ := rv.get hx
  obtain ⟨v, hv, rv'⟩ := rw'.get hy
  obtain ⟨⟨o1, o2, hz, hI, hO⟩, h1, h2⟩ := st
  refine wpAny_pyNext_zip_item D hz hI hO h1 h2 (show s.heap.IsList a is.toArray from p.isList) (show s.heap.IsList b js.toArray from q.isList) (x := u) (y := v) (by simpa using hu) (by simpa using hv) fun h' z1 t1 k1 k2 T1 _ up => ?_
  refine ⟨_, rfl, wpAny_letOwnedTupleGo_zip z1 fun h2' z2 s2 => ?_⟩
  have lt : ∀ c ∈ [z, TO, i1, i2, TI], c < s.heap.objs.size := fun c hc => by
   obtain ⟨_, e1, _⟩ := h1
   obtain ⟨_, e2, _⟩ := h2
   simp only [ak, ax, or_false] at hc
   rcases hc with rfl | rfl | rfl | rfl | rfl
   · exact ai hz
   · exact ai hO
   · exact ai e1
   · exact ai e2
   · exact ai hI
  have nz : s.heap.objs.size ≠ z := cM (lt z (by simp))
  have T2 : h2'.get? s.heap.objs.size = some _ := (s2.2 _ nz).trans T1
  have k0 : ∀ c o, c ∉ [z, TO, i1, i2, TI] -> s.heap.get? c = some o -> h2'.get? c = some o := fun c o n e => by
   simp only [ak, ax, or_false, not_or] at n
   exact (s2.2 c n.1).trans (up c o n.1 n.2.1 n.2.2.1 n.2.2.2.1 e)
  have I1 := I.turnLay (t' := s.toks) (T := s.heap.objs.size) (o := .tup [x, y]) k0 hf (aC _) ⟨by show 2 <= az; decide, [u, v], .cons ru (.cons rv' .nil), ⟨_, T2, rfl, _, rfl⟩⟩
  refine ⟨.ref s.heap.objs.size, _, I1, rfl, ⟨_, x, y, rfl, I.hok.fresh (aC _), rfl, fun zs h => by rw [I.list_inj h ha]; exact hx, fun zs h => by rw [I.list_inj h hb]; exact hy⟩,
   ⟨⟨u, v, z2, (s2.2 _ D.TIz).trans (up TI _ D.TIz D.TITO D.TIi1 D.TIi2 hI), (s2.2 _ D.TOz).trans t1⟩, let ⟨o, e, r⟩ := k1; ⟨o, (s2.2 _ D.i1z).trans e, r⟩, let ⟨o, e, r⟩ := k2; ⟨o, (s2.2 _ D.i2z).trans e, r⟩⟩, fun c hc => ?_⟩
  rw [zp (aM (lt c hc))]
  exact (hf c hc).1
 done := by
  intro X hP hw hK hc i pins s σ H E I hf st hg
  subst hP hw hK
  obtain ⟨xs, ys, ha, hb, hx⟩ := hg
  obtain ⟨is, rv, p, _⟩ := I.list ha
  obtain ⟨js, rw', q, _⟩ := I.list hb
  obtain ⟨⟨o1, o2, hz, hI, hO⟩, h1, h2⟩ := st
  have hl := rv.length
  have hl2 := rw'.length
  refine wpAny_pyNext_zip_end (I.ok.hd hc) D hz hI hO h1 h2 (show s.heap.IsList a is.toArray from p.isList) (show s.heap.IsList b js.toArray from q.isList) (by
   rcases hx with hx | hx
   · exact .inl (by simp; omega)
   · exact .inr (by simp; omega)) fun h' up => ⟨rfl, I.turnedL (t' := s.toks) (fun c o n e => ?_) hf⟩
  simp only [ak, ax, or_false, not_or] at n
  exact up c o n.1 n.2.1 n.2.2.1 n.2.2.2.1 e
 self := fun _ i s Q E st h => let ⟨⟨_, _, hz, _⟩, _⟩ := st; cr hz h
def zhz (K : ae) (ta : TA) : TI := fun σ H R => ta σ H fun vs H1 => ∃ a b, vs = [.ref a, .ref b] /\ (∃ xs ys, yl K H1 a xs /\ yl K H1 b ys) /\ R (zk2 K a b) H1
theorem ziK {X : Cx} {es : List Expr} {kt : Nat} {pt p pos : Pos} {e f : Expr} {ta : TA} (hg : Gl X "zip") (hm : X.mg "zip" = none) (ha : PA X [e, f] ta) (hs : aj [e, f] X.env = (false, eval e X.env) :: aj [f] X.env := by kernel_rfl)
 (hp : (backTo pos (aj [f] X.env)).any (·.1) = false := by kernel_rfl) : PI X (.Tuple es kt pt) (.Call (.Name "zip" p) [e, f] [] pos) (zhz X.K ta) := by
 intro pins s σ H R I h
 refine Call_ (QB I hg hm (by rfl) (bc (zK (ha pos pins s σ H _ I h) fun us s1 ⟨vs, H1, I1, r1, q1⟩ => ?_) hs hp))
 obtain ⟨a, b, rfl, ⟨xs, ys, hx, hy⟩, q⟩ := q1
 obtain ⟨u, u', rfl, ru, ru'⟩ := r1.two'
 cases ru
 cases ru'
 obtain ⟨is, rv, pl, _⟩ := I1.list hx
 obtain ⟨js, rw', ql, _⟩ := I1.list hy
 have hla : s1.heap.IsList a is.toArray := pl.isList
 have hlb : s1.heap.IsList b js.toArray := ql.isList
 refine call_zip_2 hla hlb fun h' hz hI hO h1 h2 _ k => ?_
 have I2 : Inv X pins σ H1 { s1 with heap := h' } := I1.kept (t' := s1.toks) k
 refine cr hz ?_
 have la : a < s1.heap.objs.size := let ⟨_, e, _⟩ := hla; ai e
 have lb : b < s1.heap.objs.size := let ⟨_, e, _⟩ := hlb; ai e
 refine ⟨s1.heap.objs.size + 4, _, _, _, H1, rfl, I2, zfh a b _ _ _ _ _ (fL la lb), ⟨⟨_, _, hz, hI, hO⟩, h1, h2⟩, fun c hc => ?_, q⟩
 have le : s1.heap.objs.size <= c := by
  simp only [ak, ax, or_false] at hc
  rcases hc with rfl | rfl | rfl | rfl | rfl <;> omega
 exact I1.fpOk le (I1.hok.fresh le)
end L2
namespace M
open PySem L2
section
variable {Γ : Cn} {pn : List Nat} {X : Cx} {cls : Nat -> Option Addr} {a b c e : Expr} {pos p apos cpos p3 : Pos} {x : Str} {ma mb : MO} {z : Nat -> Env -> Prop} {fr : Bool}
def jA (xs ys : List D) : List D := (xs.zip ys).map fun x => .tup [x.1, x.2]
def Vi : List D -> Option (List D) | [.lst xs, .lst ys] => some (jA xs ys) | _ => none
def Wb (m : MA) : MI := fun ρ q => m ρ fun ds ρ' => yY (fun l => q l ρ') (Vi ds)
def Ue (g : G (List D)) : G (List D) := fun ρ => (g ρ).bind fun ds ρ' => yi (Vi ds) ρ'
instance {m : MA} {g : G (List D)} [Ag z m g] : Ag z (Wb m) (Ue g) := ⟨fun ρ q h => by
 unfold Ue at h
 unfold Wb
 exact Ag.step h fun ds _ h => yB h⟩
theorem ziL {t : TA} {m : MA} (h : JA Γ pn t m) : JI Γ pn (zhz Γ.K t) (Wb m) := fun S σ ρ H τ Z q hp R hm hz =>
 h S σ ρ H τ _ _ hp R hm fun vs ds H1 ρ1 R1 r1 q1 => by
  unfold Vi at q1
  split at q1
  · rename_i ss ds
    match vs, r1 with
    | [], r1 => have h := r1.1; simp at h
    | [_], r1 => have h := r1.1; simp at h
    | _ :: _ :: _ :: _, r1 => have h := r1.1; simp at h
    | [v, u], r1 =>
     have r0 := r1.head
     have rt := r1.tail.head
     obtain ⟨a, xs, rfl, ha, ra⟩ := r0.list
     obtain ⟨b, ys, rfl, hb, rs⟩ := rt.list
     refine ⟨a, b, rfl, ⟨_, _, .inl (.inl ha), .inl (.inl hb)⟩, hz _ (jA ss ds) H1 ρ1 [(.ref b, .lst ds), (.ref a, .lst ss)] ((R1.push r0).push rt) ?_ q1⟩
     intro E H i hE hx
     have e1 : Rep Γ E H (.ref a) (.lst ss) := hx (.ref a, .lst ss) (by simp)
     have e2 : Rep Γ E H (.ref b) (.lst ds) := hx (.ref b, .lst ds) (by simp)
     obtain ⟨a', ys1, q, ha', ra'⟩ := e1.list
     cases q
     obtain ⟨b', zs, q, hb', rs'⟩ := e2.list
     cases q
     have ln : (jA ss ds).length = min ss.length ds.length := by unfold jA; rw [aA, cD]
     rw [ln]
     refine ⟨fun hi => ?_, fun hi => ⟨_, zs, .inl (.inl ha'), .inl (.inl hb'), by rw [ra'.1, rs'.1]; omega⟩⟩
     have hi1 : i < ss.length := by omega
     have hi0 : i < ds.length := by omega
     have hi2 : i < zs.length := by rw [rs'.1]; exact hi0
     have hi3 : i < ys1.length := by rw [ra'.1]; exact hi1
     refine ⟨⟨ys1, zs, ys1[i], zs[i], .inl (.inl ha'), .inl (.inl hb'), ab hi3, ab hi2⟩, fun x H' y => ?_⟩
     obtain ⟨T, u, w, rfl, hT, rfl, y1, y2⟩ := y
     have g := Yn hT (.tup [u, w])
     refine ⟨g, .tup [ss[i], ds[i]], ?_, ?_⟩
     · unfold jA
       rw [ar, (bN (z := (ss[i], ds[i]))).mpr ⟨ab hi1, ab hi0⟩]; rfl
     have ru : Rep Γ E (zA H T (.tup [u, w])) u ss[i] := (ra'.2 i u _ (y1 ys1 (.inl (.inl ha'))) (ab hi1)).up (fun _ _ z => z) fun b o _ q => g b o q
     have rv : Rep Γ E (zA H T (.tup [u, w])) w ds[i] := (rs'.2 i w _ (y2 zs (.inl (.inl hb'))) (ab hi0)).up (fun _ _ z => z) fun b o _ q => g b o q
     have rr : Reps Γ E (zA H T (.tup [u, w])) [u, w] [ss[i], ds[i]] := .cons ru (.cons rv .nil)
     exact .tup (fun z => hE T z hT) zU rr.1 rr.2
  · exact aa q1
theorem ziM {tes : List Expr} {kt : Nat} {tp : Pos} {m : MA} (hg : Gl X "zip") (hm : X.mg "zip" = none) (h : DA X cls pn [a, b] m) (hs : aj [a, b] X.env = (false, eval a X.env) :: aj [b] X.env := by kernel_rfl)
 (hp : (backTo pos (aj [b] X.env)).any (·.1) = false := by kernel_rfl) : DI X cls pn (.Tuple tes kt tp) (.Call (.Name "zip" p) [a, b] [] pos) (Wb m) :=
 let ⟨_, c, d⟩ := h.h; ⟨_, ziK hg hm c hs hp, ziL d⟩
def itK : D -> Option (List D) | .kt ss => some (ss.map D.str) | _ => none
def zee (m : ME) : MI := fun ρ q => m ρ fun d ρ' => yY (fun l => q l ρ') (itK d)
def zef (g : G D) : G (List D) := fun ρ => (g ρ).bind fun d ρ' => yi (itK d) ρ'
instance {m : ME} {g : G D} [Ag z m g] : Ag z (zee m) (zef g) := ⟨fun ρ q h => by
 unfold zef at h
 unfold zee
 exact Ag.step h fun d _ h => yB h⟩
theorem zlV {t : TE} {m : ME} (h : JE Γ pn t m) : JI Γ pn (zfM Γ.K t) (zee m) := fun S σ ρ H τ Z q hp R hm hz =>
 h S σ ρ H τ _ _ hp R hm fun v d H1 ρ1 R1 r1 q1 => by
  cases d with
  | kt ss =>
   obtain ⟨a, rfl, ha⟩ := Rep.kept r1
   refine ⟨a, rfl, ⟨_, ha⟩, hz _ (ss.map D.str) H1 ρ1 [(.ref a, .kt ss)] (R1.push r1) ?_ q1⟩
   intro E H i hE hx
   have r' : Rep Γ E H (.ref a) (.kt ss) := hx (.ref a, .kt ss) (by simp)
   obtain ⟨a', e, hs'⟩ := Rep.kept r'
   cases e
   refine ⟨fun hi => ?_, fun hi => ⟨_, hs', by rw [aA] at hi ⊢; omega⟩⟩
   rw [aA] at hi
   have g1 : (ss.map V.str)[i]? = some (V.str ss[i]) := by rw [ar, ab hi]; rfl
   refine ⟨⟨_, _, hs', g1⟩, fun x H' y => ?_⟩
   obtain ⟨e, y⟩ := y
   subst e
   have u := (y _ hs').symm.trans g1
   cases u
   exact ⟨Same.refl _, .str ss[i], by rw [ar, ab hi]; rfl, .str _⟩
  | _ => exact aa q1
theorem zlW {tg iter : Expr} {m : ME} (h : DE X cls pn iter m) : DI X cls pn tg iter (zee m) := let ⟨_, a, b⟩ := h.h; ⟨_, zew a, zlV b⟩
end
end M
namespace PySem
section
variable {prog : Program} {w : World} {A : Around} {E : Value -> Shared -> Prop} {s : Shared}
abbrev Zo (h : Heap) (z TI TO T : Addr) (f : Bool) : Prop := h.get? z = some { cls := .type "zip", dict := none, data := .fields #[rawInt T, .bool f, .bool false, .ref TI, .ref TO], slots := #[] }
theorem zbo {z TI TO T : Addr} {f : Bool} {oT : Obj} {Q : Bool -> Shared -> Prop} (hz : Zo s.heap z TI TO T f) (hT : s.heap.get? T = some oT)
 (h : ∀ h', Zo h' z TI TO T true -> (∀ c o, c ≠ z -> s.heap.get? c = some o -> h'.get? c = some o) -> h'.objs.size = s.heap.objs.size -> Q false { s with heap := h' }) : wpAny (model prog w) A (aK (.ref z)) Q E s := by
 unfold aK
 refine ac (aU hz rfl (x := rawInt T) rfl ?_)
 show wpAny _ _ (loadIfAlive T >>= _) _ _ _
 refine ac (W.kdx_alive hT ?_)
 show wpAny _ _ (field (.ref z) 1 >>= _) _ _ _
 refine ac (aU hz rfl (x := .bool f) rfl ?_)
 cases f with
 | true =>
  show wpAny _ _ (pure false) _ _ _
  exact ao (h s.heap hz (fun _ _ _ e => e) rfl)
 | false =>
  show wpAny _ _ (setField (.ref z) 1 (.bool true) >>= _) _ _ _
  refine ac (bK hz (by simp) fun h1 hz1 hs1 => ?_)
  exact ao (h h1 hz1 (fun c o n e => hs1.extBut _ _ n e) hs1.1)
theorem zfi {z TI TO i1 i2 l1 l2 T : Addr} {f : Bool} {oT : Obj} {k1 k2 : Nat} {xs ys : Array Value} {x y : Value} {Q : Value -> Shared -> Prop} (D : ZipApart z TI TO i1 i2 l1 l2)
 (hz : Zo s.heap z TI TO T f) (hT : s.heap.get? T = some oT) (hTI : IsPair s.heap TI (.ref i1) (.ref i2))
 (h1 : s.heap.IsListIter i1 l1 k1) (h2 : s.heap.IsListIter i2 l2 k2) (hl1 : s.heap.IsList l1 xs) (hl2 : s.heap.IsList l2 ys) (hx : xs[k1]? = some x) (hy : ys[k2]? = some y)
 (hQ : ∀ h', Zo h' z TI TO T true -> h'.IsListIter i1 l1 (k1 + 1) -> h'.IsListIter i2 l2 (k2 + 1) -> IsPair h' s.heap.objs.size x y ->
  (∀ c o, c ≠ z -> c ≠ i1 -> c ≠ i2 -> s.heap.get? c = some o -> h'.get? c = some o) -> Q (.ref s.heap.objs.size) { s with heap := h' }) :
 wpAny (model prog w) A (Builtin.«zip.__next__» ⟨[.ref z], []⟩) (fun fin s' => ∃ v, fin = .done (.ret v) /\ Q v s') E s := by
 show wpAny _ _ (field (.ref z) 2 >>= _) _ _ _
 refine ac (aU hz rfl (x := .bool false) rfl ?_)
 show wpAny _ _ (field (.ref z) 3 >>= _) _ _ _
 refine ac (aU hz rfl (x := .ref TI) rfl ?_)
 refine ac (br hTI rfl ?_)
 show wpAny _ _ (aK (.ref z) >>= _) _ _ _
 refine ac (zbo hz hT fun h₁ hz₁ hk₁ hn₁ => ?_)
 simp only [bm, if_false]
 refine ac ?_
 rw [← fk]
 show wpAny _ _ (forIn [Value.ref i1, Value.ref i2] _ _) _ _ _
 simp only [cC, dt]
 have e1 : h₁.IsListIter i1 l1 k1 := let ⟨o, e, r⟩ := h1; ⟨o, hk₁ _ _ D.i1z e, r⟩
 have e2 : h₁.IsListIter i2 l2 k2 := let ⟨o, e, r⟩ := h2; ⟨o, hk₁ _ _ D.i2z e, r⟩
 have l1' : h₁.IsList l1 xs := let ⟨o, e, r⟩ := hl1; ⟨o, hk₁ _ _ D.l1z e, r⟩
 have l2' : h₁.IsList l2 ys := let ⟨o, e, r⟩ := hl2; ⟨o, hk₁ _ _ D.l2z e, r⟩
 refine ac (ac (bh ?_))
 show wpAny _ _ (aL (.ref i1) >>= _) _ _ _
 refine ac (cQ e1 l1' hx fun h₂ h1₂ hs₂ => ao ?_)
 refine ao ?_
 refine ac (ac (bh ?_))
 show wpAny _ _ (aL (.ref i2) >>= _) _ _ _
 refine ac (cQ (e2.extBut hs₂.extBut D.i12.symm) (l2'.extBut hs₂.extBut D.l2i1) hy fun h₃ h2₃ hs₃ => ao ?_)
 refine ao (ao ?_)
 show wpAny _ _ (newTuple [x, y] >>= _) _ _ _
 have n : h₃.objs.size = s.heap.objs.size := by rw [hs₃.1, hs₂.1, hn₁]
 refine ac (wpAny_newTuple (ao ⟨_, rfl, ?_⟩) (by show 2 <= az; decide))
 rw [n]
 refine hQ _ (am _ (hs₃.extBut _ _ D.i2z.symm (hs₂.extBut _ _ D.i1z.symm hz₁))) ?_ ?_ ?_ fun c o c1 c2 c3 e => am _ (hs₃.extBut _ _ c3 (hs₂.extBut _ _ c2 (hk₁ c o c1 e)))
 · obtain ⟨o, e, r⟩ := h1₂
   exact ⟨o, am _ (hs₃.extBut _ _ D.i12 e), r⟩
 · obtain ⟨o, e, r⟩ := h2₃
   exact ⟨o, am _ e, r⟩
 · rw [← n]; exact aE _ rfl
theorem zgz {z TI TO i1 i2 l1 l2 T : Addr} {f : Bool} {oT : Obj} {k1 k2 : Nat} {xs ys : Array Value} {Q : Fin -> Shared -> Prop} (hh : A.handled = none) (D : ZipApart z TI TO i1 i2 l1 l2)
 (hz : Zo s.heap z TI TO T f) (hT : s.heap.get? T = some oT) (hTI : IsPair s.heap TI (.ref i1) (.ref i2))
 (h1 : s.heap.IsListIter i1 l1 k1) (h2 : s.heap.IsListIter i2 l2 k2) (hl1 : s.heap.IsList l1 xs) (hl2 : s.heap.IsList l2 ys) (hend : xs[k1]? = none \/ ys[k2]? = none)
 (hE : ∀ h' e, (∀ c o, c ≠ z -> c ≠ i1 -> c ≠ i2 -> s.heap.get? c = some o -> h'.get? c = some o) -> (∃ o, h'.get? e = some o /\ o.cls = .type "StopIteration") -> E (.ref e) { s with heap := h' }) :
 wpAny (model prog w) A (Builtin.«zip.__next__» ⟨[.ref z], []⟩) Q E s := by
 show wpAny _ _ (field (.ref z) 2 >>= _) _ _ _
 refine ac (aU hz rfl (x := .bool false) rfl ?_)
 show wpAny _ _ (field (.ref z) 3 >>= _) _ _ _
 refine ac (aU hz rfl (x := .ref TI) rfl ?_)
 refine ac (br hTI rfl ?_)
 show wpAny _ _ (aK (.ref z) >>= _) _ _ _
 refine ac (zbo hz hT fun h₁ hz₁ hk₁ hn₁ => ?_)
 simp only [bm, if_false]
 refine ac ?_
 rw [← fk]
 show wpAny _ _ (forIn [Value.ref i1, Value.ref i2] _ _) _ _ _
 simp only [cC, dt]
 have e1 : h₁.IsListIter i1 l1 k1 := let ⟨o, e, r⟩ := h1; ⟨o, hk₁ _ _ D.i1z e, r⟩
 have e2 : h₁.IsListIter i2 l2 k2 := let ⟨o, e, r⟩ := h2; ⟨o, hk₁ _ _ D.i2z e, r⟩
 have l1' : h₁.IsList l1 xs := let ⟨o, e, r⟩ := hl1; ⟨o, hk₁ _ _ D.l1z e, r⟩
 have l2' : h₁.IsList l2 ys := let ⟨o, e, r⟩ := hl2; ⟨o, hk₁ _ _ D.l2z e, r⟩
 refine ac (ac (bh ?_))
 show wpAny _ _ (aL (.ref i1) >>= _) _ _ _
 cases hx : xs[k1]? with
 | none =>
  exact ac (wpAny_nextOf_list_end hh e1 l1' hx fun h₂ e hs₂ he => hE h₂ e (fun c o c1 c2 c3 x => hs₂ _ _ c2 (hk₁ c o c1 x)) he)
 | some x =>
  have hy : ys[k2]? = none := by rcases hend with h | h; rw [hx] at h; cases h; exact h
  refine ac (cQ e1 l1' hx fun h₂ h1₂ hs₂ => ao ?_)
  refine ao ?_
  refine ac (ac (bh ?_))
  show wpAny _ _ (aL (.ref i2) >>= _) _ _ _
  exact ac (wpAny_nextOf_list_end hh (e2.extBut hs₂.extBut D.i12.symm) (l2'.extBut hs₂.extBut D.l2i1) hy fun h₃ e hs₃ he => hE h₃ e (fun c o c1 c2 c3 x => hs₃ _ _ c3 (hs₂.extBut _ _ c2 (hk₁ c o c1 x))) he)
def zac (h : Heap) (z TI TO : Addr) : Prop := (∃ a b, IsZip h z TI TO .none /\ IsPair h TO a b) \/ (∃ T f o, Zo h z TI TO T f /\ T ≠ z /\ h.get? T = some o)
theorem zfj {z TI TO i1 i2 l1 l2 : Addr} {k1 k2 : Nat} {xs ys : Array Value} {x y : Value} {Q : Option Value -> Shared -> Prop} (D : ZipApart z TI TO i1 i2 l1 l2)
 (hz : zac s.heap z TI TO) (hTI : IsPair s.heap TI (.ref i1) (.ref i2))
 (h1 : s.heap.IsListIter i1 l1 k1) (h2 : s.heap.IsListIter i2 l2 k2) (hl1 : s.heap.IsList l1 xs) (hl2 : s.heap.IsList l2 ys) (hx : xs[k1]? = some x) (hy : ys[k2]? = some y)
 (hQ : ∀ h' T f, Zo h' z TI TO T f -> T ≠ z -> (∃ o, h'.get? T = some o) -> h'.IsListIter i1 l1 (k1 + 1) -> h'.IsListIter i2 l2 (k2 + 1) -> IsPair h' s.heap.objs.size x y ->
  (∀ c o, c ≠ z -> c ≠ TO -> c ≠ i1 -> c ≠ i2 -> s.heap.get? c = some o -> h'.get? c = some o) -> Q (some (.ref s.heap.objs.size)) { s with heap := h' }) :
 wpAny (model prog w) A (pyNext (.ref z)) Q E s := by
 have lz : z < s.heap.objs.size := by
  rcases hz with ⟨_, _, hz, _⟩ | ⟨_, _, _, hz, _⟩ <;> exact ai hz
 rcases hz with ⟨a, b, hz, hO⟩ | ⟨T, f, o, hz, ne, hT⟩
 · exact wpAny_pyNext_zip_item D hz hTI hO h1 h2 hl1 hl2 hx hy fun h' a1 a2 a3 a4 a5 a6 a7 => hQ h' _ false a1 (cM lz) ⟨_, a5⟩ a3 a4 a5 a7
 · have hty : s.TypeIs (.ref z) "zip" := ⟨_, hz, rfl⟩
   unfold pyNext
   refine ac (dU (aX (name := av "__next__") hty F.slot_zip_next
    (be F.slot_zip_next hty F.entry_zip_next
     (zfi D hz hT hTI h1 h2 hl1 hl2 hx hy fun h' a1 a2 a3 a4 a5 => ao (hQ h' T true a1 ne ?_ a2 a3 a4 fun c o c1 _ c3 c4 e => a5 c o c1 c3 c4 e)) (F.args_zip_next_1 _))))
   by_cases t1 : T = i1
   · subst t1; obtain ⟨o, e, _⟩ := a2; exact ⟨o, e⟩
   · by_cases t2 : T = i2
     · subst t2; obtain ⟨o, e, _⟩ := a3; exact ⟨o, e⟩
     · exact ⟨o, a5 T o ne t1 t2 hT⟩
theorem zgA {z TI TO i1 i2 l1 l2 : Addr} {k1 k2 : Nat} {xs ys : Array Value} {Q : Option Value -> Shared -> Prop} (hh : A.handled = none) (D : ZipApart z TI TO i1 i2 l1 l2)
 (hz : zac s.heap z TI TO) (hTI : IsPair s.heap TI (.ref i1) (.ref i2))
 (h1 : s.heap.IsListIter i1 l1 k1) (h2 : s.heap.IsListIter i2 l2 k2) (hl1 : s.heap.IsList l1 xs) (hl2 : s.heap.IsList l2 ys) (hend : xs[k1]? = none \/ ys[k2]? = none)
 (hQ : ∀ h', (∀ c o, c ≠ z -> c ≠ TO -> c ≠ i1 -> c ≠ i2 -> s.heap.get? c = some o -> h'.get? c = some o) -> Q none { s with heap := h' }) : wpAny (model prog w) A (pyNext (.ref z)) Q E s := by
 rcases hz with ⟨a, b, hz, hO⟩ | ⟨T, f, o, hz, ne, hT⟩
 · exact wpAny_pyNext_zip_end hh D hz hTI hO h1 h2 hl1 hl2 hend hQ
 · have hty : s.TypeIs (.ref z) "zip" := ⟨_, hz, rfl⟩
   unfold pyNext
   refine ac (dU (aX (name := av "__next__") hty F.slot_zip_next
    (be F.slot_zip_next hty F.entry_zip_next (zgz hh D hz hT hTI h1 h2 hl1 hl2 hend fun h' e hk he => ?_) (F.args_zip_next_1 _))))
   obtain ⟨o, ho, hc⟩ := he
   refine ac (wpAny_isInstance (T := "StopIteration") (b := true) ⟨o, ho, hc⟩ isSubtype_stop ?_)
   exact ao (hQ _ fun c o c1 _ c3 c4 e => hk c o c1 c3 c4 e)
end
end PySem
namespace L2
open PySem PySem.Spec PyProof.Rows
theorem zeg : gE (.type "zip") "__len__" = pure none := by rw [typeLookup_type, builtinLookup_eq_fast]; kernel_rfl
theorem zbT : gE (.type "zip") "__length_hint__" = pure none := by rw [typeLookup_type, builtinLookup_eq_fast]; kernel_rfl
theorem Wc {K : ae} {H H' : Hp} {a : Addr} {xs : List V} (h : yl K H a xs) (k : ∀ b o, H b = some o -> H' b = some o) : yl K H' a xs := by
 rcases h with (h | ⟨o, h⟩) | h
 · exact .inl (.inl (k a _ h))
 · exact .inl (.inr ⟨o, k a _ h⟩)
 · exact .inr h
structure ZL (X : Cx) (pins : List (Addr × Obj)) (σ : St) (H1 : Hp) (xs ys : List V) (S : Addr) (i : Nat) (s : Shared) (H2 : Hp) (zs : List V) : Prop where
 inv : Inv X pins σ (zA H2 S (.lst zs)) s
 same : ∀ b o, H1 b = some o -> H2 b = some o
 no : H2 S = none
 len : zs.length = i
 at_ : ∀ j x y, j < i -> xs[j]? = some x -> ys[j]? = some y -> ∃ T, zs[j]? = some (.ref T) /\ H1 T = none /\ H2 T = some (.tup [x, y])
theorem zmF {H : Hp} {S T : Addr} {A B C : HO} (h : S ≠ T) : zA (zA (zA H S A) T B) S C = zA (zA H T B) S C := by
 funext b
 by_cases e : b = S
 · subst e; rw [zU, zU]
 · rw [zp e, zp e]
   by_cases e2 : b = T
   · subst e2; rw [zU, zU]
   · rw [zp e2, zp e2, zp e]
theorem zbU {prog : Program} {w : World} {A : Around} {E : Value -> Shared -> Prop} {s : Shared} {z TI TO : Addr} {Q : Value -> Shared -> Prop} (hz : zac s.heap z TI TO) (h : Q (.ref z) s) : wpAny (model prog w) A (pyIter (.ref z)) Q E s := by
 rcases hz with ⟨_, _, hz, _⟩ | ⟨_, _, _, hz, _⟩
 · exact cr hz h
 · have hT : s.TypeIs (.ref z) "zip" := ⟨_, hz, rfl⟩
   refine wpAny_pyIter_slot hT F.slot_zip_iter (be F.slot_zip_iter hT F.entry_zip_iter ?_ (F.args_zip_iter_1 _))
   show wpAny _ _ (ret (.ref z)) _ _ s
   exact ao ⟨_, rfl, "zip", _, hT, F.slot_zip_next.lookup, h⟩
section
variable {X : Cx} {pins : List (Addr × Obj)} {σ : St} {A : Around} {a b z TI TO i1 i2 S : Addr} {xs ys : List V} {H1 : Hp} {R : Result -> Shared -> Prop}
structure ZF (X : Cx) (pins : List (Addr × Obj)) (H : Hp) (z TI TO i1 i2 a b : Addr) (i : Nat) (h : Heap) : Prop where
 st : zac h z TI TO
 ti : IsPair h TI (.ref i1) (.ref i2)
 h1 : h.IsListIter i1 a i
 h2 : h.IsListIter i2 b i
 to : TO < h.objs.size
 fp : ∀ c ∈ [z, TO, i1, i2, TI], FpOk X pins H c
theorem zgB (hh : A.handled = none) (D : ZipApart z TI TO i1 i2 a b) (ha : yl X.K H1 a xs) (hb : yl X.K H1 b ys) (hn : min xs.length ys.length <= az) (res : Value) :
 ∀ (k i : Nat) (s : Shared) (H2 : Hp) (zs : List V), min xs.length ys.length - i = k -> i <= min xs.length ys.length -> ZL X pins σ H1 xs ys S i s H2 zs -> ZF X pins (zA H2 S (.lst zs)) z TI TO i1 i2 a b i s.heap ->
 (∀ s' H2' zs', ZL X pins σ H1 xs ys S (min xs.length ys.length) s' H2' zs' -> R (.ok (.ret res)) s') ->
 dM (model X.prog X.w) A (.builtin "list.extend.loop" ⟨[.ref S, .ref z, res], []⟩) R s := by
 intro k
 induction k with
 | zero =>
  intro i s H2 zs hk hi L Z hR
  have hin : i = min xs.length ys.length := by omega
  subst hin
  refine codeAny_builtin F.entry_extend_loop ?_
  rw [eM F.plain_extend_loop _]
  show wpAny _ A.in1 (pyNext (.ref z) >>= _) _ _ s
  have up : ∀ b o, H1 b = some o -> zA H2 S (.lst zs) b = some o := fun b o e => by rw [zp (fun z => by rw [z] at e; have := L.same _ _ e; rw [L.no] at this; cases this)]; exact L.same b o e
  obtain ⟨is, rv, p, _⟩ := L.inv.list (Wc ha up)
  obtain ⟨js, rw', q, _⟩ := L.inv.list (Wc hb up)
  have hl := rv.length
  have hl2 := rw'.length
  refine ac (zgA hh D Z.st Z.ti Z.h1 Z.h2 (show s.heap.IsList a is.toArray from p.isList) (show s.heap.IsList b js.toArray from q.isList) (by
   rcases gT xs.length ys.length with h | h
   · exact .inl (by simp; omega)
   · exact .inr (by simp; omega)) fun h' up => ?_)
  refine ao (hR _ H2 zs { L with inv := L.inv.turnedL (t' := s.toks) (fun c o n e => ?_) Z.fp })
  simp only [ak, ax, or_false, not_or] at n
  exact up c o n.1 n.2.1 n.2.2.1 n.2.2.2.1 e
 | succ k ih =>
  intro i s H2 zs hk hi L Z hR
  have hlt : i < min xs.length ys.length := by omega
  refine codeAny_builtin F.entry_extend_loop ?_
  rw [eM F.plain_extend_loop _]
  show wpAny _ A.in1 (pyNext (.ref z) >>= _) _ _ s
  have up : ∀ b o, H1 b = some o -> zA H2 S (.lst zs) b = some o := fun b o e => by rw [zp (fun z => by rw [z] at e; have := L.same _ _ e; rw [L.no] at this; cases this)]; exact L.same b o e
  obtain ⟨is, rv, p, _⟩ := L.inv.list (Wc ha up)
  obtain ⟨js, rw', q, _⟩ := L.inv.list (Wc hb up)
  have hx : xs[i]? = some xs[i] := ab (by omega)
  have hy : ys[i]? = some ys[i] := ab (by omega)
  obtain ⟨u, hu, ru⟩ := rv.get hx
  obtain ⟨v, hv, rv'⟩ := rw'.get hy
  refine ac (zfj D Z.st Z.ti Z.h1 Z.h2 (show s.heap.IsList a is.toArray from p.isList) (show s.heap.IsList b js.toArray from q.isList) (x := u) (y := v) (by simpa using hu) (by simpa using hv) fun h' T0 f z1 ne al k1 k2 T1 upz => ?_)
  have hSH : zA H2 S (.lst zs) S = some (.lst zs) := zU
  obtain ⟨_, its0, n0, _, _, eS⟩ := L.inv.lstM hSH
  have hST : S ≠ s.heap.objs.size := aM (ai eS)
  have hT0 : H1 s.heap.objs.size = none := by
   cases e : H1 s.heap.objs.size with
   | none => rfl
   | some o => have := up _ _ e; rw [L.inv.hok.fresh (aC _)] at this; cases this
  have hT2 : H2 s.heap.objs.size = none := by
   have := L.inv.hok.fresh (aC s.heap.objs.size)
   rwa [zp (aS hST)] at this
  have k0 : ∀ c o, c ∉ [z, TO, i1, i2, TI] -> s.heap.get? c = some o -> h'.get? c = some o := fun c o n e => by
   simp only [ak, ax, or_false, not_or] at n
   exact upz c o n.1 n.2.1 n.2.2.1 n.2.2.2.1 e
  have I1 := L.inv.turnLay (t' := s.toks) (T := s.heap.objs.size) (o := .tup [xs[i], ys[i]]) k0 Z.fp (aC _) ⟨by show 2 <= az; decide, [u, v], .cons ru (.cons rv' .nil), ⟨_, T1, rfl, _, rfl⟩⟩
  have hS2 : zA (zA H2 S (.lst zs)) s.heap.objs.size (.tup [xs[i], ys[i]]) S = some (.lst zs) := by rw [zp hST]; exact zU
  obtain ⟨_, its, n, r, hl, e⟩ := I1.lstM hS2
  have hzl := L.len
  show wpAny _ A.in1 (fY S (·.push (.ref s.heap.objs.size)) >>= _) _ _ _
  refine ac ?_
  have I2 := I1.lset (f := (·.push (Value.ref s.heap.objs.size))) (t' := s.toks) (its' := its ++ [.ref s.heap.objs.size]) hS2 e (by simp) (r.append (.cons (show RelV (.ref s.heap.objs.size) (.ref s.heap.objs.size) from rfl) .nil)) (by rw [aI, aW]; omega)
  rw [zmF hST] at I2
  have lt : ∀ c ∈ [z, TO, i1, i2, TI], c < s.heap.objs.size := fun c hc => by
   obtain ⟨_, e1, _⟩ := Z.h1
   obtain ⟨_, e2, _⟩ := Z.h2
   have e3 : ∃ o, s.heap.get? z = some o := by rcases Z.st with ⟨_, _, q, _⟩ | ⟨_, _, _, q, _⟩ <;> exact ⟨_, q⟩
   obtain ⟨_, e3⟩ := e3
   simp only [ak, ax, or_false] at hc
   rcases hc with rfl | rfl | rfl | rfl | rfl
   · exact ai e3
   · exact Z.to
   · exact ai e1
   · exact ai e2
   · exact ai Z.ti
  have cS : ∀ c ∈ [z, TO, i1, i2, TI], c ≠ S := fun c hc e => by have := (Z.fp c hc).1; rw [e, zU] at this; cases this
  have oth : ∀ c o, c ≠ S -> h'.get? c = some o -> (h'.update S (bQ (·.push (Value.ref s.heap.objs.size)))).get? c = some o := fun c o n e => (bq _ _ (aS n)).trans e
  have L2 : ZL X pins σ H1 xs ys S (i + 1) _ (zA H2 s.heap.objs.size (.tup [xs[i], ys[i]])) (zs ++ [.ref s.heap.objs.size]) := {
   inv := I2
   same := fun b o e => by rw [zp (fun z => by rw [z, hT0] at e; cases e)]; exact L.same b o e
   no := by rw [zp hST]; exact L.no
   len := by rw [aI, aW, L.len]
   at_ := fun j x y hj ex ey => by
    by_cases hji : j = i
    · subst hji
      rw [hx] at ex; rw [hy] at ey; cases ex; cases ey
      exact ⟨s.heap.objs.size, by rw [ck (by omega), L.len, Nat.sub_self]; rfl, hT0, zU⟩
    · obtain ⟨T, e1, e2, e3⟩ := L.at_ j x y (by omega) ex ey
      exact ⟨T, by rw [bL (by omega)]; exact e1, e2, by rw [zp (fun z => by rw [z, hT2] at e3; cases e3)]; exact e3⟩ }
  refine cG e rfl (ao ⟨plainId_quiet F.plain_extend_loop _, ih (i + 1) _ _ _ (by omega) (by omega) L2 ?_ hR⟩) (by rw [ah]; omega) (by show (its.toArray.push _).size <= az + 1; rw [Array.size_push, ah]; omega)
  exact {
   st := .inr (by
    obtain ⟨o, e⟩ := al
    refine ⟨T0, f, ?_⟩
    by_cases hTS : T0 = S
    · exact ⟨_, oth _ _ (cS z (by simp)) z1, ne, by rw [hTS]; exact bu _ ‹h'.get? S = some _› rfl⟩
    · exact ⟨o, oth _ _ (cS z (by simp)) z1, ne, oth _ _ hTS e⟩)
   ti := oth _ _ (cS TI (by simp)) (upz TI _ D.TIz D.TITO D.TIi1 D.TIi2 Z.ti)
   h1 := let ⟨o, e, r⟩ := k1; ⟨o, oth _ _ (cS i1 (by simp)) e, r⟩
   h2 := let ⟨o, e, r⟩ := k2; ⟨o, oth _ _ (cS i2 (by simp)) e, r⟩
   to := fv Z.to (ai (oth _ _ (aS hST) T1))
   fp := fun c hc => by
    obtain ⟨f0, f1⟩ := Z.fp c hc
    refine ⟨?_, f1⟩
    rw [zp (cS c hc), zp (aM (lt c hc))]
    rwa [zp (cS c hc)] at f0 }
theorem zgC {s : Shared} (hh : A.handled = none) (D : ZipApart z TI TO i1 i2 a b) (ha : yl X.K H1 a xs) (hb : yl X.K H1 b ys) (hn : min xs.length ys.length <= az)
 (L : ZL X pins σ H1 xs ys S 0 s H1 []) (Z : ZF X pins (zA H1 S (.lst [])) z TI TO i1 i2 a b 0 s.heap)
 (hR : ∀ s' H2' zs', ZL X pins σ H1 xs ys S (min xs.length ys.length) s' H2' zs' -> R (.ok (.ret .none)) s') :
 wpAny (model X.prog X.w) A.in1 (Builtin.«list.__init__» ⟨[.ref S, .ref z], []⟩)
  (fun fin s' => match fin with | .done f => R (.ok f) s' | .again c' => c'.quiet = true /\ dM (model X.prog X.w) A c' R s') (fun e s' => R (.error e) s') s := by
 have cS : ∀ c ∈ [z, TO, i1, i2, TI], c ≠ S := fun c hc e => by have := (Z.fp c hc).1; rw [e, zU] at this; cases this
 have hSH : zA H1 S (.lst []) S = some (.lst []) := zU
 have mv : ∀ (s : Shared) (h' : Heap) (n : Nat), ZL X pins σ H1 xs ys S 0 s H1 [] -> ZF X pins (zA H1 S (.lst [])) z TI TO i1 i2 a b 0 s.heap -> (∀ c o, c ≠ S -> s.heap.get? c = some o -> h'.get? c = some o) -> h'.get? S = some { cls := .type "list", data := .seq #[] n } ->
  h'.objs.size = s.heap.objs.size -> ZL X pins σ H1 xs ys S 0 { s with heap := h' } H1 [] /\ ZF X pins (zA H1 S (.lst [])) z TI TO i1 i2 a b 0 h' := fun s h' n L Z oth e hsz => by
  have I2 : Inv X pins σ (zA (zA H1 S (.lst [])) S (.lst [])) { s with heap := h', toks := s.toks } := L.inv.write (x := S) (e := S) (by rw [hSH]; exact trivial) (.inl rfl) (fun b u hb hu => oth b u hb hu) ⟨_, e⟩ ⟨bI _, [], n, .nil, e⟩
  have eu : zA (zA H1 S (.lst [])) S (.lst []) = zA H1 S (.lst []) := by
   funext b
   by_cases e : b = S
   · subst e; rw [zU, zU]
   · rw [zp e]
  rw [eu] at I2
  refine ⟨{ L with inv := I2 }, ⟨?_, oth _ _ (cS TI (by simp)) Z.ti, let ⟨o, e, r⟩ := Z.h1; ⟨o, oth _ _ (cS i1 (by simp)) e, r⟩, let ⟨o, e, r⟩ := Z.h2; ⟨o, oth _ _ (cS i2 (by simp)) e, r⟩, ?_, Z.fp⟩⟩
  · rcases Z.st with ⟨u, v, q1, q2⟩ | ⟨T, f', o, q1, ne, q2⟩
    · exact .inl ⟨u, v, oth _ _ (cS z (by simp)) q1, oth _ _ (cS TO (by simp)) q2⟩
    · refine .inr ⟨T, f', ?_⟩
      by_cases hTS : T = S
      · exact ⟨_, oth _ _ (cS z (by simp)) q1, ne, by rw [hTS]; exact e⟩
      · exact ⟨o, oth _ _ (cS z (by simp)) q1, ne, oth _ _ hTS q2⟩
  · rw [hsz]; exact Z.to
 obtain ⟨_, its, n, r, hl, e⟩ := L.inv.lstM hSH
 have i0 : its = [] := ca (by rw [← hl]; rfl)
 subst i0
 show wpAny _ A.in1 (do let old ← ef (.ref S); Builtin.List.listUpdate (.ref S) (fun _ => #[]); letGo old.toList.reverse; cf (.ref S) (.ref z) .none) _ _ s
 refine ac ?_
 unfold ef
 refine ac (br e rfl (ao ?_))
 show wpAny _ A.in1 (fY S (fun _ => #[]) >>= fun _ => letGo (#[] : Array Value).toList.reverse >>= fun _ => cf (.ref S) (.ref z) .none) _ _ s
 refine ac (cG e rfl ?_)
 obtain ⟨L1, Z1⟩ := mv s _ _ L Z (fun c o n e => (bq _ _ (aS n)).trans e) (bu (bQ (fun _ => (#[] : Array Value))) e rfl) (dX ..)
 refine ac (gf ?_)
 generalize hs1 : ({ s with heap := s.heap.update S (bQ fun _ => (#[] : Array Value)) } : Shared) = s1
 have Z1' : ZF X pins (zA H1 S (.lst [])) z TI TO i1 i2 a b 0 s1.heap := by rw [← hs1]; exact Z1
 rw [hs1] at L1
 clear Z1 Z L hs1 e
 obtain ⟨_, its, n, r, hl, e⟩ := L1.inv.lstM hSH
 have i0 : its = [] := ca (by rw [← hl]; rfl)
 subst i0
 have hT : s1.TypeIs (.ref z) "zip" := by rcases Z1'.st with ⟨_, _, q, _⟩ | ⟨_, _, _, q, _⟩ <;> exact ⟨_, q, rfl⟩
 unfold cf
 refine ac (wpAny_typeOf hT ?_)
 have h1 : dS (.ref S) (.ref z) = false := by simp [dS, aS (cS z (by simp))]
 have h2 : (Value.type "zip" == Value.type "list") = false := by decide
 have h3 : (Value.type "zip" == Value.type "tuple") = false := by decide
 simp only [h1, h2, h3, dP, bm, if_false]
 refine ac (zbU Z1'.st ?_)
 refine ac (bh ?_)
 unfold Builtin.List.listLengthHint
 refine ac (eF hT zeg ?_)
 show wpAny _ A.in1 (specialOf (Value.ref z) (av "__length_hint__") >>= _) _ _ _
 refine ac (eF hT zbT ?_)
 refine ao ?_
 show wpAny _ A.in1 (rule "list.extend.makes-room" >>= fun _ => Builtin.List.listTouch (.ref S) >>= fun _ =>
  again (.builtin "list.extend.loop" ⟨[.ref S, .ref z, .none], []⟩)) _ _ _
 refine ac (ft ?_)
 refine ac ?_
 show wpAny _ A.in1 (fY S (·.push .none) >>= fun _ => fY S (·.pop)) _ _ _
 refine ac (cG e rfl ?_)
 have hS₂ := bu (bQ (·.push Value.none)) e rfl
 refine cG (hz := by seq_fits) hS₂ rfl ?_
 have hS₃ := bu (bQ (·.pop)) hS₂ rfl
 obtain ⟨L2, Z2⟩ := mv s1 _ _ L1 Z1' (fun c o n e => (bq _ _ (aS n)).trans ((bq _ _ (aS n)).trans e)) hS₃ (by rw [dX, dX])
 exact ao ⟨plainId_quiet F.plain_extend_loop _, zgB hh D ha hb hn .none _ 0 _ _ _ rfl (bI _) L2 Z2 hR⟩
end
def zhA (K : ae) (ta : TA) : TE := fun σ H Q => ta σ H fun vs H1 => ∃ a b xs ys, vs = [.ref a, .ref b] /\ yl K H1 a xs /\ yl K H1 b ys /\
 ∀ (S : Addr) (zs : List V) (H2 : Hp), (∀ b o, H1 b = some o -> H2 b = some o) -> H2 S = none -> zs.length = min xs.length ys.length -> (∀ (j : Nat) (x y : V), xs[j]? = some x -> ys[j]? = some y -> ∃ T : Addr, zs[j]? = some (V.ref T) /\ H1 T = none /\ H2 T = some (.tup [x, y])) -> Q (.ref S) (zA H2 S (.lst zs))
theorem ziN {X : Cx} {e f : Expr} {p p2 pos pos2 : Pos} {ta : TA} (hc : X.calm = true) (hgl : Gl X "list") (hml : X.mg "list" = none) (hg : Gl X "zip") (hm : X.mg "zip" = none) (ha : PA X [e, f] ta) (hs : aj [e, f] X.env = (false, eval e X.env) :: aj [f] X.env := by kernel_rfl)
 (hp : (backTo pos2 (aj [f] X.env)).any (·.1) = false := by kernel_rfl) (hsl : aj [.Call (.Name "zip" p2) [e, f] [] pos2] X.env = [(false, eval (.Call (.Name "zip" p2) [e, f] [] pos2) X.env)] := by kernel_rfl) : PE X (.Call (.Name "list" p) [.Call (.Name "zip" p2) [e, f] [] pos2] [] pos) (zhA X.K ta) := by
 intro pins s σ H Q I h
 refine cI (QB (u := .type "list") I hgl hml (by kernel_rfl) ?_ (by decide) (by decide))
 refine bc (rest := []) ?_ hsl rfl
 rw [hsl]
 show wpAny _ _ (spliced ((false, eval (.Call (.Name "zip" p2) [e, f] [] pos2) X.env) :: backTo pos [])) _ _ s
 refine fi ?_
 refine Call_ (QB I hg hm (by rfl) (bc (zK (ha pos2 pins s σ H _ I h) fun us s1 ⟨vs, H1, I1, r1, q1⟩ => ?_) hs hp))
 obtain ⟨a, b, xs, ys, rfl, hx, hy, q⟩ := q1
 obtain ⟨u, u', rfl, ru, ru'⟩ := r1.two'
 cases ru
 cases ru'
 obtain ⟨is, rv, pl, hz1⟩ := I1.list hx
 obtain ⟨js, rw', ql, _⟩ := I1.list hy
 have hla : s1.heap.IsList a is.toArray := pl.isList
 have hlb : s1.heap.IsList b js.toArray := ql.isList
 refine call_zip_2 hla hlb fun h' hz hI hO h1 h2 hsz k => ?_
 have I2 : Inv X pins σ H1 { s1 with heap := h' } := I1.kept (t' := s1.toks) k
 have la : a < s1.heap.objs.size := let ⟨_, e, _⟩ := hla; ai e
 have lb : b < s1.heap.objs.size := let ⟨_, e, _⟩ := hlb; ai e
 have D := fL la lb
 refine fB ?_
 have hd : X.A.handled = none := I2.ok.hd hc
 refine callType_codes (Q₁ := fun obj s₁ => obj = .ref h'.objs.size /\ s₁ = { ({ s1 with heap := h' } : Shared) with heap := h'.push { cls := .type "list", data := .seq #[] } }) F.called_list (F.typeCall_list_1 _) F.entry_list_init (code_list_new _ ⟨rfl, rfl⟩) fun obj s₁ h₁ => ?_
 obtain ⟨rfl, rfl⟩ := h₁
 have hS : (h'.push { cls := .type "list", data := .seq #[] }).get? h'.objs.size = some { cls := .type "list", data := .seq #[] } := aE _ rfl
 have up : ∀ b o, h'.get? b = some o -> (h'.push { cls := .type "list", data := .seq #[] }).get? b = some o := fun b o e => am _ e
 have I3 : Inv X pins σ (zA H1 h'.objs.size (.lst [])) { s1 with heap := h'.push { cls := .type "list", data := .seq #[] }, toks := s1.toks } := I2.laid (t' := s1.toks) up (aC _) ⟨bI _, [], 0, .nil, hS⟩
 refine ⟨⟨_, hS, rfl⟩, F.args_list_init_2 _ _, zgC (A := X.A.in1) (a := a) (b := b) (xs := xs) (ys := ys) (H1 := H1) hd D hx hy (by omega) ⟨I3, fun _ _ e => e, I2.hok.fresh (aC _), rfl, fun j _ _ h => absurd h (Nat.not_lt_zero _)⟩
  ⟨.inl ⟨_, _, up _ _ hz, up _ _ hO⟩, up _ _ hI, let ⟨o, e, r⟩ := h1; ⟨o, up _ _ e, r⟩, let ⟨o, e, r⟩ := h2; ⟨o, up _ _ e, r⟩, ai (up _ _ hO), fun c hc => ?_⟩ fun s' H2' zs' L => ?_⟩
 · have le : s1.heap.objs.size <= c /\ c < s1.heap.objs.size + 5 := by
    simp only [ak, ax, or_false] at hc
    rcases hc with rfl | rfl | rfl | rfl | rfl
    · exact ⟨cV _ 4, cv (by decide) _⟩
    · exact ⟨cV _ 3, cv (by decide) _⟩
    · exact ⟨aC _, Nat.lt_add_of_pos_right (by decide)⟩
    · exact ⟨cV _ 1, cv (by decide) _⟩
    · exact ⟨cV _ 2, cv (by decide) _⟩
   refine I1.fpOk le.1 ?_
   rw [zp (by rw [hsz]; exact aM le.2)]
   exact I1.hok.fresh le.1
 · refine ⟨rfl, .ref h'.objs.size, _, L.inv, rfl, q _ _ H2' L.same L.no L.len fun j x y ex ey => ?_⟩
   exact L.at_ j x y (by
    have := (ay.mp ex).1
    have := (ay.mp ey).1
    omega) ex ey
end L2
namespace M
open PySem L2
section
variable {Γ : Cn} {pn : List Nat} {X : Cx} {cls : Nat -> Option Addr} {a b c e : Expr} {pos p p2 pos2 : Pos} {x : Str} {z : Nat -> Env -> Prop}
def zad (m : MA) : ME := fun ρ q => m ρ fun ds ρ' => yY (fun l => q (.lst l) ρ') (Vi ds)
def zae (g : G (List D)) : G D := fun ρ => (g ρ).bind fun ds ρ' => yi ((Vi ds).map D.lst) ρ'
instance {m : MA} {g : G (List D)} [Ag z m g] : Ag z (zad m) (zae g) := ⟨fun ρ q h => by
 unfold zae at h
 unfold zad
 exact Ag.step h fun ds _ h => by
  have h := yB h
  cases e : Vi ds with
  | none => rw [e] at h; exact h
  | some l => rw [e] at h; exact h⟩
theorem ziO {t : TA} {m : MA} (h : JA Γ pn t m) : JF Γ pn (zhA Γ.K t) (zad m) := fun S σ ρ H τ Q q hp R hm hq =>
 h S σ ρ H τ _ _ hp R hm fun vs ds H1 ρ1 R1 r1 q1 => by
  unfold Vi at q1
  split at q1
  · rename_i ss ds
    match vs, r1 with
    | [], r1 => have h := r1.1; simp at h
    | [_], r1 => have h := r1.1; simp at h
    | _ :: _ :: _ :: _, r1 => have h := r1.1; simp at h
    | [v, u], r1 =>
     have r0 := r1.head
     have rt := r1.tail.head
     obtain ⟨a, xs, rfl, ha, ra⟩ := r0.list
     obtain ⟨b, ys, rfl, hb, rs⟩ := rt.list
     refine ⟨a, b, xs, ys, rfl, .inl (.inl ha), .inl (.inl hb), fun Sp zs H2 g hno hlen hat => ?_⟩
     have R2 := R1.grow g
     have l1 := ra.1
     have l2 := rs.1
     have rz : Reps Γ (zr S σ ρ1) H2 zs (jA ss ds) := by
      refine ⟨by unfold jA; rw [hlen, aA, cD, l1, l2], fun i v d h1 h2 => ?_⟩
      unfold jA at h2
      rw [ar] at h2
      cases e : (ss.zip ds)[i]? with
      | none => rw [e] at h2; cases h2
      | some w =>
       rw [e] at h2
       cases h2
       obtain ⟨e1, e2⟩ := bN.mp e
       have i1 := (ay.mp e1).1
       have i2 := (ay.mp e2).1
       have g1 : xs[i]? = some (xs[i]'(by omega)) := ab _
       have g2 : ys[i]? = some (ys[i]'(by omega)) := ab _
       obtain ⟨T, t1, t2, t3⟩ := hat i _ _ g1 g2
       rw [t1] at h1
       cases h1
       have k1 : Rep Γ (zr S σ ρ1) H2 (xs[i]'(by omega)) w.1 := (ra.2 i _ _ g1 e1).up (fun _ _ z => z) fun b o _ q => g b o q
       have k2 : Rep Γ (zr S σ ρ1) H2 (ys[i]'(by omega)) w.2 := (rs.2 i _ _ g2 e2).up (fun _ _ z => z) fun b o _ q => g b o q
       have rr : Reps Γ (zr S σ ρ1) H2 [xs[i]'(by omega), ys[i]'(by omega)] [w.1, w.2] := .cons k1 (.cons k2 .nil)
       exact .tup (fun z => yz R1 z t2) t3 rr.1 rr.2
     obtain ⟨a1, b1, c1, d1⟩ := jK R2 rz hno
     exact hq Sp _ _ ρ1 a1 b1 c1 d1 q1
  · exact aa q1
theorem ziP {m : MA} (hc : X.calm = true) (hgl : Gl X "list") (hml : X.mg "list" = none) (hg : Gl X "zip") (hm : X.mg "zip" = none) (h : DA X cls pn [a, b] m) (hs : aj [a, b] X.env = (false, eval a X.env) :: aj [b] X.env := by kernel_rfl)
 (hp : (backTo pos2 (aj [b] X.env)).any (·.1) = false := by kernel_rfl) (hsl : aj [.Call (.Name "zip" p2) [a, b] [] pos2] X.env = [(false, eval (.Call (.Name "zip" p2) [a, b] [] pos2) X.env)] := by kernel_rfl) : DF X cls pn (.Call (.Name "list" p) [.Call (.Name "zip" p2) [a, b] [] pos2] [] pos) (zad m) :=
 let ⟨_, c, d⟩ := h.h; ⟨_, ziN hc hgl hml hg hm c hs hp hsl, ziO d⟩
end
end M
namespace L2
open PySem PySem.Spec PyProof.Rows
def Wd (K : ae) (H : Hp) (v : V) : Prop := v = .non \/ (∃ t, v = .str t) \/ ∃ a ts, v = .ref a /\ SqT K H a ts
def isN : V -> Bool | .non => true | _ => false
def zk3 (K : ae) : R2 := fun x y H Q => ∃ p xs, x = .non /\ y = .ref p /\ yl K H p xs /\ (∀ v ∈ xs, Wd K H v) /\ Q (.bl (xs.any isN)) H
theorem Ri {X : Cx} {pins : List (Addr × Obj)} {σ : St} {H : Hp} {s : Shared} (hu : X.A.units + 41 < cLine) (I : Inv X pins σ H s) : ∀ {xs : List V} {us : List Value}, Vals xs us -> (∀ v ∈ xs, Wd X.K H v) -> (∀ u ∈ us, cU X.A.in1 s u .none (Jl .non u)) /\ us.any (Jl .non) = xs.any isN
 | _, _, .nil, _ => ⟨fun u hu => (by cases hu), rfl⟩
 | y :: xs, u :: us, .cons r t, h => by
  obtain ⟨i1, i2⟩ := Ri hu I t fun v hv => h v (aw _ hv)
  have key : cU X.A.in1 s u .none (Jl .non u) /\ Jl .non u = isN y := by
   rcases h y aq with rfl | ⟨z, rfl⟩ | ⟨a, ts, rfl, ht⟩
   · cases r; exact ⟨zav (x := .non) (y := .non) rfl rfl rfl rfl, rfl⟩
   · obtain ⟨k, rfl⟩ := r; exact ⟨eT z k, rfl⟩
   · cases r
     obtain ⟨its, _, pl, _⟩ := I.tuple ht
     exact ⟨cU.tuple_none (show s.heap.IsTuple a its.toArray from pl) (show X.A.units + 1 < cLine by omega), rfl⟩
  refine ⟨fun u' hu' => ?_, by rw [bJ, bJ, key.2, i2]⟩
  rcases ak.mp hu' with rfl | hu'
  · exact key.1
  · exact i1 u' hu'
theorem zk4 {X : Cx} (hu : X.A.units + 41 < cLine) : yr X (aT .In) (zk3 X.K) := by
 intro pins s σ H x y v u Q I rx ry h
 obtain ⟨p, xs, rfl, rfl, hq, hn, q⟩ := h
 cases rx
 cases ry
 obtain ⟨its, r, pl, hz⟩ := I.list hq
 obtain ⟨k1, k2⟩ := Ri hu I r hn
 refine gh (Jl .non) pl.isList (fun w hw => k1 w (by simpa using hw)) ⟨.bl _, H, I, rfl, ?_⟩
 rw [show its.toArray.any (Jl .non) = its.any (Jl .non) by simp, k2]
 exact q
end L2
namespace M
open PySem L2
section
variable {Γ : Cn}
def nOr : D -> Bool | .non => true | .str _ => true | .tup _ => true | _ => false
def WM : D -> Bool | .non => true | _ => false
def WN (x y : D) : Option D := match x, y with | .non, .lst ds => if ds.all nOr = true then some (.bl (ds.any WM)) else none | _, _ => none
def zgD : F2 := fun x y q => yY q (WN x y)
instance : z3 zgD WN := ⟨fun _ _ _ h => h⟩
theorem zbp {E : Addr -> Prop} {H : Hp} : ∀ {xs : List V} {ds : List D}, Reps Γ E H xs ds -> ds.all nOr = true -> (∀ v ∈ xs, Wd Γ.K H v) /\ xs.any isN = ds.any WM
 | [], [], _, _ => ⟨fun v h => (by cases h), rfl⟩
 | [], _ :: _, r, _ => by have := r.1; simp at this
 | _ :: _, [], r, _ => by have := r.1; simp at this
 | v :: xs, d :: ds, r, h => by
  rw [bx, aD] at h
  obtain ⟨i1, i2⟩ := zbp r.tail h.2
  have rh := r.head
  have key : Wd Γ.K H v /\ isN v = WM d := by
   cases d with
   | non => cases rh; exact ⟨.inl rfl, rfl⟩
   | str t => cases rh; exact ⟨.inr (.inl ⟨t, rfl⟩), rfl⟩
   | tup ts =>
    obtain ⟨a, zs, rfl, ht, _⟩ := rh.tuple
    exact ⟨.inr (.inr ⟨a, zs, rfl, SqT.of ht⟩), rfl⟩
   | _ => exact absurd h.1 (by simp [nOr])
  refine ⟨fun w hw => ?_, by rw [bJ, bJ, key.2, i2]⟩
  rcases ak.mp hw with rfl | hw
  · exact key.1
  · exact i1 w hw
theorem zk5 : yj Γ (zk3 Γ.K) zgD := fun E H x y dx dy Q q _ rx ry h k => by
 unfold zgD WN at h
 split at h
 · split at h
   · rename_i c
     obtain ⟨a, xs, rfl, ha, rs⟩ := ry
     obtain ⟨k1, k2⟩ := zbp rs c
     rw [zt rx rfl]
     exact ⟨a, xs, rfl, rfl, .inl (.inl ha), k1, by rw [k2]; exact k _ _ H (Same.refl H) (.bl _) h⟩
   · exact aa h
 · exact aa h
end
def ZO : G End := (zI (zF j8 (gO (zQ (QZ (ze 0)) [none] (zm 0) yb (jD y4 y4 (gC (.str "a")) (ze 0) (gC (.str "z")))))))
def Uf : G End := (zo (zR (JM (y6 (gB (zi yp (zj 0) (gO (gC (.ty "str")))))) (y6 (gB (jD Rb Rb (gC (.int 1)) (zF yM (zj 0)) (gC (.int 8))))))
 (zI (gC (.bl false)))
 zO)
 ZO)
def zT : Fn := yf [] 1 0 false Uf
def Qc : G End := (zI (Jf (zF j8 (gO (zQ (QZ (ze 0)) [none] (zm 0) yb (jD y4 y4 (gC (.str "0")) (ze 0) (gC (.str "9")))))) (WE (zi jx (zj 0) (gO (gC (.str "0")))) (zi J4 (gO (zi zH (zj 0) (gO (gC (.int 0))))) (gO (gC (.str "0")))))))
def Zp : G End := (zo (zR (JM (y6 (gB (zi yp (zj 0) (gO (gC (.ty "str")))))) (y6 (gB (jD Rb Rb (gC (.int 1)) (zF yM (zj 0)) (gC (.int 10))))))
 (zI (gC (.bl false)))
 zO)
 Qc)
def jF : Fn := yf [] 1 0 false Zp
def Qd : G End := (zI (WE (zz jF (gCons (ze 1) gNil)) (Jf (zi jx (zj 0) (gO (gC (.str "value")))) (zi jx (zj 1) (gO (gC (.str "-")))))))
def Qe : G End := (zo (zR (gB (zi jx (zj 0) (gO (gC (.str "truth")))))
 (zI (zi (QV false) (zj 1) (gO (gTup (gCons (gC (.str "yes")) (gCons (gC (.str "no")) gNil))))))
 zO)
 Qd)
def Qf : G End := (zo (zR (gB (zi jx (zj 0) (gO (gC (.str "heard")))))
 (zI (zi (QV false) (zj 1) (gO (gC (.kt ["idle", "strange", "elder", "false", "over", "twice", "done", "never", "no", "ok"])))))
 zO)
 Qe)
def Zq : G End := (zo (zR (gB (zi jx (zj 0) (gO (gC (.str "name")))))
 (zI (zz zT (gCons (ze 1) gNil)))
 zO)
 Qf)
def yE : Fn := yf [] 2 0 false Zq
def ZD : G End := (zI (YW (gB (zi jx (zj 1) (gO (gC (.str "-"))))) (gC .non) (zF UK (zj 1))))
def Rj : G End := (zo (zR (gB (zi jx (zj 0) (gO (gC (.str "truth")))))
 (zI (zi jx (zj 1) (gO (gC (.str "yes")))))
 zO)
 ZD)
def zc3 : G End := (zo (zR (gB (zi (QV false) (zj 0) (gO (gTup (gCons (gC (.str "name")) (gCons (gC (.str "heard")) gNil))))))
 (zI (ze 1))
 zO)
 Rj)
def Qg : Fn := yf [] 2 0 false zc3
def Qh : G End := (zo (zR (gB (zi (QV false) (gO (gC (.str "names"))) (zj 0)))
 (jP (Qz yI 5 (zF Z8 (zj 3))))
 zO)
 (zI (Yy 5)))
def Yb : G End := (zo (yJ 5 (zQ (z9 (ze 4)) [none, none] (jq (zY (zm 0) (zY (zm 1) jz)) 2) yb (zz Qg (gCons (ze 0) (gCons (ze 1) gNil)))))
 Qh)
def Yc : G End := (zo (zR (JM (y6 (gB (zF j8 (gO (zQ (z9 (ze 4)) [none, none] (jq (zY (zm 0) (zY (zm 1) jz)) 2) yb (zz yE (gCons (ze 0) (gCons (ze 1) gNil)))))))) (y6 (gB (zF j8 (gO (zQ (z9 (ze 3)) [none] (zm 0) yb (zz zT (gCons (ze 0) gNil))))))))
 (zI (gC .non))
 zO)
 Yb)
def Yd : G End := (zo (yk 4 (zae (gCons (ze 2) (gCons (ze 1) gNil))))
 Yc)
def Ye : G End := (zo (zR (JM (gB (zi hLt (gO (zF yM (zj 1))) (gO (zF yM (zj 2))))) (Yz (QO (zj 3)) (gB (zi (QV true) (gO (gC (.str "names"))) (zj 0)))))
 (zI (gC .non))
 zO)
 Yd)
def Yf : G End := (zo (yk 3 (QP (zj 1) (Jg (zF yM (zj 2))) jE))
 Ye)
def Ug : G End := (zo (yk 2 (zQ (zef (ze 0)) [none] (zm 0) (gB (zi J4 (zj 0) (gO (gC (.str "names"))))) (ze 0)))
 Yf)
def Ja : Fn := yf [] 2 4 false Ug
def JY : G End := (zI (YW (gB (zi Ua (zj 2) (gO (gC .non)))) (gC .non) (zF Z8 (gO (Qb Yx (gO (yZ (gCons (zi zH (zj 1) (gO (gC (.int 0)))) gNil))) (zj 2))))))
def Uh : G End := (zo (yk 2 (zz Ja (gCons (zi YG (gO (gC (.kd [("begin", ["number", "number", "names"]), ("hear", ["number", "name", "number", "value", "number", "number", "heard"]), ("wake", ["number", "names"]), ("off", ["number", "truth"])]))) (gO (zi zH (zj 1) (gO (gC (.int 0)))))) (gCons (QP (zj 1) (Jg (gC (.int 1))) jE) gNil))))
 JY)
def Ui : G End := (zo (zR (gB (zi (YF true) (gO (zi zH (zj 1) (gO (gC (.int 0))))) (gO (gC (.kd [("begin", ["number", "number", "names"]), ("hear", ["number", "name", "number", "value", "number", "number", "heard"]), ("wake", ["number", "names"]), ("off", ["number", "truth"])])))))
 (zI (gC .non))
 zO)
 Uh)
def We : G End := (zo (yk 1 (Qx (j9 " ") (zj 0)))
 Ui)
def jQ : Fn := yf [] 1 2 false We
def QR : G End := (zR (gB (zi WN (gO (gC .non)) (zj 0)))
 V0
 zO)
def yq : Fn := yf [] 1 0 false QR
def YY : G End := (zo (yJ 1 (YW (QO (zj 0)) (zQ (z9 (Qx (j9 "\n") (zj 0))) [none] (zm 0) yb (zz jQ (gCons (ze 0) gNil))) (yZ gNil)))
 (zo (jP (Zn 1 yq))
 (WL 1)))
def UR : G End := (zo (zR (y6 (gB (zi yp (zj 0) (gO (gC (.ty "str"))))))
 V0
 zO)
 YY)
def yQ : Fn := yf [] 1 1 true UR
def Vj : G End := (zI (yZ (gCons (zi zH (gO (yZ (gCons (gC (.int 0)) (gCons (ze 0) gNil)))) (gO (zF zaZ (gO (zi hGe (zj 0) (gO (zi WC (gO (gC (.int 10))) (gO (gC (.int 18)))))))))) (gCons (zi ZK (zj 0) (gO (gC (.int 2147483629)))) (gCons (gC (.int 0)) gNil)))))
def Jz : Fn := yf [] 1 0 true Vj
def ZP : G End := (zo (zR (gB (zi hLt (zj 1) (gO (zF yM (zj 0)))))
 (zI (zi zH (zj 0) (zj 1)))
 zO)
 (zI (gC (.int 0))))
def jv : Fn := yf [] 2 0 false ZP
def YI : G End := (zo (Zm 0 (gC (.int 0)) (zi JX (gO (zi zH (zj 0) (gO (gC (.int 0))))) (zj 1)))
 (zI (ze 2)))
def YJ : G End := (zI (zi ZK (gO (zi ZK (gO (zi Yv (zj 3) (gO (zi Jn (gO (zi JX (zj 3) (gO (gC (.int 2003))))) (gO (gC (.int 40692))))))) (gO (gC (.int 2147483399))))) (zj 1)))
def YK : G End := (zo (yk 3 (zi ZK (gO (zi Yv (zj 3) (gO (zi Jn (gO (zi JX (zj 3) (gO (gC (.int 1009))))) (gO (gC (.int 69621))))))) (gO (gC (.int 2147483647)))))
 YJ)
def YL : G End := (zo (yk 3 (zi ZK (gO (zi Yv (gO (zi Jn (gO (zi Jn (gO (zi zH (zj 0) (gO (gC (.int 1))))) (gO (zi Yv (gO (gC (.int 7919))) (gO (zi zH (zj 0) (gO (gC (.int 2))))))))) (gO (gC (.int 1))))) (gO (gC (.int 48271))))) (gO (gC (.int 2147483647)))))
 YK)
def YM : G End := (zo (Zm 0 (gC (.int 2)) (zi Jn (gO (zi zH (zj 0) (gO (gC (.int 2))))) (gO (gC (.int 1)))))
 YL)
def Vk : G End := (zo (zR (gB (zi hGt (gO (zi zH (zj 0) (gO (gC (.int 0))))) (gO (gC (.int 0)))))
 (zo (yk 2 (zi ZK (gO (zi zH (zj 0) (gO (gC (.int 0))))) (zj 1)))
 YI)
  zO)
 YM)
def zG : Fn := yf [0] 2 2 false Vk
def YN : G End := (zI (zi zH (gO (yZ (gCons (gC (.int 0)) (gCons (zE 0 zG (gCons (gC (.int 10)) gNil)) (gCons (zE 0 zG (gCons (zi WC (gO (gC (.int 10))) (gO (gC (.int 9)))) gNil)) (gCons (zi zdV (gO (zi WC (gO (gC (.int 10))) (gO (gC (.int 9))))) (gO (gC (.int 1)))) gNil)))))) (gO (zE 0 zG (gCons (gC (.int 4)) gNil)))))
def yn : Fn := yf [0] 1 0 false YN
def Q2 : G End := (yk 3 (zi Yw (zj 3) (gO (zi zH (zj 2) (gO (zE 0 zG (gCons (gC (.int 26)) gNil)))))))
def YO : G End := (zI (zi Yw (zj 3) (gO (zi zH (zj 2) (gO (zi ZK (zj 1) (gO (gC (.int 26)))))))))
def YQ : G End := (zo (ZN (yC (gCons (zE 0 zG (gCons (gC (.int 8)) gNil)) gNil)) (zm 4)
 Q2)
 YO)
def Vl : G End := (zo (yk 2 (gC (.str "abcdefghijklmnopqrstuvwxyz")))
 (zo (yk 3 (gC (.str "")))
 YQ))
def jR : Fn := yf [0] 2 3 false Vl
def j3 : G End := (zR (gB (zi jx (gO (zE 0 zG (gCons (gC (.int 4)) gNil))) (gO (gC (.int 0)))))
 (jP (Qz yI 1 (zi zH (zj 1) (gO (gC (.int 0))))))
 zO)
def jr : G End := (zo (jP (Qz yI 1 (zE 0 jR (gCons (zE 0 zG (gCons (gC (.int 26)) gNil)) gNil))))
 j3)
def JZ : G End := (zo (ZN (yC (gCons (zE 0 zG (gCons (gC (.int 4)) gNil)) gNil)) (zm 2)
 jr)
 (zI (zF Z8 (zj 1))))
def QS : G End := (zo (yJ 1 (yZ gNil))
 JZ)
def y0 : Fn := yf [0] 1 2 false QS
def Qi : G End := (zI (gTup (gCons (gC (.str "hear")) (gCons (ze 2) (gCons (ze 5) (gCons (zi zH (zj 6) (gO (gC (.int 0)))) (gCons (ze 3) (gCons (zi zH (zj 6) (gO (gC (.int 1)))) (gCons (zi zH (zj 6) (gO (gC (.int 2)))) (gCons (ze 7) gNil))))))))))
def Qj : G End := (zo (yk 7 (zi zH (zj 4) (gO (zE 0 zG (gCons (gC (.int 10)) gNil)))))
 Qi)
def Qk : G End := (zo (yk 6 (zQ (yC (gCons (gC (.int 3)) gNil)) [none, some 0] (zm 0) yb (zE 1 yn gNil)))
 Qj)
def Ql : G End := (zo (yk 5 (zi zH (gO (yZ (gCons (zE 0 jR (gCons (zE 0 zG (gCons (gC (.int 26)) gNil)) gNil)) (gCons (zi zH (zj 4) (gO (zE 0 zG (gCons (gC (.int 10)) gNil)))) gNil)))) (gO (zE 0 zG (gCons (gC (.int 2)) gNil)))))
 Qk)
def Qm : G End := (zo (yk 4 (yZ (VX ["idle", "strange", "elder", "false", "over", "twice", "done", "never", "no", "ok"])))
 Ql)
def Qn : G End := (zo (yk 3 (zi zH (gO (yZ (gCons (gC .non) (gCons (zE 0 yn gNil) gNil)))) (gO (zE 0 zG (gCons (gC (.int 2)) gNil)))))
 Qm)
def Jh : G End := (zo (zR (gB (zi jx (zj 1) (gO (gC (.int 2)))))
 (zI (gTup (gCons (gC (.str "off")) (gCons (ze 2) (gCons (zi jx (gO (zE 0 zG (gCons (gC (.int 2)) gNil))) (gO (gC (.int 1)))) gNil)))))
 zO)
 Qn)
def jG : G End := (zo (zR (gB (zi jx (zj 1) (gO (gC (.int 1)))))
 (zI (gTup (gCons (gC (.str "wake")) (gCons (ze 2) (gCons (zE 0 y0 gNil) gNil)))))
 zO)
 Jh)
def yv : G End := (zo (zR (gB (zi jx (zj 1) (gO (gC (.int 0)))))
 (zI (gTup (gCons (gC (.str "begin")) (gCons (ze 2) (gCons (zE 0 yn gNil) (gCons (zE 0 y0 gNil) gNil))))))
 zO)
 jG)
def Zr : G End := (zo (yk 1 (zE 0 zG (gCons (gC (.int 5)) gNil)))
 (zo (yk 2 (zE 0 yn gNil))
 yv))
def yW : Fn := yf [0] 1 7 false Zr
def J0 : G End := (zI (yZ (gCons (gC (.str "hear")) (gCons (zF jY (gO (zi zH (zj 0) (gO (gC (.int 1)))))) (gCons (zi zH (zj 0) (gO (gC (.int 2)))) (gCons (zF jY (gO (zi zH (zj 0) (gO (gC (.int 3)))))) (gCons (ze 1) (gCons (zF jY (gO (zi zH (zj 0) (gO (gC (.int 5)))))) (gCons (zF jY (gO (zi zH (zj 0) (gO (gC (.int 6)))))) (gCons (zi zH (zj 0) (gO (gC (.int 7)))) gNil))))))))))
def J1 : G End := (zo (zR (gB (zi RZ (gO (zi zH (zj 0) (gO (gC (.int 4))))) (gO (gC .non))))
 (yk 1 (zF jY (gO (zi zH (zj 0) (gO (gC (.int 4)))))))
 zO)
 J0)
def j4 : G End := (zo (zR (gB (zi jx (gO (zi zH (zj 0) (gO (gC (.int 0))))) (gO (gC (.str "off")))))
 (zI (yZ (gCons (zi zH (zj 0) (gO (gC (.int 0)))) (gCons (zF jY (gO (zi zH (zj 0) (gO (gC (.int 1)))))) (gCons (zi zH (gO (yZ (gCons (gC (.str "no")) (gCons (gC (.str "yes")) gNil)))) (gO (zF zaZ (gO (zi zH (zj 0) (gO (gC (.int 2)))))))) gNil)))))
 zO)
 (zo (yk 1 (gC (.str "-")))
 J1))
def jt : G End := (zo (zR (gB (zi jx (gO (zi zH (zj 0) (gO (gC (.int 0))))) (gO (gC (.str "wake")))))
 (zI (Qb Yx (gO (yZ (gCons (zi zH (zj 0) (gO (gC (.int 0)))) (gCons (zF jY (gO (zi zH (zj 0) (gO (gC (.int 1)))))) gNil)))) (gO (Qx VW (gO (zi zH (zj 0) (gO (gC (.int 2)))))))))
 zO)
 j4)
def jj : G End := (zo (zR (gB (zi jx (gO (zi zH (zj 0) (gO (gC (.int 0))))) (gO (gC (.str "begin")))))
 (zI (Qb Yx (gO (yZ (gCons (zi zH (zj 0) (gO (gC (.int 0)))) (gCons (zF jY (gO (zi zH (zj 0) (gO (gC (.int 1)))))) (gCons (zF jY (gO (zi zH (zj 0) (gO (gC (.int 2)))))) gNil))))) (gO (Qx VW (gO (zi zH (zj 0) (gO (gC (.int 3)))))))))
 zO)
 jt)
def zX : Fn := yf [] 1 1 false jj
def ZQ : G End := (zI (Jf (zi yp (zj 0) (gO (gC (.ty "tuple")))) (zF j8 (gO (zQ (Q1 (ze 0)) [none] (zm 0) yb (zz zT (gCons (ze 0) gNil)))))))
def Ju : Fn := yf [] 1 0 false ZQ
def YR : G End := (zI (Jf (zi yp (zj 0) (gO (gC (.ty "int")))) (VY (zi yp (zj 0) (gO (gC (.ty "bool")))))))
def Ji : Fn := yf [] 1 0 false YR
def JB : G End := (zI (Jf (zz Ji (gCons (ze 0) gNil)) (zi hGe (zj 0) (gO (gC (.int 0))))))
def yu : Fn := yf [] 1 0 false JB
def Zs : G End := (zI (Jf (zz yu (gCons (ze 1) gNil)) (zi Rb (zj 1) (gO (gC (.int 9999999999))))))
def J2 : G End := (zo (zR (gB (zi Ua (zj 1) (gO (gC .non))))
 (zI (zi jx (zj 0) (gO (gC (.str "value")))))
 zO)
 Zs)
def Jb : G End := (zo (zR (gB (zi jx (zj 0) (gO (gC (.str "truth")))))
 (zI (zi yp (zj 1) (gO (gC (.ty "bool")))))
 zO)
 J2)
def jH : G End := (zo (zR (gB (zi jx (zj 0) (gO (gC (.str "heard")))))
 (zI (Jf (zi yp (zj 1) (gO (gC (.ty "str")))) (zi (QV false) (zj 1) (gO (gC (.kt ["idle", "strange", "elder", "false", "over", "twice", "done", "never", "no", "ok"]))))))
 zO)
 Jb)
def jS : G End := (zo (zR (gB (zi jx (zj 0) (gO (gC (.str "name")))))
 (zI (zz zT (gCons (ze 1) gNil)))
 zO)
 jH)
def yF : Fn := yf [] 2 0 false jS
def QK : G End := (zo (zR (gB (zi yp (zj 0) (gO (gC (.ty "bool")))))
 (zI (YW (QO (zj 0)) (gC (.str "yes")) (gC (.str "no"))))
 zO)
 (zI (zF jY (zj 0))))
def Za : G End := (zo (zR (gB (zi Ua (zj 0) (gO (gC .non))))
 (zI (gC (.str "-")))
 zO)
 QK)
def jI : Fn := yf [] 1 0 false Za
def jJ : G End := (zR (Yz (gB (zi jx (zj 3) (gO (gC (.str "names"))))) (gB (zz Ju (gCons (ze 4) gNil))))
 (jP (Qz V8 2 (ze 4)))
 (zR (Yz (gB (zi J4 (zj 3) (gO (gC (.str "names"))))) (gB (zz yF (gCons (ze 3) (gCons (ze 4) gNil)))))
 (jP (Qz yI 2 (zz jI (gCons (ze 4) gNil))))
 (zI (gC .non))))
def Qo : G End := (zo (ZN (zaa (gCons (ze 0) (gCons (ze 1) gNil))) (jq (zY (zm 3) (zY (zm 4) jz)) 2)
 jJ)
 (zI (Yy 2)))
def Zt : G End := (zo (zR (gB (zi J4 (gO (zF yM (zj 1))) (gO (zF yM (zj 0)))))
 (zI (gC .non))
 zO)
 (zo (yJ 2 (yZ gNil))
 Qo))
def Jc : Fn := yf [] 2 3 false Zt
def Zu : G End := (zI (YW (gB (zi Ua (zj 1) (gO (gC .non)))) (gC .non) (jf (gC (.str " ")) (gO (Qb Yx (gO (yZ (gCons (zi zH (zj 0) (gO (gC (.int 0)))) gNil))) (zj 1))))))
def Zv : G End := (zo (yk 1 (zz Jc (gCons (zi YG (gO (gC (.kd [("begin", ["number", "number", "names"]), ("hear", ["number", "name", "number", "value", "number", "number", "heard"]), ("wake", ["number", "names"]), ("off", ["number", "truth"])]))) (gO (zi zH (zj 0) (gO (gC (.int 0)))))) (gCons (zeb (zj 0) (Jg (gC (.int 1))) jE) gNil))))
 Zu)
def YS : G End := (zo (zR (JM (y6 (gB (zi yp (zj 0) (gO (gC (.ty "tuple")))))) (JM (y6 (QO (zj 0))) (JM (y6 (gB (zi yp (gO (zi zH (zj 0) (gO (gC (.int 0))))) (gO (gC (.ty "str")))))) (gB (zi (YF true) (gO (zi zH (zj 0) (gO (gC (.int 0))))) (gO (gC (.kd [("begin", ["number", "number", "names"]), ("hear", ["number", "name", "number", "value", "number", "number", "heard"]), ("wake", ["number", "names"]), ("off", ["number", "truth"])]))))))))
 (zI (gC .non))
 zO)
 Zv)
def jT : Fn := yf [] 1 1 false YS
def QT : G End := (zo (jP (zz yq (gCons (ze 1) gNil)))
 (zI (jf (gC (.str "\n")) (zj 1))))
def QU : G End := (zo (yk 1 (zQ (z9 (ze 0)) [none] (zm 0) yb (zz jT (gCons (ze 0) gNil))))
 QT)
def ZR : G End := (zo (zR (y6 (gB (zi yp (zj 0) (gO (gC (.ty "list"))))))
 V0
 zO)
 QU)
def jw : Fn := yf [] 1 1 false ZR
def Qp : G End := (zI (zi (QN false) (gO (zQ (Q1 (ze 0)) [none] (zm 0) yb (zi yp (zj 0) (gO (gC (.ty "bool")))))) (gO (zQ (Q1 (ze 1)) [none] (zm 0) yb (zi yp (zj 0) (gO (gC (.ty "bool"))))))))
def Zw : G End := (zo (zR (JM (y6 (gB (zi yp (zj 0) (gO (gC (.ty "tuple")))))) (gB (zi (QN true) (zj 0) (zj 1))))
 (zI (gC (.bl false)))
 zO)
 Qp)
def yX : Fn := yf [] 2 0 false Zw
def ZS : G End := (yk 3 (QP (gO (Qb Vh (zj 3) (gO (gC (.int 900))))) jE (Jg (zi JX (gO (gC (.int 5990))) (gO (zi Jn (zj 4) (gO (gC (.int 1)))))))))
def US : G End := (zR (gB (zi (QN true) (gO (zz yQ (gCons (ze 5) gNil))) (zj 3)))
 (zI (gC (.bl false)))
 zO)
def UT : G End := (zo (jP (Qz yI 6 (zi zH (zj 3) (gO (gC (.int 0))))))
 (zo (Zm 6 (gC (.int 0)) (gC .non))
 US))
def UU : G End := (zo (zR (y6 (gB (zbn (zF j8 (gO (zQ (Ue (gCons (Yy 6) (gCons (ze 3) gNil))) [none, none] (jq (zY (zm 0) (zY (zm 1) jz)) 2) yb (zz yX (gCons (ze 0) (gCons (ze 1) gNil)))))))))
 (zI (gC (.bl false)))
 zO)
 UT)
def UV : G End := (zo (zR (JM (y6 (gB (zi yp (zj 6) (gO (gC (.ty "list")))))) (JM (gB (zi J4 (gO (zF yM (zj 6))) (gO (zF yM (zj 3))))) (gB (zi J4 (gO (Zn 6 jw)) (zj 5)))))
 (zI (gC (.bl false)))
 zO)
 UU)
def UW : G End := (zo (yJ 6 (zz yQ (gCons (ze 5) gNil)))
 UV)
def ZT : G End := (zo (yk 5 (jf (gC (.str "\n")) (gO (zQ (z9 (ze 3)) [none] (zm 0) yb (jf (gC (.str " ")) (gO (zz zX (gCons (ze 0) gNil))))))))
 UW)
def UX : G End := (zo (zR (gB (zi jx (gO (zE 2 zG (gCons (gC (.int 4)) gNil))) (gO (gC (.int 0)))))
 (zo (yk 4 (zF V3 (gO (zQ (z9 (ze 3)) [none] (zm 0) yb (zF yM (gO (jf (gC (.str " ")) (gO (zz zX (gCons (ze 0) gNil))))))))))
 ZS)
  zO)
 ZT)
def UY : G End := (zo (yk 3 (zQ (yC (gCons (zi Jn (gO (gC (.int 1))) (gO (zE 2 zG (gCons (gC (.int 9)) gNil)))) gNil)) [none, some 2] (zm 0) yb (zE 1 yW gNil)))
 UX)
def J3 : G End := (zo (yJ 2 (zz Jz (gCons (zi Jn (gO (zz jv (gCons (ze 0) (gCons (ze 1) gNil)))) (gO (zi Yv (gO (gC (.int 7))) (zj 1)))) gNil)))
 UY)
def Uj : G End := (zo (ZN (yC (gCons (zi VU (gO (gC (.int 1))) (gO (zi VV (gO (gC (.int 6))) (gO (zF yM (zj 0)))))) gNil)) (zm 1)
 J3)
 (zI (gC (.bl true))))
def Rk : G End := (zo (zR (gB (zi (QN true) (gO (zz yQ (gCons (gC (.str "")) gNil))) (gO (yZ gNil))))
 (zI (gC (.bl false)))
 zO)
 Uj)
def Rl : Fn := yf [] 1 6 false Rk
theorem zbq : jm ρ none s = ρ := by cases s <;> rfl
theorem Wf : jm ρ (some j) (.own o) = j6 ρ j o := rfl
theorem Wg : jm ρ x (.val d) = ρ := by cases x <;> rfl
theorem Rm : jm ρ x .no = ρ := by cases x <;> rfl
theorem Wh : zS [] ρb ρ = ρ := rfl
theorem UZ : zS (x :: js) (s :: ρb) ρ = zS js ρb (jm ρ x s) := rfl
local macro_rules | `(tactic| walk_at "gs") => `(tactic| simp only [yf, eq_self, zo, zR, yk, yJ, zI, jP, zO, gC, ze, Yy, zj, gO, zi, zF, Qb, Qx, gCons, gNil, VX, yZ, gTup, gB, y6, Yz, JM, Jf, WE, VY, YW, jD, QO, zdW, zdO, Zm, zm, jz, zY, jq, ZN, yC, z9, QZ, itL, itS, zz, zE, Qz, jE, UZ, Wh, zbq, Wf, Wg, Rm, j6, Zn, UJ, jf, JX, Jg, QP, yb, zw, zcG, zcH, yD, za3, zcI, zcJ, zcK, zcL, zcM, zcN, za5, za6, za7, za8, zd1, R6, ZA, Rc, za9, Re, V1, zcO, za_, Rf, zcP, WI, zcQ, Vf, ze2, Option.bind_some, Option.map_some, Option.bind_none, Option.map_none, Jn, zdV, Yv, ZK, WC, hLt, Rb, hGt, hGe, VU, VV, JL, hI, jx, J4, Z5, Ua, RZ, zcR, zcS, zcT, zcU, zcV, zcW, zcX, Yw, yM, Yx, VW, Z8, zaZ, ix0, ix1, ix2, ix3, ix4, ix5, ix6, ix7, it0, it1, it2, it3, it4, it5, it6, it7, yp, Qv, Zi, zgo, List.cons_append, List.nil_append, List.append_nil, List.replicate, List.map_cons, List.map_nil, List.getElem?_cons_zero, List.getElem?_cons_succ, List.set_cons_zero, List.set_cons_succ, List.length_cons, List.length_nil, Nat.reduceAdd, Nat.reduceSub, Nat.reduceLeDiff, Nat.reduceEqDiff, Nat.reduceLT, Nat.zero_add, if_true, if_false, reduceIte, Bool.false_eq_true, Bool.not_true, Bool.not_false, true_and, and_true, and_self, reduceCtorEq, Int.reduceToNat, List.getD_cons_zero, List.getD_cons_succ, Int.reduceLE, Int.reduceLT, Int.reduceNeg, Int.reduceEq, decide_true, decide_false, Bool.true_and, Bool.false_and, Bool.and_true, Bool.and_false, Bool.or_true, Bool.true_or, Bool.or_false, Bool.false_or, List.contains_cons, List.contains_nil, Nat.reduceBEq, String.reduceBEq, Ud, String.reduceEq, List.isEmpty_cons, List.isEmpty_nil, beq_self_eq_true, Int.cast_ofNat_Int])
local macro_rules | `(tactic| walk_at "gsa") => `(tactic| simp only [yf, eq_self, zo, zR, yk, yJ, zI, jP, zO, gC, ze, Yy, zj, gO, zi, zF, Qb, Qx, gCons, gNil, VX, yZ, gTup, gB, y6, Yz, JM, Jf, WE, VY, YW, jD, QO, zdW, zdO, Zm, zm, jz, zY, jq, ZN, yC, z9, QZ, itL, itS, zz, zE, Qz, jE, UZ, Wh, zbq, Wf, Wg, Rm, j6, Zn, UJ, jf, JX, Jg, QP, yb, zw, zcG, zcH, yD, za3, zcI, zcJ, zcK, zcL, zcM, zcN, za5, za6, za7, za8, zd1, R6, ZA, Rc, za9, Re, V1, zcO, za_, Rf, zcP, WI, zcQ, Vf, ze2, Option.bind_some, Option.map_some, Option.bind_none, Option.map_none, Jn, zdV, Yv, ZK, WC, hLt, Rb, hGt, hGe, VU, VV, JL, hI, jx, J4, Z5, Ua, RZ, zcR, zcS, zcT, zcU, zcV, zcW, zcX, Yw, yM, Yx, VW, Z8, zaZ, ix0, ix1, ix2, ix3, ix4, ix5, ix6, ix7, it0, it1, it2, it3, it4, it5, it6, it7, yp, Qv, Zi, zgo, List.cons_append, List.nil_append, List.append_nil, List.replicate, List.map_cons, List.map_nil, List.getElem?_cons_zero, List.getElem?_cons_succ, List.set_cons_zero, List.set_cons_succ, List.length_cons, List.length_nil, Nat.reduceAdd, Nat.reduceSub, Nat.reduceLeDiff, Nat.reduceEqDiff, Nat.reduceLT, Nat.zero_add, if_true, if_false, reduceIte, Bool.false_eq_true, Bool.not_true, Bool.not_false, true_and, and_true, and_self, reduceCtorEq, Int.reduceToNat, List.getD_cons_zero, List.getD_cons_succ, Int.reduceLE, Int.reduceLT, Int.reduceNeg, Int.reduceEq, decide_true, decide_false, Bool.true_and, Bool.false_and, Bool.and_true, Bool.and_false, Bool.or_true, Bool.true_or, Bool.or_false, Bool.false_or, List.contains_cons, List.contains_nil, Nat.reduceBEq, String.reduceBEq, Ud, String.reduceEq, List.isEmpty_cons, List.isEmpty_nil, beq_self_eq_true, Int.cast_ofNat_Int, *])
theorem Vm {g : D -> Env -> Option Env} (I : List D -> Env -> Prop) (hs : ∀ d r ρ, I (d :: r) ρ -> ∃ ρ1, g d ρ = some ρ1 /\ ∃ ρ2, (b ρ1 = .ok .nx ρ2 \/ b ρ1 = .ok .ct ρ2) /\ I r ρ2) :
 ∀ (ds : List D) (ρ : Env), I ds ρ -> ∃ ρ', Jo g b ds ρ = .ok .nx ρ' /\ I [] ρ'
 | [], ρ, h => ⟨ρ, rfl, h⟩
 | d :: r, ρ, h => by
  obtain ⟨ρ1, e1, ρ2, e2, h2⟩ := hs d r ρ h
  obtain ⟨ρ', e3, h3⟩ := Vm I hs r ρ2 h2
  refine ⟨ρ', ?_, h3⟩
  unfold Jo
  rw [e1, yD, zw]
  rcases e2 with e2 | e2 <;> rw [e2] <;> exact e3
theorem YT {g : D -> Env -> Option Env} (I : Env -> Prop) (f : D -> D) (P : D -> Prop) (hs : ∀ d ρ, P d -> I ρ -> ∃ ρ1 ρ2, g d ρ = some ρ1 /\ e ρ1 = .ok (f d) ρ2 /\ I ρ2) :
 ∀ (ds : List D) (ρ : Env), (∀ d ∈ ds, P d) -> I ρ -> ∃ ρ', zW g yb e ds ρ = .ok (ds.map f) ρ' /\ I ρ'
 | [], ρ, _, h => ⟨ρ, rfl, h⟩
 | d :: r, ρ, hd, h => by
  obtain ⟨ρ1, ρ2, e1, e2, h2⟩ := hs d ρ (hd d aq) h
  obtain ⟨ρ', e3, h3⟩ := YT I f P hs r ρ2 (fun x hx => hd x (aw _ hx)) h2
  refine ⟨ρ', ?_, h3⟩
  unfold zW
  rw [e1, yD, zw]
  show (O.bind (.ok true ρ1) _) = _
  rw [zw, if_pos rfl, e2, zw, e3, zw]; rfl
theorem Qq {g : D -> Env -> Option Env} (h1 : g d ρ = some ρ1) (h2 : e ρ1 = .ok y ρ2) (h3 : zW g yb e r ρ2 = .ok ys ρ3) : zW g yb e (d :: r) ρ = .ok (y :: ys) ρ3 := by
 unfold zW
 rw [h1, yD, zw]
 show (O.bind (.ok true ρ1) _) = _
 rw [zw, if_pos rfl, h2, zw, h3, zw]
theorem zgE {g : D -> Env -> Option Env} (h1 : g d ρ = some ρ1) (hc : c ρ1 = .ok b ρ1) (h2 : e ρ1 = .ok y ρ1) (h3 : zW g c e r ρ1 = .ok ys ρ2) : zW g c e (d :: r) ρ = .ok (if b = true then y :: ys else ys) ρ2 := by
 unfold zW
 rw [h1, yD, zw, hc, zw]
 cases b with
 | true => rw [if_pos rfl, if_pos rfl, h2, zw, h3, zw]
 | false => rw [if_neg af, if_neg af, h3]
theorem ziQ {g : D -> Env -> Option Env} (h1 : g d ρ = some ρ1) (h2 : b ρ1 = .ok .nx ρ2) : Jo g b (d :: r) ρ = Jo g b r ρ2 := by
 have e : Jo g b (d :: r) ρ = (yi (g d ρ) ρ).bind fun ρ1 _ => YC (b ρ1) (Jo g b r) := rfl
 rw [e, h1, yD, zw, h2]; rfl
theorem Q3 : (yS lo n).length = n := by simp [yS]
theorem zeh (h : d ∈ yS lo n) : ∃ i : Nat, i < n /\ d = .int (lo + i) := by
 unfold yS at h
 obtain ⟨i, hi, e⟩ := bd.mp h
 exact ⟨i, bZ.mp hi, e.symm⟩
theorem Zb (a : Str) : a.length = a.cps.toList.length := by simp [Str.length]
theorem Yg (a b : Str) : (a ++ b).cps.toList = a.cps.toList ++ b.cps.toList := by
 show (a.cps ++ b.cps).toList = _
 simp
theorem zgF {g : D -> Env -> Option Env} {ds ys : List D} (hi : gi ρ = .ok ds ρ1) (hl : ds.length <= 100000) (h : zW g c e ds (JR js ρ1) = .ok ys ρb) : zQ gi js g c e ρ = .ok (.lst ys) (zS js ρb ρ1) := by
 unfold zQ; rw [hi, zw, za4 hl, h]; rfl
theorem Q4 (hi : ρ[i]? = some (.val (.lst ds))) : z9 (ze i) ρ = .ok ds ρ := by
 unfold z9 ze; rw [hi]; rfl
theorem zfl (hi : g ρ = .ok (.lst ds) ρ1) : z9 g ρ = .ok ds ρ1 := by
 unfold z9; rw [hi]; rfl
theorem zbr (h : a ρ = .ok (.bl k) ρ1) : Jf a b ρ = if k = true then b ρ1 else .ok (.bl false) ρ1 := by
 unfold Jf; rw [h]; rfl
theorem ziR {f : D -> Option D} (h : a ρ = .ok x ρ1) : zF f (gO a) ρ = yi (f x) ρ1 := by
 unfold zF gO; rw [h]; rfl
theorem Yh (h : a ρ = .ok x ρ1) : zI a ρ = .ok (.rt x) ρ1 := by
 unfold zI; rw [h]; rfl
theorem Qr (h : a ρ = .ok x ρ1) : gCons a r ρ = (r ρ1).bind fun ds ρ2 => .ok (x :: ds) ρ2 := by
 unfold gCons; rw [h]; rfl
theorem ym {g : D -> Env -> Option Env} {ds ys : List D} (hi : gi ρ = .ok ds ρ1) (hl : ds.length <= 100000) (h : zW g c e ds (JR js ρ1) = .ok ys ρb) (hm : zS js ρb ρ1 = ρ2) : zQ gi js g c e ρ = .ok (.lst ys) ρ2 := by
 rw [zgF hi hl h, hm]
theorem zk6 {f : D -> D -> Option D} (h1 : a ρ = .ok x ρ1) (h2 : b ρ1 = .ok y ρ2) : zi f (gO a) (gO b) ρ = yi (f x y) ρ2 := by
 unfold zi gO; rw [h1]; show O.bind ((b ρ1).bind _) _ = _; rw [h2]; rfl
theorem yN {ss : List Slot} (hl : ss.length = n) (h : g (ss ++ au nl .no) = .ok (.rt d) ρ) : yf [] n nl false g ss = .ok d [] := by
 unfold yf; rw [if_pos hl, h]; rfl
theorem yG {ds os : List D} (h1 : a ρ = .ok ds ρ1) (h2 : F (ds.map .val) = .ok d os) : zz F a ρ = .ok d ρ1 := by
 unfold zz; rw [h1, zw, h2]; rfl
theorem Q5 (h : a ρ = .ok (.bl b) ρ1) : gB a ρ = .ok b ρ1 := by unfold gB; rw [h]; rfl
theorem Jv {f : D -> D -> Option D} (h1 : a ρ = .ok x ρ1) (h2 : b ρ1 = .ok y ρ2) (h : f x y = some d) : zi f (gO a) (gO b) ρ = .ok d ρ2 := by
 rw [zk6 h1 h2, h]; rfl
theorem JN {f : D -> Option D} (h1 : a ρ = .ok x ρ1) (h : f x = some d) : zF f (gO a) ρ = .ok d ρ1 := by
 rw [ziR h1, h]; rfl
theorem zc4 {j : Int} (h : -1000000 <= j /\ j <= 1000000) : WF [.int j] = some (yS 0 j.toNat) := if_pos h
theorem U0 (h : g ρ = .ok ds ρ1) (h2 : WF ds = some xs) : yC g ρ = .ok xs ρ1 := by
 unfold yC; rw [h, zw, h2, yD]
theorem zc5 {g : D -> Env -> Option Env} (h : gi ρ = .ok ds ρ1) : ZN gi g b ρ = Jo g b ds ρ1 := by
 unfold ZN; rw [h, zw]
theorem zn (h : a ρ = .ok .nx ρ1) : zo a b ρ = b ρ1 := by unfold zo; rw [h]; rfl
theorem WO (h : a ρ = .ok (.rt d) ρ1) : zo a b ρ = .ok (.rt d) ρ1 := by unfold zo; rw [h]; rfl
theorem zfm (h : c ρ = .ok true ρ1) : zR c a b ρ = a ρ1 := by unfold zR; rw [h]; rfl
theorem Jw (h : c ρ = .ok false ρ1) : zR c a b ρ = b ρ1 := by unfold zR; rw [h]; rfl
theorem jk {ρ ρ1 : Env} (h : a ρ = .ok d ρ1) : yk i a ρ = .ok .nx (ρ1.set i (.val d)) := by unfold yk; rw [h]; rfl
theorem zbs (h : a ρ = .ok d ρ1) : jP a ρ = .ok .nx ρ1 := by unfold jP; rw [h]; rfl
theorem UL {ss : List Slot} (hl : ss.length = n) (h : g (ss ++ au nl .no) = .ok (.rt d) (.own o :: ρ)) : yf [0] n nl false g ss = .ok d [o] := by
 unfold yf; rw [if_pos hl, h]; rfl
def zfn : D -> Bool | .int _ => true | _ => false
theorem zbV {d : D} {k : String} (h : Qv d = some k) : Ji [.val d] = .ok (.bl (zfn d)) [] := by
 unfold Ji YR
 cases d <;> first | (cases h; done) | (walk_at "gs"; rfl)
def zlX : D -> Bool | .int i => decide (0 <= i) | _ => false
theorem UM {d : D} {k : String} (h : Qv d = some k) : yu [.val d] = .ok (.bl (zlX d)) [] := by
 unfold yu JB
 cases d <;> first | (cases h; done) | (walk_at "gs"; simp only [zbV h, zfn]; walk_at "gs"; rfl)
def Jj (c : Nat) : Bool := decide (97 <= c) && decide (c <= 122)
def y7 (x : Str) : Bool := decide (1 <= x.length) && decide (x.length <= 8) && x.cps.toList.all Jj
def zhB : D -> Bool | .str x => y7 x | _ => false
theorem Wi (a b : Nat) : (!decide (([b] : List Nat) < [a])) = decide (a <= b) := by
 by_cases h : a <= b
 · rw [decide_eq_true h, decide_eq_false]; rfl
   intro z
   rw [eH] at z
   rcases z with z | ⟨_, z⟩
   · omega
   · exact absurd z (List.not_lt_nil _)
 · rw [decide_eq_false h, decide_eq_true]; rfl
   rw [eH]
   exact .inl (by omega)
theorem zk7 : (av "a").cps.toList = [97] := by decide +kernel
theorem zk8 : (av "z").cps.toList = [122] := by decide +kernel
theorem Vn {f : Nat -> Bool} : ∀ (l : List Nat), jg (l.map fun c => D.bl (f c)) = some (l.map f)
 | [] => rfl
 | c :: r => by rw [aQ, jg, Vn r]; rfl
theorem zfo {f : Nat -> Bool} (l : List Nat) : (l.map f).all id = l.all f := by
 induction l with
 | nil => rfl
 | cons a r ih => rw [aQ, bx, bx, ih]; rfl
theorem zei {s : Slot} (x : Str) : ∃ ρ', zW (zm 0) yb (jD y4 y4 (gC (.str "a")) (ze 0) (gC (.str "z"))) (x.cps.toList.map fun c => D.str ⟨#[c]⟩) [s] = .ok (x.cps.toList.map fun c => D.bl (Jj c)) ρ' /\ ρ'.length = 1 := by
 have h := YT (g := zm 0) (e := jD y4 y4 (gC (.str "a")) (ze 0) (gC (.str "z"))) (fun ρ => ρ.length = 1) (fun d => match d with | .str y => .bl (Jj (y.cps.toList.getD 0 0)) | d => d) (fun d => ∃ c, d = .str ⟨#[c]⟩) (fun d ρ ⟨c, hc⟩ hl => by
  subst hc
  match ρ, hl with
  | [t], _ =>
   refine ⟨_, [.val (.str ⟨#[c]⟩)], rfl, ?_, rfl⟩
   walk_at "gs"
   have e1 : y4 (.str "a") (.str ⟨#[c]⟩) = some (.bl (decide (97 <= c))) := by
    unfold y4
    dsimp only
    simp only [zk7, Wi]
   have e2 : y4 (.str ⟨#[c]⟩) (.str "z") = some (.bl (decide (c <= 122))) := by
    unfold y4
    dsimp only
    simp only [zk8, Wi]
   rw [e1, yD, zw, V1, zw]
   show _ = O.ok (D.bl (Jj c)) _
   unfold Jj
   by_cases h : 97 <= c
   · rw [decide_eq_true h, if_pos rfl, e2, cZ]; rfl
   · rw [decide_eq_false h, if_neg af, cN]) (x.cps.toList.map fun c => D.str ⟨#[c]⟩) [s] (fun d hd => by
  obtain ⟨c, _, e⟩ := bd.mp hd
  exact ⟨c, e.symm⟩) rfl
 obtain ⟨ρ', e, hl⟩ := h
 refine ⟨ρ', ?_, hl⟩
 rw [e, fw]
 rfl
theorem YU {d : D} {k : String} (h : Qv d = some k) (hx : ∀ x, d = .str x -> x.length <= 100000) : zT [.val d] = .ok (.bl (zhB d)) [] := by
 unfold zT Uf
 cases d with
 | str x =>
  have hx := hx x rfl
  walk_at "gsa"
  unfold zhB y7
  dsimp only
  by_cases p0 : 1 <= x.length
  · by_cases p1 : x.length <= 8
    · rw [decide_eq_true (show (1 : Int) <= x.length by omega), decide_eq_true (show (x.length : Int) <= 8 by omega), decide_eq_true p0, decide_eq_true p1]
      unfold ZO
      obtain ⟨ρ', e, _⟩ := zei (s := .no) x
      have hl : (x.cps.toList.map fun c => D.str ⟨#[c]⟩).length <= 100000 := by rw [aA, ← Zb]; exact hx
      walk_at "gs"
      simp only [zQ, QZ, ze, cJ, zw, itS, yD, za4 hl, JR, aQ, d4, e, zkL]
      simp only [zd1, bv, j8, Vn, bG, yD, zw, WI, Vf, zfo, cZ]
    · rw [decide_eq_true (show (1 : Int) <= x.length by omega), decide_eq_false (show ¬ (x.length : Int) <= 8 by omega), decide_eq_false p1]
      walk_at "gs"
  · rw [decide_eq_false (show ¬ (1 : Int) <= x.length by omega), decide_eq_false p0]
    walk_at "gs"
 | _ => first | (cases h; done) | (walk_at "gs"; rfl)
theorem zej {ns : List Int} {k : Int} (h : 0 <= k) : ∃ i, jv [.val (.fz ns), .val (.int k)] = .ok (.int i) [] := by
 unfold jv ZP
 by_cases h1 : k < ns.length
 · refine ⟨ns.getD k.toNat 0, ?_⟩
   walk_at "gs"
   rw [decide_eq_true h1]
   walk_at "gs"
   rw [zlN h h1]
   walk_at "gs"
 · refine ⟨0, ?_⟩
   walk_at "gs"
   rw [decide_eq_false h1]
   walk_at "gs"
def JC (o : D) : Prop := ∃ a b c, o = .lst [.int a, .int b, .int c] /\ 0 <= a /\ 0 <= b /\ b < 2147483629 /\ 0 <= c
theorem ziS {c : Int} : ∃ o, Jz [.val (.int c)] = .ok o [] /\ JC o := by
 unfold Jz Vj
 have hp : Wo 10 18 := ⟨by decide, by decide, by decide⟩
 by_cases h : (10 ^ (18 : Nat) : Int) <= c
 · refine ⟨.lst [.int c, .int (c % 2147483629), .int 0], ?_, c, _, _, rfl, by omega, bP _ (by decide), bw _ (by decide), by decide⟩
   walk_at "gs"
   simp only [if_pos hp]
   walk_at "gs"
   simp only [decide_eq_true h]
   walk_at "gs"
 · refine ⟨.lst [.int 0, .int (c % 2147483629), .int 0], ?_, 0, _, _, rfl, by omega, bP _ (by decide), bw _ (by decide), by decide⟩
   walk_at "gs"
   simp only [if_pos hp]
   walk_at "gs"
   simp only [decide_eq_false h]
   walk_at "gs"
theorem zaf {i j : Int} (h : -18446744073709551616 < i /\ i < 18446744073709551616) : CMul i j := .inl ⟨by omega, by omega⟩
theorem zhC {i j : Int} (h : -18446744073709551616 < j /\ j < 18446744073709551616) : CMul i j := .inr ⟨by omega, by omega⟩
theorem zgG {i j : Int} (h : 0 < j /\ j < 1073741824) : YD i j := ⟨h.1, by omega⟩
def zhD (b c : Int) : Int := (b + 7919 * (c + 1) + 1) * 48271 % 2147483647 * ((b + 7919 * (c + 1) + 1) * 48271 % 2147483647 / 1009 + 69621) % 2147483647 * ((b + 7919 * (c + 1) + 1) * 48271 % 2147483647 * ((b + 7919 * (c + 1) + 1) * 48271 % 2147483647 / 1009 + 69621) % 2147483647 / 2003 + 40692) % 2147483399
theorem yw {o : D} {n : Int} (hw : JC o) (h0 : 0 < n) (h1 : n < 1073741824) : ∃ r o', zG [.own o, .val (.int n)] = .ok (.int r) [o'] /\ 0 <= r /\ r < n /\ JC o' := by
 obtain ⟨a, b, c, rfl, ha, hb, hb', hc⟩ := hw
 unfold zG Vk
 by_cases h : 0 < a
 · refine ⟨a % n, .lst [.int (a / n), .int b, .int c], ?_, bP _ (by omega), bw _ h0, _, _, _, rfl, gp ha (by omega), hb, hb', hc⟩
   walk_at "gs"
   simp only [decide_eq_true h, h0]
   unfold YI
   walk_at "gs"
   simp only [if_pos (zgG (i := a) ⟨h0, h1⟩)]
   walk_at "gs"
 · refine ⟨zhD b c % n, .lst [.int a, .int b, .int (c + 1)], ?_, bP _ (by omega), bw _ h0, _, _, _, rfl, ha, hb, hb', by omega⟩
   unfold zhD
   walk_at "gs"
   simp only [decide_eq_false h]
   unfold YM YL
   walk_at "gs"
   simp only [if_pos (zaf (i := 7919) (j := c + 1) (by decide)), if_pos (zhC (i := b + 7919 * (c + 1) + 1) (j := 48271) (by decide))]
   walk_at "gs"
   simp only [if_pos (zhC (i := b + 7919 * (c + 1) + 1) (j := 48271) (by decide))]
   walk_at "gs"
   generalize hn : (b + 7919 * (c + 1) + 1) * 48271 % 2147483647 = n1
   have n1a : 0 <= n1 := by rw [← hn]; exact bP _ (by decide)
   have n1b : n1 < 2147483647 := by rw [← hn]; exact bw _ (by decide)
   unfold YK
   walk_at "gs"
   simp only [if_pos (zgG (i := n1) (j := 1009) (by decide))]
   walk_at "gs"
   simp only [if_pos (zaf (i := n1) (j := n1 / 1009 + 69621) ⟨by omega, by omega⟩)]
   walk_at "gs"
   generalize hn2 : n1 * (n1 / 1009 + 69621) % 2147483647 = n2
   have n2a : 0 <= n2 := by rw [← hn2]; exact bP _ (by decide)
   have n2b : n2 < 2147483647 := by rw [← hn2]; exact bw _ (by decide)
   unfold YJ
   walk_at "gs"
   simp only [if_pos (zgG (i := n2) (j := 2003) (by decide))]
   walk_at "gs"
   simp only [if_pos (zaf (i := n2) (j := n2 / 2003 + 40692) ⟨by omega, by omega⟩)]
   walk_at "gs"
   simp only [if_pos h0]
   walk_at "gs"
def letters : Str := "abcdefghijklmnopqrstuvwxyz"
theorem Rn : letters.cps.toList = List.range' 97 26 := by decide +kernel
theorem U1 : letters.cps.toList.length = 26 := by rw [Rn]; simp
theorem zbW {j : Nat} (h : j < 26) : Jj (letters.cps.toList.getD j 0) = true := by
 rw [Rn, aJ, List.getElem?_range' (by omega)]
 simp [Jj]; omega
theorem Ro {r : Int} (h0 : 0 <= r) (h1 : r < 26) : ∃ c, zH (.str letters) (.int r) = some (.str ⟨#[c]⟩) /\ Jj c = true :=
 ⟨_, zhu (by rw [Zb, U1]; omega) h0 (by rw [U1]; exact h1), zbW (by omega)⟩
theorem zgH {w : Str} {c : Nat} (hl : w.length <= 1000) : Yw (.str w) (.str ⟨#[c]⟩) = some (.str (w ++ ⟨#[c]⟩)) := if_pos (by show w.length + 1 <= 100000; omega)
theorem zc6 {w : Str} {c : Nat} (hw : w.cps.toList.all Jj = true) (hc : Jj c = true) : (w ++ ⟨#[c]⟩ : Str).cps.toList.all Jj = true /\ (w ++ ⟨#[c]⟩ : Str).length = w.length + 1 := by
 rw [Zb, Yg, Zb]
 simp [hw, hc]
theorem zc7 {o : D} {last : Int} (hw : JC o) : ∃ x o', jR [.own o, .val (.int last)] = .ok (.str x) [o'] /\ y7 x = true /\ JC o' := by
 unfold jR Vl YQ
 obtain ⟨r, o1, e, r0, r1, hw1⟩ := yw hw (n := 8) (by decide) (by decide)
 have hr : -1000000 <= r /\ r <= 1000000 := by omega
 walk_at "gs"
 simp only [e]
 walk_at "gs"
 simp only [WF, if_pos hr]
 walk_at "gs"
 obtain ⟨ρ', e2, o2, w, s4, hw2, ha, hl, rfl⟩ := Vm (g := zm 4) (b := Q2) (fun ds ρ => ∃ o w s4, JC o /\ w.cps.toList.all Jj = true /\ w.length + ds.length <= 7 /\ ρ = [.own o, .val (.int last), .val (.str letters), .val (.str w), s4])
  (fun d rr ρ ⟨o, w, s4, hw, ha, hl, e⟩ => by
   subst e
   refine ⟨_, rfl, ?_⟩
   obtain ⟨r, o1, e, r0, r1, hw1⟩ := yw hw (n := 26) (by decide) (by decide)
   obtain ⟨c, e2, hc⟩ := Ro r0 r1
   have hl' : w.length <= 1000 := by simp at hl; omega
   obtain ⟨a, b⟩ := zc6 ha hc
   refine ⟨[.own o1, .val (.int last), .val (.str letters), .val (.str (w ++ ⟨#[c]⟩)), .val d], .inl ?_, o1, _, _, hw1, a, by simp at hl; omega, rfl⟩
   unfold Q2
   simp only [dz, dw]
   walk_at "gs"
   simp only [e]
   walk_at "gs"
   simp only [e2]
   walk_at "gs"
   simp only [zgH hl', if_pos (show w.length + (⟨#[c]⟩ : Str).length <= 100000 by show w.length + 1 <= 100000; omega)]
   walk_at "gs") (yS 0 r.toNat) [.own o1, .val (.int last), .val (.str letters), .val (.str ""), .no] ⟨o1, "", .no, hw1, rfl, by rw [Q3, show (av "").length = 0 from rfl]; omega, rfl⟩
 simp only [show (av "abcdefghijklmnopqrstuvwxyz") = letters from rfl, e2]
 have hl' : w.length <= 7 := by simpa using hl
 obtain ⟨c, e3, hc⟩ := Ro (r := last % 26) (bP _ (by decide)) (bw _ (by decide))
 obtain ⟨a, b⟩ := zc6 ha hc
 refine ⟨w ++ ⟨#[c]⟩, o2, ?_, ?_, hw2⟩
 · unfold YO
   walk_at "gs"
   simp only [e3]
   walk_at "gs"
   simp only [if_pos (show w.length + (⟨#[c]⟩ : Str).length <= 100000 by show w.length + 1 <= 100000; omega)]
   walk_at "gs"
 · unfold y7
   rw [a, eZ, aD, decide_eq_true_eq, decide_eq_true_eq]
   omega
namespace K66
def sL (xs : List Str) : List D := xs.map D.str
theorem jd (xs : List Str) : (sL xs).length = xs.length := aA ..
theorem Wj (xs ys : List Str) : sL xs ++ sL ys = sL (xs ++ ys) := (eA ..).symm
def wt (ys : List Str) : Nat := (ys.map (·.length)).sum
theorem Qs (z : Str) (ys : List Str) : (aN z ys).length <= wt ys + ys.length * z.length := by
 cases ys with
 | nil => exact bI _
 | cons a r =>
  show (PySem.Builtin.Str.glued z (a :: r)).length <= _
  rw [PySem.StrLaws.glued_eq_join, cm]
  unfold wt
  rw [aB, d3]
  omega
theorem Vo {z : Str} {ys : List Str} (h : wt ys + ys.length * z.length <= 100000) : JW z (.lst (sL ys)) = some (.str (aN z ys)) := by
 have e : zd3 (.lst (sL ys)) = some ys := ze5 ys
 unfold JW
 rw [e]
 exact if_pos h
abbrev it (i : Int) : Str := av (toString i)
def Jm (i : Int) : Prop := 0 <= i /\ i < 1000000000
theorem Wk {i : Int} (h : Jm i) : (it i).length <= 9 := PyProof.Rows.toString_length_le h.1 (by decide) (by have := h.2; omega)
theorem jX {i : Int} (h : Jm i) : jY (.int i) = some (.str (it i)) := by
 refine if_pos ?_
 have h1 := h.1
 have h2 := h.2
 have h3 : (10 : Nat) ^ 30 = 1000000000000000000000000000000 := by decide
 omega
def j5 (ns : List Str) : Prop := ∀ n ∈ ns, y7 n = true
theorem Qt {n : Str} (h : y7 n = true) : n.length <= 8 := by
 unfold y7 at h
 rw [aD, aD, decide_eq_true_eq, decide_eq_true_eq] at h
 exact h.1.2
theorem WP {P : D -> Prop} {ds : List D} {r : Int} (h0 : 0 <= r) (h1 : r < ds.length) (h : ∀ d ∈ ds, P d) : ∃ d, zH (.lst ds) (.int r) = some d /\ P d := by
 refine ⟨_, Q0 h0 h1, h _ ?_⟩
 have hl : r.toNat < ds.length := by omega
 rw [aJ, ab hl]
 exact fQ hl
theorem zmG : Wo 10 9 := ⟨by decide, by decide, by decide⟩
theorem JP {o : D} (hw : JC o) : ∃ i o', yn [.own o] = .ok (.int i) [o'] /\ Jm i /\ JC o' := by
 unfold yn YN
 obtain ⟨a, o1, e1, a0, a1, hw1⟩ := yw hw (n := 10) (by decide) (by decide)
 obtain ⟨b, o2, e2, b0, b1, hw2⟩ := yw hw1 (n := 1000000000) (by decide) (by decide)
 obtain ⟨r, o3, e3, r0, r1, hw3⟩ := yw hw2 (n := 4) (by decide) (by decide)
 obtain ⟨d, ed, i, rfl, hi⟩ := WP (P := fun d => ∃ i, d = .int i /\ Jm i) (ds := [.int 0, .int a, .int b, .int 999999999]) r0 (by simpa using r1) (by
  intro d hd
  simp only [ak, ax, or_false] at hd
  rcases hd with rfl | rfl | rfl | rfl
  · exact ⟨0, rfl, by decide, by decide⟩
  · exact ⟨a, rfl, a0, by omega⟩
  · exact ⟨b, rfl, b0, b1⟩
  · exact ⟨_, rfl, by decide, by decide⟩)
 refine ⟨i, o3, ?_, hi, hw3⟩
 walk_at "gs"
 simp only [e1]
 walk_at "gs"
 simp only [if_pos zmG, Int.reducePow]
 walk_at "gs"
 simp only [e2]
 walk_at "gs"
 simp only [Int.reduceSub, e3]
 walk_at "gs"
 simp only [ed]
 walk_at "gs"
theorem zfp {o : D} (hw : JC o) : ∃ ns o', y0 [.own o] = .ok (.tup (sL ns)) [o'] /\ j5 ns /\ ns.length <= 6 /\ JC o' := by
 obtain ⟨r, o1, e, r0, r1, hw1⟩ := yw hw (n := 4) (by decide) (by decide)
 obtain ⟨ρ', e2, o2, ns, s2, hw2, hn, hl, rfl⟩ := Vm (g := zm 2) (b := jr) (fun ds ρ => ∃ o ns s2, JC o /\ j5 ns /\ ns.length + 2 * ds.length <= 6 /\ ρ = [.own o, .own (.lst (sL ns)), s2])
  (fun d rr ρ ⟨o, ns, s2, hw, hn, hl, e⟩ => by
   subst e
   refine ⟨[.own o, .own (.lst (sL ns)), .val d], rfl, ?_⟩
   have hl : ns.length + 2 * (rr.length + 1) <= 6 := by simpa using hl
   obtain ⟨a, o1, e1, a0, a1, hw1⟩ := yw hw (n := 26) (by decide) (by decide)
   obtain ⟨x, o2, e2, hx, hw2⟩ := zc7 (last := a) hw1
   obtain ⟨b, o3, e3, b0, b1, hw3⟩ := yw hw2 (n := 4) (by decide) (by decide)
   have hA : yI (sL ns) (.str x) = some (.non, sL (ns ++ [x])) := by
    unfold yI
    rw [if_pos (by rw [jd]; omega)]
    show some (D.non, sL ns ++ sL [x]) = _
    rw [Wj]
   have hn2 : j5 (ns ++ [x]) := fun n h => by
    rcases bH.mp h with h | h
    · exact hn n h
    · rw [cH.mp h]; exact hx
   have s1 : jP (Qz yI 1 (zE 0 jR (gCons (zE 0 zG (gCons (gC (.int 26)) gNil)) gNil))) [.own o, .own (.lst (sL ns)), .val d] = .ok .nx [.own o2, .own (.lst (sL (ns ++ [x]))), .val d] := by
    walk_at "gs"
    simp only [e1]
    walk_at "gs"
    simp only [e2]
    walk_at "gs"
    simp only [hA]
    walk_at "gs"
   unfold jr
   by_cases hb : b = 0
   · subst hb
     obtain ⟨y, ey, z, rfl, hz⟩ := WP (P := fun d => ∃ z, d = .str z /\ y7 z = true) (ds := sL (ns ++ [x])) (r := 0) (by decide) (by rw [jd, aI, aW]; omega) (by
      intro d hd
      obtain ⟨z, hz, rfl⟩ := bd.mp hd
      exact ⟨z, rfl, hn2 z hz⟩)
     have hA2 : yI (sL (ns ++ [x])) (.str z) = some (.non, sL (ns ++ [x] ++ [z])) := by
      unfold yI
      rw [if_pos (by rw [jd, aI, aW]; omega)]
      show some (D.non, sL (ns ++ [x]) ++ sL [z]) = _
      rw [Wj]
     refine ⟨[.own o3, .own (.lst (sL (ns ++ [x] ++ [z]))), .val d], .inl ?_, o3, _, _, hw3, ?_, ?_, rfl⟩
     · refine (zn s1).trans ?_
       unfold j3
       walk_at "gs"
       simp only [e3]
       walk_at "gs"
       simp only [ey]
       walk_at "gs"
       simp only [hA2]
       walk_at "gs"
     · exact fun n h => by
        rcases bH.mp h with h | h
        · exact hn2 n h
        · rw [cH.mp h]; exact hz
     · rw [aI, aI, aW, aW]; omega
   · refine ⟨[.own o3, .own (.lst (sL (ns ++ [x]))), .val d], .inl ?_, o3, _, _, hw3, hn2, by rw [aI, aW]; omega, rfl⟩
     refine (zn s1).trans ?_
     unfold j3
     walk_at "gs"
     simp only [e3]
     walk_at "gs"
     simp only [decide_eq_false hb]
     walk_at "gs") (yS 0 r.toNat) [.own o1, .own (.lst (sL [])), .no] ⟨o1, [], .no, hw1, (fun n h => by cases h), by rw [Q3]; simp; omega, rfl⟩
 refine ⟨ns, o2, ?_, hn, by simpa using hl, hw2⟩
 have hr : -1000000 <= r /\ r <= 1000000 := by omega
 unfold y0 QS JZ
 walk_at "gs"
 simp only [e]
 walk_at "gs"
 simp only [WF, if_pos hr]
 walk_at "gs"
 have e2' : Jo (zm 2) jr (yS 0 r.toNat) [.own o1, .own (.lst []), .no] = .ok .nx [.own o2, .own (.lst (sL ns)), s2] := e2
 simp only [e2']
 walk_at "gs"
def heard : List Str := ["idle", "strange", "elder", "false", "over", "twice", "done", "never", "no", "ok"]
theorem ZU : j5 heard := by
 have h : heard.all y7 = true := by decide +kernel
 exact fun n hn => aP.mp h n hn
inductive Val : D -> Str -> Prop where
 | non : Val .non "-"
 | int {i : Int} (h : Jm i) : Val (.int i) (it i)
inductive Row : D -> List Str -> Prop where
 | bg {a b : Int} {ns : List Str} (ha : Jm a) (hb : Jm b) (hn : j5 ns) (hl : ns.length <= 6) : Row (.tup [.str "begin", .int a, .int b, .tup (sL ns)]) ("begin" :: it a :: it b :: ns)
 | wk {a : Int} {ns : List Str} (ha : Jm a) (hn : j5 ns) (hl : ns.length <= 6) : Row (.tup [.str "wake", .int a, .tup (sL ns)]) ("wake" :: it a :: ns)
 | off {a : Int} {b : Bool} (ha : Jm a) : Row (.tup [.str "off", .int a, .bl b]) ["off", it a, if b then "yes" else "no"]
 | hr {a b c e : Int} {n w y : Str} {v : D} (ha : Jm a) (hn : y7 n = true) (hb : Jm b) (hv : Val v y) (hc : Jm c) (he : Jm e) (hw : w ∈ heard) :
  Row (.tup [.str "hear", .int a, .str n, .int b, v, .int c, .int e, .str w]) ["hear", it a, n, it b, y, it c, it e, w]
theorem zk9 {o : D} (hw : JC o) : ∃ d ws o', yW [.own o] = .ok d [o'] /\ Row d ws /\ JC o' := by
 obtain ⟨k, o1, e1, k0, k1, hw1⟩ := yw hw (n := 5) (by decide) (by decide)
 obtain ⟨a, o2, e2, ha, hw2⟩ := JP hw1
 unfold yW Zr
 have st : zo (yk 1 (zE 0 zG (gCons (gC (.int 5)) gNil))) (zo (yk 2 (zE 0 yn gNil)) yv) [.own o, .no, .no, .no, .no, .no, .no, .no] = yv [.own o2, .val (.int k), .val (.int a), .no, .no, .no, .no, .no] := by
  refine (zn (ρ1 := [.own o1, .val (.int k), .no, .no, .no, .no, .no, .no]) ?_).trans (zn ?_)
  · walk_at "gs"
    simp only [e1]
    walk_at "gs"
  · walk_at "gs"
    simp only [e2]
    walk_at "gs"
 by_cases c0 : k = 0
 · subst c0
   obtain ⟨b, o3, e3, hb, hw3⟩ := JP hw2
   obtain ⟨ns, o4, e4, hn, hl, hw4⟩ := zfp hw3
   refine ⟨_, _, o4, UL rfl (st.trans (?_ : _ = O.ok (End.rt (.tup [.str "begin", .int a, .int b, .tup (sL ns)])) [.own o4, .val (.int 0), .val (.int a), .no, .no, .no, .no, .no])), .bg ha hb hn hl, hw4⟩
   unfold yv
   walk_at "gs"
   simp only [e3]
   walk_at "gs"
   simp only [e4]
   walk_at "gs"
 by_cases c1 : k = 1
 · subst c1
   obtain ⟨ns, o4, e4, hn, hl, hw4⟩ := zfp hw2
   refine ⟨_, _, o4, UL rfl (st.trans (?_ : _ = O.ok (End.rt (.tup [.str "wake", .int a, .tup (sL ns)])) [.own o4, .val (.int 1), .val (.int a), .no, .no, .no, .no, .no])), .wk ha hn hl, hw4⟩
   unfold yv jG
   walk_at "gs"
   simp only [e4]
   walk_at "gs"
 by_cases c2 : k = 2
 · subst c2
   obtain ⟨b, o4, e4, b0, b1, hw4⟩ := yw hw2 (n := 2) (by decide) (by decide)
   refine ⟨_, _, o4, UL rfl (st.trans (?_ : _ = O.ok (End.rt (.tup [.str "off", .int a, .bl (decide (b = 1))])) [.own o4, .val (.int 2), .val (.int a), .no, .no, .no, .no, .no])), .off ha, hw4⟩
   unfold yv jG Jh
   walk_at "gs"
   simp only [e4]
   walk_at "gs"
 obtain ⟨b, o3, e3, hb, hw3⟩ := JP hw2
 obtain ⟨r, o4, e4, r0, r1, hw4⟩ := yw hw3 (n := 2) (by decide) (by decide)
 obtain ⟨v, ev, y, hv⟩ := WP (P := fun d => ∃ y, Val d y) (ds := [.non, .int b]) r0 (by simpa using r1) (by
  intro d hd
  simp only [ak, ax, or_false] at hd
  rcases hd with rfl | rfl
  · exact ⟨_, .non⟩
  · exact ⟨_, .int hb⟩)
 obtain ⟨l, o5, e5, l0, l1, hw5⟩ := yw hw4 (n := 26) (by decide) (by decide)
 obtain ⟨x, o6, e6, hx, hw6⟩ := zc7 (last := l) hw5
 obtain ⟨j, o7, e7, j0, j1, hw7⟩ := yw hw6 (n := 10) (by decide) (by decide)
 obtain ⟨n1, en1, q1, rfl, hq1⟩ := WP (P := fun d => ∃ q, d = .str q /\ q ∈ heard) (ds := sL heard) j0 (by simpa [sL, heard] using j1) (by
  intro d hd
  obtain ⟨z, hz, rfl⟩ := bd.mp hd
  exact ⟨z, rfl, hz⟩)
 obtain ⟨r2, o8, e8, r20, r21, hw8⟩ := yw hw7 (n := 2) (by decide) (by decide)
 obtain ⟨n, en, m, rfl, hm⟩ := WP (P := fun d => ∃ q, d = .str q /\ y7 q = true) (ds := [.str x, .str q1]) r20 (by simpa using r21) (by
  intro d hd
  simp only [ak, ax, or_false] at hd
  rcases hd with rfl | rfl
  · exact ⟨_, rfl, hx⟩
  · exact ⟨_, rfl, ZU _ hq1⟩)
 obtain ⟨i1, p1, f1, h1, hv1⟩ := JP hw8
 obtain ⟨i2, p2, f2, h2, hv2⟩ := JP hv1
 obtain ⟨i3, p3, f3, h3, hv3⟩ := JP hv2
 obtain ⟨j2, p4, e9, j20, j21, hv4⟩ := yw hv3 (n := 10) (by decide) (by decide)
 obtain ⟨n2, en2, q2, rfl, hq2⟩ := WP (P := fun d => ∃ q, d = .str q /\ q ∈ heard) (ds := sL heard) j20 (by simpa [sL, heard] using j21) (by
  intro d hd
  obtain ⟨z, hz, rfl⟩ := bd.mp hd
  exact ⟨z, rfl, hz⟩)
 have hs : yZ (VX ["idle", "strange", "elder", "false", "over", "twice", "done", "never", "no", "ok"]) = fun ρ => .ok (.lst (sL heard)) ρ := by
  funext ρ; rfl
 refine ⟨_, _, p4, UL rfl (st.trans (?_ : _ = O.ok (End.rt (.tup [.str "hear", .int a, .str m, .int i1, v, .int i2, .int i3, .str q2])) [.own p4, .val (.int k), .val (.int a), .val v, .val (.lst (sL heard)), .val (.str m), .val (.lst [.int i1, .int i2, .int i3]), .val (.str q2)])), .hr ha hm h1 hv h2 h3 hq2, hv4⟩
 unfold yv
 refine (zn (ρ1 := [.own o2, .val (.int k), .val (.int a), .no, .no, .no, .no, .no]) (by walk_at "gs"; simp only [decide_eq_false c0]; walk_at "gs")).trans ?_
 unfold jG
 refine (zn (ρ1 := [.own o2, .val (.int k), .val (.int a), .no, .no, .no, .no, .no]) (by walk_at "gs"; simp only [decide_eq_false c1]; walk_at "gs")).trans ?_
 unfold Jh
 refine (zn (ρ1 := [.own o2, .val (.int k), .val (.int a), .no, .no, .no, .no, .no]) (by walk_at "gs"; simp only [decide_eq_false c2]; walk_at "gs")).trans ?_
 unfold Qn
 refine (zn (ρ1 := [.own o4, .val (.int k), .val (.int a), .val v, .no, .no, .no, .no]) (by walk_at "gs"; simp only [e3]; walk_at "gs"; simp only [e4]; walk_at "gs"; simp only [ev]; walk_at "gs")).trans ?_
 unfold Qm
 refine (zn (ρ1 := [.own o4, .val (.int k), .val (.int a), .val v, .val (.lst (sL heard)), .no, .no, .no]) (by rw [hs]; rfl)).trans ?_
 unfold Ql
 refine (zn (ρ1 := [.own o8, .val (.int k), .val (.int a), .val v, .val (.lst (sL heard)), .val (.str m), .no, .no]) (by walk_at "gs"; simp only [e5]; walk_at "gs"; simp only [e6]; walk_at "gs"; simp only [e7]; walk_at "gs"; simp only [en1]; walk_at "gs"; simp only [e8]; walk_at "gs"; simp only [en]; walk_at "gs")).trans ?_
 unfold Qk
 have ec : zW (zm 0) yb (zE 1 yn gNil) (yS 0 3) [.no, .own o8] = .ok [.int i1, .int i2, .int i3] [.val (.int 2), .own p3] := by
  show zW (zm 0) yb (zE 1 yn gNil) [.int (0 + (0 : Nat)), .int (0 + (1 : Nat)), .int (0 + (2 : Nat))] [.no, .own o8] = _
  unfold zW
  walk_at "gs"
  simp only [f1]
  walk_at "gs"
  unfold zW
  walk_at "gs"
  simp only [f2]
  walk_at "gs"
  unfold zW
  walk_at "gs"
  simp only [f3]
  walk_at "gs"
  unfold zW
  walk_at "gs"
  rfl
 have eR : yC (gCons (gC (.int 3)) gNil) [.own o8, .val (.int k), .val (.int a), .val v, .val (.lst (sL heard)), .val (.str m), .no, .no] = .ok (yS 0 3) [.own o8, .val (.int k), .val (.int a), .val v, .val (.lst (sL heard)), .val (.str m), .no, .no] := rfl
 have eC := ym (js := [none, some 0]) (g := zm 0) (c := yb) (e := zE 1 yn gNil) (ρ2 := [.own p3, .val (.int k), .val (.int a), .val v, .val (.lst (sL heard)), .val (.str m), .no, .no]) eR (by decide) ec rfl
 refine (zn (ρ1 := [.own p3, .val (.int k), .val (.int a), .val v, .val (.lst (sL heard)), .val (.str m), .val (.lst [.int i1, .int i2, .int i3]), .no]) (jk eC)).trans ?_
 unfold Qj
 refine (zn (ρ1 := [.own p4, .val (.int k), .val (.int a), .val v, .val (.lst (sL heard)), .val (.str m), .val (.lst [.int i1, .int i2, .int i3]), .val (.str q2)]) (by walk_at "gs"; simp only [e9]; walk_at "gs"; simp only [en2]; walk_at "gs")).trans ?_
 unfold Qi
 walk_at "gs"
end K66
namespace K66
theorem zbt {d : D} {ws : List Str} (h : Row d ws) : zX [.val d] = .ok (.lst (sL ws)) [] := by
 unfold zX
 cases h with
 | @bg a b ns ha hb hn hl =>
  have hl' : 3 + (sL ns).length <= 100000 := by rw [jd]; omega
  refine yN rfl (?_ : _ = O.ok (End.rt (.lst (sL ("begin" :: it a :: it b :: ns)))) [.val (.tup [.str "begin", .int a, .int b, .tup (sL ns)]), .no])
  unfold jj
  refine WO ?_
  walk_at "gs"
  simp only [jX ha]
  walk_at "gs"
  simp only [jX hb]
  walk_at "gs"
  simp only [if_pos hl']
  walk_at "gs"
  rfl
 | @wk a ns ha hn hl =>
  have hl' : 2 + (sL ns).length <= 100000 := by rw [jd]; omega
  refine yN rfl (?_ : _ = O.ok (End.rt (.lst (sL ("wake" :: it a :: ns)))) [.val (.tup [.str "wake", .int a, .tup (sL ns)]), .no])
  unfold jj
  refine (zn (ρ1 := [.val (.tup [.str "wake", .int a, .tup (sL ns)]), .no]) (by walk_at "gs")).trans ?_
  unfold jt
  refine WO ?_
  walk_at "gs"
  simp only [jX ha]
  walk_at "gs"
  simp only [if_pos hl']
  walk_at "gs"
  rfl
 | @off a b ha =>
  refine yN rfl (?_ : _ = O.ok (End.rt (.lst (sL ["off", it a, if b then "yes" else "no"]))) [.val (.tup [.str "off", .int a, .bl b]), .no])
  unfold jj
  refine (zn (ρ1 := [.val (.tup [.str "off", .int a, .bl b]), .no]) (by walk_at "gs")).trans ?_
  unfold jt
  refine (zn (ρ1 := [.val (.tup [.str "off", .int a, .bl b]), .no]) (by walk_at "gs")).trans ?_
  unfold j4
  refine WO ?_
  walk_at "gs"
  simp only [jX ha]
  walk_at "gs"
  cases b
  · walk_at "gs"; rfl
  · walk_at "gs"; rfl
 | @hr a b c e n w y v ha hn hb hv hc he hw =>
  refine yN rfl (?_ : _ = O.ok (End.rt (.lst (sL ["hear", it a, n, it b, y, it c, it e, w]))) [.val (.tup [.str "hear", .int a, .str n, .int b, v, .int c, .int e, .str w]), .val (.str y)])
  unfold jj
  refine (zn (ρ1 := [.val (.tup [.str "hear", .int a, .str n, .int b, v, .int c, .int e, .str w]), .no]) (by walk_at "gs")).trans ?_
  unfold jt
  refine (zn (ρ1 := [.val (.tup [.str "hear", .int a, .str n, .int b, v, .int c, .int e, .str w]), .no]) (by walk_at "gs")).trans ?_
  unfold j4
  refine (zn (ρ1 := [.val (.tup [.str "hear", .int a, .str n, .int b, v, .int c, .int e, .str w]), .no]) (by walk_at "gs")).trans ?_
  refine (zn (ρ1 := [.val (.tup [.str "hear", .int a, .str n, .int b, v, .int c, .int e, .str w]), .val (.str "-")]) (by walk_at "gs")).trans ?_
  unfold J1
  refine (zn (ρ1 := [.val (.tup [.str "hear", .int a, .str n, .int b, v, .int c, .int e, .str w]), .val (.str y)]) ?_).trans ?_
  · cases hv with
    | non => walk_at "gs"
    | int h => walk_at "gs"; simp only [jX h]; walk_at "gs"
  unfold J0
  walk_at "gs"
  simp only [jX ha]
  walk_at "gs"
  simp only [jX hb]
  walk_at "gs"
  simp only [jX hc]
  walk_at "gs"
  simp only [jX he]
  walk_at "gs"
  rfl
end K66
namespace K66
theorem Rp (xs : List Str) : jg ((sL xs).map fun _ => D.bl true) = some (xs.map fun _ => true) := by
 induction xs with
 | nil => rfl
 | cons x r ih => show jg (D.bl true :: (sL r).map fun _ => D.bl true) = _; rw [jg, ih]; rfl
theorem zk_ {xs : List Str} (h : j5 xs) (hl : xs.length <= 1000) : Ju [.val (.tup (sL xs))] = .ok (.bl true) [] := by
 obtain ⟨ρ', e, _⟩ := YT (g := zm 0) (e := zz zT (gCons (ze 0) gNil)) (fun ρ => ρ.length = 1) (fun _ => .bl true) (fun d => ∃ x, d = .str x /\ y7 x = true) (fun d ρ ⟨x, hd, hx⟩ hl => by
  subst hd
  match ρ, hl with
  | [t], _ =>
   refine ⟨[.val (.str x)], [.val (.str x)], rfl, ?_, rfl⟩
   have e : zT [.val (.str x)] = .ok (.bl true) [] := by
    rw [YU (k := "str") rfl (fun y hy => by cases hy; exact aO (Qt hx) (by decide))]
    show RF.ok (.bl (y7 x)) [] = _
    rw [hx]
   exact yG (ds := [.str x]) rfl e) (sL xs) [.no] (fun d hd => by
  obtain ⟨x, hx, rfl⟩ := bd.mp hd
  exact ⟨x, rfl, h x hx⟩) rfl
 refine yN rfl (?_ : _ = O.ok (End.rt (.bl true)) [.val (.tup (sL xs))])
 unfold ZQ
 have hc : zQ (Q1 (ze 0)) [none] (zm 0) yb (zz zT (gCons (ze 0) gNil)) [.val (.tup (sL xs))] = .ok (.lst ((sL xs).map fun _ => .bl true)) [.val (.tup (sL xs))] := by
  have l1 : ρ'.length = 1 := by assumption
  match ρ', l1 with
  | [t], _ => exact ym (ds := sL xs) rfl (by rw [jd]; omega) e (by walk_at "gs")
 have ha : zF j8 (gO (zQ (Q1 (ze 0)) [none] (zm 0) yb (zz zT (gCons (ze 0) gNil)))) [.val (.tup (sL xs))] = .ok (.bl true) [.val (.tup (sL xs))] := by
  refine JN hc ?_
  show (jg _).map _ = _
  rw [Rp]
  simp
 refine Yh ?_
 rw [zbr (k := true) (ρ1 := [.val (.tup (sL xs))]) (by walk_at "gs"), if_pos rfl, ha]
theorem zfr {a : Int} (h : 0 <= a) : yu [.val (.int a)] = .ok (.bl true) [] := by
 rw [UM (k := "int") rfl]
 show RF.ok (.bl (decide (0 <= a))) [] = _
 rw [decide_eq_true h]
inductive Jd : Str -> D -> List Str -> Prop where
 | nu {a : Int} (h : Jm a) : Jd "number" (.int a) [it a]
 | va {v : D} {y : Str} (h : Val v y) : Jd "value" v [y]
 | nm {x : Str} (h : y7 x = true) : Jd "name" (.str x) [x]
 | he {x : Str} (h : x ∈ heard) : Jd "heard" (.str x) [x]
 | tr {b : Bool} : Jd "truth" (.bl b) [if b then "yes" else "no"]
 | ns {xs : List Str} (h : j5 xs) (hl : xs.length <= 6) : Jd "names" (.tup (sL xs)) xs
theorem Rq {f : Str} {a : Int} (hf : f = "number" \/ f = "value") (h : Jm a) : yF [.val (.str f), .val (.int a)] = .ok (.bl true) [] := by
 have e := zfr h.1
 have h2 : a <= 9999999999 := by have := h.2; omega
 rcases hf with rfl | rfl
 all_goals
  unfold yF jS jH Jb J2 Zs
  walk_at "gs"
  simp only [e]
  walk_at "gs"
  rw [decide_eq_true h2]
theorem zbu {x : Str} (h : x ∈ heard) : QV false (.str x) (.kt heard) = some (.bl true) := by
 have e : YV (.str x) (heard.map D.str) = true := by
  unfold YV
  rw [d5, fW]
  exact ⟨x, h, by show (x == x) = true; simp⟩
 have f : (heard.map D.str).all y3 = true := by decide
 unfold QV
 show (if y3 (.str x) = true /\ (heard.map D.str).all y3 = true then _ else _) = _
 rw [if_pos ⟨rfl, f⟩, e]; rfl
theorem zla {f : Str} {d : D} {ws : List Str} (h : Jd f d ws) (hf : f ≠ "names") : yF [.val (.str f), .val d] = .ok (.bl true) [] := by
 cases h with
 | nu h => exact Rq (.inl rfl) h
 | va h =>
  cases h with
  | non =>
   unfold yF jS jH Jb J2
   walk_at "gs"
  | int h => exact Rq (.inr rfl) h
 | @nm x h =>
  have e : zT [.val (.str x)] = .ok (.bl true) [] := by
   rw [YU (k := "str") rfl (fun y hy => by cases hy; exact aO (Qt h) (by decide))]
   show RF.ok (.bl (y7 x)) [] = _
   rw [h]
  unfold yF jS
  walk_at "gs"
  simp only [e]
  walk_at "gs"
 | @he x h =>
  have e := zbu h
  unfold heard at e
  unfold yF jS jH
  walk_at "gs"
  simp only [e]
  walk_at "gs"
 | tr =>
  unfold yF jS jH Jb
  walk_at "gs"
 | ns h hl => exact absurd rfl hf
theorem zgI {f : Str} {d : D} {ws : List Str} (h : Jd f d ws) (hf : f ≠ "names") : ∃ w, ws = [w] /\ jI [.val d] = .ok (.str w) [] := by
 have num : ∀ {a : Int}, Jm a -> jI [.val (.int a)] = .ok (.str (it a)) [] := fun h => by
  unfold jI Za QK
  walk_at "gs"
  simp only [jX h]
  walk_at "gs"
 have txt : ∀ x : Str, jI [.val (.str x)] = .ok (.str x) [] := fun x => by
  unfold jI Za QK
  walk_at "gs"
  simp only [show jY (.str x) = some (.str x) from rfl]
  walk_at "gs"
 cases h with
 | nu h => exact ⟨_, rfl, num h⟩
 | va h =>
  cases h with
  | non =>
   refine ⟨_, rfl, ?_⟩
   unfold jI Za
   walk_at "gs"
  | int h => exact ⟨_, rfl, num h⟩
 | nm h => exact ⟨_, rfl, txt _⟩
 | he h => exact ⟨_, rfl, txt _⟩
 | @tr b =>
  refine ⟨_, rfl, ?_⟩
  unfold jI Za QK
  walk_at "gs"
  cases b <;> walk_at "gs"
 | ns h hl => exact absurd rfl hf
end K66
namespace K66
theorem zlb {acc : List Str} {w : Str} (h : acc.length <= 1000) : yI (sL acc) (.str w) = some (.non, sL (acc ++ [w])) := by
 unfold yI
 rw [if_pos (by rw [jd]; omega)]
 show some (D.non, sL acc ++ sL [w]) = _
 rw [Wj]
theorem zlc {acc ws : List Str} (h : acc.length <= 1000) (h2 : ws.length <= 1000) : V8 (sL acc) (.tup (sL ws)) = some (.non, sL (acc ++ ws)) := by
 unfold V8
 dsimp only
 rw [if_pos (by rw [jd, jd]; omega), Wj]
theorem ziT {f : Str} {d : D} {ws : List Str} (h : Jd f d ws) (hf : f ≠ "names") : decide (f = "names") = false := decide_eq_false hf
theorem ziU {f : Str} {d A B : D} {ws acc : List Str} (h : Jd f d ws) (hl : acc.length <= 1000) :
 jJ [.val A, .val B, .own (.lst (sL acc)), .val (.str f), .val d] = .ok .nx [.val A, .val B, .own (.lst (sL (acc ++ ws))), .val (.str f), .val d] := by
 unfold jJ
 by_cases hf : f = "names"
 · cases h with
   | @ns xs h hl2 =>
    have e := zk_ h (by omega)
    have e2 := zlc (ws := ws) hl (by omega)
    walk_at "gs"
    simp only [e]
    walk_at "gs"
    simp only [e2]
    walk_at "gs"
   | _ => exact absurd hf (by decide)
 · have e := zla h hf
   obtain ⟨w, rfl, e1⟩ := zgI h hf
   have e2 := zlb (w := w) hl
   have hd := ziT h hf
   walk_at "gs"
   simp only [hd]
   walk_at "gs"
   simp only [hd, e]
   walk_at "gs"
   simp only [e1]
   walk_at "gs"
   simp only [e2]
   walk_at "gs"
inductive Parts : List Str -> List D -> List Str -> Prop where
 | nil : Parts [] [] []
 | cons {f : Str} {d : D} {ws : List Str} {fs : List Str} {ds : List D} {vs : List Str} (h : Jd f d ws) (r : Parts fs ds vs) : Parts (f :: fs) (d :: ds) (ws ++ vs)
theorem Parts.len {fs : List Str} {ds : List D} {ws : List Str} (h : Parts fs ds ws) : fs.length = ds.length := by
 induction h with
 | nil => rfl
 | cons _ _ ih => simp [ih]
theorem zbv {f : Str} {d : D} {ws : List Str} (h : Jd f d ws) : ws.length <= 6 := by
 cases h with
 | ns h hl => exact hl
 | _ => exact Nat.le_of_ble_eq_true rfl
theorem ziV {A B : D} : ∀ {fs : List Str} {ds : List D} {ws : List Str} (acc : List Str) (s3 s4 : Slot), Parts fs ds ws -> acc.length + 6 * fs.length <= 1000 ->
 ∃ t3 t4, Jo (jq (zY (zm 3) (zY (zm 4) jz)) 2) jJ (YH fs ds) [.val A, .val B, .own (.lst (sL acc)), s3, s4] = .ok .nx [.val A, .val B, .own (.lst (sL (acc ++ ws))), t3, t4] := by
 intro fs ds ws acc s3 s4 h
 induction h generalizing acc s3 s4 with
 | nil => intro _; exact ⟨s3, s4, by rw [bj]; rfl⟩
 | @cons f d ws fs ds vs h r ih =>
  intro hl
  have l1 := zbv h
  have hl2 : acc.length + 6 * (fs.length + 1) <= 1000 := by simpa using hl
  obtain ⟨t3, t4, e⟩ := ih (acc ++ ws) (.val (.str f)) (.val d) (by rw [aI]; omega)
  refine ⟨t3, t4, ?_⟩
  show Jo _ _ (.tup [.str f, d] :: YH fs ds) _ = _
  unfold Jo
  have g : jq (zY (zm 3) (zY (zm 4) jz)) 2 (.tup [.str f, d]) [.val A, .val B, .own (.lst (sL acc)), s3, s4] = some [.val A, .val B, .own (.lst (sL acc)), .val (.str f), .val d] := rfl
  rw [g, yD, zw, ziU h (by omega)]
  show Jo _ _ (YH fs ds) _ = _
  rw [e, fC]
theorem zgJ {fs : List Str} {ds : List D} {ws : List Str} (h : Parts fs ds ws) (hl : fs.length <= 10) : Jc [.val (.kt fs), .val (.tup ds)] = .ok (.lst (sL ws)) [] := by
 obtain ⟨t3, t4, e⟩ := ziV (A := .kt fs) (B := .tup ds) [] .no .no h (by simp; omega)
 have ln := h.len
 refine yN rfl (?_ : _ = O.ok (End.rt (.lst (sL ws))) [.val (.kt fs), .val (.tup ds), .val (.lst (sL ws)), t3, t4])
 unfold Zt
 refine (zn (ρ1 := [.val (.kt fs), .val (.tup ds), .no, .no, .no]) ?_).trans ?_
 · show zR _ _ _ [.val (.kt fs), .val (.tup ds), .no, .no, .no] = _
   refine (Jw ?_).trans rfl
   refine Q5 ?_
   refine Jv (x := .int ds.length) (y := .int fs.length) rfl rfl ?_
   show (Z5 (.int ds.length) (.int fs.length)).map _ = _
   rw [ln]
   show some (D.bl (!decide ((ds.length : Int) = ds.length))) = _
   rw [decide_eq_true rfl]; rfl
 refine (zn (ρ1 := [.val (.kt fs), .val (.tup ds), .own (.lst (sL [])), .no, .no]) (by walk_at "gs"; rfl)).trans ?_
 unfold Qo
 have z : zaa (gCons (ze 0) (gCons (ze 1) gNil)) [.val (.kt fs), .val (.tup ds), .own (.lst (sL [])), .no, .no] = .ok (YH fs ds) [.val (.kt fs), .val (.tup ds), .own (.lst (sL [])), .no, .no] := by
  show yi (itZ [.kt fs, .tup ds]) _ = _
  unfold itZ
  dsimp only
  rw [if_pos ln]; rfl
 refine (zn (zc5 z |>.trans e)).trans ?_
 walk_at "gs"
def BK : List (Str × List Str) := [("begin", ["number", "number", "names"]), ("hear", ["number", "name", "number", "value", "number", "number", "heard"]), ("wake", ["number", "names"]), ("off", ["number", "truth"])]
theorem zc8 : jZ "begin" BK = some (["number", "number", "names"] : List Str) := by decide +kernel
theorem zc9 : jZ "hear" BK = some (["number", "name", "number", "value", "number", "number", "heard"] : List Str) := by decide +kernel
theorem zc_ : jZ "wake" BK = some (["number", "names"] : List Str) := by decide +kernel
theorem zbw : jZ "off" BK = some (["number", "truth"] : List Str) := by decide +kernel
theorem Rr {d : D} {ws : List Str} (h : Row d ws) : ∃ k ds fs vs, d = .tup (.str k :: ds) /\ ws = k :: vs /\ jZ k BK = some fs /\ fs.length <= 10 /\ Parts fs ds vs /\ ds ≠ [] := by
 cases h with
 | bg ha hb hn hl => exact ⟨_, _, _, _, rfl, rfl, zc8, by decide, by simpa using Parts.cons (.nu ha) (.cons (.nu hb) (.cons (.ns hn hl) .nil)), by simp⟩
 | wk ha hn hl => exact ⟨_, _, _, _, rfl, rfl, zc_, by decide, by simpa using Parts.cons (.nu ha) (.cons (.ns hn hl) .nil), by simp⟩
 | off ha => exact ⟨_, _, _, _, rfl, rfl, zbw, by decide, .cons (.nu ha) (.cons .tr .nil), by simp⟩
 | hr ha hn hb hv hc he hw => exact ⟨_, _, _, _, rfl, rfl, zc9, by decide, .cons (.nu ha) (.cons (.nm hn) (.cons (.nu hb) (.cons (.va hv) (.cons (.nu hc) (.cons (.nu he) (.cons (.he hw) .nil)))))), by simp⟩
theorem zld (xs ys : List Str) : wt (xs ++ ys) = wt xs + wt ys := by unfold wt; rw [eA, List.sum_append]
theorem zgK {ns : List Str} (h : j5 ns) : wt ns <= 8 * ns.length := by
 induction ns with
 | nil => exact bI _
 | cons n r ih =>
  have h1 := Qt (h n aq)
  have h2 := ih fun m hm => h m (aw _ hm)
  show n.length + wt r <= _
  rw [aB]
  omega
theorem ziW {f : Str} {d : D} {ws : List Str} (h : Jd f d ws) : wt ws <= 48 := by
 cases h with
 | nu h => have := Wk h; show (it _).length + 0 <= 48; omega
 | va h =>
  cases h with
  | non => decide
  | int h => have := Wk h; show (it _).length + 0 <= 48; omega
 | @nm x h => have := Qt h; show x.length + 0 <= 48; omega
 | @he x h => have := Qt (ZU _ h); show x.length + 0 <= 48; omega
 | @tr b => cases b <;> decide
 | ns h hl => have := zgK h; omega
theorem zbx {fs : List Str} {ds : List D} {ws : List Str} (h : Parts fs ds ws) : wt ws <= 48 * fs.length /\ ws.length <= 6 * fs.length := by
 induction h with
 | nil => exact ⟨bI _, bI _⟩
 | cons h _ ih =>
  have a := ziW h
  have b := zbv h
  rw [zld, aI, aB]
  omega
theorem Uk {d : D} {ws : List Str} (h : Row d ws) : wt ws <= 500 /\ ws.length <= 61 := by
 obtain ⟨k, ds, fs, vs, rfl, rfl, hk, hl, hp, _⟩ := Rr h
 have a := zbx hp
 have b : k.length <= 8 := by cases h <;> decide
 show k.length + wt vs <= 500 /\ vs.length + 1 <= 61
 omega
theorem Yi : (av " ").length = 1 := by decide +kernel
theorem Ul : (av "\n").length = 1 := by decide +kernel
theorem WQ {d : D} {ws : List Str} (h : Row d ws) : JW " " (.lst (sL ws)) = some (.str (aN " " ws)) := Vo (by have := Uk h; rw [Yi]; omega)
theorem zbX {d : D} {ws : List Str} (h : Row d ws) : jT [.val d] = .ok (.str (aN " " ws)) [] := by
 have hj := WQ h
 obtain ⟨k, ds, fs, vs, rfl, rfl, hk, hl, hp, hne⟩ := Rr h
 have e := zgJ hp hl
 have hv := (zbx hp).2
 refine yN rfl (?_ : _ = O.ok (End.rt (.str (aN " " (k :: vs)))) [.val (.tup (.str k :: ds)), .val (.lst (sL vs))])
 unfold YS
 refine (zn (ρ1 := [.val (.tup (.str k :: ds)), .no]) ?_).trans ?_
 · have e1 : YF true (.str k) (.kd BK) = some (.bl false) := by
    show some (D.bl (!(jZ k BK).isSome)) = _
    rw [hk]; rfl
   unfold BK at e1
   walk_at "gs"
   simp only [e1]
   walk_at "gs"
 unfold Zv
 refine (zn (ρ1 := [.val (.tup (.str k :: ds)), .val (.lst (sL vs))]) (jk (ρ1 := [.val (.tup (.str k :: ds)), .no]) (yG (ds := [.kt fs, .tup ds]) (ρ1 := [.val (.tup (.str k :: ds)), .no]) ?_ e))).trans ?_
 · have e2 : YG (.kd BK) (.str k) = some (.kt fs) := by
    show (jZ k BK).map D.kt = _
    rw [hk]; rfl
   unfold BK at e2
   have e3 : zeb (zj 0) (Jg (gC (.int 1))) jE [.val (.tup (.str k :: ds)), .no] = .ok (.tup ds) [.val (.tup (.str k :: ds)), .no] := by
    show yi (zbi (.tup (.str k :: ds)) (some 1) none) _ = _
    have c : zbi (.tup (.str k :: ds)) (some 1) none = some (.tup ds) := by
     unfold zbi
     dsimp only
     have s1 : HT.sIx (D.str k :: ds).length 0 (some 1) = 1 := by
      unfold HT.sIx
      simp
     rw [if_neg (by rw [s1]; simp)]
     unfold jO
     rw [s1]
     have s2 : HT.sIx (D.str k :: ds).length (D.str k :: ds).length none = (D.str k :: ds).length := rfl
     rw [s2, List.drop_one, List.tail_cons, aB, Nat.add_sub_cancel, dW]
    rw [c]; rfl
   refine (Qr (x := .kt fs) (ρ1 := [.val (.tup (.str k :: ds)), .no]) ?_).trans ?_
   · walk_at "gs"
     simp only [e2]
     walk_at "gs"
   · rw [Qr e3]; rfl
 unfold Zu
 have l1 : 1 + (sL vs).length <= 100000 := by rw [jd]; omega
 have hj' : JW " " (.lst (.str k :: sL vs)) = some (.str (aN " " (k :: vs))) := hj
 refine Yh ?_
 walk_at "gs"
 simp only [if_pos l1]
 walk_at "gs"
 simp only [hj']
 walk_at "gs"
inductive Book : List D -> List Str -> Prop where
 | nil : Book [] []
 | cons {d : D} {ws : List Str} {ds : List D} {ts : List Str} (h : Row d ws) (r : Book ds ts) : Book (d :: ds) (aN " " ws :: ts)
theorem Book.len {ds : List D} {ts : List Str} (h : Book ds ts) : ts.length = ds.length := by
 induction h with
 | nil => rfl
 | cons _ _ ih => simp [ih]
theorem Book.wt {ds : List D} {ts : List Str} (h : Book ds ts) : wt ts <= 600 * ts.length := by
 induction h with
 | nil => exact bI _
 | @cons d ws ds ts h _ ih =>
  have a := Qs " " ws
  have b := Uk h
  rw [Yi] at a
  show (aN " " ws).length + K66.wt ts <= _
  rw [aB]
  omega
theorem Book.rows {ds : List D} {ts : List Str} (h : Book ds ts) : ∀ d ∈ ds, ∃ ws, Row d ws := by
 induction h with
 | nil => intro d h; cases h
 | cons h _ ih =>
  intro d hd
  rcases ak.mp hd with e | e
  · subst e; exact ⟨_, h⟩
  · exact ih d e
theorem Book.app {ds es : List D} {ts us : List Str} (h : Book ds ts) (k : Book es us) : Book (ds ++ es) (ts ++ us) := by
 induction h with
 | nil => exact k
 | cons h _ ih => exact .cons h ih
theorem Book.of : ∀ {ds : List D}, (∀ d ∈ ds, ∃ ws, Row d ws) -> ∃ ts, Book ds ts
 | [], _ => ⟨[], .nil⟩
 | d :: r, h => by
  obtain ⟨ws, hd⟩ := h d aq
  obtain ⟨ts, hr⟩ := Book.of fun x hx => h x (aw _ hx)
  exact ⟨_, .cons hd hr⟩
theorem Rs {e : G D} (he : ∀ d ws, Row d ws -> e [.val d] = .ok (.str (aN " " ws)) [.val d]) : ∀ {ds : List D} {ts : List Str}, Book ds ts -> ∀ s, ∃ s', zW (zm 0) yb e ds [s] = .ok (sL ts) [s'] := by
 intro ds ts h
 induction h with
 | nil => exact fun s => ⟨s, rfl⟩
 | @cons d ws ds ts h _ ih =>
  intro s
  obtain ⟨s', e'⟩ := ih (.val d)
  refine ⟨s', ?_⟩
  unfold zW
  show (yi (some [Slot.val d]) [s]).bind _ = _
  rw [yD, zw]
  show (O.bind (.ok true _) _) = _
  rw [zw, if_pos rfl, he d ws h, zw, e', zw]; rfl
theorem Rt {l : List D} (h : l.all nOr = true) (h2 : l.any WM = false) : yq [.val (.lst l)] = .ok .non [] := by
 have e : WN .non (.lst l) = some (.bl false) := by
  unfold WN
  dsimp only
  rw [if_pos h, h2]
 unfold yq QR
 walk_at "gs"
 simp only [e]
 walk_at "gs"
theorem zle (ts : List Str) : (sL ts).all nOr = true := by
 rw [aP]
 intro d hd
 obtain ⟨x, _, rfl⟩ := bd.mp hd
 rfl
theorem zlY (ts : List Str) : (sL ts).any WM = false := by
 rw [dI]
 intro d hd
 obtain ⟨x, _, rfl⟩ := bd.mp hd
 exact af
theorem ziX {ds : List D} {ts : List Str} (h : Book ds ts) (hl : wt ts + ts.length <= 20000) : jw [.val (.lst ds)] = .ok (.str (aN "\n" ts)) [] := by
 have ln := h.len
 have hj : JW "\n" (.lst (sL ts)) = some (.str (aN "\n" ts)) := Vo (by rw [Ul]; omega)
 obtain ⟨s', e⟩ := Rs (e := zz jT (gCons (ze 0) gNil)) (fun d ws h => yG (ds := [d]) rfl (zbX h)) h .no
 have ed := Rt (zle ts) (zlY ts)
 refine yN rfl (?_ : _ = O.ok (End.rt (.str (aN "\n" ts))) [.val (.lst ds), .val (.lst (sL ts))])
 unfold ZR
 refine (zn (ρ1 := [.val (.lst ds), .no]) (by walk_at "gs")).trans ?_
 unfold QU
 have ec : zQ (z9 (ze 0)) [none] (zm 0) yb (zz jT (gCons (ze 0) gNil)) [.val (.lst ds), .no] = .ok (.lst (sL ts)) [.val (.lst ds), .no] := ym (ds := ds) rfl (by omega) e (by walk_at "gs")
 refine (zn (jk ec)).trans ?_
 unfold QT
 refine (zn (ρ1 := [.val (.lst ds), .val (.lst (sL ts))]) (zbs (yG (ds := [.lst (sL ts)]) rfl ed))).trans ?_
 walk_at "gs"
 simp only [hj]
 walk_at "gs"
end K66
namespace K66
theorem zda {a b : Str} (h : a.cps.toList = b.cps.toList) : a = b := by
 cases a; cases b; exact congrArg Str.mk (Array.toList_inj.mp h)
theorem zlf {c : Nat} : ∀ {a b A B : List Nat}, c ∉ a -> c ∉ b -> a ++ c :: A = b ++ c :: B -> a = b /\ A = B
 | [], [], _, _, _, _, h => by simpa using h
 | [], x :: b, _, _, _, hb, h => by
  simp only [cB, bY, dd] at h
  exact absurd (h.1 ▸ aq) hb
 | x :: a, [], _, _, ha, _, h => by
  simp only [cB, bY, dd] at h
  exact absurd (h.1 ▸ aq) ha
 | x :: a, y :: b, A, B, ha, hb, h => by
  simp only [bY, dd] at h
  obtain ⟨e1, e2⟩ := zlf (fun z => ha (aw _ z)) (fun z => hb (aw _ z)) h.2
  exact ⟨by rw [h.1, e1], e2⟩
theorem jn2 (c : Nat) (a b : Str) (r : List Str) : (bC ⟨#[c]⟩ (a :: b :: r)).cps.toList = a.cps.toList ++ c :: (bC ⟨#[c]⟩ (b :: r)).cps.toList := by
 show (a ++ ⟨#[c]⟩ ++ bC ⟨#[c]⟩ (b :: r) : Str).cps.toList = _
 rw [Yg, Yg]; simp
theorem zby (c : Nat) : ∀ {ps ys : List Str}, ps ≠ [] -> ys ≠ [] -> (∀ p ∈ ps, c ∉ p.cps.toList) -> (∀ p ∈ ys, c ∉ p.cps.toList) -> bC ⟨#[c]⟩ ps = bC ⟨#[c]⟩ ys -> ps = ys
 | [], _, h, _, _, _, _ => absurd rfl h
 | _, [], _, h, _, _, _ => absurd rfl h
 | [a], [b], _, _, _, _, h => by rw [show a = b from h]
 | [a], b :: b2 :: r, _, _, ha, _, h => by
  have h' : (bC ⟨#[c]⟩ _).cps.toList = (bC ⟨#[c]⟩ _).cps.toList := congrArg (fun s : Str => s.cps.toList) h
  rw [jn2] at h'
  refine absurd ?_ (ha a aq)
  rw [show a.cps.toList = _ from h']; simp
 | a :: a2 :: r, [b], _, _, _, hb, h => by
  have h' : (bC ⟨#[c]⟩ _).cps.toList = (bC ⟨#[c]⟩ _).cps.toList := congrArg (fun s : Str => s.cps.toList) h
  rw [jn2] at h'
  refine absurd ?_ (hb b aq)
  rw [← show _ = b.cps.toList from h']; simp
 | a :: a2 :: r, b :: b2 :: q, _, _, ha, hb, h => by
  have h' : (bC ⟨#[c]⟩ _).cps.toList = (bC ⟨#[c]⟩ _).cps.toList := congrArg (fun s : Str => s.cps.toList) h
  rw [jn2, jn2] at h'
  obtain ⟨e1, e2⟩ := zlf (ha a aq) (hb b aq) h'
  have ih := zby c (ps := a2 :: r) (ys := b2 :: q) (by simp) (by simp) (fun p hp => ha p (aw _ hp)) (fun p hp => hb p (aw _ hp)) (zda e2)
  rw [zda e1, ih]
theorem zgL (x y : Str) : cp x y ≠ [] := by
 unfold cp
 split
 · simp
 · split
   · simp
   · intro h
     have := congrArg ci h
     rw [dG] at this
     simp at this
theorem spl {c : Nat} {ys : List Str} (ne : ys ≠ []) (h : ∀ y ∈ ys, c ∉ y.cps.toList) : cp (aN ⟨#[c]⟩ ys) ⟨#[c]⟩ = ys := by
 have e : aN ⟨#[c]⟩ ys = bC ⟨#[c]⟩ ys := bf ..
 rw [e]
 exact zby c (zgL _ _) ne (StrLaws.split_free _ c) h (StrLaws.join_split _ _)
theorem zhF : (av " ") = ⟨#[32]⟩ := by decide +kernel
theorem zlZ : (av "\n") = ⟨#[10]⟩ := by decide +kernel
def Cl (w : Str) : Prop := ∀ c ∈ w.cps.toList, 33 <= c
theorem WR {n : Str} (h : y7 n = true) : Cl n := fun c hc => by
 unfold y7 at h
 rw [aD] at h
 have := aP.mp h.2 c hc
 unfold Jj at this
 rw [aD, decide_eq_true_eq] at this
 omega
theorem Um {i : Int} (h : Jm i) : ∀ c ∈ (it i).cps.toList, 48 <= c /\ c <= 57 := fun c hc => by
 obtain ⟨m, rfl⟩ := cK h.1
 rw [show (it (m : Int)).cps.toList = _ from cT m] at hc
 obtain ⟨ch, hch, e⟩ := bd.mp hc
 have r := PyProof.Rows.digit_range (Nat.isDigit_of_mem_toDigits (by decide) (by decide) hch)
 rw [← e]
 exact r
theorem Q6 {i : Int} (h : Jm i) : Cl (it i) := fun c hc => by have := Um h c hc; omega
theorem Yj {w : Str} (h : w.cps.toList.all (fun c => decide (33 <= c)) = true) : Cl w := fun c hc => by simpa using aP.mp h c hc
theorem zgM {w : Str} (h : w ∈ heard) : Cl w := WR (ZU w h)
theorem zbz {d : D} {ws : List Str} (h : Row d ws) : ws ≠ [] /\ ∀ w ∈ ws, Cl w := by
 have key : ∀ {ns : List Str}, j5 ns -> ∀ w ∈ ns, Cl w := fun hn w hw => WR (hn w hw)
 cases h with
 | bg ha hb hn hl =>
  refine ⟨by simp, fun w hw => ?_⟩
  simp only [ak] at hw
  rcases hw with rfl | rfl | rfl | hw
  · exact Yj (by decide +kernel)
  · exact Q6 ha
  · exact Q6 hb
  · exact key hn w hw
 | wk ha hn hl =>
  refine ⟨by simp, fun w hw => ?_⟩
  simp only [ak] at hw
  rcases hw with rfl | rfl | hw
  · exact Yj (by decide +kernel)
  · exact Q6 ha
  · exact key hn w hw
 | @off a b ha =>
  refine ⟨by simp, fun w hw => ?_⟩
  simp only [ak, ax, or_false] at hw
  rcases hw with rfl | rfl | rfl
  · exact Yj (by decide +kernel)
  · exact Q6 ha
  · cases b <;> exact Yj (by decide +kernel)
 | hr ha hn hb hv hc he hw' =>
  refine ⟨by simp, fun w hw => ?_⟩
  simp only [ak, ax, or_false] at hw
  rcases hw with rfl | rfl | rfl | rfl | rfl | rfl | rfl | rfl
  · exact Yj (by decide +kernel)
  · exact Q6 ha
  · exact WR hn
  · exact Q6 hb
  · cases hv with
    | non => exact Yj (by decide +kernel)
    | int h => exact Q6 h
  · exact Q6 hc
  · exact Q6 he
  · exact zgM hw'
theorem zbA (z : Str) : ∀ (ys : List Str) (c : Nat), c ∈ (aN z ys).cps.toList -> c ∈ z.cps.toList \/ ∃ y ∈ ys, c ∈ y.cps.toList
 | [], c, h => by rw [show aN z [] = bC z [] from bf ..] at h; cases h
 | [a], c, h => by
  rw [show aN z [a] = bC z [a] from bf ..] at h
  exact .inr ⟨a, aq, h⟩
 | a :: b :: r, c, h => by
  have ih := zbA z (b :: r) c
  rw [show aN z (b :: r) = bC z (b :: r) from bf ..] at ih
  rw [show aN z (a :: b :: r) = a ++ z ++ bC z (b :: r) from bf .., Yg, Yg, bH, bH] at h
  rcases h with (h | h) | h
  · exact .inr ⟨a, aq, h⟩
  · exact .inl h
  · rcases ih h with h | ⟨y, hy, h⟩
    · exact .inl h
    · exact .inr ⟨y, aw _ hy, h⟩
theorem zfs {d : D} {ws : List Str} (h : Row d ws) : j9 " " (.str (aN " " ws)) = some (sL ws) := by
 have a := Qs " " ws
 have b := Uk h
 rw [Yi] at a
 show (if (av " ").length = 1 /\ _ then _ else _) = _
 rw [if_pos ⟨Yi, by omega⟩, zhF, spl (zbz h).1 fun y hy hc => by have := (zbz h).2 y hy 32 hc; omega]; rfl
theorem Book.free {ds : List D} {ts : List Str} (h : Book ds ts) : ∀ t ∈ ts, 10 ∉ t.cps.toList /\ 1 <= t.length := by
 induction h with
 | nil => intro t h; cases h
 | @cons d ws ds ts h _ ih =>
  intro t ht
  rcases ak.mp ht with rfl | ht
  · obtain ⟨h1, h2⟩ := zbz h
    refine ⟨fun hc => ?_, ?_⟩
    · rcases zbA _ _ _ hc with hc | ⟨y, hy, hc⟩
      · rw [zhF] at hc; simp at hc
      · have := h2 y hy 10 hc; omega
    · cases h with
      | _ =>
       rw [show aN _ _ = bC _ _ from bf .., cm]
       simp only [aQ, fb]
       have e1 : (av "begin").length = 5 := by decide +kernel
       have e2 : (av "wake").length = 4 := by decide +kernel
       have e3 : (av "off").length = 3 := by decide +kernel
       have e4 : (av "hear").length = 4 := by decide +kernel
       omega
  · exact ih t ht
theorem zek {ds : List D} {ts : List Str} (h : Book ds ts) (ne : ts ≠ []) (hl : wt ts + ts.length <= 20000) : j9 "\n" (.str (aN "\n" ts)) = some (sL ts) := by
 have a := Qs "\n" ts
 rw [Ul] at a
 show (if (av "\n").length = 1 /\ _ then _ else _) = _
 rw [if_pos ⟨Ul, by omega⟩, zlZ, spl ne fun y hy => (h.free y hy).1]; rfl
end K66
namespace K66
def Vp (c : Nat) : Bool := decide (48 <= c) && decide (c <= 57)
theorem zbB : (av "0").cps.toList = [48] := by decide +kernel
theorem zlg : (av "9").cps.toList = [57] := by decide +kernel
theorem zft {s : Slot} (x : Str) : ∃ s', zW (zm 0) yb (jD y4 y4 (gC (.str "0")) (ze 0) (gC (.str "9"))) (x.cps.toList.map fun c => D.str ⟨#[c]⟩) [s] = .ok (x.cps.toList.map fun c => D.bl (Vp c)) [s'] := by
 have h := YT (g := zm 0) (e := jD y4 y4 (gC (.str "0")) (ze 0) (gC (.str "9"))) (fun ρ => ρ.length = 1) (fun d => match d with | .str y => .bl (Vp (y.cps.toList.getD 0 0)) | d => d) (fun d => ∃ c, d = .str ⟨#[c]⟩) (fun d ρ ⟨c, hc⟩ hl => by
  subst hc
  match ρ, hl with
  | [t], _ =>
   refine ⟨_, [.val (.str ⟨#[c]⟩)], rfl, ?_, rfl⟩
   walk_at "gs"
   have e1 : y4 (.str "0") (.str ⟨#[c]⟩) = some (.bl (decide (48 <= c))) := by
    unfold y4
    dsimp only
    simp only [zbB, Wi]
   have e2 : y4 (.str ⟨#[c]⟩) (.str "9") = some (.bl (decide (c <= 57))) := by
    unfold y4
    dsimp only
    simp only [zlg, Wi]
   rw [e1, yD, zw, V1, zw]
   show _ = O.ok (D.bl (Vp c)) _
   unfold Vp
   by_cases h : 48 <= c
   · rw [decide_eq_true h, if_pos rfl, e2, cZ]; rfl
   · rw [decide_eq_false h, if_neg af, cN]) (x.cps.toList.map fun c => D.str ⟨#[c]⟩) [s] (fun d hd => by
  obtain ⟨c, _, e⟩ := bd.mp hd
  exact ⟨c, e.symm⟩) rfl
 obtain ⟨ρ', e, hl⟩ := h
 match ρ', hl with
 | [t], _ =>
  refine ⟨t, ?_⟩
  rw [e, fw]
  rfl
theorem ziY (m : Nat) : 0 < m -> ∃ c r, (dj 10 m).map dl = c :: r /\ c ≠ 48 := by
 induction m using Nat.strongRecOn with
 | _ m ih =>
  intro h0
  by_cases h : m < 10
  · rw [Nat.toDigits_of_lt_base h]
    have key : ∀ d, d < 10 -> 0 < d -> (Nat.digitChar d).toNat ≠ 48 := by decide
    exact ⟨_, _, rfl, key m h h0⟩
  · have hm : m % 10 < 10 := Nat.mod_lt m (by decide)
    have t : dj 10 (m / 10) ++ dj 10 (m % 10) = dj 10 (10 * (m / 10) + m % 10) := Nat.toDigits_append_toDigits (by decide) (by omega) hm
    rw [Nat.div_add_mod] at t
    obtain ⟨c, r, e, hc⟩ := ih (m / 10) (by omega) (by omega)
    exact ⟨c, r ++ (dj 10 (m % 10)).map dl, by rw [← t, eA, e]; rfl, hc⟩
theorem zl0 {i : Int} (h : Jm i) : 1 <= (it i).length := by
 obtain ⟨m, rfl⟩ := cK h.1
 rw [Zb, show (it (m : Int)).cps.toList = _ from cT m, aA]
 exact PySem.toDigits_len_ge 10 m
theorem zdb {i : Int} (h : Jm i) : jF [.val (.str (it i))] = .ok (.bl true) [] := by
 have h1 := zl0 h
 have h9 := Wk h
 have hd := Um h
 have hs : ((it i).cps.toList.all Vp) = true := aP.mpr fun c hc => by
  have := hd c hc
  unfold Vp
  rw [decide_eq_true this.1, decide_eq_true this.2]; rfl
 obtain ⟨s', ec⟩ := zft (s := .no) (it i)
 have ei : QZ (ze 0) [.val (.str (it i))] = .ok ((it i).cps.toList.map fun c => D.str ⟨#[c]⟩) [.val (.str (it i))] := rfl
 have ea : zF j8 (gO (zQ (QZ (ze 0)) [none] (zm 0) yb (jD y4 y4 (gC (.str "0")) (ze 0) (gC (.str "9"))))) [.val (.str (it i))] = .ok (.bl true) [.val (.str (it i))] := by
  refine JN (ym (js := [none]) (ρ2 := [.val (.str (it i))]) ei (by rw [aA, ← Zb]; omega) ec rfl) ?_
  show (jg _).map _ = _
  rw [Vn]
  show some (D.bl (((it i).cps.toList.map Vp).all id)) = _
  rw [zfo, hs]
 refine yN (ρ := [.val (.str (it i))]) rfl ?_
 unfold Zp
 refine (zn (ρ1 := [.val (.str (it i))]) ?_).trans ?_
 · walk_at "gs"
   rw [if_pos (show (it i).length <= 100000 by omega)]
   walk_at "gs"
   rw [decide_eq_true (show (1 : Int) <= (it i).length by omega), decide_eq_true (show ((it i).length : Int) <= 10 by omega)]
   walk_at "gs"
 unfold Qc
 refine Yh ?_
 rw [zbr ea, if_pos rfl]
 by_cases h0 : i = 0
 · subst h0
   have e0 : it 0 = av "0" := by decide +kernel
   rw [e0]
   walk_at "gs"
 · obtain ⟨m, rfl⟩ := cK h.1
   obtain ⟨c, r, e, hc⟩ := ziY m (by omega)
   have e' : (it (m : Int)).cps.toList = c :: r := (cT m).trans e
   have n1 : it (m : Int) ≠ av "0" := fun z => by
    rw [z, zbB] at e'
    cases e'; exact hc rfl
   have n2 : (⟨#[c]⟩ : Str) ≠ av "0" := fun z => by
    have t : ([c] : List Nat) = [48] := (congrArg (fun s : Str => s.cps.toList) z).trans zbB
    cases t; exact hc rfl
   have ex : zH (.str (it (m : Int))) (.int 0) = some (.str ⟨#[c]⟩) := by
    rw [zhu (by omega) (by decide) (by rw [e']; simp), e']; rfl
   generalize it (m : Int) = x at *
   walk_at "gs"
   rw [decide_eq_false n1]
   walk_at "gs"
   simp only [ex]
   walk_at "gs"
   rw [decide_eq_false n2]
   walk_at "gs"
theorem ziZ : jF [.val (.str "-")] = .ok (.bl false) [] := rfl
theorem zdc {i : Int} (h : Jm i) : it i ≠ av "-" := fun z => by
 have := Um h 45 (by rw [z]; decide +kernel)
 omega
theorem zdd {n : Str} (h : y7 n = true) : zT [.val (.str n)] = .ok (.bl true) [] := by
 rw [YU (k := "str") rfl (fun y hy => by cases hy; exact aO (Qt h) (by decide))]
 show RF.ok (.bl (y7 n)) [] = _
 rw [h]
theorem zfu {i : Int} (h : Jm i) : UK (.str (it i)) = some (.int i) := by
 unfold UK
 dsimp only
 rw [if_pos (aO (Wk h) (by decide)), PySem.W.KIN.num_reads h.1 (by have := h.2; omega)]; rfl
theorem zi0 {f w : Str} {d : D} (h : Jd f d [w]) (hf : f ≠ "names") : yE [.val (.str f), .val (.str w)] = .ok (.bl true) [] := by
 generalize hw : [w] = ws at h
 unfold yE Zq Qf Qe Qd
 cases h with
 | nu h =>
  cases hw
  have e := zdb h
  walk_at "gs"
  simp only [e]
  walk_at "gs"
 | va h =>
  cases hw
  cases h with
  | non => have e := ziZ; walk_at "gs"; simp only [e]; walk_at "gs"
  | int h =>
   have e := zdb h
   walk_at "gs"
   simp only [e]
   walk_at "gs"
 | nm h =>
  cases hw
  have e := zdd h
  walk_at "gs"
  simp only [e]
  walk_at "gs"
 | he h =>
  cases hw
  have e := zbu h
  unfold heard at e
  walk_at "gs"
  simp only [e]
  walk_at "gs"
 | @tr b =>
  cases hw
  cases b <;> rfl
 | ns h hl => exact absurd rfl hf
theorem zgN {f w : Str} {d : D} (h : Jd f d [w]) (hf : f ≠ "names") : Qg [.val (.str f), .val (.str w)] = .ok d [] := by
 generalize hw : [w] = ws at h
 cases h with
 | @nu a h =>
  cases hw
  have e := zfu h
  have n := zdc h
  refine yN (ρ := [.val (.str "number"), .val (.str (it a))]) rfl ?_
  refine (zn (ρ1 := [.val (.str "number"), .val (.str (it a))]) rfl).trans ?_
  refine (zn (ρ1 := [.val (.str "number"), .val (.str (it a))]) rfl).trans ?_
  unfold ZD
  generalize it a = x at *
  walk_at "gs"
  rw [decide_eq_false n]
  walk_at "gs"
  simp only [e]
  walk_at "gs"
 | va h =>
  cases hw
  cases h with
  | non => rfl
  | @int a h =>
   have e := zfu h
   have n := zdc h
   refine yN (ρ := [.val (.str "value"), .val (.str (it a))]) rfl ?_
   refine (zn (ρ1 := [.val (.str "value"), .val (.str (it a))]) rfl).trans ?_
   refine (zn (ρ1 := [.val (.str "value"), .val (.str (it a))]) rfl).trans ?_
   unfold ZD
   generalize it a = x at *
   walk_at "gs"
   rw [decide_eq_false n]
   walk_at "gs"
   simp only [e]
   walk_at "gs"
 | nm h => cases hw; rfl
 | he h => cases hw; rfl
 | @tr b =>
  cases hw
  cases b <;> rfl
 | ns h hl => exact absurd rfl hf
end K66
namespace K66
theorem zbC {α : Type} {xs : List α} {k : Nat} (h : k <= xs.length) : jO xs (some (k : Int)) none = xs.drop k := by
 unfold jO; rw [HT.sIx_none, HT.sIx_nat, gq h]; exact eg (by simp)
theorem zde (ss : List Str) : (ss.map D.str).all y3 = true := by
 rw [aP]
 intro d hd
 obtain ⟨x, _, rfl⟩ := bd.mp hd
 rfl
theorem zhG {neg : Bool} {x : Str} {ss : List Str} (h : x ∈ ss) : QV neg (.str x) (.kt ss) = some (.bl (!neg)) := by
 have e : YV (.str x) (ss.map D.str) = true := by
  unfold YV
  rw [d5, fW]
  exact ⟨x, h, by show (x == x) = true; simp⟩
 unfold QV
 show (if y3 (.str x) = true /\ (ss.map D.str).all y3 = true then _ else _) = _
 rw [if_pos ⟨rfl, zde ss⟩, e]; cases neg <;> rfl
theorem zlh {x : Str} {ss : List Str} (h : x ∉ ss) : QV false (.str x) (.kt ss) = some (.bl false) := by
 have e : YV (.str x) (ss.map D.str) = false := by
  unfold YV
  rw [d5, dI]
  intro y hy
  show ¬ (y == x) = true
  intro z
  exact h (by rw [← eq_of_beq z]; exact hy)
 unfold QV
 show (if y3 (.str x) = true /\ (ss.map D.str).all y3 = true then _ else _) = _
 rw [if_pos ⟨rfl, zde ss⟩, e]; rfl
inductive Pl : List Str -> List D -> List Str -> Prop where
 | nil : Pl [] [] []
 | cons {f w : Str} {d : D} {fs : List Str} {ds : List D} {vs : List Str} (h : Jd f d [w]) (hf : f ≠ "names") (r : Pl fs ds vs) : Pl (f :: fs) (d :: ds) (w :: vs)
theorem Pl.len {fs : List Str} {ds : List D} {vs : List Str} (h : Pl fs ds vs) : vs.length = fs.length /\ ds.length = fs.length := by
 induction h with
 | nil => exact ⟨rfl, rfl⟩
 | cons _ _ _ ih => simp [ih.1, ih.2]
theorem Pl.no {fs : List Str} {ds : List D} {vs : List Str} (h : Pl fs ds vs) : av "names" ∉ fs := by
 induction h with
 | nil => simp
 | cons _ hf _ ih => simp only [ak, not_or]; exact ⟨aS hf, ih⟩
theorem zli : ∀ (fs : List Str) (s : Slot), ∃ s', zW (zm 0) (gB (zi J4 (zj 0) (gO (gC (.str "names"))))) (ze 0) (fs.map D.str) [s] = .ok (sL (fs.filter fun f => !decide (f = av "names"))) [s']
 | [], s => ⟨s, rfl⟩
 | f :: r, s => by
  obtain ⟨s', e⟩ := zli r (.val (.str f))
  refine ⟨s', ?_⟩
  rw [aQ]
  refine (zgE (g := zm 0) (c := gB (zi J4 (zj 0) (gO (gC (.str "names"))))) (e := ze 0) (d := .str f) (y := .str f) (b := !decide (f = av "names")) (ρ1 := [.val (.str f)]) rfl rfl rfl e).trans ?_
  rw [List.filter_cons]
  split <;> rfl
def tf : Option (List Str) -> List Str | none => [] | some _ => ["names"]
def td : Option (List Str) -> List D | none => [] | some ns => [.tup (sL ns)]
def tv : Option (List Str) -> List Str | none => [] | some ns => ns
theorem zi1 {fs : List Str} {ds : List D} {vs : List Str} (h : Pl fs ds vs) (t : Option (List Str)) : (fs ++ tf t).filter (fun f => !decide (f = av "names")) = fs := by
 rw [List.filter_append, List.filter_eq_self.mpr fun f hf => by
  rw [decide_eq_false (fun (z : f = av "names") => h.no (by rw [← z]; exact hf))]; rfl]
 cases t with
 | none => simp [tf]
 | some ns => simp [tf]
def jV (fs vs : List Str) : List D := (fs.zip vs).map fun x => .tup [.str x.1, .str x.2]
theorem zdf : ∀ {fs : List Str} {ds : List D} {vs : List Str}, Pl fs ds vs -> ∀ ns, jA (sL fs) (sL (vs ++ ns)) = jV fs vs
 | _, _, _, .nil, ns => by unfold jA jV sL; simp
 | _, _, _, .cons (fs := fs) (vs := vs) _ _ r, ns => by
  have ih := zdf r ns
  unfold jA jV sL at *
  simp only [aQ, bY, dA, ih]
theorem WS {e : G D} {K : Str -> D -> Str -> D} (he : ∀ {f w : Str} {d : D}, Jd f d [w] -> f ≠ av "names" -> e [.val (.str f), .val (.str w)] = .ok (K f d w) [.val (.str f), .val (.str w)]) : ∀ {fs : List Str} {ds : List D} {vs : List Str}, Pl fs ds vs -> ∀ (s t : Slot),
 ∃ s' t', zW (jq (zY (zm 0) (zY (zm 1) jz)) 2) yb e (jV fs vs) [s, t] = .ok (bo (fun x d => K x.1 d x.2) (fs.zip vs) ds) [s', t']
 | _, _, _, .nil, s, t => ⟨s, t, rfl⟩
 | _, _, _, .cons (f := f) (w := w) (d := d) (fs := fs) (ds := ds) (vs := vs) h hf r, s, t => by
  obtain ⟨s', t', e'⟩ := WS he r (.val (.str f)) (.val (.str w))
  refine ⟨s', t', ?_⟩
  show zW _ yb e (.tup [.str f, .str w] :: jV fs vs) [s, t] = _
  exact Qq (ρ1 := [.val (.str f), .val (.str w)]) rfl (he h hf) e'
theorem zlj : ∀ {fs : List Str} {ds : List D} {vs : List Str}, Pl fs ds vs -> bo (fun (x : Str × Str) (d : D) => d) (fs.zip vs) ds = ds
 | _, _, _, .nil => rfl
 | _, _, _, .cons _ _ r => by simp only [dA, cP, zlj r]
theorem zlk : ∀ {fs : List Str} {ds : List D} {vs : List Str}, Pl fs ds vs -> jg (bo (fun (x : Str × Str) (d : D) => D.bl true) (fs.zip vs) ds) = some (fs.map fun _ => true)
 | _, _, _, .nil => rfl
 | _, _, _, .cons _ _ r => by simp only [dA, cP, jg, zlk r, bG, aQ]
theorem zdg : ∀ (ns : List Str) (s : Slot), j5 ns -> ∃ s', zW (zm 0) yb (zz zT (gCons (ze 0) gNil)) (sL ns) [s] = .ok ((sL ns).map fun _ => D.bl true) [s']
 | [], s, _ => ⟨s, rfl⟩
 | n :: r, s, h => by
  obtain ⟨s', e⟩ := zdg r (.val (.str n)) fun x hx => h x (aw _ hx)
  exact ⟨s', Qq (ρ1 := [.val (.str n)]) rfl (yG (ds := [.str n]) rfl (zdd (h n aq))) e⟩
theorem zbD {α : Type} (l : List α) : (l.map fun _ => true).all id = true := by
 induction l with
 | nil => rfl
 | cons a r ih => rw [aQ, bx, ih]; rfl
theorem Rw {pf : List Str} {pd : List D} {pv : List Str} (h : Pl pf pd pv) (hl : pf.length <= 10) (t : Option (List Str)) (ht : j5 (tv t) /\ (tv t).length <= 6) :
 Ja [.val (.kt (pf ++ tf t)), .val (.lst (sL (pv ++ tv t)))] = .ok (.lst (pd ++ td t)) [] := by
 obtain ⟨l1, l2⟩ := h.len
 have lw : (sL (pv ++ tv t)).length = pf.length + (tv t).length := by rw [jd, aI, l1]
 obtain ⟨s1, e1⟩ := zli (pf ++ tf t) .no
 rw [zi1 h t] at e1
 have c1 := ym (js := [none]) (ρ2 := [.val (.kt (pf ++ tf t)), .val (.lst (sL (pv ++ tv t))), .no, .no, .no, .no]) (ρ := [.val (.kt (pf ++ tf t)), .val (.lst (sL (pv ++ tv t))), .no, .no, .no, .no]) (gi := zef (ze 0)) (ds := (pf ++ tf t).map D.str) rfl (by rw [aA, aI]; cases t <;> simp [tf] <;> omega) e1 rfl
 have c2 : QP (zj 1) (Jg (zF yM (zj 2))) jE [.val (.kt (pf ++ tf t)), .val (.lst (sL (pv ++ tv t))), .val (.lst (sL pf)), .no, .no, .no] = .ok (.lst (sL (tv t))) [.val (.kt (pf ++ tf t)), .val (.lst (sL (pv ++ tv t))), .val (.lst (sL pf)), .no, .no, .no] := by
  show O.ok (D.lst (jO (sL (pv ++ tv t)) (some ((sL pf).length : Int)) none)) _ = _
  rw [zbC (by rw [lw, jd]; omega)]
  unfold sL
  rw [← gJ, aA, ← l1, List.drop_left]
 have c3 : JM (gB (zi hLt (gO (zF yM (zj 1))) (gO (zF yM (zj 2))))) (Yz (QO (zj 3)) (gB (zi (QV true) (gO (gC (.str "names"))) (zj 0)))) [.val (.kt (pf ++ tf t)), .val (.lst (sL (pv ++ tv t))), .val (.lst (sL pf)), .val (.lst (sL (tv t))), .no, .no] = .ok false [.val (.kt (pf ++ tf t)), .val (.lst (sL (pv ++ tv t))), .val (.lst (sL pf)), .val (.lst (sL (tv t))), .no, .no] := by
  have a : gB (zi hLt (gO (zF yM (zj 1))) (gO (zF yM (zj 2)))) [.val (.kt (pf ++ tf t)), .val (.lst (sL (pv ++ tv t))), .val (.lst (sL pf)), .val (.lst (sL (tv t))), .no, .no] = .ok false [.val (.kt (pf ++ tf t)), .val (.lst (sL (pv ++ tv t))), .val (.lst (sL pf)), .val (.lst (sL (tv t))), .no, .no] := by
   refine Q5 (Jv (x := .int (sL (pv ++ tv t)).length) (y := .int (sL pf).length) rfl rfl ?_)
   show some (D.bl (decide (((sL (pv ++ tv t)).length : Int) < (sL pf).length))) = _
   rw [decide_eq_false (by rw [lw, jd]; omega)]
  unfold JM
  rw [a, zw, if_neg af]
  cases t with
  | none => rfl
  | some ns =>
   have b := zhG (neg := true) (x := av "names") (ss := pf ++ tf (some ns)) (by simp [tf])
   have b2 : gB (zi (QV true) (gO (gC (.str "names"))) (zj 0)) [.val (.kt (pf ++ tf (some ns))), .val (.lst (sL (pv ++ tv (some ns)))), .val (.lst (sL pf)), .val (.lst (sL (tv (some ns)))), .no, .no] = .ok false [.val (.kt (pf ++ tf (some ns))), .val (.lst (sL (pv ++ tv (some ns)))), .val (.lst (sL pf)), .val (.lst (sL (tv (some ns)))), .no, .no] := by
    walk_at "gs"
    simp only [b]
    walk_at "gs"
   unfold Yz
   have c : QO (zj 3) [.val (.kt (pf ++ tf (some ns))), .val (.lst (sL (pv ++ tv (some ns)))), .val (.lst (sL pf)), .val (.lst (sL (tv (some ns)))), .no, .no] = .ok (!(sL (tv (some ns))).isEmpty) [.val (.kt (pf ++ tf (some ns))), .val (.lst (sL (pv ++ tv (some ns)))), .val (.lst (sL pf)), .val (.lst (sL (tv (some ns)))), .no, .no] := rfl
   rw [c, zw]
   split
   · exact b2
   · rfl
 have c4 : zae (gCons (ze 2) (gCons (ze 1) gNil)) [.val (.kt (pf ++ tf t)), .val (.lst (sL (pv ++ tv t))), .val (.lst (sL pf)), .val (.lst (sL (tv t))), .no, .no] = .ok (.lst (jV pf pv)) [.val (.kt (pf ++ tf t)), .val (.lst (sL (pv ++ tv t))), .val (.lst (sL pf)), .val (.lst (sL (tv t))), .no, .no] := by
  show O.ok (D.lst (jA (sL pf) (sL (pv ++ tv t)))) _ = _
  rw [zdf h]
 have lp : (jV pf pv).length <= 100000 := by unfold jV; rw [aA, cD]; omega
 obtain ⟨s5, t5, e5⟩ := WS (e := zz yE (gCons (ze 0) (gCons (ze 1) gNil))) (K := fun _ _ _ => .bl true) (fun {f w d} h hf => yG (ds := [.str f, .str w]) rfl (zi0 h hf)) h .no .no
 obtain ⟨s6, t6, e6⟩ := WS (e := zz Qg (gCons (ze 0) (gCons (ze 1) gNil))) (K := fun _ d _ => d) (fun {f w d} h hf => yG (ds := [.str f, .str w]) rfl (zgN h hf)) h .no .no
 rw [zlj h] at e6
 obtain ⟨s7, e7⟩ := zdg (tv t) .no ht.1
 generalize hE : (.val (.kt (pf ++ tf t)) : Slot) = K0 at *
 have a5 : gB (zF j8 (gO (zQ (z9 (ze 4)) [none, none] (jq (zY (zm 0) (zY (zm 1) jz)) 2) yb (zz yE (gCons (ze 0) (gCons (ze 1) gNil)))))) [K0, .val (.lst (sL (pv ++ tv t))), .val (.lst (sL pf)), .val (.lst (sL (tv t))), .val (.lst (jV pf pv)), .no] = .ok true [K0, .val (.lst (sL (pv ++ tv t))), .val (.lst (sL pf)), .val (.lst (sL (tv t))), .val (.lst (jV pf pv)), .no] := by
  refine Q5 (JN (ym (js := [none, none]) (ρ2 := [K0, .val (.lst (sL (pv ++ tv t))), .val (.lst (sL pf)), .val (.lst (sL (tv t))), .val (.lst (jV pf pv)), .no]) (Q4 (i := 4) (ds := jV pf pv) rfl) lp e5 rfl) ?_)
  show (jg _).map _ = _
  rw [zlk h]
  show some (D.bl ((pf.map fun _ => true).all id)) = _
  rw [zbD]
 have a7 : gB (zF j8 (gO (zQ (z9 (ze 3)) [none] (zm 0) yb (zz zT (gCons (ze 0) gNil))))) [K0, .val (.lst (sL (pv ++ tv t))), .val (.lst (sL pf)), .val (.lst (sL (tv t))), .val (.lst (jV pf pv)), .no] = .ok true [K0, .val (.lst (sL (pv ++ tv t))), .val (.lst (sL pf)), .val (.lst (sL (tv t))), .val (.lst (jV pf pv)), .no] := by
  refine Q5 (JN (ym (js := [none]) (ρ2 := [K0, .val (.lst (sL (pv ++ tv t))), .val (.lst (sL pf)), .val (.lst (sL (tv t))), .val (.lst (jV pf pv)), .no]) (Q4 (i := 3) (ds := sL (tv t)) rfl) (by rw [jd]; omega) e7 rfl) ?_)
  show (jg _).map _ = _
  rw [Rp]
  show some (D.bl (((tv t).map fun _ => true).all id)) = _
  rw [zbD]
 have a8 : JM (y6 (gB (zF j8 (gO (zQ (z9 (ze 4)) [none, none] (jq (zY (zm 0) (zY (zm 1) jz)) 2) yb (zz yE (gCons (ze 0) (gCons (ze 1) gNil)))))))) (y6 (gB (zF j8 (gO (zQ (z9 (ze 3)) [none] (zm 0) yb (zz zT (gCons (ze 0) gNil))))))) [K0, .val (.lst (sL (pv ++ tv t))), .val (.lst (sL pf)), .val (.lst (sL (tv t))), .val (.lst (jV pf pv)), .no] = .ok false [K0, .val (.lst (sL (pv ++ tv t))), .val (.lst (sL pf)), .val (.lst (sL (tv t))), .val (.lst (jV pf pv)), .no] := by
  unfold JM y6
  rw [a5, zw, zw, cY, if_neg af, a7]; rfl
 have c6 : yJ 5 (zQ (z9 (ze 4)) [none, none] (jq (zY (zm 0) (zY (zm 1) jz)) 2) yb (zz Qg (gCons (ze 0) (gCons (ze 1) gNil)))) [K0, .val (.lst (sL (pv ++ tv t))), .val (.lst (sL pf)), .val (.lst (sL (tv t))), .val (.lst (jV pf pv)), .no] = .ok .nx [K0, .val (.lst (sL (pv ++ tv t))), .val (.lst (sL pf)), .val (.lst (sL (tv t))), .val (.lst (jV pf pv)), .own (.lst pd)] := by
  unfold yJ
  rw [ym (js := [none, none]) (ρ2 := [K0, .val (.lst (sL (pv ++ tv t))), .val (.lst (sL pf)), .val (.lst (sL (tv t))), .val (.lst (jV pf pv)), .no]) (Q4 (i := 4) (ds := jV pf pv) rfl) lp e6 rfl]
  rfl
 have last : ∃ ρ', Qh [K0, .val (.lst (sL (pv ++ tv t))), .val (.lst (sL pf)), .val (.lst (sL (tv t))), .val (.lst (jV pf pv)), .own (.lst pd)] = .ok (.rt (.lst (pd ++ td t))) ρ' := by
  subst hE
  cases t with
  | none =>
   have b := zlh (x := av "names") (ss := pf ++ tf none) (by simpa [tf] using h.no)
   have en : pd ++ td none = pd := by simp [td]
   rw [en]
   refine ⟨_, (zn ((Jw (ρ1 := [.val (.kt (pf ++ tf none)), .val (.lst (sL (pv ++ tv none))), .val (.lst (sL pf)), .val (.lst (sL (tv none))), .val (.lst (jV pf pv)), .own (.lst pd)]) ?_).trans rfl)).trans rfl⟩
   walk_at "gs"
   simp only [b]
   walk_at "gs"
  | some ns =>
   have b := zhG (neg := false) (x := av "names") (ss := pf ++ tf (some ns)) (by simp [tf])
   have ap : yI pd (.tup (sL (tv (some ns)))) = some (.non, pd ++ td (some ns)) := if_pos (by omega)
   refine ⟨_, (zn (ρ1 := [.val (.kt (pf ++ tf (some ns))), .val (.lst (sL (pv ++ tv (some ns)))), .val (.lst (sL pf)), .val (.lst (sL (tv (some ns)))), .val (.lst (jV pf pv)), .own (.lst (pd ++ td (some ns)))]) ((zfm (ρ1 := [.val (.kt (pf ++ tf (some ns))), .val (.lst (sL (pv ++ tv (some ns)))), .val (.lst (sL pf)), .val (.lst (sL (tv (some ns)))), .val (.lst (jV pf pv)), .own (.lst pd)]) ?_).trans ?_)).trans rfl⟩
   · walk_at "gs"
     simp only [b]
     walk_at "gs"
   · walk_at "gs"
     simp only [ap]
     walk_at "gs"
 obtain ⟨ρ', el⟩ := last
 refine yN (ρ := ρ') rfl ?_
 subst hE
 exact (zn (jk c1)).trans ((zn (jk c2)).trans ((zn ((Jw c3).trans rfl)).trans ((zn (jk c4)).trans ((zn ((Jw a8).trans rfl)).trans ((zn c6).trans el)))))
end K66
namespace K66
theorem zll {n nl : Nat} {g : G End} {ss : List Slot} {d : D} {ρ : Env} (hl : ss.length = n) (h : g (ss ++ au nl .no) = .ok (.rt d) ρ) : yf [] n nl true g ss = .ok d [] := by
 unfold yf; rw [if_pos hl, h]; rfl
theorem zlm {f : D -> D -> Option (List D)} {i : Nat} {a : G D} {ρ ρ1 : Env} {x y : D} {ds : List D} (h1 : a ρ = .ok x ρ1) (h0 : zj i ρ1 = .ok (.v i) ρ1) (h2 : ρ1[i]? = some (.val y)) (h : f x y = some ds) : Qb f (gO a) (zj i) ρ = .ok (.lst ds) ρ1 := by
 unfold Qb gO
 rw [h1]
 show O.bind (zj i ρ1) _ = _
 rw [h0]
 show yi (((Opd.v i).get ρ1).bind fun y => (f x y).map D.lst) ρ1 = _
 rw [R6, h2, ZA, bv, h]; rfl
theorem zfv {d : D} {ws : List Str} (h : Row d ws) : ∃ (k : Str) (pf : List Str) (pd : List D) (pv : List Str) (t : Option (List Str)), d = .tup (.str k :: (pd ++ td t)) /\ ws = k :: (pv ++ tv t) /\ jZ k BK = some (pf ++ tf t) /\ pf.length <= 10 /\ Pl pf pd pv /\ j5 (tv t) /\ (tv t).length <= 6 := by
 have n0 : j5 [] := fun n h => by cases h
 have ne1 : (av "number") ≠ "names" := by decide +kernel
 have ne2 : (av "name") ≠ "names" := by decide +kernel
 have ne3 : (av "value") ≠ "names" := by decide +kernel
 have ne4 : (av "heard") ≠ "names" := by decide +kernel
 have ne5 : (av "truth") ≠ "names" := by decide +kernel
 cases h with
 | @bg a b ns ha hb hn hl => exact ⟨_, ["number", "number"], [.int a, .int b], [it a, it b], some ns, rfl, rfl, zc8, by decide, .cons (.nu ha) ne1 (.cons (.nu hb) ne1 .nil), hn, hl⟩
 | @wk a ns ha hn hl => exact ⟨_, ["number"], [.int a], [it a], some ns, rfl, rfl, zc_, by decide, .cons (.nu ha) ne1 .nil, hn, hl⟩
 | @off a b ha => exact ⟨_, ["number", "truth"], [.int a, .bl b], [it a, if b then "yes" else "no"], none, rfl, rfl, zbw, by decide, .cons (.nu ha) ne1 (.cons .tr ne5 .nil), n0, by decide⟩
 | @hr a b c e n w y v ha hn hb hv hc he hw =>
  exact ⟨_, ["number", "name", "number", "value", "number", "number", "heard"], [.int a, .str n, .int b, v, .int c, .int e, .str w], [it a, n, it b, y, it c, it e, w], none, rfl, rfl, zc9, by decide, .cons (.nu ha) ne1 (.cons (.nm hn) ne2 (.cons (.nu hb) ne1 (.cons (.va hv) ne3 (.cons (.nu hc) ne1 (.cons (.nu he) ne1 (.cons (.he hw) ne4 .nil)))))), n0, by decide⟩
theorem zbY {d : D} {ws : List Str} (h : Row d ws) : jQ [.val (.str (aN " " ws))] = .ok d [] := by
 have sp := zfs h
 generalize aN " " ws = x at *
 obtain ⟨k, pf, pd, pv, t, rfl, rfl, hk, h10, hp, hn, hl6⟩ := zfv h
 have e := Rw hp h10 t ⟨hn, hl6⟩
 obtain ⟨l1, l2⟩ := hp.len
 have ei : zi zH (zj 1) (gO (gC (.int 0))) [.val (.str x), .val (.lst (sL (k :: (pv ++ tv t)))), .no] = .ok (.str k) [.val (.str x), .val (.lst (sL (k :: (pv ++ tv t)))), .no] := by
  show yi (zH (.lst (.str k :: sL (pv ++ tv t))) (.int 0)) _ = _
  rw [ix0]; rfl
 have ei2 : zi zH (zj 1) (gO (gC (.int 0))) [.val (.str x), .val (.lst (sL (k :: (pv ++ tv t)))), .val (.lst (pd ++ td t))] = .ok (.str k) [.val (.str x), .val (.lst (sL (k :: (pv ++ tv t)))), .val (.lst (pd ++ td t))] := by
  show yi (zH (.lst (.str k :: sL (pv ++ tv t))) (.int 0)) _ = _
  rw [ix0]; rfl
 have e1 : YF true (.str k) (.kd BK) = some (.bl false) := by
  show some (D.bl (!(jZ k BK).isSome)) = _
  rw [hk]; rfl
 have e2 : YG (.kd BK) (.str k) = some (.kt (pf ++ tf t)) := by
  show (jZ k BK).map D.kt = _
  rw [hk]; rfl
 have es : QP (zj 1) (Jg (gC (.int 1))) jE [.val (.str x), .val (.lst (sL (k :: (pv ++ tv t)))), .no] = .ok (.lst (sL (pv ++ tv t))) [.val (.str x), .val (.lst (sL (k :: (pv ++ tv t)))), .no] := by
  show O.ok (D.lst (jO (D.str k :: sL (pv ++ tv t)) (some ((1 : Nat) : Int)) none)) _ = _
  rw [zbC (by simp)]; rfl
 refine yN (ρ := [.val (.str x), .val (.lst (sL (k :: (pv ++ tv t)))), .val (.lst (pd ++ td t))]) rfl ?_
 refine (zn (ρ1 := [.val (.str x), .val (.lst (sL (k :: (pv ++ tv t)))), .no]) (jk (ρ1 := [.val (.str x), .no, .no]) (d := .lst (sL (k :: (pv ++ tv t)))) ?_)).trans ?_
 · show yi ((j9 " " (.str x)).map D.lst) _ = _
   rw [sp]; rfl
 refine (zn ((Jw (ρ1 := [.val (.str x), .val (.lst (sL (k :: (pv ++ tv t)))), .no]) (Q5 (Jv ei (y := .kd BK) rfl e1))).trans rfl)).trans ?_
 refine (zn (jk (yG (ds := [.kt (pf ++ tf t), .lst (sL (pv ++ tv t))]) (ρ1 := [.val (.str x), .val (.lst (sL (k :: (pv ++ tv t)))), .no]) ((Qr (Jv (a := gC (.kd BK)) (x := .kd BK) rfl ei e2)).trans (by rw [Qr es]; rfl)) e))).trans ?_
 show JY [.val (.str x), .val (.lst (sL (k :: (pv ++ tv t)))), .val (.lst (pd ++ td t))] = _
 unfold JY
 refine Yh ?_
 have ln : 1 + (pd ++ td t).length <= 100000 := by rw [aI, l2]; cases t <;> simp [td] <;> omega
 have el : yZ (gCons (zi zH (zj 1) (gO (gC (.int 0)))) gNil) [.val (.str x), .val (.lst (sL (k :: (pv ++ tv t)))), .val (.lst (pd ++ td t))] = .ok (.lst [.str k]) [.val (.str x), .val (.lst (sL (k :: (pv ++ tv t)))), .val (.lst (pd ++ td t))] := by
  unfold yZ
  rw [Qr ei2]; rfl
 unfold YW
 rw [show gB (zi Ua (zj 2) (gO (gC .non))) [.val (.str x), .val (.lst (sL (k :: (pv ++ tv t)))), .val (.lst (pd ++ td t))] = .ok false [.val (.str x), .val (.lst (sL (k :: (pv ++ tv t)))), .val (.lst (pd ++ td t))] from rfl, zw, if_neg af]
 refine JN (x := .lst (.str k :: (pd ++ td t))) ?_ rfl
 refine zlm el (y := .lst (pd ++ td t)) rfl rfl ?_
 unfold Yx
 dsimp only
 rw [show ([D.str k] : List D).length = 1 from rfl, if_pos ln]; rfl
theorem zfw {ds : List D} {ts : List Str} (h : Book ds ts) : ∀ s, ∃ s', zW (zm 0) yb (zz jQ (gCons (ze 0) gNil)) (sL ts) [s] = .ok ds [s'] := by
 induction h with
 | nil => exact fun s => ⟨s, rfl⟩
 | @cons d ws ds ts h _ ih =>
  intro s
  obtain ⟨s', e'⟩ := ih (.val (.str (aN " " ws)))
  exact ⟨s', Qq (ρ1 := [.val (.str (aN " " ws))]) rfl (yG (ds := [.str (aN " " ws)]) rfl (zbY h)) e'⟩
theorem Book.nor {ds : List D} {ts : List Str} (h : Book ds ts) : ds.all nOr = true /\ ds.any WM = false := by
 induction h with
 | nil => exact ⟨rfl, rfl⟩
 | cons h _ ih => cases h <;> exact ⟨by rw [bx, ih.1]; rfl, by rw [bJ, ih.2]; rfl⟩
theorem zbE {ds : List D} {ts : List Str} (h : Book ds ts) (ne : ts ≠ []) (hl : wt ts + ts.length <= 20000) : yQ [.val (.str (aN "\n" ts))] = .ok (.lst ds) [] := by
 have sp := zek h ne hl
 have jl := Qs "\n" ts
 rw [Ul] at jl
 have pos : 1 <= (aN "\n" ts).length := by
  cases ts with
  | nil => exact absurd rfl ne
  | cons a r =>
   have := (h.free a aq).2
   rw [show aN _ _ = bC _ _ from bf .., cm]
   simp only [aQ, fb]; omega
 generalize aN "\n" ts = x at *
 obtain ⟨s', ec⟩ := zfw h .no
 obtain ⟨d1, d2⟩ := h.nor
 have ed := Rt d1 d2
 have es : z9 (Qx (j9 "\n") (zj 0)) [.val (.str x), .no] = .ok (sL ts) [.val (.str x), .no] := by
  refine zfl ?_
  show yi ((j9 "\n" (.str x)).map D.lst) _ = _
  rw [sp]; rfl
 have e1 : YW (QO (zj 0)) (zQ (z9 (Qx (j9 "\n") (zj 0))) [none] (zm 0) yb (zz jQ (gCons (ze 0) gNil))) (yZ gNil) [.val (.str x), .no] = .ok (.lst ds) [.val (.str x), .no] := by
  have t : QO (zj 0) [.val (.str x), .no] = .ok true [.val (.str x), .no] := by
   show yi (if x.length <= 100000 then some ((x.length : Int) != 0) else none) _ = _
   rw [if_pos (by omega), show ((x.length : Int) != 0) = true by simp; omega]; rfl
  unfold YW
  rw [t, zw, if_pos rfl]
  exact ym (js := [none]) es (by rw [jd]; omega) ec rfl
 refine zll (ρ := [.val (.str x), .no]) rfl ?_
 refine (zn (ρ1 := [.val (.str x), .no]) rfl).trans ?_
 refine (zn (ρ1 := [.val (.str x), .own (.lst ds)]) ?_).trans ?_
 · unfold yJ
   rw [e1]; rfl
 refine (zn (ρ1 := [.val (.str x), .own (.lst ds)]) (zbs (d := .non) ?_)).trans rfl
 show UJ (yq [.val (.lst ds)]) _ = _
 rw [ed]; rfl
theorem zfx : yQ [.val (.str "")] = .ok (.lst []) [] := rfl
end K66
namespace K66
theorem eqV_self {d : D} (h : JV d = true) : JH (vD d) (vD d) = true := by
 cases d <;> first | (cases h; done) | simp [vD, JH]
theorem JD {n : Nat} {d : D} (h : JV d = true) : yx n d d = some true := by
 cases n <;> (unfold yx; rw [h]; exact congrArg some (eqV_self h))
theorem ZE {n : Nat} : ∀ {ds : List D}, (∀ d ∈ ds, yx n d d = some true) -> ZJ (bo (yx n) ds ds) = some true
 | [], _ => rfl
 | d :: r, h => by
  rw [cP, h d aq]
  unfold ZJ
  rw [ZE fun x hx => h x (aw _ hx)]; rfl
theorem Uo {n : Nat} {ds : List D} (h : ∀ d ∈ ds, yx n d d = some true) : yx (n + 1) (.tup ds) (.tup ds) = some true := by
 unfold yx
 show (match ZJ (bo (yx n) ds ds) with | some b => some (b && ds.length == ds.length) | none => none) = _
 rw [ZE h]; simp
theorem zbF {n : Nat} {ns : List Str} : yx (n + 1) (.tup (sL ns)) (.tup (sL ns)) = some true := Uo fun d hd => by
 obtain ⟨x, _, rfl⟩ := bd.mp hd
 exact JD rfl
theorem zfy {n : Nat} {d : D} {ws : List Str} (h : Row d ws) : yx (n + 2) d d = some true := by
 cases h with
 | bg ha hb hn hl =>
  refine Uo fun d hd => ?_
  simp only [ak, ax, or_false] at hd
  rcases hd with rfl | rfl | rfl | rfl <;> first | exact JD rfl | exact zbF
 | wk ha hn hl =>
  refine Uo fun d hd => ?_
  simp only [ak, ax, or_false] at hd
  rcases hd with rfl | rfl | rfl <;> first | exact JD rfl | exact zbF
 | off ha =>
  refine Uo fun d hd => ?_
  simp only [ak, ax, or_false] at hd
  rcases hd with rfl | rfl | rfl <;> exact JD rfl
 | hr ha hn hb hv hc he hw =>
  refine Uo fun d hd => ?_
  simp only [ak, ax, or_false] at hd
  rcases hd with rfl | rfl | rfl | rfl | rfl | rfl | rfl | rfl <;> first | exact JD rfl | (cases hv <;> exact JD rfl)
theorem zi2 {ds : List D} {ts : List Str} (h : Book ds ts) : QN true (.lst ds) (.lst ds) = some (.bl false) := by
 have e : yx 40 (.lst ds) (.lst ds) = some true := by
  unfold yx
  show (if ds.length = ds.length then ZJ (bo (yx 39) ds ds) else some false) = _
  rw [if_pos rfl]
  exact ZE fun d hd => by obtain ⟨ws, hr⟩ := h.rows d hd; exact zfy (n := 37) hr
 unfold QN
 show (if (true && true) = true then _ else _) = _
 rw [if_pos (by rfl), e]; rfl
theorem zhH {a : G D} {ρ ρ1 : Env} {x : D} (h : a ρ = .ok x ρ1) : gO a ρ = .ok (.d x) ρ1 := by unfold gO; rw [h]; rfl
theorem zbG {a b : G D} {ρ ρ1 ρ2 : Env} {z : Str} {y d : D} (h1 : a ρ = .ok (.str z) ρ1) (h2 : b ρ1 = .ok y ρ2) (h : JW z y = some d) : jf a (gO b) ρ = .ok d ρ2 := by
 unfold jf
 rw [h1, zw]
 dsimp only
 rw [zhH h2, zw]
 show yi (JW z y) ρ2 = _
 rw [h]; rfl
theorem zi3 {a : G D} {l u : G (Option Int)} {ρ ρ1 ρ2 ρ3 : Env} {ds : List D} {lo hi : Option Int} (h1 : a ρ = .ok (.lst ds) ρ1) (h2 : l ρ1 = .ok lo ρ2) (h3 : u ρ2 = .ok hi ρ3) : QP (gO a) l u ρ = .ok (.lst (jO ds lo hi)) ρ3 := by
 unfold QP
 rw [zhH h1, zw, h2, zw, h3, zw]; rfl
theorem zbH : ∀ (ds : List D) (o : D) (s : Slot), JC o -> ∃ rows o' s', zW (zm 0) yb (zE 1 yW gNil) ds [s, .own o] = .ok rows [s', .own o'] /\ JC o' /\ rows.length = ds.length /\ ∀ d ∈ rows, ∃ ws, Row d ws
 | [], o, s, hw => ⟨[], o, s, rfl, hw, rfl, fun d h => by cases h⟩
 | k :: r, o, s, hw => by
  obtain ⟨d, ws, o1, e1, hr, hw1⟩ := zk9 hw
  obtain ⟨rows, o', s', e2, hw2, hl, hm⟩ := zbH r o1 (.val k) hw1
  refine ⟨d :: rows, o', s', ?_, hw2, by simp [hl], fun x hx => ?_⟩
  · unfold zW
    walk_at "gs"
    simp only [e1]
    walk_at "gs"
    simp only [e2]
    walk_at "gs"
  · rcases ak.mp hx with e | e
    · subst e; exact ⟨_, hr⟩
    · exact hm x e
theorem zln {ds : List D} {ts : List Str} (h : Book ds ts) (hl : wt ts + ts.length <= 20000) {a b c d f g : Slot} :
 jf (gC (.str "\n")) (gO (zQ (z9 (ze 3)) [none] (zm 0) yb (jf (gC (.str " ")) (gO (zz zX (gCons (ze 0) gNil)))))) [a, b, c, .val (.lst ds), d, f, g] = .ok (.str (aN "\n" ts)) [a, b, c, .val (.lst ds), d, f, g] := by
 have hj : JW "\n" (.lst (sL ts)) = some (.str (aN "\n" ts)) := Vo (by rw [Ul]; omega)
 have ln := h.len
 obtain ⟨s', e⟩ := Rs (e := jf (gC (.str " ")) (gO (zz zX (gCons (ze 0) gNil)))) (fun d ws h => by
  have e1 := zbt h
  have e2 := WQ h
  walk_at "gs"
  simp only [e1]
  walk_at "gs"
  simp only [e2]
  walk_at "gs") h .no
 have ec : zQ (z9 (ze 3)) [none] (zm 0) yb (jf (gC (.str " ")) (gO (zz zX (gCons (ze 0) gNil)))) [a, b, c, .val (.lst ds), d, f, g] = .ok (.lst (sL ts)) [a, b, c, .val (.lst ds), d, f, g] := ym (ds := ds) rfl (by omega) e (by walk_at "gs")
 exact zbG (z := "\n") rfl ec hj
theorem zfz {ds : List D} {ts : List Str} (h : Book ds ts) : ∀ s, ∃ s', zW (zm 0) yb (zF yM (gO (jf (gC (.str " ")) (gO (zz zX (gCons (ze 0) gNil)))))) ds [s] = .ok ((ts.map fun t => (t.length : Int)).map D.int) [s'] := by
 induction h with
 | nil => exact fun s => ⟨s, rfl⟩
 | @cons d ws ds ts h _ ih =>
  intro s
  obtain ⟨s', e'⟩ := ih (.val d)
  refine ⟨s', Qq (ρ1 := [.val d]) rfl (JN (x := .str (aN " " ws)) (zbG (z := " ") rfl (yG (ds := [d]) rfl (zbt h)) (WQ h)) ?_) e'⟩
  have a := Qs " " ws
  have b := Uk h
  rw [Yi] at a
  exact if_pos (by omega)
theorem zdh : ∀ (l : List Int) (a : Int), (∀ n ∈ l, n <= l.foldl (fun a b => if b > a then b else a) a) /\ a <= l.foldl (fun a b => if b > a then b else a) a /\ (l.foldl (fun a b => if b > a then b else a) a = a \/ l.foldl (fun a b => if b > a then b else a) a ∈ l)
 | [], a => ⟨fun n h => (by cases h), Int.le_refl _, .inl rfl⟩
 | y :: l, a => by
  obtain ⟨i1, i2, i3⟩ := zdh l (if y > a then y else a)
  rw [gj]
  have h1 : a <= (if y > a then y else a) /\ y <= (if y > a then y else a) := by split <;> omega
  refine ⟨fun n hn => ?_, by omega, ?_⟩
  · rcases ak.mp hn with rfl | hn
    · omega
    · exact i1 n hn
  · rcases i3 with e | e
    · rw [e]
      split
      · exact .inr aq
      · exact .inl rfl
    · exact .inr (aw _ e)
theorem zi4 {ns : List Int} (h : ns ≠ []) : QQ ns ∈ ns /\ ∀ n ∈ ns, n <= QQ ns := by
 cases ns with
 | nil => exact absurd rfl h
 | cons x xs =>
  obtain ⟨a, b, c⟩ := zdh xs x
  refine ⟨?_, fun n hn => ?_⟩
  · rcases c with e | e
    · show xs.foldl _ x ∈ _
      rw [e]; exact aq
    · exact aw _ e
  · rcases ak.mp hn with rfl | hn
    · exact b
    · exact a n hn
theorem Book.rep {ds : List D} {ts : List Str} (h : Book ds ts) : ∀ n : Nat, Book (au n ds).flatten (au n ts).flatten
 | 0 => .nil
 | n + 1 => by simp only [aZ, bp]; exact h.app (h.rep n)
theorem Book.take {ds : List D} {ts : List Str} (h : Book ds ts) : ∀ n : Nat, Book (ds.take n) (ts.take n) := by
 induction h with
 | nil => intro n; simp only [List.take_nil]; exact .nil
 | cons h _ ih =>
  intro n
  cases n with
  | zero => exact .nil
  | succ n => exact .cons h (ih n)
theorem zgO {α : Type} {xs : List α} {k : Nat} : jO xs none (some (k : Int)) = xs.take k := by
 unfold jO; rw [HT.sIx_none, HT.sIx_nat]
 simp only [List.drop_zero, Nat.sub_zero]
 rcases gT k xs.length with h | h
 · rw [gq h]
 · rw [Nat.min_eq_right h, dW, eg h]
theorem zi5 {ts : List Str} {n : Nat} {d : Str} (h : d ∈ (au n ts).flatten) : d ∈ ts := by
 obtain ⟨l, hl, hd⟩ := List.mem_flatten.mp h
 rw [(List.mem_replicate.mp hl).2] at hd
 exact hd
theorem zhI {k : Nat} : ∀ (ys : List Str), (∀ y ∈ ys, y.length <= k) -> wt ys <= k * ys.length
 | [], _ => bI _
 | y :: r, h => by
  have := zhI r fun x hx => h x (aw _ hx)
  have := h y aq
  unfold wt at *
  rw [aQ, fb, aB, Nat.mul_succ]; omega
theorem zi6 {d : D} {ws : List Str} (h : Row d ws) : yX [.val d, .val d] = .ok (.bl true) [] := by
 have e1 : QN true d d = some (.bl false) := by
  have e := zfy (n := 38) h
  unfold QN
  rw [show (Vd d && Vd d) = true by cases h <;> rfl, if_pos rfl, e]; rfl
 have e2 : ∀ bs : List Bool, QN false (.lst (bs.map D.bl)) (.lst (bs.map D.bl)) = some (.bl true) := fun bs => by
  have e : yx 40 (.lst (bs.map D.bl)) (.lst (bs.map D.bl)) = some true := by
   unfold yx
   show (if (bs.map D.bl).length = (bs.map D.bl).length then ZJ (bo (yx 39) (bs.map D.bl) (bs.map D.bl)) else some false) = _
   rw [if_pos rfl]
   exact ZE fun d hd => by
    obtain ⟨b, _, rfl⟩ := bd.mp hd
    exact JD rfl
  unfold QN
  show (if (true && true) = true then _ else _) = _
  rw [if_pos (by rfl), e]; rfl
 obtain ⟨ds, rfl, hk, hl⟩ : ∃ ds, d = .tup ds /\ (∀ x ∈ ds, (Qv x).isSome = true) /\ ds.length <= 100 := by
  cases h with
  | bg ha hb hn hl => exact ⟨_, rfl, fun x hx => by simp only [ak, ax, or_false] at hx; rcases hx with rfl | rfl | rfl | rfl <;> rfl, by simp⟩
  | wk ha hn hl => exact ⟨_, rfl, fun x hx => by simp only [ak, ax, or_false] at hx; rcases hx with rfl | rfl | rfl <;> rfl, by simp⟩
  | off ha => exact ⟨_, rfl, fun x hx => by simp only [ak, ax, or_false] at hx; rcases hx with rfl | rfl | rfl <;> rfl, by simp⟩
  | hr ha hn hb hv hc he hw => exact ⟨_, rfl, fun x hx => by simp only [ak, ax, or_false] at hx; rcases hx with rfl | rfl | rfl | rfl | rfl | rfl | rfl | rfl <;> first | rfl | (cases hv <;> rfl), by simp⟩
 have comp : ∀ (l : List D) (s : Slot), (∀ x ∈ l, (Qv x).isSome = true) -> ∃ (bs : List Bool) (s' : Slot), zW (zm 0) yb (zi yp (zj 0) (gO (gC (.ty "bool")))) l [s] = .ok (bs.map D.bl) [s'] := by
  intro l
  induction l with
  | nil => exact fun s _ => ⟨[], s, rfl⟩
  | cons x r ih =>
   intro s hx
   obtain ⟨bs, s', e⟩ := ih (.val x) fun y hy => hx y (aw _ hy)
   obtain ⟨k, ek⟩ := dQ.mp (hx x aq)
   obtain ⟨b, eb⟩ : ∃ b, yp x (.ty "bool") = some (.bl b) := by
    unfold yp
    rw [ek]
    cases x <;> first | (cases ek; exact ⟨_, rfl⟩) | cases ek
   refine ⟨b :: bs, s', Qq (ρ1 := [.val x]) rfl ?_ e⟩
   show yi (yp x (.ty "bool")) _ = _
   rw [eb]; rfl
 obtain ⟨bs, s', ec⟩ := comp ds .no hk
 refine yN (ρ := [.val (.tup ds), .val (.tup ds)]) rfl ?_
 unfold Zw
 refine (zn (ρ1 := [.val (.tup ds), .val (.tup ds)]) ?_).trans ?_
 · walk_at "gs"
   simp only [e1]
   walk_at "gs"
 unfold Qp
 refine Yh (Jv (x := .lst (bs.map D.bl)) (y := .lst (bs.map D.bl)) (ρ1 := [.val (.tup ds), .val (.tup ds)]) ?_ ?_ (e2 bs))
 · exact ym (js := [none]) (gi := Q1 (ze 0)) (ds := ds) rfl (by omega) ec rfl
 · exact ym (js := [none]) (gi := Q1 (ze 1)) (ds := ds) rfl (by omega) ec rfl
end K66
namespace K67
open K66
theorem zhJ {f : D -> D -> Option D} {i : Nat} {a : G D} {ρ ρ1 : Env} {x y d : D} (h1 : a ρ = .ok x ρ1) (h0 : zj i ρ1 = .ok (.v i) ρ1) (h2 : ρ1[i]? = some (.val y)) (h : f x y = some d) : zi f (gO a) (zj i) ρ = .ok d ρ1 := by
 unfold zi gO
 rw [h1]
 show O.bind (zj i ρ1) _ = _
 rw [h0]
 show yi (((Opd.v i).get ρ1).bind fun y => f x y) ρ1 = _
 rw [R6, h2, ZA, bv, h]; rfl
theorem zhK {a b : G Bool} {ρ ρ1 : Env} (h : a ρ = .ok false ρ1) : JM a b ρ = b ρ1 := by unfold JM; rw [h]; rfl
theorem zi7 {a : Str} : J4 (.str a) (.str a) = some (.bl false) := by simp only [J4, Z5, bG, beq_self_eq_true, decide_true, cY]
theorem zi8 {a : Int} : J4 (.int a) (.int a) = some (.bl false) := by simp only [J4, Z5, bG, beq_self_eq_true, decide_true, cY]
def zel (ns : List Int) (ρ : Env) : Prop := ∃ s1 s2 s3 s4 s5 s6, ρ = [.val (.fz ns), s1, s2, s3, s4, s5, s6]
theorem zfA {ds : List D} (h : ∀ d ∈ ds, ∃ ws, Row d ws) : ∀ s t, ∃ s' t', zW (jq (zY (zm 0) (zY (zm 1) jz)) 2) yb (zz yX (gCons (ze 0) (gCons (ze 1) gNil))) (jA ds ds) [s, t] = .ok ((ds.map fun _ => true).map D.bl) [s', t'] := by
 induction ds with
 | nil => exact fun s t => ⟨s, t, rfl⟩
 | cons d r ih =>
  intro s t
  obtain ⟨ws, hr⟩ := h d aq
  obtain ⟨s', t', e⟩ := ih (fun x hx => h x (aw _ hx)) (.val d) (.val d)
  refine ⟨s', t', ?_⟩
  show zW _ yb _ (.tup [d, d] :: jA r r) [s, t] = _
  exact Qq (ρ1 := [.val d, .val d]) rfl (yG (ds := [d, d]) rfl (zi6 hr)) e
theorem zi9 {α : Type} (l : List α) : jg ((l.map fun _ => true).map D.bl) = some (l.map fun _ => true) := by
 induction l with
 | nil => rfl
 | cons a r ih => simp only [aQ, jg, ih, bG]
theorem zfB {ns : List Int} {ds : List D} {ts : List Str} (h : Book ds ts) (ne : ts ≠ []) (hl : wt ts + ts.length <= 20000) {s1 s2 s4 s5 s6 : Slot} : ∃ ρ', ZT [.val (.fz ns), s1, s2, .val (.lst ds), s4, s5, s6] = .ok .nx ρ' /\ zel ns ρ' := by
 have ln := h.len
 have e1 := zln h hl (a := .val (.fz ns)) (b := s1) (c := s2) (d := s4) (f := s5) (g := s6)
 have e2 := zbE h ne hl
 have e3 := ziX h hl
 have e4 := zi2 h
 generalize aN "\n" ts = x at *
 obtain ⟨d0, dr, rfl⟩ : ∃ d0 dr, ds = d0 :: dr := by
  cases ds with
  | nil => exact absurd (ca ln) ne
  | cons a r => exact ⟨a, r, rfl⟩
 have c6 : yJ 6 (zz yQ (gCons (ze 5) gNil)) [.val (.fz ns), s1, s2, .val (.lst (d0 :: dr)), s4, .val (.str x), s6] = .ok .nx [.val (.fz ns), s1, s2, .val (.lst (d0 :: dr)), s4, .val (.str x), .own (.lst (d0 :: dr))] := by
  unfold yJ
  rw [yG (a := gCons (ze 5) gNil) (ds := [.str x]) (ρ1 := [.val (.fz ns), s1, s2, .val (.lst (d0 :: dr)), s4, .val (.str x), s6]) rfl e2]; rfl
 have t1 : y6 (gB (zi yp (zj 6) (gO (gC (.ty "list"))))) [.val (.fz ns), s1, s2, .val (.lst (d0 :: dr)), s4, .val (.str x), .own (.lst (d0 :: dr))] = .ok false [.val (.fz ns), s1, s2, .val (.lst (d0 :: dr)), s4, .val (.str x), .own (.lst (d0 :: dr))] := rfl
 have t2 : gB (zi J4 (gO (zF yM (zj 6))) (gO (zF yM (zj 3)))) [.val (.fz ns), s1, s2, .val (.lst (d0 :: dr)), s4, .val (.str x), .own (.lst (d0 :: dr))] = .ok false [.val (.fz ns), s1, s2, .val (.lst (d0 :: dr)), s4, .val (.str x), .own (.lst (d0 :: dr))] := Q5 (Jv (x := .int (d0 :: dr).length) (y := .int (d0 :: dr).length) rfl rfl zi8)
 have t3 : gB (zi J4 (gO (Zn 6 jw)) (zj 5)) [.val (.fz ns), s1, s2, .val (.lst (d0 :: dr)), s4, .val (.str x), .own (.lst (d0 :: dr))] = .ok false [.val (.fz ns), s1, s2, .val (.lst (d0 :: dr)), s4, .val (.str x), .own (.lst (d0 :: dr))] := by
  refine Q5 (zhJ (x := .str x) ?_ rfl rfl zi7)
  show UJ (jw [.val (.lst (d0 :: dr))]) _ = _
  rw [e3]; rfl
 obtain ⟨a', b', ec⟩ := zfA h.rows .no .no
 have t4 : y6 (gB (zbn (zF j8 (gO (zQ (Ue (gCons (Yy 6) (gCons (ze 3) gNil))) [none, none] (jq (zY (zm 0) (zY (zm 1) jz)) 2) yb (zz yX (gCons (ze 0) (gCons (ze 1) gNil)))))))) [.val (.fz ns), s1, s2, .val (.lst (d0 :: dr)), s4, .val (.str x), .own (.lst (d0 :: dr))] = .ok false [.val (.fz ns), s1, s2, .val (.lst (d0 :: dr)), s4, .val (.str x), .own (.lst (d0 :: dr))] := by
  have z1 : zF j8 (gO (zQ (Ue (gCons (Yy 6) (gCons (ze 3) gNil))) [none, none] (jq (zY (zm 0) (zY (zm 1) jz)) 2) yb (zz yX (gCons (ze 0) (gCons (ze 1) gNil))))) (frz [.val (.fz ns), s1, s2, .val (.lst (d0 :: dr)), s4, .val (.str x), .own (.lst (d0 :: dr))]) = .ok (.bl true) (frz [.val (.fz ns), s1, s2, .val (.lst (d0 :: dr)), s4, .val (.str x), .own (.lst (d0 :: dr))]) := by
   refine JN (ym (js := [none, none]) (ds := jA (d0 :: dr) (d0 :: dr)) (ρ1 := frz [.val (.fz ns), s1, s2, .val (.lst (d0 :: dr)), s4, .val (.str x), .own (.lst (d0 :: dr))]) rfl ?_ ec rfl) ?_
   · unfold jA
     rw [aA, cD]; omega
   · show (jg _).map _ = _
     rw [zi9]
     show some (D.bl (((d0 :: dr).map fun _ => true).all id)) = _
     rw [zbD]
  unfold y6 gB zbn
  rw [z1]; rfl
 refine ⟨[.val (.fz ns), s1, s2, .val (.lst (d0 :: dr)), s4, .val (.str x), .own (.lst (.non :: (dr ++ [d0])))], ?_, _, _, _, _, _, _, rfl⟩
 refine (zn (jk e1)).trans ?_
 refine (zn c6).trans ?_
 refine (zn ((Jw ((zhK t1).trans ((zhK t2).trans t3))).trans rfl)).trans ?_
 refine (zn ((Jw t4).trans rfl)).trans ?_
 have ap : yI (d0 :: dr) d0 = some (.non, d0 :: dr ++ [d0]) := if_pos (by omega)
 refine (zn (ρ1 := [.val (.fz ns), s1, s2, .val (.lst (d0 :: dr)), s4, .val (.str x), .own (.lst (d0 :: dr ++ [d0]))]) ?_).trans ?_
 · walk_at "gs"
   simp only [ap]
   walk_at "gs"
 refine (zn (ρ1 := [.val (.fz ns), s1, s2, .val (.lst (d0 :: dr)), s4, .val (.str x), .own (.lst (.non :: (dr ++ [d0])))]) ?_).trans ?_
 · show gd (0 <= (0 : Int) /\ (0 : Int).toNat < (d0 :: dr ++ [d0]).length) _ = _
   rw [za4 ⟨by decide, by simp⟩]; rfl
 refine (Jw (Q5 (zhJ (yG (ds := [.str x]) (ρ1 := [.val (.fz ns), s1, s2, .val (.lst (d0 :: dr)), s4, .val (.str x), .own (.lst (.non :: (dr ++ [d0])))]) rfl e2) rfl rfl e4))).trans rfl
theorem zdi {α : Type} (l : List α) : ∀ n : Nat, (au n l).flatten.length = n * l.length
 | 0 => by simp
 | n + 1 => by rw [aZ, bp, aI, zdi l n, d3, gQ]
theorem zlo {rows : List D} (h : rows.length <= 9) : ∃ N : Nat, N = 900 /\ Vh (.lst rows) (.int 900) = some (au N rows).flatten := ⟨900, rfl, if_pos ⟨by decide, by decide, by show rows.length * 900 <= 100000; omega⟩⟩
theorem one {ns : List Int} {k : Nat} {s2 s3 s4 s5 s6 : Slot} : ∃ ρ', J3 [.val (.fz ns), .val (.int (0 + k)), s2, s3, s4, s5, s6] = .ok .nx ρ' /\ zel ns ρ' := by
 obtain ⟨i, ei⟩ := zej (ns := ns) (k := 0 + k) (by omega)
 obtain ⟨o, eo, hw⟩ := ziS (c := i + 7 * (0 + k))
 obtain ⟨r, o1, e1, r0, r1, hw1⟩ := yw hw (n := 9) (by decide) (by decide)
 obtain ⟨rows, o2, s', e2, hw2, hl, hm⟩ := zbH (yS 0 (1 + r).toNat) o1 .no hw1
 obtain ⟨q, o3, e3, q0, q1, hw3⟩ := yw hw2 (n := 4) (by decide) (by decide)
 have hrl : rows.length <= 9 /\ 1 <= rows.length := by rw [hl, Q3]; omega
 obtain ⟨ts, hb⟩ := Book.of hm
 have ln := hb.len
 have hwt := hb.wt
 have w : yJ 2 (zz Jz (gCons (zi Jn (gO (zz jv (gCons (ze 0) (gCons (ze 1) gNil)))) (gO (zi Yv (gO (gC (.int 7))) (zj 1)))) gNil)) [.val (.fz ns), .val (.int (0 + k)), s2, s3, s4, s5, s6] = .ok .nx [.val (.fz ns), .val (.int (0 + k)), .own o, s3, s4, s5, s6] := by
  walk_at "gs"
  simp only [ei]
  walk_at "gs"
  simp only [if_pos (zaf (i := 7) (j := 0 + (k : Int)) (by decide))]
  walk_at "gs"
  simp only [eo]
  walk_at "gs"
 have c4 : yk 3 (zQ (yC (gCons (zi Jn (gO (gC (.int 1))) (gO (zE 2 zG (gCons (gC (.int 9)) gNil)))) gNil)) [none, some 2] (zm 0) yb (zE 1 yW gNil)) [.val (.fz ns), .val (.int (0 + k)), .own o, s3, s4, s5, s6] = .ok .nx [.val (.fz ns), .val (.int (0 + k)), .own o2, .val (.lst rows), s4, s5, s6] := by
  have eR : yC (gCons (zi Jn (gO (gC (.int 1))) (gO (zE 2 zG (gCons (gC (.int 9)) gNil)))) gNil) [.val (.fz ns), .val (.int (0 + k)), .own o, s3, s4, s5, s6] = .ok (yS 0 (1 + r).toNat) [.val (.fz ns), .val (.int (0 + k)), .own o1, s3, s4, s5, s6] := by
   refine U0 (ds := [.int (1 + r)]) ?_ (zc4 (by omega))
   walk_at "gs"
   simp only [e1]
   walk_at "gs"
  exact jk (ym (js := [none, some 2]) (ρ2 := [.val (.fz ns), .val (.int (0 + k)), .own o2, s3, s4, s5, s6]) eR (by rw [Q3]; omega) e2 (by walk_at "gs"))
 have tst : gB (zi jx (gO (zE 2 zG (gCons (gC (.int 4)) gNil))) (gO (gC (.int 0)))) [.val (.fz ns), .val (.int (0 + k)), .own o2, .val (.lst rows), s4, s5, s6] = .ok (decide (q = 0)) [.val (.fz ns), .val (.int (0 + k)), .own o3, .val (.lst rows), s4, s5, s6] := by
  walk_at "gs"
  simp only [e3]
  walk_at "gs"
 by_cases hq : q = 0
 · rw [decide_eq_true hq] at tst
   obtain ⟨s7, el⟩ := zfz hb .no
   have lne : (ts.map fun t => (t.length : Int)) ≠ [] := fun z => by
    have := congrArg ci z
    rw [aA] at this
    simp only [bO] at this; omega
   obtain ⟨m1, m2⟩ := zi4 lne
   obtain ⟨t0, ht0, em⟩ := bd.mp m1
   generalize hM : QQ (ts.map fun t => (t.length : Int)) = m at *
   have m600 : t0.length <= 600 := by
    have key : ∀ (l : List Str) (b : Nat), wt l <= b -> ∀ t ∈ l, t.length <= b := fun l => by
     induction l with
     | nil => intro b _ t h; cases h
     | cons a r ih =>
      intro b hb t ht
      have hw : wt (a :: r) = a.length + wt r := rfl
      rcases ak.mp ht with rfl | ht
      · omega
      · exact ih b (by omega) t ht
    obtain ⟨ds', ws, hr, rfl⟩ : ∃ d ws, Row d ws /\ t0 = aN " " ws := by
     have key : ∀ {ds : List D} {ts : List Str}, Book ds ts -> ∀ t ∈ ts, ∃ d ws, Row d ws /\ t = aN " " ws := fun h => by
      induction h with
      | nil => intro t h; cases h
      | cons h _ ih =>
       intro t ht
       rcases ak.mp ht with rfl | ht
       · exact ⟨_, _, h, rfl⟩
       · exact ih t ht
     exact key hb t0 ht0
    have a := Qs " " ws
    have b := Uk hr
    rw [Yi] at a
    omega
   have c5 : zF V3 (gO (zQ (z9 (ze 3)) [none] (zm 0) yb (zF yM (gO (jf (gC (.str " ")) (gO (zz zX (gCons (ze 0) gNil)))))))) [.val (.fz ns), .val (.int (0 + k)), .own o3, .val (.lst rows), s4, s5, s6] = .ok (.int m) [.val (.fz ns), .val (.int (0 + k)), .own o3, .val (.lst rows), s4, s5, s6] := by
    refine JN (ym (js := [none]) (ρ2 := [.val (.fz ns), .val (.int (0 + k)), .own o3, .val (.lst rows), s4, s5, s6]) (Q4 (i := 3) (ds := rows) rfl) (by omega) el rfl) ?_
    unfold V3 hIs Vg
    rw [bv, ze4, bv]
    unfold R7
    rw [if_neg lne, hM]
   obtain ⟨n, hn⟩ : ∃ n : Nat, 5990 / (m + 1) = n := ⟨(5990 / (m + 1)).toNat, by
    have : 0 <= 5990 / (m + 1) := gp (by decide) (by omega)
    omega⟩
   have n1 : 1 <= n := by
    have : (1 : Int) <= 5990 / (m + 1) := (Int.le_ediv_iff_mul_le (by omega)).mpr (by omega)
    omega
   have nm : (n : Int) * (m + 1) <= 5990 := by rw [← hn]; exact Int.ediv_mul_le _ (by omega)
   obtain ⟨N, hN, hrep⟩ := zlo hrl.1
   have g1 : Qb Vh (zj 3) (gO (gC (.int 900))) [.val (.fz ns), .val (.int (0 + k)), .own o3, .val (.lst rows), .val (.int m), s5, s6] = .ok (.lst (au N rows).flatten) [.val (.fz ns), .val (.int (0 + k)), .own o3, .val (.lst rows), .val (.int m), s5, s6] := by
    show yi ((Vh (.lst rows) (.int 900)).map D.lst) _ = _
    rw [hrep]; rfl
   have hb2 := (hb.rep N).take n
   have big := zdi rows N
   have bigp : 1 <= (au N rows).flatten.length := by rw [big, hN]; omega
   generalize hB : (au N rows).flatten = B at *
   generalize hT : (au N ts).flatten = T at *
   have hd : JX (.int 5990) (.int (m + 1)) = some (.int n) := by
    have hc : YD (5990 : Int) (m + 1) := ⟨by omega, by omega⟩
    show (if YD (5990 : Int) (m + 1) then some (D.int (5990 / (m + 1))) else none) = _
    rw [if_pos hc, hn]
   have g2 : QP (gO (Qb Vh (zj 3) (gO (gC (.int 900))))) jE (Jg (zi JX (gO (gC (.int 5990))) (gO (zi Jn (zj 4) (gO (gC (.int 1))))))) [.val (.fz ns), .val (.int (0 + k)), .own o3, .val (.lst rows), .val (.int m), s5, s6] = .ok (.lst (B.take n)) [.val (.fz ns), .val (.int (0 + k)), .own o3, .val (.lst rows), .val (.int m), s5, s6] := by
    rw [← zgO]
    refine zi3 g1 (ρ2 := [.val (.fz ns), .val (.int (0 + k)), .own o3, .val (.lst rows), .val (.int m), s5, s6]) rfl ?_
    unfold Jg
    rw [Jv (a := gC (.int 5990)) (b := zi Jn (zj 4) (gO (gC (.int 1)))) (x := .int 5990) (y := .int (m + 1)) (ρ1 := [.val (.fz ns), .val (.int (0 + k)), .own o3, .val (.lst rows), .val (.int m), s5, s6]) rfl rfl hd]; rfl
   have lT : (T.take n).length <= n := by rw [bV]; exact Nat.min_le_left _ _
   have lB := hb2.len
   have wT := zhI (k := m.toNat) (T.take n) fun y hy => by
    have hy' : y ∈ ts := by
     have := List.mem_of_mem_take hy
     rw [← hT] at this
     exact zi5 this
    have := m2 (y.length : Int) (bd.mpr ⟨y, hy', rfl⟩)
    omega
   have sz : wt (T.take n) + (T.take n).length <= 20000 := by
    have a : m.toNat * (T.take n).length + (T.take n).length <= (m.toNat + 1) * n := by
     rw [← d3]; exact Nat.mul_le_mul_left _ lT
    have b : (m.toNat + 1) * n <= 5990 := by
     have : ((m.toNat + 1 : Nat) : Int) * (n : Int) <= 5990 := by
      rw [Int.mul_comm]
      have : ((m.toNat + 1 : Nat) : Int) = m + 1 := by omega
      rw [this]; exact nm
     exact_mod_cast this
    omega
   have tne : T.take n ≠ [] := fun z => by
    rw [z] at lB
    have : (B.take n).length = 0 := lB.symm
    rw [bV] at this
    omega
   obtain ⟨ρ', e, hi⟩ := zfB (ns := ns) hb2 tne sz (s1 := .val (.int (0 + k))) (s2 := .own o3) (s4 := .val (.int m)) (s5 := s5) (s6 := s6)
   have g3 : zo (yk 4 (zF V3 (gO (zQ (z9 (ze 3)) [none] (zm 0) yb (zF yM (gO (jf (gC (.str " ")) (gO (zz zX (gCons (ze 0) gNil)))))))))) ZS [.val (.fz ns), .val (.int (0 + k)), .own o3, .val (.lst rows), s4, s5, s6] = .ok .nx [.val (.fz ns), .val (.int (0 + k)), .own o3, .val (.lst (B.take n)), .val (.int m), s5, s6] := (zn (jk c5)).trans (jk g2)
   exact ⟨ρ', (zn w).trans ((zn c4).trans ((zn ((zfm tst).trans g3)).trans e)), hi⟩
 · rw [decide_eq_false hq] at tst
   obtain ⟨ρ', e, hi⟩ := zfB (ns := ns) hb (fun z => by rw [z] at ln; simp only [bO] at ln; omega) (by omega) (s1 := .val (.int (0 + k))) (s2 := .own o3) (s4 := s4) (s5 := s5) (s6 := s6)
   exact ⟨ρ', (zn w).trans ((zn c4).trans ((zn ((Jw tst).trans rfl)).trans e)), hi⟩
theorem zhL {ns : List Int} : ∀ (ds : List D) (ρ : Env), (∀ d ∈ ds, ∃ k : Nat, d = .int (0 + k)) -> zel ns ρ -> ∃ ρ', Jo (zm 1) J3 ds ρ = .ok .nx ρ' /\ zel ns ρ'
 | [], ρ, _, h => ⟨ρ, rfl, h⟩
 | d :: r, ρ, hd, h => by
  obtain ⟨s1, s2, s3, s4, s5, s6, rfl⟩ := h
  obtain ⟨k, rfl⟩ := hd _ aq
  obtain ⟨ρ1, e1, h1⟩ := one (ns := ns) (k := k) (s2 := s2) (s3 := s3) (s4 := s4) (s5 := s5) (s6 := s6)
  obtain ⟨ρ', e, h'⟩ := zhL r ρ1 (fun x hx => hd x (aw _ hx)) h1
  refine ⟨ρ', ?_, h'⟩
  rw [ziQ rfl e1]
  exact e
theorem lawF : ∀ ns : List Int, ns.length <= 63 -> Rl [.val (.fz ns)] = .ok (.bl true) [] := fun ns hn => by
 have e0 : zi VU (gO (gC (.int 1))) (gO (zi VV (gO (gC (.int 6))) (gO (zF yM (zj 0))))) [.val (.fz ns), .no, .no, .no, .no, .no, .no] = .ok (.int (if (if (ns.length : Int) < 6 then (ns.length : Int) else 6) > 1 then (if (ns.length : Int) < 6 then (ns.length : Int) else 6) else 1)) [.val (.fz ns), .no, .no, .no, .no, .no, .no] := Jv (a := gC (.int 1)) (x := .int 1) rfl (Jv (a := gC (.int 6)) (x := .int 6) (y := .int ns.length) rfl rfl rfl) rfl
 generalize hm : (if (if (ns.length : Int) < 6 then (ns.length : Int) else 6) > 1 then (if (ns.length : Int) < 6 then (ns.length : Int) else 6) else 1) = m at e0
 have hm6 : 1 <= m /\ m <= 6 := by subst hm; split <;> (try split) <;> omega
 have e1 := U0 (ds := [.int m]) ((Qr (r := gNil) e0).trans rfl) (zc4 (by omega))
 obtain ⟨ρ', e3, h3⟩ := zhL (ns := ns) (yS 0 m.toNat) [.val (.fz ns), .no, .no, .no, .no, .no, .no] (fun d hd => by
  obtain ⟨i, _, rfl⟩ := zeh hd
  exact ⟨i, rfl⟩) ⟨_, _, _, _, _, _, rfl⟩
 refine yN (ρ := ρ') rfl ?_
 refine (zn (ρ1 := [.val (.fz ns), .no, .no, .no, .no, .no, .no]) ?_).trans ?_
 · exact (Jw (Q5 (Jv (x := .lst []) (y := .lst []) (yG (ds := [.str ""]) (ρ1 := [.val (.fz ns), .no, .no, .no, .no, .no, .no]) rfl zfx) rfl rfl))).trans rfl
 exact (zn ((zc5 e1).trans e3)).trans rfl
end K67
end M
namespace W_k67
open PySem L2 M
def top (i : Nat) : Stmt := PySem.Challenge.pw_enoughsaid_k67_books_read.main.body.getD i (.Pass ⟨0, 0, 0, 0⟩)
structure yO (K : ae) (mg : Str -> Option Value) (cls : Nat -> Option Addr) (ad : Nat -> Addr) : Prop where
 Ab : mg "isinstance" = none
 Ak : mg "str" = none
 Aq : mg "len" = none
 AO : mg "all" = none
 AY : mg "int" = none
 AL : mg "list" = none
 Bg : mg "zip" = none
 AD : mg "tuple" = none
 AJ : mg "range" = none
 AM : mg "bool" = none
 Bh : mg "max" = none
 Bi : mg "min" = none
 AU : ∃ t, mg "LONGEST_NAME" = some (.int 8 t)
 AV : ∃ t, mg "MOST_FIGURES" = some (.int 10 t)
 AN : ∃ t, mg "GREATEST_NUMBER" = some (.int 9999999999 t)
 AI : ∃ T, mg "HEARD_WORDS" = some (.ref T) /\ W5 K T (List.map V.str ["idle", "strange", "elder", "false", "over", "twice", "done", "never", "no", "ok"])
 Ap : ∃ T, mg "BOOK_ROWS" = some (.ref T) /\ KnD K T [("begin", ["number", "number", "names"]), ("hear", ["number", "name", "number", "value", "number", "number", "heard"]), ("wake", ["number", "names"]), ("off", ["number", "truth"])]
local macro_rules | `(tactic| walk_at "s") => `(tactic| exact ⟨rfl, rfl, rfl, by decide +kernel, rfl, by decide +kernel, by decide +kernel⟩)
section
variable {P : Program} {w : World} {K : ae} {mg : Str -> Option Value} {base : Heap} {cls : Nat -> Option Addr} {ad : Nat -> Addr} {f : Addr} {fd : FuncData}
theorem zem : zL ["thing"] ["thing"] (zu (top 7)) := by walk_at "s"
theorem zfC (F : Fun K "is_name" "is_name" (top 7) f fd) (M : yO K mg cls ad) : FnOk P w K mg base yR 1 f fd ["thing"] (yK ⟨K, cls⟩ [] false 1 (zy zT)) := by
 have sc := zem
 exact yV F sc rfl fun cdv A outer s H E hr => ⟨_, (zg (zP (ZI (Qw (jp (jo (yH rfl M.Ab (zh 0) (zc (jy (n := "str") rfl M.Ak (by kernel_rfl)))))) (Zk (jp (zaS Vr VM Vr VM zf (jU rfl M.Aq (zh 0)) (WA rfl M.AU))))))
  (zk (zq Zz))
  zB)
 (zk (zq (Z7 rfl rfl M.AO (zc (yg (jC rfl (CompOk.of_b (N' := ["sign"]) (js := [none]) rfl (by kernel_rfl)) (by decide) (zeZ (zZ 0)) (fun _ _ _ _ _ => (z0 (i := 0) (by decide) (show (["sign"] : List Str).Nodup by decide +kernel) rfl (Or.inl rfl) (Or.inr rfl))) (fun _ _ _ _ _ => yL) (fun _ _ _ _ _ => (zaR Zy VF Zy VF zx (zZ 0) zx))))))))), by unfold Uf ZO; infer_instance⟩
theorem Rx : zL ["thing"] ["thing"] (zu (top 12)) := by walk_at "s"
theorem zbI (F : Fun K "is_figures" "is_figures" (top 12) f fd) (M : yO K mg cls ad) : FnOk P w K mg base yR 1 f fd ["thing"] (yK ⟨K, cls⟩ [] false 1 (zy jF)) := by
 have sc := Rx
 exact yV F sc rfl fun cdv A outer s H E hr => ⟨_, (zg (zP (ZI (Qw (jp (jo (yH rfl M.Ab (zh 0) (zc (jy (n := "str") rfl M.Ak (by kernel_rfl)))))) (Zk (jp (zaS Vr VM Vr VM zf (jU rfl M.Aq (zh 0)) (WA rfl M.AV))))))
  (zk (zq Zz))
  zB)
 (zk (zq (Zl (Z7 rfl rfl M.AO (zc (yg (jC rfl (CompOk.of_b (N' := ["sign"]) (js := [none]) rfl (by kernel_rfl)) (by decide) (zeZ (zZ 0)) (fun _ _ _ _ _ => (z0 (i := 0) (by decide) (show (["sign"] : List Str).Nodup by decide +kernel) rfl (Or.inl rfl) (Or.inr rfl))) (fun _ _ _ _ _ => yL) (fun _ _ _ _ _ => (zaR Zy VF Zy VF zx (zZ 0) zx)))))) (JU (zhp (jn yy yA (zh 0) (zc zx) (zC _)) (JU (jn Uq UC (zc (zv (zh 0) (zc zf) (fun _ _ => rfl))) (zc zx) (zC _))))))))), by unfold Zp Qc; infer_instance⟩
theorem Ry : zL ["form", "word"] ["form", "word"] (zu (top 13)) := by walk_at "s"
theorem zbJ (F : Fun K "is_word_of" "is_word_of" (top 13) f fd) (M : yO K mg cls ad) (Ac : HM P w K mg base cls "is_name" 1 ["thing"] [] false (zy zT)) (As : HM P w K mg base cls "is_figures" 1 ["thing"] [] false (zy jF)) : FnOk P w K mg base yR 2 f fd ["form", "word"] (yK ⟨K, cls⟩ [] false 2 (zy yE)) := by
 have sc := Ry
 exact yV F sc rfl fun cdv A outer s H E hr => ⟨_, (zg (zP (zJ yy yA (zh 0) (zc zx) (zC _))
  (zk (zq (yh Ac (hr.mono (by omega)) rfl (zd (zZ 1) zl))))
  zB)
 (zg (zP (zJ yy yA (zh 0) (zc zx) (zC _))
  (zk (zq (jn QC UD (zh 1) (zc (zfc rfl M.AI)) (by with_unfolding_all rfl))))
  zB)
 (zg (zP (zJ yy yA (zh 0) (zc zx) (zC _))
  (zk (zq (jn QC UD (zh 1) (zc (Z6 (zd zx (zd zx zl)))) (by with_unfolding_all rfl))))
  zB)
 (zk (zq (zhp (yh As (hr.mono (by omega)) rfl (zd (zZ 1) zl)) (JU (Zl (jn yy yA (zh 0) (zc zx) (zC _)) (JU (jn yy yA (zh 1) (zc zx) (zC _))))))))))), by unfold Zq Qf Qe Qd; infer_instance⟩
theorem zgP : zL ["form", "word"] ["form", "word"] (zu (top 14)) := by walk_at "s"
theorem zi_ (F : Fun K "worth" "worth" (top 14) f fd) (M : yO K mg cls ad) : FnOk P w K mg base yR 1 f fd ["form", "word"] (yK ⟨K, cls⟩ [] false 2 (zy Qg)) := by
 have sc := zgP
 exact yV F sc rfl fun cdv A outer s H E hr => ⟨_, (zg (zP (zJ QC UD (zh 0) (zc (Z6 (zd zx (zd zx zl)))) (by with_unfolding_all rfl))
  (zk (zq (zZ 1)))
  zB)
 (zg (zP (zJ yy yA (zh 0) (zc zx) (zC _))
  (zk (zq (jn yy yA (zh 1) (zc zx) (zC _))))
  zB)
 (zk (zq (RX (zJ yy yA (zh 1) (zc zx) (zC _)) yT (ziJ rfl M.AY (zh 1))))))), by unfold zc3 Rj ZD; infer_instance⟩
theorem Rz : zL ["forms", "words", "plain", "others", "pairs", "parts"] ["forms", "words"] (zu (top 17)) := by walk_at "s"
theorem zbK (F : Fun K "read_parts" "read_parts" (top 17) f fd) (M : yO K mg cls ad) (Ac : HM P w K mg base cls "is_name" 1 ["thing"] [] false (zy zT)) (At : HM P w K mg base cls "is_word_of" 2 ["form", "word"] [] false (zy yE)) (AQ : HM P w K mg base cls "worth" 1 ["form", "word"] [] false (zy Qg)) : FnOk P w K mg base yR 3 f fd ["forms", "words"] (yK ⟨K, cls⟩ [] false 2 (zy Ja)) := by
 have sc := Rz
 exact yV F sc rfl fun cdv A outer s H E hr => ⟨_, (zg (UH (i := 2) (by decide) rfl sc.nd rfl rfl (CompOk.of_b (N' := ["form"]) (js := [none]) rfl (by kernel_rfl)) (by decide) (zlW (zZ 0)) (fun _ _ _ _ _ => (z0 (i := 0) (by decide) (show (["form"] : List Str).Nodup by decide +kernel) rfl (Or.inl rfl) (Or.inr rfl))) (fun _ _ _ _ _ => (ziz (zJ Uq UC (zh 0) (zc zx) (zC _)))) (fun _ _ _ _ _ => (zZ 0)))
 (zg (yo (i := 3) (by decide) sc.nd rfl (Or.inl rfl) (yg (zaU (zh 1) (UF (jU rfl M.Aq (zh 2))) UE)))
 (zg (zP (ZI (Qw (zJ zg6 zhn (zc (jU rfl M.Aq (zh 1))) (zc (jU rfl M.Aq (zh 2))) (zC _)) (Zk (ZI (zaT (VN (zh 3)) (WB (zJ zaw UD (zc zx) (zh 0) (by with_unfolding_all rfl))))))))
  (zk (zq yT))
  zB)
 (zg (yo (i := 4) (by decide) sc.nd rfl (Or.inl rfl) (yg (ziP rfl rfl M.AL rfl M.Bg (zd (zZ 2) (zd (zZ 1) zl)))))
 (zg (zP (ZI (Qw (jp (jo (Z7 rfl rfl M.AO (zc (yg (jC rfl (CompOk.of_b (N' := ["form", "word"]) (js := [none, none]) rfl (by kernel_rfl)) (by decide) (Qa (zZ 4)) (fun _ _ _ _ _ => (VO (n := 2) rfl (j7 (z0 (i := 0) (by decide) (show (["form", "word"] : List Str).Nodup by decide +kernel) rfl (Or.inl rfl) (Or.inr rfl)) (j7 (z0 (i := 1) (by decide) (show (["form", "word"] : List Str).Nodup by decide +kernel) rfl (Or.inl rfl) (Or.inr rfl)) UG)))) (fun _ _ _ _ _ => yL) (fun _ _ _ _ _ => (yh At (hr.mono (by omega)) rfl (zd (zZ 0) (zd (zZ 1) zl)))))))))) (Zk (jp (jo (Z7 rfl rfl M.AO (zc (yg (jC rfl (CompOk.of_b (N' := ["word"]) (js := [none]) rfl (by kernel_rfl)) (by decide) (Qa (zZ 3)) (fun _ _ _ _ _ => (z0 (i := 0) (by decide) (show (["word"] : List Str).Nodup by decide +kernel) rfl (Or.inl rfl) (Or.inr rfl))) (fun _ _ _ _ _ => yL) (fun _ _ _ _ _ => (yh Ac (hr.mono (by omega)) rfl (zd (zZ 0) zl))))))))))))
  (zk (zq yT))
  zB)
 (zg (zdS (i := 5) (by decide) rfl sc.nd rfl rfl (CompOk.of_b (N' := ["form", "word"]) (js := [none, none]) rfl (by kernel_rfl)) (by decide) (Qa (zZ 4)) (fun _ _ _ _ _ => (VO (n := 2) rfl (j7 (z0 (i := 0) (by decide) (show (["form", "word"] : List Str).Nodup by decide +kernel) rfl (Or.inl rfl) (Or.inr rfl)) (j7 (z0 (i := 1) (by decide) (show (["form", "word"] : List Str).Nodup by decide +kernel) rfl (Or.inl rfl) (Or.inr rfl)) UG)))) (fun _ _ _ _ _ => yL) (fun _ _ _ _ _ => (yh AQ (hr.mono (by omega)) rfl (zd (zZ 0) (zd (zZ 1) zl)))))
 (zg (zP (zJ QC UD (zc zx) (zh 0) (by with_unfolding_all rfl))
  (zk (JK (QJ 5 (Va rfl M.AD (zh 3)))))
  zB)
 (zk (zq (dv 5 (by decide))))))))))), by unfold Ug Yf Ye Yd Yc Yb Qh; infer_instance⟩
theorem zbZ : zL ["text", "words", "parts"] ["text"] (zu (top 23)) := by walk_at "s"
theorem zen (F : Fun K "read_row" "read_row" (top 23) f fd) (M : yO K mg cls ad) (Au : HM P w K mg base cls "read_parts" 3 ["forms", "words"] [] false (zy Ja)) : FnOk P w K mg base yR 4 f fd ["text"] (yK ⟨K, cls⟩ [] false 1 (zy jQ)) := by
 have sc := zbZ
 exact yV F sc rfl fun cdv A outer s H E hr => ⟨_, (zg (yo (i := 1) (by decide) sc.nd rfl (Or.inl rfl) (yg (zbl (y := " ") (zh 0))))
 (zg (zP (zJ V7 zcZ (zc (zv (zh 1) (zc zf) (fun _ _ => rfl))) (zc (V9 rfl M.Ap)) (by with_unfolding_all rfl))
  (zk (zq yT))
  zB)
 (zg (yo (i := 2) (by decide) sc.nd rfl (Or.inl rfl) (yh Au (hr.mono (by omega)) rfl (zd (zc0 (zc (V9 rfl M.Ap)) (zc (zv (zh 1) (zc zf) (fun _ _ => rfl))) (fun _ _ => rfl)) (zd (yg (zaU (zh 1) (UF zf) UE)) zl))))
 (zk (zq (RX (zJ Vs VE (zh 2) (zc yT) (zC _)) yT (Va rfl M.AD (zc (yg (VL (zc (yg (yU (zd (zv (zh 1) (zc zf) (fun _ _ => rfl)) zl)))) (zh 2))))))))))), by unfold We Ui Uh JY; infer_instance⟩
theorem WT : zL ["rows"] ["rows"] (zu (top 24)) := by walk_at "s"
theorem RA (F : Fun K "demand_rows" "demand_rows" (top 24) f fd) (M : yO K mg cls ad) : FnOk P w K mg base yR 1 f fd ["rows"] (yK ⟨K, cls⟩ [] false 1 (zy yq)) := by
 have sc := WT
 exact yV F sc rfl fun cdv A outer s H E hr => ⟨_, (zk (zP (zJ (zk4 (za2 hr)) zk5 (zc yT) (zh 0) (by with_unfolding_all rfl))
  (zk Vb)
  zB)), by unfold QR; infer_instance⟩
theorem zbL : zL ["text", "rows"] ["text"] (zu (top 26)) := by walk_at "s"
theorem zb0 (F : Fun K "read_book" "read_book" (top 26) f fd) (M : yO K mg cls ad) (AE : HM P w K mg base cls "read_row" 4 ["text"] [] false (zy jQ)) (Ad : HM P w K mg base cls "demand_rows" 1 ["rows"] [] false (zy yq)) : FnOk P w K mg base yR 5 f fd ["text"] (yK ⟨K, cls⟩ [] true 1 (zy yQ)) := by
 have sc := zbL
 exact yV F sc rfl fun cdv A outer s H E hr => ⟨_, (zg (zP (jp (jo (yH rfl M.Ab (zh 0) (zc (jy (n := "str") rfl M.Ak (by kernel_rfl))))))
  (zk Vb)
  zB)
 (zg (QH (i := 1) (by decide) sc.nd rfl (Or.inl rfl) (zlU (VN (zh 0)) (jC rfl (CompOk.of_b (N' := ["row"]) (js := [none]) rfl (by kernel_rfl)) (by decide) (Qa (yg (zbl (y := "\n") (zh 0)))) (fun _ _ _ _ _ => (z0 (i := 0) (by decide) (show (["row"] : List Str).Nodup by decide +kernel) rfl (Or.inl rfl) (Or.inr rfl))) (fun _ _ _ _ _ => yL) (fun _ _ _ _ _ => (yh AE (hr.mono (by omega)) rfl (zd (zZ 0) zl)))) (yU zl)))
 (zg (JK (zbg (j := 1) Ad (hr.mono (by omega)) rfl))
 (zk (zfg (i := 1) (by decide)))))), by unfold UR YY; infer_instance⟩
theorem zfD : zL ["_law_cell"] ["_law_cell"] (zu (top 29)) := by walk_at "s"
theorem zgQ (F : Fun K "_law_well" "_law_well" (top 29) f fd) (M : yO K mg cls ad) : FnOk P w K mg base yR 1 f fd ["_law_cell"] (yK ⟨K, cls⟩ [] true 1 (zy Jz)) := by
 have sc := zfD
 exact yV F sc rfl fun cdv A outer s H E hr => ⟨_, (zk (ziy (yU (zd (zv (zc (yg (yU (zd zf (zd (zZ 0) zl))))) (zc (zcw rfl M.AY (zc (jn zg7 zho (zh 0) (zc (zaQ (zc zf) (zc zf))) (zC _))))) (fun _ _ => rfl)) (zd (Zj (zh 0) (zc zf)) (zd zf zl)))))), by unfold Vj; infer_instance⟩
theorem zbM : zL ["_law_script", "_law_k"] ["_law_script", "_law_k"] (zu (top 28)) := by walk_at "s"
theorem zb1 (F : Fun K "_law_cell_at" "_law_cell_at" (top 28) f fd) (M : yO K mg cls ad) : FnOk P w K mg base yR 1 f fd ["_law_script", "_law_k"] (yK ⟨K, cls⟩ [] false 2 (zy jv)) := by
 have sc := zbM
 exact yV F sc rfl fun cdv A outer s H E hr => ⟨_, (zg (zP (zJ zg6 zhn (zh 1) (zc (jU rfl M.Aq (zh 0))) (zC _))
  (zk (zq (zv (zh 0) (zh 1) (fun _ _ => rfl))))
  zB)
 (zk (zq zf))), by unfold ZP; infer_instance⟩
theorem zfE : zL ["_law_well_here", "_law_base", "_law_digit", "_law_number_here"] ["_law_well_here", "_law_base"] (zu (top 30)) := by walk_at "s"
theorem zgR (F : Fun K "_law_draw" "_law_draw" (top 30) f fd) (M : yO K mg cls ad) : FnOk P w K mg base yR 1 f fd ["_law_well_here", "_law_base"] (yK ⟨K, cls⟩ [0] false 2 (zy zG)) := by
 have sc := zfE
 exact yV F sc rfl fun cdv A outer s H E hr => ⟨_, (zg (zP (zJ zlv zlJ (zc (zv (zh 0) (zc zf) (fun _ _ => rfl))) (zc zf) (zC _))
  (zg (yo (i := 2) (by decide) sc.nd rfl (Or.inl rfl) (Zj (zc (zv (zh 0) (zc zf) (fun _ _ => rfl))) (zh 1)))
 (zg (Vc 0 (YE (zc (zv (zh 0) (zc zf) (fun _ _ => rfl))) (zh 1)) zf)
 (zk (zq (zZ 2)))))
  zB)
 (zg (Vc 0 (QG (zc (zv (zh 0) (zc zf) (fun _ _ => rfl))) (zc zf)) zf)
 (zg (yo (i := 3) (by decide) sc.nd rfl (Or.inl rfl) (Zj (zc (Y8 (zc (QG (zc (QG (zc (zv (zh 0) (zc zf) (fun _ _ => rfl))) (zc (Y8 (zc zf) (zc (zv (zh 0) (zc zf) (fun _ _ => rfl))))))) (zc zf))) (zc zf))) (zc zf)))
 (zg (yo (i := 3) (by decide) sc.nd rfl (Or.inl rfl) (Zj (zc (Y8 (zh 3) (zc (QG (zc (YE (zh 3) (zc zf))) (zc zf))))) (zc zf)))
 (zk (zq (Zj (zc (Zj (zc (Y8 (zh 3) (zc (QG (zc (YE (zh 3) (zc zf))) (zc zf))))) (zc zf))) (zh 1)))))))), by unfold Vk YM YL YK YJ YI; infer_instance⟩
theorem zb2 : zL ["_law_well_here"] ["_law_well_here"] (zu (top 32)) := by walk_at "s"
theorem zeo (F : Fun K "_law_number" "_law_number" (top 32) f fd) (M : yO K mg cls ad) (Aa : HM P w K mg base cls "_law_draw" 1 ["_law_well_here", "_law_base"] [0] false (zy zG)) : FnOk P w K mg base yR 2 f fd ["_law_well_here"] (yK ⟨K, cls⟩ [0] false 1 (zy yn)) := by
 have sc := zb2
 exact yV F sc rfl fun cdv A outer s H E hr => ⟨_, (zk (zq (zv (zc (yg (yU (zd zf (zd (zM (j := 0) Aa (hr.mono (by omega)) rfl (zd zf zl)) (zd (zM (j := 0) Aa (hr.mono (by omega)) rfl (zd (zaQ (zc zf) (zc zf)) zl)) (zd (zkF (zc (zaQ (zc zf) (zc zf))) (zc zf)) zl))))))) (zc (zM (j := 0) Aa (hr.mono (by omega)) rfl (zd zf zl))) (fun _ _ => rfl)))), by unfold YN; infer_instance⟩
theorem zfF : zL ["_law_well_here", "_law_last", "_law_letters", "_law_word_here", "_law_k"] ["_law_well_here", "_law_last"] (zu (top 31)) := by walk_at "s"
theorem zgS (F : Fun K "_law_word" "_law_word" (top 31) f fd) (M : yO K mg cls ad) (Aa : HM P w K mg base cls "_law_draw" 1 ["_law_well_here", "_law_base"] [0] false (zy zG)) : FnOk P w K mg base yR 2 f fd ["_law_well_here", "_law_last"] (yK ⟨K, cls⟩ [0] false 2 (zy jR)) := by
 have sc := zfF
 exact yV F sc rfl fun cdv A outer s H E hr => ⟨_, (zg (yo (i := 2) (by decide) sc.nd rfl (Or.inl rfl) zx)
 (zg (yo (i := 3) (by decide) sc.nd rfl (Or.inl rfl) zx)
 (zg (VP df rfl (QI rfl M.AJ (zd (zM (j := 0) Aa (hr.mono (by omega)) rfl (zd zf zl)) zl)) (z0 (i := 4) (by decide) sc.nd rfl (Or.inl rfl))
  (zk (yo (i := 3) (by decide) sc.nd rfl (Or.inl rfl) (zcv (zh 3) (zc (zv (zh 2) (zc (zM (j := 0) Aa (hr.mono (by omega)) rfl (zd zf zl))) (fun _ _ => rfl)))))))
 (zk (zq (zcv (zh 3) (zc (zv (zh 2) (zc (Zj (zh 1) (zc zf))) (fun _ _ => rfl))))))))), by unfold Vl YQ YO Q2; infer_instance⟩
theorem WU : zL ["_law_well_here", "_law_found", "_law_k"] ["_law_well_here"] (zu (top 33)) := by walk_at "s"
theorem RB (F : Fun K "_law_few_names" "_law_few_names" (top 33) f fd) (M : yO K mg cls ad) (Aa : HM P w K mg base cls "_law_draw" 1 ["_law_well_here", "_law_base"] [0] false (zy zG)) (Am : HM P w K mg base cls "_law_word" 2 ["_law_well_here", "_law_last"] [0] false (zy jR)) : FnOk P w K mg base yR 3 f fd ["_law_well_here"] (yK ⟨K, cls⟩ [0] false 1 (zy y0)) := by
 have sc := WU
 exact yV F sc rfl fun cdv A outer s H E hr => ⟨_, (zg (QH (i := 1) (by decide) sc.nd rfl (Or.inl rfl) (yU zl))
 (zg (VP df rfl (QI rfl M.AJ (zd (zM (j := 0) Aa (hr.mono (by omega)) rfl (zd zf zl)) zl)) (z0 (i := 2) (by decide) sc.nd rfl (Or.inl rfl))
  (zg (JK (QJ 1 (zM (j := 0) Am (hr.mono (by omega)) rfl (zd (zM (j := 0) Aa (hr.mono (by omega)) rfl (zd zf zl)) zl))))
 (zk (zP (zJ yy yA (zc (zM (j := 0) Aa (hr.mono (by omega)) rfl (zd zf zl))) (zc zf) (zC _))
  (zk (JK (QJ 1 (zv (zh 1) (zc zf) (fun _ _ => rfl)))))
  zB))))
 (zk (zq (Va rfl M.AD (zh 1)))))), by unfold QS JZ jr j3; infer_instance⟩
theorem RC : zL ["_law_well_here", "_law_chance", "_law_moment", "_law_value", "_law_words", "_law_name", "_law_numbers", "_law_told"] ["_law_well_here"] (zu (top 34)) := by walk_at "s"
theorem zbN (F : Fun K "_law_book_row" "_law_book_row" (top 34) f fd) (M : yO K mg cls ad) (Aa : HM P w K mg base cls "_law_draw" 1 ["_law_well_here", "_law_base"] [0] false (zy zG)) (Ae : HM P w K mg base cls "_law_number" 2 ["_law_well_here"] [0] false (zy yn)) (Ai : HM P w K mg base cls "_law_few_names" 3 ["_law_well_here"] [0] false (zy y0)) (Am : HM P w K mg base cls "_law_word" 2 ["_law_well_here", "_law_last"] [0] false (zy jR)) : FnOk P w K mg base yR 4 f fd ["_law_well_here"] (yK ⟨K, cls⟩ [0] false 1 (zy yW)) := by
 have sc := RC
 exact yV F sc rfl fun cdv A outer s H E hr => ⟨_, (zg (yo (i := 1) (by decide) sc.nd rfl (Or.inl rfl) (zM (j := 0) Aa (hr.mono (by omega)) rfl (zd zf zl)))
 (zg (yo (i := 2) (by decide) sc.nd rfl (Or.inl rfl) (zM (j := 0) Ae (hr.mono (by omega)) rfl zl))
 (zg (zP (zJ yy yA (zh 1) (zc zf) (zC _))
  (zk (zq (Z6 (zd zx (zd (zZ 2) (zd (zM (j := 0) Ae (hr.mono (by omega)) rfl zl) (zd (zM (j := 0) Ai (hr.mono (by omega)) rfl zl) zl)))))))
  zB)
 (zg (zP (zJ yy yA (zh 1) (zc zf) (zC _))
  (zk (zq (Z6 (zd zx (zd (zZ 2) (zd (zM (j := 0) Ai (hr.mono (by omega)) rfl zl) zl))))))
  zB)
 (zg (zP (zJ yy yA (zh 1) (zc zf) (zC _))
  (zk (zq (Z6 (zd zx (zd (zZ 2) (zd (jn yy yA (zc (zM (j := 0) Aa (hr.mono (by omega)) rfl (zd zf zl))) (zc zf) (zC _)) zl))))))
  zB)
 (zg (yo (i := 3) (by decide) sc.nd rfl (Or.inl rfl) (zv (zc (yg (yU (zd yT (zd (zM (j := 0) Ae (hr.mono (by omega)) rfl zl) zl))))) (zc (zM (j := 0) Aa (hr.mono (by omega)) rfl (zd zf zl))) (fun _ _ => rfl)))
 (zg (yo (i := 4) (by decide) sc.nd rfl (Or.inl rfl) (yg (yU (ziv (ss := ["idle", "strange", "elder", "false", "over", "twice", "done", "never", "no", "ok"]) (by kernel_rfl)))))
 (zg (yo (i := 5) (by decide) sc.nd rfl (Or.inl rfl) (zv (zc (yg (yU (zd (zM (j := 0) Am (hr.mono (by omega)) rfl (zd (zM (j := 0) Aa (hr.mono (by omega)) rfl (zd zf zl)) zl)) (zd (zv (zh 4) (zc (zM (j := 0) Aa (hr.mono (by omega)) rfl (zd zf zl))) (fun _ _ => rfl)) zl))))) (zc (zM (j := 0) Aa (hr.mono (by omega)) rfl (zd zf zl))) (fun _ _ => rfl)))
 (zg (UH (i := 6) (by decide) rfl sc.nd rfl rfl (CompOk.of_b (N' := ["_law_k", "_law_well_here"]) (js := [none, some 0]) rfl (by kernel_rfl)) (by decide) (QI rfl M.AJ (zd zf zl)) (fun _ _ _ _ _ => (z0 (i := 0) (by decide) (show (["_law_k", "_law_well_here"] : List Str).Nodup by decide +kernel) rfl (Or.inl rfl) (Or.inr rfl))) (fun _ _ _ _ _ => yL) (fun _ _ _ _ _ => (zM (j := 1) Ae (hr.mono (by omega)) rfl zl)))
 (zg (yo (i := 7) (by decide) sc.nd rfl (Or.inl rfl) (zv (zh 4) (zc (zM (j := 0) Aa (hr.mono (by omega)) rfl (zd zf zl))) (fun _ _ => rfl)))
 (zk (zq (Z6 (zd zx (zd (zZ 2) (zd (zZ 5) (zd (zv (zh 6) (zc zf) (fun _ _ => rfl)) (zd (zZ 3) (zd (zv (zh 6) (zc zf) (fun _ _ => rfl)) (zd (zv (zh 6) (zc zf) (fun _ _ => rfl)) (zd (zZ 7) zl))))))))))))))))))))), by unfold Zr yv jG Jh Qn Qm Ql Qk Qj Qi; infer_instance⟩
theorem WV : zL ["_law_row", "_law_value"] ["_law_row"] (zu (top 35)) := by walk_at "s"
theorem RD (F : Fun K "_law_row_words" "_law_row_words" (top 35) f fd) (M : yO K mg cls ad) : FnOk P w K mg base yR 1 f fd ["_law_row"] (yK ⟨K, cls⟩ [] false 1 (zy zX)) := by
 have sc := WV
 exact yV F sc rfl fun cdv A outer s H E hr => ⟨_, (zg (zP (zJ yy yA (zc (zv (zh 0) (zc zf) (fun _ _ => rfl))) (zc zx) (zC _))
  (zk (zq (yg (VL (zc (yg (yU (zd (zv (zh 0) (zc zf) (fun _ _ => rfl)) (zd (jW rfl M.Ak (zc (zv (zh 0) (zc zf) (fun _ _ => rfl)))) (zd (jW rfl M.Ak (zc (zv (zh 0) (zc zf) (fun _ _ => rfl)))) zl)))))) (zc (yg (zcx rfl M.AL (zc (zv (zh 0) (zc zf) (fun _ _ => rfl))))))))))
  zB)
 (zg (zP (zJ yy yA (zc (zv (zh 0) (zc zf) (fun _ _ => rfl))) (zc zx) (zC _))
  (zk (zq (yg (VL (zc (yg (yU (zd (zv (zh 0) (zc zf) (fun _ _ => rfl)) (zd (jW rfl M.Ak (zc (zv (zh 0) (zc zf) (fun _ _ => rfl)))) zl))))) (zc (yg (zcx rfl M.AL (zc (zv (zh 0) (zc zf) (fun _ _ => rfl))))))))))
  zB)
 (zg (zP (zJ yy yA (zc (zv (zh 0) (zc zf) (fun _ _ => rfl))) (zc zx) (zC _))
  (zk (zq (yg (yU (zd (zv (zh 0) (zc zf) (fun _ _ => rfl)) (zd (jW rfl M.Ak (zc (zv (zh 0) (zc zf) (fun _ _ => rfl)))) (zd (zv (zc (yg (yU (zd zx (zd zx zl))))) (zc (zcw rfl M.AY (zc (zv (zh 0) (zc zf) (fun _ _ => rfl))))) (fun _ _ => rfl)) zl)))))))
  zB)
 (zg (yo (i := 1) (by decide) sc.nd rfl (Or.inl rfl) zx)
 (zg (zP (zJ zhW zik (zc (zv (zh 0) (zc zf) (fun _ _ => rfl))) (zc yT) (zC _))
  (zk (yo (i := 1) (by decide) sc.nd rfl (Or.inl rfl) (jW rfl M.Ak (zc (zv (zh 0) (zc zf) (fun _ _ => rfl))))))
  zB)
 (zk (zq (yg (yU (zd zx (zd (jW rfl M.Ak (zc (zv (zh 0) (zc zf) (fun _ _ => rfl)))) (zd (zv (zh 0) (zc zf) (fun _ _ => rfl)) (zd (jW rfl M.Ak (zc (zv (zh 0) (zc zf) (fun _ _ => rfl)))) (zd (zZ 1) (zd (jW rfl M.Ak (zc (zv (zh 0) (zc zf) (fun _ _ => rfl)))) (zd (jW rfl M.Ak (zc (zv (zh 0) (zc zf) (fun _ _ => rfl)))) (zd (zv (zh 0) (zc zf) (fun _ _ => rfl)) zl))))))))))))))))), by unfold jj jt j4 J1 J0; infer_instance⟩
theorem zbO : zL ["thing"] ["thing"] (zu (top 18)) := by walk_at "s"
theorem zb3 (F : Fun K "are_names" "are_names" (top 18) f fd) (M : yO K mg cls ad) (Ac : HM P w K mg base cls "is_name" 1 ["thing"] [] false (zy zT)) : FnOk P w K mg base yR 2 f fd ["thing"] (yK ⟨K, cls⟩ [] false 1 (zy Ju)) := by
 have sc := zbO
 exact yV F sc rfl fun cdv A outer s H E hr => ⟨_, (zk (zq (Zl (yH rfl M.Ab (zh 0) (zc (jy (n := "tuple") rfl M.AD (by kernel_rfl)))) (JU (Z7 rfl rfl M.AO (zc (yg (jC rfl (CompOk.of_b (N' := ["name"]) (js := [none]) rfl (by kernel_rfl)) (by decide) (zbj (zZ 0)) (fun _ _ _ _ _ => (z0 (i := 0) (by decide) (show (["name"] : List Str).Nodup by decide +kernel) rfl (Or.inl rfl) (Or.inr rfl))) (fun _ _ _ _ _ => yL) (fun _ _ _ _ _ => (yh Ac (hr.mono (by omega)) rfl (zd (zZ 0) zl))))))))))), by unfold ZQ; infer_instance⟩
theorem zb4 : zL ["thing"] ["thing"] (zu (top 5)) := by walk_at "s"
theorem zep (F : Fun K "is_whole" "is_whole" (top 5) f fd) (M : yO K mg cls ad) : FnOk P w K mg base yR 1 f fd ["thing"] (yK ⟨K, cls⟩ [] false 1 (zy Ji)) := by
 have sc := zb4
 exact yV F sc rfl fun cdv A outer s H E hr => ⟨_, (zk (zq (Zl (yH rfl M.Ab (zh 0) (zc (jy (n := "int") rfl M.AY (by kernel_rfl)))) (JU (zkG (yH rfl M.Ab (zh 0) (zc (jy (n := "bool") rfl M.AM (by kernel_rfl))))))))), by unfold YR; infer_instance⟩
theorem UN : zL ["thing"] ["thing"] (zu (top 6)) := by walk_at "s"
theorem Vq (F : Fun K "is_from_nought" "is_from_nought" (top 6) f fd) (M : yO K mg cls ad) (AF : HM P w K mg base cls "is_whole" 1 ["thing"] [] false (zy Ji)) : FnOk P w K mg base yR 2 f fd ["thing"] (yK ⟨K, cls⟩ [] false 1 (zy yu)) := by
 have sc := UN
 exact yV F sc rfl fun cdv A outer s H E hr => ⟨_, (zk (zq (Zl (yh AF (hr.mono (by omega)) rfl (zd (zZ 0) zl)) (JU (jn zg7 zho (zh 0) (zc zf) (zC _)))))), by unfold JB; infer_instance⟩
theorem zb5 : zL ["form", "thing"] ["form", "thing"] (zu (top 15)) := by walk_at "s"
theorem zeq (F : Fun K "can_show" "can_show" (top 15) f fd) (M : yO K mg cls ad) (Ac : HM P w K mg base cls "is_name" 1 ["thing"] [] false (zy zT)) (Al : HM P w K mg base cls "is_from_nought" 2 ["thing"] [] false (zy yu)) : FnOk P w K mg base yR 3 f fd ["form", "thing"] (yK ⟨K, cls⟩ [] false 2 (zy yF)) := by
 have sc := zb5
 exact yV F sc rfl fun cdv A outer s H E hr => ⟨_, (zg (zP (zJ yy yA (zh 0) (zc zx) (zC _))
  (zk (zq (yh Ac (hr.mono (by omega)) rfl (zd (zZ 1) zl))))
  zB)
 (zg (zP (zJ yy yA (zh 0) (zc zx) (zC _))
  (zk (zq (Zl (yH rfl M.Ab (zh 1) (zc (jy (n := "str") rfl M.Ak (by kernel_rfl)))) (JU (jn QC UD (zh 1) (zc (zfc rfl M.AI)) (by with_unfolding_all rfl))))))
  zB)
 (zg (zP (zJ yy yA (zh 0) (zc zx) (zC _))
  (zk (zq (yH rfl M.Ab (zh 1) (zc (jy (n := "bool") rfl M.AM (by kernel_rfl))))))
  zB)
 (zg (zP (zJ Vs VE (zh 1) (zc yT) (zC _))
  (zk (zq (jn yy yA (zh 0) (zc zx) (zC _))))
  zB)
 (zk (zq (Zl (yh Al (hr.mono (by omega)) rfl (zd (zZ 1) zl)) (JU (jn Vr VM (zh 1) (zc (WA rfl M.AN)) (zC _)))))))))), by unfold jS jH Jb J2 Zs; infer_instance⟩
theorem zgT : zL ["thing"] ["thing"] (zu (top 16)) := by walk_at "s"
theorem zja (F : Fun K "shown" "shown" (top 16) f fd) (M : yO K mg cls ad) : FnOk P w K mg base yR 1 f fd ["thing"] (yK ⟨K, cls⟩ [] false 1 (zy jI)) := by
 have sc := zgT
 exact yV F sc rfl fun cdv A outer s H E hr => ⟨_, (zg (zP (zJ Vs VE (zh 0) (zc yT) (zC _))
  (zk (zq zx))
  zB)
 (zg (zP (jo (yH rfl M.Ab (zh 0) (zc (jy (n := "bool") rfl M.AM (by kernel_rfl)))))
  (zk (zq (RX (VN (zh 0)) zx zx)))
  zB)
 (zk (zq (jW rfl M.Ak (zh 0)))))), by unfold Za QK; infer_instance⟩
theorem RE : zL ["forms", "parts", "words", "form", "part"] ["forms", "parts"] (zu (top 19)) := by walk_at "s"
theorem zbP (F : Fun K "show_parts" "show_parts" (top 19) f fd) (M : yO K mg cls ad) (Az : HM P w K mg base cls "are_names" 2 ["thing"] [] false (zy Ju)) (AG : HM P w K mg base cls "can_show" 3 ["form", "thing"] [] false (zy yF)) (AR : HM P w K mg base cls "shown" 1 ["thing"] [] false (zy jI)) : FnOk P w K mg base yR 4 f fd ["forms", "parts"] (yK ⟨K, cls⟩ [] false 2 (zy Jc)) := by
 have sc := RE
 exact yV F sc rfl fun cdv A outer s H E hr => ⟨_, (zg (zP (zJ Uq UC (zc (jU rfl M.Aq (zh 1))) (zc (jU rfl M.Aq (zh 0))) (zC _))
  (zk (zq yT))
  zB)
 (zg (QH (i := 2) (by decide) sc.nd rfl (Or.inl rfl) (yU zl))
 (zg (VP df rfl (zkY rfl M.Bg (zd (zZ 0) (zd (zZ 1) zl))) (VO (n := 2) rfl (j7 (z0 (i := 3) (by decide) sc.nd rfl (Or.inl rfl)) (j7 (z0 (i := 4) (by decide) sc.nd rfl (Or.inl rfl)) UG)))
  (zk (zP (ZI (zaT (zJ yy yA (zh 3) (zc zx) (zC _)) (WB (jo (yh Az (hr.mono (by omega)) rfl (zd (zZ 4) zl))))))
  (zk (JK (ziG 2 (zZ 4))))
  (zk (zP (ZI (zaT (zJ Uq UC (zh 3) (zc zx) (zC _)) (WB (jo (yh AG (hr.mono (by omega)) rfl (zd (zZ 3) (zd (zZ 4) zl)))))))
  (zk (JK (QJ 2 (yh AR (hr.mono (by omega)) rfl (zd (zZ 4) zl)))))
  (zk (zq yT)))))))
 (zk (zq (dv 2 (by decide))))))), by unfold Zt Qo jJ; infer_instance⟩
theorem zb6 : zL ["row", "words"] ["row"] (zu (top 22)) := by walk_at "s"
theorem zer (F : Fun K "show_row" "show_row" (top 22) f fd) (M : yO K mg cls ad) (Av : HM P w K mg base cls "show_parts" 4 ["forms", "parts"] [] false (zy Jc)) : FnOk P w K mg base yR 5 f fd ["row"] (yK ⟨K, cls⟩ [] false 1 (zy jT)) := by
 have sc := zb6
 exact yV F sc rfl fun cdv A outer s H E hr => ⟨_, (zg (zP (ZI (Qw (jp (jo (yH rfl M.Ab (zh 0) (zc (jy (n := "tuple") rfl M.AD (by kernel_rfl)))))) (Qw (jp (VN (zh 0))) (Qw (jp (jo (yH rfl M.Ab (zc (zv (zh 0) (zc zf) (fun _ _ => rfl))) (zc (jy (n := "str") rfl M.Ak (by kernel_rfl)))))) (Zk (zJ V7 zcZ (zc (zv (zh 0) (zc zf) (fun _ _ => rfl))) (zc (V9 rfl M.Ap)) (by with_unfolding_all rfl)))))))
  (zk (zq yT))
  zB)
 (zg (yo (i := 1) (by decide) sc.nd rfl (Or.inl rfl) (yh Av (hr.mono (by omega)) rfl (zd (zc0 (zc (V9 rfl M.Ap)) (zc (zv (zh 0) (zc zf) (fun _ _ => rfl))) (fun _ _ => rfl)) (zd (zkU (zh 0) (UF zf) UE) zl))))
 (zk (zq (RX (zJ Vs VE (zh 1) (zc yT) (zC _)) yT (Z9 zx (zc (yg (VL (zc (yg (yU (zd (zv (zh 0) (zc zf) (fun _ _ => rfl)) zl)))) (zh 1)))))))))), by unfold YS Zv Zu; infer_instance⟩
theorem zbQ : zL ["book", "rows"] ["book"] (zu (top 25)) := by walk_at "s"
theorem zb7 (F : Fun K "show_book" "show_book" (top 25) f fd) (M : yO K mg cls ad) (AH : HM P w K mg base cls "show_row" 5 ["row"] [] false (zy jT)) (Ad : HM P w K mg base cls "demand_rows" 1 ["rows"] [] false (zy yq)) : FnOk P w K mg base yR 6 f fd ["book"] (yK ⟨K, cls⟩ [] false 1 (zy jw)) := by
 have sc := zbQ
 exact yV F sc rfl fun cdv A outer s H E hr => ⟨_, (zg (zP (jp (jo (yH rfl M.Ab (zh 0) (zc (jy (n := "list") rfl M.AL (by kernel_rfl))))))
  (zk Vb)
  zB)
 (zg (UH (i := 1) (by decide) rfl sc.nd rfl rfl (CompOk.of_b (N' := ["row"]) (js := [none]) rfl (by kernel_rfl)) (by decide) (Qa (zZ 0)) (fun _ _ _ _ _ => (z0 (i := 0) (by decide) (show (["row"] : List Str).Nodup by decide +kernel) rfl (Or.inl rfl) (Or.inr rfl))) (fun _ _ _ _ _ => yL) (fun _ _ _ _ _ => (yh AH (hr.mono (by omega)) rfl (zd (zZ 0) zl))))
 (zg (JK (yh Ad (hr.mono (by omega)) rfl (zd (zZ 1) zl)))
 (zk (zq (Z9 zx (zh 1))))))), by unfold ZR QU QT; infer_instance⟩
theorem RG : zL ["_law_one", "_law_other"] ["_law_one", "_law_other"] (zu (top 36)) := by walk_at "s"
theorem zbR (F : Fun K "_law_same_row" "_law_same_row" (top 36) f fd) (M : yO K mg cls ad) : FnOk P w K mg base yR 1 f fd ["_law_one", "_law_other"] (yK ⟨K, cls⟩ [] false 2 (zy yX)) := by
 have sc := RG
 exact yV F sc rfl fun cdv A outer s H E hr => ⟨_, (zg (zP (ZI (Qw (jp (jo (yH rfl M.Ab (zh 0) (zc (jy (n := "tuple") rfl M.AD (by kernel_rfl)))))) (Zk (zJ (zaA (za2 hr)) VS (zh 0) (zh 1) (zC _)))))
  (zk (zq Zz))
  zB)
 (zk (zq (jn (zj7 (za2 hr)) VS (zc (yg (jC rfl (CompOk.of_b (N' := ["_law_part"]) (js := [none]) rfl (by kernel_rfl)) (by decide) (zbj (zZ 0)) (fun _ _ _ _ _ => (z0 (i := 0) (by decide) (show (["_law_part"] : List Str).Nodup by decide +kernel) rfl (Or.inl rfl) (Or.inr rfl))) (fun _ _ _ _ _ => yL) (fun _ _ _ _ _ => (yH rfl M.Ab (zh 0) (zc (jy (n := "bool") rfl M.AM (by kernel_rfl)))))))) (zc (yg (jC rfl (CompOk.of_b (N' := ["_law_part"]) (js := [none]) rfl (by kernel_rfl)) (by decide) (zbj (zZ 1)) (fun _ _ _ _ _ => (z0 (i := 0) (by decide) (show (["_law_part"] : List Str).Nodup by decide +kernel) rfl (Or.inl rfl) (Or.inr rfl))) (fun _ _ _ _ _ => yL) (fun _ _ _ _ _ => (yH rfl M.Ab (zh 0) (zc (jy (n := "bool") rfl M.AM (by kernel_rfl)))))))) (zC _))))), by unfold Zw Qp; infer_instance⟩
theorem zlp : zL ["_law_script", "_law_k", "_law_well_here", "_law_rows", "_law_longest", "_law_text", "_law_found"] ["_law_script"] (zu (top 37)) := by walk_at "s"
theorem zl1 (F : Fun K "law" "law" (top 37) f fd) (M : yO K mg cls ad) (Ah : HM P w K mg base cls "read_book" 5 ["text"] [] true (zy yQ)) (AK : HM P w K mg base cls "_law_well" 1 ["_law_cell"] [] true (zy Jz)) (AA : HM P w K mg base cls "_law_cell_at" 1 ["_law_script", "_law_k"] [] false (zy jv)) (Aa : HM P w K mg base cls "_law_draw" 1 ["_law_well_here", "_law_base"] [0] false (zy zG)) (Aw : HM P w K mg base cls "_law_book_row" 4 ["_law_well_here"] [0] false (zy yW)) (Aj : HM P w K mg base cls "_law_row_words" 1 ["_law_row"] [] false (zy zX)) (AB : HM P w K mg base cls "show_book" 6 ["book"] [] false (zy jw)) (Ax : HM P w K mg base cls "_law_same_row" 1 ["_law_one", "_law_other"] [] false (zy yX)) : FnOk P w K mg base yR 7 f fd ["_law_script"] (yK ⟨K, cls⟩ [] false 1 (zy Rl)) := by
 have sc := zlp
 exact yV F sc rfl fun cdv A outer s H E hr => ⟨_, (zg (zP (zJ (zaA (za2 hr)) VS (zc (yg (UI Ah (hr.mono (by omega)) rfl (zd zx zl)))) (zc (yg (yU zl))) (zC _))
  (zk (zq Zz))
  zB)
 (zg (VP df rfl (QI rfl M.AJ (zd (ziw rfl rfl M.Bh (zc zf) (zc (zix rfl rfl M.Bi (zc zf) (zc (jU rfl M.Aq (zh 0)))))) zl)) (z0 (i := 1) (by decide) sc.nd rfl (Or.inl rfl))
  (zg (QH (i := 2) (by decide) sc.nd rfl (Or.inr rfl) (UI AK (hr.mono (by omega)) rfl (zd (QG (zc (yh AA (hr.mono (by omega)) rfl (zd (zZ 0) (zd (zZ 1) zl)))) (zc (Y8 (zc zf) (zh 1)))) zl)))
 (zg (UH (i := 3) (by decide) rfl sc.nd rfl rfl (CompOk.of_b (N' := ["_law_j", "_law_well_here"]) (js := [none, some 2]) rfl (by kernel_rfl)) (by decide) (QI rfl M.AJ (zd (QG (zc zf) (zc (zM (j := 2) Aa (hr.mono (by omega)) rfl (zd zf zl)))) zl)) (fun _ _ _ _ _ => (z0 (i := 0) (by decide) (show (["_law_j", "_law_well_here"] : List Str).Nodup by decide +kernel) rfl (Or.inl rfl) (Or.inr rfl))) (fun _ _ _ _ _ => yL) (fun _ _ _ _ _ => (zM (j := 1) Aw (hr.mono (by omega)) rfl zl)))
 (zg (zP (zJ yy yA (zc (zM (j := 2) Aa (hr.mono (by omega)) rfl (zd zf zl))) (zc zf) (zC _))
  (zg (yo (i := 4) (by decide) sc.nd rfl (Or.inl rfl) (ziC rfl rfl M.Bh (zc (yg (jC rfl (CompOk.of_b (N' := ["_law_row"]) (js := [none]) rfl (by kernel_rfl)) (by decide) (Qa (zZ 3)) (fun _ _ _ _ _ => (z0 (i := 0) (by decide) (show (["_law_row"] : List Str).Nodup by decide +kernel) rfl (Or.inl rfl) (Or.inr rfl))) (fun _ _ _ _ _ => yL) (fun _ _ _ _ _ => (jU rfl M.Aq (zc (Z9 zx (zc (yh Aj (hr.mono (by omega)) rfl (zd (zZ 0) zl))))))))))))
 (zk (yo (i := 3) (by decide) sc.nd rfl (Or.inl rfl) (yg (zaU (zc (yg (zkS (zh 3) (zc zf)))) UE (UF (YE (zc zf) (zc (QG (zh 4) (zc zf))))))))))
  zB)
 (zg (yo (i := 5) (by decide) sc.nd rfl (Or.inl rfl) (Z9 zx (zc (yg (jC rfl (CompOk.of_b (N' := ["_law_row"]) (js := [none]) rfl (by kernel_rfl)) (by decide) (Qa (zZ 3)) (fun _ _ _ _ _ => (z0 (i := 0) (by decide) (show (["_law_row"] : List Str).Nodup by decide +kernel) rfl (Or.inl rfl) (Or.inr rfl))) (fun _ _ _ _ _ => yL) (fun _ _ _ _ _ => (Z9 zx (zc (yh Aj (hr.mono (by omega)) rfl (zd (zZ 0) zl))))))))))
 (zg (QH (i := 6) (by decide) sc.nd rfl (Or.inl rfl) (UI Ah (hr.mono (by omega)) rfl (zd (zZ 5) zl)))
 (zg (zP (ZI (Qw (jp (jo (yH rfl M.Ab (zh 6) (zc (jy (n := "list") rfl M.AL (by kernel_rfl)))))) (Qw (zJ Uq UC (zc (jU rfl M.Aq (zh 6))) (zc (jU rfl M.Aq (zh 3))) (zC _)) (Zk (zJ Uq UC (zc (zbg (j := 6) AB (hr.mono (by omega)) rfl)) (zh 5) (zC _))))))
  (zk (zq Zz))
  zB)
 (zg (zP (jp (jo (zk1 (Z7 rfl rfl M.AO (zc (yg (jC rfl (CompOk.of_b (N' := ["_law_one", "_law_other"]) (js := [none, none]) rfl (by kernel_rfl)) (by decide) (ziM rfl M.Bg (zd (dv 6 (by decide)) (zd (zZ 3) zl))) (fun _ _ _ _ _ => (VO (n := 2) rfl (j7 (z0 (i := 0) (by decide) (show (["_law_one", "_law_other"] : List Str).Nodup by decide +kernel) rfl (Or.inl rfl) (Or.inr rfl)) (j7 (z0 (i := 1) (by decide) (show (["_law_one", "_law_other"] : List Str).Nodup by decide +kernel) rfl (Or.inl rfl) (Or.inr rfl)) UG)))) (fun _ _ _ _ _ => yL) (fun _ _ _ _ _ => (yh Ax (hr.mono (by omega)) rfl (zd (zZ 0) (zd (zZ 1) zl)))))))))))
  (zk (zq Zz))
  zB)
 (zg (JK (QJ 6 (zv (zh 3) (zc zf) (fun _ _ => rfl))))
 (zg (Vc 6 yT zf)
 (zk (zP (zJ (zaA (za2 hr)) VS (zc (yg (UI Ah (hr.mono (by omega)) rfl (zd (zZ 5) zl)))) (zh 3) (zC _))
  (zk (zq Zz))
  zB))))))))))))
 (zk (zq Zz)))), by unfold Rk Uj J3 UY UX ZT UW UV UU UT US ZS; infer_instance⟩
end
theorem all_mk {l : PySem.W.OpenLaw} {w : World} {K : ae} {h : Heap} {mg : Str -> Option Value} {fa : Addr} (X : K.In h) (G : h.Ns ba mg) (hfa : mg "law" = some (.ref fa))
 (a1 : NI K "is_name" f1) (l1 : LK K f1 oc1 od1 "is_name" "is_name" (top 7) kV1 dc1 pm1 an1 cd1 ct1 sl1) (c1 : CI K cd1 "is_name") (k1 : KI K f1)
 (a2 : NI K "is_figures" f2) (l2 : LK K f2 oc2 od2 "is_figures" "is_figures" (top 12) kV2 dc2 pm2 an2 cd2 ct2 sl2) (c2 : CI K cd2 "is_figures") (k2 : KI K f2)
 (a3 : NI K "is_word_of" f3) (l3 : LK K f3 oc3 od3 "is_word_of" "is_word_of" (top 13) kV3 dc3 pm3 an3 cd3 ct3 sl3) (c3 : CI K cd3 "is_word_of") (k3 : KI K f3)
 (a4 : NI K "worth" f4) (l4 : LK K f4 oc4 od4 "worth" "worth" (top 14) kV4 dc4 pm4 an4 cd4 ct4 sl4) (c4 : CI K cd4 "worth") (k4 : KI K f4)
 (a5 : NI K "read_parts" f5) (l5 : LK K f5 oc5 od5 "read_parts" "read_parts" (top 17) kV5 dc5 pm5 an5 cd5 ct5 sl5) (c5 : CI K cd5 "read_parts") (k5 : KI K f5)
 (a6 : NI K "read_row" f6) (l6 : LK K f6 oc6 od6 "read_row" "read_row" (top 23) kV6 dc6 pm6 an6 cd6 ct6 sl6) (c6 : CI K cd6 "read_row") (k6 : KI K f6)
 (a7 : NI K "demand_rows" f7) (l7 : LK K f7 oc7 od7 "demand_rows" "demand_rows" (top 24) kV7 dc7 pm7 an7 cd7 ct7 sl7) (c7 : CI K cd7 "demand_rows") (k7 : KI K f7)
 (a8 : NI K "read_book" f8) (l8 : LK K f8 oc8 od8 "read_book" "read_book" (top 26) kV8 dc8 pm8 an8 cd8 ct8 sl8) (c8 : CI K cd8 "read_book") (k8 : KI K f8)
 (a9 : NI K "_law_well" f9) (l9 : LK K f9 oc9 od9 "_law_well" "_law_well" (top 29) kV9 dc9 pm9 an9 cd9 ct9 sl9) (c9 : CI K cd9 "_law_well") (k9 : KI K f9)
 (a10 : NI K "_law_cell_at" f10) (l10 : LK K f10 oc10 od10 "_law_cell_at" "_law_cell_at" (top 28) kV10 dc10 pm10 an10 cd10 ct10 sl10) (c10 : CI K cd10 "_law_cell_at") (k10 : KI K f10)
 (a11 : NI K "_law_draw" f11) (l11 : LK K f11 oc11 od11 "_law_draw" "_law_draw" (top 30) kV11 dc11 pm11 an11 cd11 ct11 sl11) (c11 : CI K cd11 "_law_draw") (k11 : KI K f11)
 (a12 : NI K "_law_number" f12) (l12 : LK K f12 oc12 od12 "_law_number" "_law_number" (top 32) kV12 dc12 pm12 an12 cd12 ct12 sl12) (c12 : CI K cd12 "_law_number") (k12 : KI K f12)
 (a13 : NI K "_law_word" f13) (l13 : LK K f13 oc13 od13 "_law_word" "_law_word" (top 31) kV13 dc13 pm13 an13 cd13 ct13 sl13) (c13 : CI K cd13 "_law_word") (k13 : KI K f13)
 (a14 : NI K "_law_few_names" f14) (l14 : LK K f14 oc14 od14 "_law_few_names" "_law_few_names" (top 33) kV14 dc14 pm14 an14 cd14 ct14 sl14) (c14 : CI K cd14 "_law_few_names") (k14 : KI K f14)
 (a15 : NI K "_law_book_row" f15) (l15 : LK K f15 oc15 od15 "_law_book_row" "_law_book_row" (top 34) kV15 dc15 pm15 an15 cd15 ct15 sl15) (c15 : CI K cd15 "_law_book_row") (k15 : KI K f15)
 (a16 : NI K "_law_row_words" f16) (l16 : LK K f16 oc16 od16 "_law_row_words" "_law_row_words" (top 35) kV16 dc16 pm16 an16 cd16 ct16 sl16) (c16 : CI K cd16 "_law_row_words") (k16 : KI K f16)
 (a17 : NI K "are_names" f17) (l17 : LK K f17 oc17 od17 "are_names" "are_names" (top 18) kV17 dc17 pm17 an17 cd17 ct17 sl17) (c17 : CI K cd17 "are_names") (k17 : KI K f17)
 (a18 : NI K "is_whole" f18) (l18 : LK K f18 oc18 od18 "is_whole" "is_whole" (top 5) kV18 dc18 pm18 an18 cd18 ct18 sl18) (c18 : CI K cd18 "is_whole") (k18 : KI K f18)
 (a19 : NI K "is_from_nought" f19) (l19 : LK K f19 oc19 od19 "is_from_nought" "is_from_nought" (top 6) kV19 dc19 pm19 an19 cd19 ct19 sl19) (c19 : CI K cd19 "is_from_nought") (k19 : KI K f19)
 (a20 : NI K "can_show" f20) (l20 : LK K f20 oc20 od20 "can_show" "can_show" (top 15) kV20 dc20 pm20 an20 cd20 ct20 sl20) (c20 : CI K cd20 "can_show") (k20 : KI K f20)
 (a21 : NI K "shown" f21) (l21 : LK K f21 oc21 od21 "shown" "shown" (top 16) kV21 dc21 pm21 an21 cd21 ct21 sl21) (c21 : CI K cd21 "shown") (k21 : KI K f21)
 (a22 : NI K "show_parts" f22) (l22 : LK K f22 oc22 od22 "show_parts" "show_parts" (top 19) kV22 dc22 pm22 an22 cd22 ct22 sl22) (c22 : CI K cd22 "show_parts") (k22 : KI K f22)
 (a23 : NI K "show_row" f23) (l23 : LK K f23 oc23 od23 "show_row" "show_row" (top 22) kV23 dc23 pm23 an23 cd23 ct23 sl23) (c23 : CI K cd23 "show_row") (k23 : KI K f23)
 (a24 : NI K "show_book" f24) (l24 : LK K f24 oc24 od24 "show_book" "show_book" (top 25) kV24 dc24 pm24 an24 cd24 ct24 sl24) (c24 : CI K cd24 "show_book") (k24 : KI K f24)
 (a25 : NI K "_law_same_row" f25) (l25 : LK K f25 oc25 od25 "_law_same_row" "_law_same_row" (top 36) kV25 dc25 pm25 an25 cd25 ct25 sl25) (c25 : CI K cd25 "_law_same_row") (k25 : KI K f25)
 (a26 : NI K "law" f26) (l26 : LK K f26 oc26 od26 "law" "law" (top 37) kV26 dc26 pm26 an26 cd26 ct26 sl26) (c26 : CI K cd26 "law") (k26 : KI K f26)
 (Ay : NZ K "isinstance")
 (AZ : NZ K "str")
 (Ba : NZ K "len")
 (Bb : NZ K "all")
 (Bc : NZ K "int")
 (AW : NZ K "list")
 (Bd : NZ K "zip")
 (AS : NZ K "tuple")
 (AT : NZ K "range")
 (AX : NZ K "bool")
 (Be : NZ K "max")
 (Bf : NZ K "min")
 {t_LONGEST_NAME t_MOST_FIGURES t_GREATEST_NUMBER : Tok}
 {T_HEARD_WORDS T_BOOK_ROWS : Addr}
 (Ar : cq K ba "HEARD_WORDS" = some (some (.ref T_HEARD_WORDS)))
 (y_HEARD_WORDS : WK K ["idle", "strange", "elder", "false", "over", "twice", "done", "never", "no", "ok"] (.ref T_HEARD_WORDS) = true)
 (AC : cq K ba "BOOK_ROWS" = some (some (.ref T_BOOK_ROWS)))
 (y_BOOK_ROWS : cx (WK K) (fun a => K.lookup a) T_BOOK_ROWS [("begin", ["number", "number", "names"]), ("hear", ["number", "name", "number", "value", "number", "number", "heard"]), ("wake", ["number", "names"]), ("off", ["number", "truth"])] = true)
 (An : cq K ba "LONGEST_NAME" = some (some (.int 8 t_LONGEST_NAME)))
 (Ao : cq K ba "MOST_FIGURES" = some (some (.int 10 t_MOST_FIGURES)))
 (Af : cq K ba "GREATEST_NUMBER" = some (some (.int 9999999999 t_GREATEST_NUMBER)))
 : ∃ fd : FuncData, (∀ (s : Shared) (v : Value), BindsTo s fd ⟨[v], []⟩ [("_law_script", v)]) /\ ∀ base : Heap, K.In base -> base.Ns ba mg -> FnOk l.prog w K mg base yR 7 fa fd ["_law_script"] (VT K) := by
 have e := hfa.symm.trans (aF X G a26)
 cases e
 obtain ⟨cls, hcls⟩ : ∃ c : Nat -> Option Addr, c = (fun n : Nat => gZ n []) := ⟨_, rfl⟩
 have sp : ∀ c C, cls c = some C -> False := fun c C h => by rw [hcls] at h; cases h
 have F1 := ya (st := (top 7)) l1 c1 k1
 have b1 := F1.binds (ps := ["thing"]) fun _ _ _ _ _ _ us hl => match us, hl with | [_], _ => rfl
 have F2 := ya (st := (top 12)) l2 c2 k2
 have b2 := F2.binds (ps := ["thing"]) fun _ _ _ _ _ _ us hl => match us, hl with | [_], _ => rfl
 have F3 := ya (st := (top 13)) l3 c3 k3
 have b3 := F3.binds (ps := ["form", "word"]) fun _ _ _ _ _ _ us hl => match us, hl with | [_, _], _ => rfl
 have F4 := ya (st := (top 14)) l4 c4 k4
 have b4 := F4.binds (ps := ["form", "word"]) fun _ _ _ _ _ _ us hl => match us, hl with | [_, _], _ => rfl
 have F5 := ya (st := (top 17)) l5 c5 k5
 have b5 := F5.binds (ps := ["forms", "words"]) fun _ _ _ _ _ _ us hl => match us, hl with | [_, _], _ => rfl
 have F6 := ya (st := (top 23)) l6 c6 k6
 have b6 := F6.binds (ps := ["text"]) fun _ _ _ _ _ _ us hl => match us, hl with | [_], _ => rfl
 have F7 := ya (st := (top 24)) l7 c7 k7
 have b7 := F7.binds (ps := ["rows"]) fun _ _ _ _ _ _ us hl => match us, hl with | [_], _ => rfl
 have F8 := ya (st := (top 26)) l8 c8 k8
 have b8 := F8.binds (ps := ["text"]) fun _ _ _ _ _ _ us hl => match us, hl with | [_], _ => rfl
 have F9 := ya (st := (top 29)) l9 c9 k9
 have b9 := F9.binds (ps := ["_law_cell"]) fun _ _ _ _ _ _ us hl => match us, hl with | [_], _ => rfl
 have F10 := ya (st := (top 28)) l10 c10 k10
 have b10 := F10.binds (ps := ["_law_script", "_law_k"]) fun _ _ _ _ _ _ us hl => match us, hl with | [_, _], _ => rfl
 have F11 := ya (st := (top 30)) l11 c11 k11
 have b11 := F11.binds (ps := ["_law_well_here", "_law_base"]) fun _ _ _ _ _ _ us hl => match us, hl with | [_, _], _ => rfl
 have F12 := ya (st := (top 32)) l12 c12 k12
 have b12 := F12.binds (ps := ["_law_well_here"]) fun _ _ _ _ _ _ us hl => match us, hl with | [_], _ => rfl
 have F13 := ya (st := (top 31)) l13 c13 k13
 have b13 := F13.binds (ps := ["_law_well_here", "_law_last"]) fun _ _ _ _ _ _ us hl => match us, hl with | [_, _], _ => rfl
 have F14 := ya (st := (top 33)) l14 c14 k14
 have b14 := F14.binds (ps := ["_law_well_here"]) fun _ _ _ _ _ _ us hl => match us, hl with | [_], _ => rfl
 have F15 := ya (st := (top 34)) l15 c15 k15
 have b15 := F15.binds (ps := ["_law_well_here"]) fun _ _ _ _ _ _ us hl => match us, hl with | [_], _ => rfl
 have F16 := ya (st := (top 35)) l16 c16 k16
 have b16 := F16.binds (ps := ["_law_row"]) fun _ _ _ _ _ _ us hl => match us, hl with | [_], _ => rfl
 have F17 := ya (st := (top 18)) l17 c17 k17
 have b17 := F17.binds (ps := ["thing"]) fun _ _ _ _ _ _ us hl => match us, hl with | [_], _ => rfl
 have F18 := ya (st := (top 5)) l18 c18 k18
 have b18 := F18.binds (ps := ["thing"]) fun _ _ _ _ _ _ us hl => match us, hl with | [_], _ => rfl
 have F19 := ya (st := (top 6)) l19 c19 k19
 have b19 := F19.binds (ps := ["thing"]) fun _ _ _ _ _ _ us hl => match us, hl with | [_], _ => rfl
 have F20 := ya (st := (top 15)) l20 c20 k20
 have b20 := F20.binds (ps := ["form", "thing"]) fun _ _ _ _ _ _ us hl => match us, hl with | [_, _], _ => rfl
 have F21 := ya (st := (top 16)) l21 c21 k21
 have b21 := F21.binds (ps := ["thing"]) fun _ _ _ _ _ _ us hl => match us, hl with | [_], _ => rfl
 have F22 := ya (st := (top 19)) l22 c22 k22
 have b22 := F22.binds (ps := ["forms", "parts"]) fun _ _ _ _ _ _ us hl => match us, hl with | [_, _], _ => rfl
 have F23 := ya (st := (top 22)) l23 c23 k23
 have b23 := F23.binds (ps := ["row"]) fun _ _ _ _ _ _ us hl => match us, hl with | [_], _ => rfl
 have F24 := ya (st := (top 25)) l24 c24 k24
 have b24 := F24.binds (ps := ["book"]) fun _ _ _ _ _ _ us hl => match us, hl with | [_], _ => rfl
 have F25 := ya (st := (top 36)) l25 c25 k25
 have b25 := F25.binds (ps := ["_law_one", "_law_other"]) fun _ _ _ _ _ _ us hl => match us, hl with | [_, _], _ => rfl
 have F26 := ya (st := (top 37)) l26 c26 k26
 have b26 := F26.binds (ps := ["_law_script"]) fun _ _ _ _ _ _ us hl => match us, hl with | [_], _ => rfl
 have M : yO K mg cls (fun _ => 0) := by
  refine ⟨aR X G Ay, aR X G AZ, aR X G Ba, aR X G Bb, aR X G Bc, aR X G AW, aR X G Bd, aR X G AS, aR X G AT, aR X G AX, aR X G Be, aR X G Bf, ⟨t_LONGEST_NAME, aF X G An⟩, ⟨t_MOST_FIGURES, aF X G Ao⟩, ⟨t_GREATEST_NUMBER, aF X G Af⟩, ⟨T_HEARD_WORDS, aF X G Ar, zlR y_HEARD_WORDS⟩, ⟨T_BOOK_ROWS, aF X G AC, zlS y_BOOK_ROWS⟩⟩
 refine ⟨cb "law" "law" (Q7 (top 37)) (JJ (top 37)) (zu (top 37)) .none kV26 dc26 pm26 an26 cd26 ct26, fun s v => .of_eq rfl, fun base _ _ => ?_⟩
 have Ac : HM l.prog w K mg base cls "is_name" 1 ["thing"] [] false (zy zT) := ⟨⟨_, _, (zfC F1 M).mono (by omega), b1, k1, aF X G a1⟩, fun _ _ h => zN h⟩
 have As : HM l.prog w K mg base cls "is_figures" 1 ["thing"] [] false (zy jF) := ⟨⟨_, _, (zbI F2 M).mono (by omega), b2, k2, aF X G a2⟩, fun _ _ h => zN h⟩
 have At : HM l.prog w K mg base cls "is_word_of" 2 ["form", "word"] [] false (zy yE) := ⟨⟨_, _, (zbJ F3 M Ac As).mono (by omega), b3, k3, aF X G a3⟩, fun _ _ h => zN h⟩
 have AQ : HM l.prog w K mg base cls "worth" 1 ["form", "word"] [] false (zy Qg) := ⟨⟨_, _, (zi_ F4 M).mono (by omega), b4, k4, aF X G a4⟩, fun _ _ h => zN h⟩
 have Au : HM l.prog w K mg base cls "read_parts" 3 ["forms", "words"] [] false (zy Ja) := ⟨⟨_, _, (zbK F5 M Ac At AQ).mono (by omega), b5, k5, aF X G a5⟩, fun _ _ h => zN h⟩
 have AE : HM l.prog w K mg base cls "read_row" 4 ["text"] [] false (zy jQ) := ⟨⟨_, _, (zen F6 M Au).mono (by omega), b6, k6, aF X G a6⟩, fun _ _ h => zN h⟩
 have Ad : HM l.prog w K mg base cls "demand_rows" 1 ["rows"] [] false (zy yq) := ⟨⟨_, _, (RA F7 M).mono (by omega), b7, k7, aF X G a7⟩, fun _ _ h => zN h⟩
 have Ah : HM l.prog w K mg base cls "read_book" 5 ["text"] [] true (zy yQ) := ⟨⟨_, _, (zb0 F8 M AE Ad).mono (by omega), b8, k8, aF X G a8⟩, fun _ _ h => zN h⟩
 have AK : HM l.prog w K mg base cls "_law_well" 1 ["_law_cell"] [] true (zy Jz) := ⟨⟨_, _, (zgQ F9 M).mono (by omega), b9, k9, aF X G a9⟩, fun _ _ h => zN h⟩
 have AA : HM l.prog w K mg base cls "_law_cell_at" 1 ["_law_script", "_law_k"] [] false (zy jv) := ⟨⟨_, _, (zb1 F10 M).mono (by omega), b10, k10, aF X G a10⟩, fun _ _ h => zN h⟩
 have Aa : HM l.prog w K mg base cls "_law_draw" 1 ["_law_well_here", "_law_base"] [0] false (zy zG) := ⟨⟨_, _, (zgR F11 M).mono (by omega), b11, k11, aF X G a11⟩, fun _ _ h => zN h⟩
 have Ae : HM l.prog w K mg base cls "_law_number" 2 ["_law_well_here"] [0] false (zy yn) := ⟨⟨_, _, (zeo F12 M Aa).mono (by omega), b12, k12, aF X G a12⟩, fun _ _ h => zN h⟩
 have Am : HM l.prog w K mg base cls "_law_word" 2 ["_law_well_here", "_law_last"] [0] false (zy jR) := ⟨⟨_, _, (zgS F13 M Aa).mono (by omega), b13, k13, aF X G a13⟩, fun _ _ h => zN h⟩
 have Ai : HM l.prog w K mg base cls "_law_few_names" 3 ["_law_well_here"] [0] false (zy y0) := ⟨⟨_, _, (RB F14 M Aa Am).mono (by omega), b14, k14, aF X G a14⟩, fun _ _ h => zN h⟩
 have Aw : HM l.prog w K mg base cls "_law_book_row" 4 ["_law_well_here"] [0] false (zy yW) := ⟨⟨_, _, (zbN F15 M Aa Ae Ai Am).mono (by omega), b15, k15, aF X G a15⟩, fun _ _ h => zN h⟩
 have Aj : HM l.prog w K mg base cls "_law_row_words" 1 ["_law_row"] [] false (zy zX) := ⟨⟨_, _, (RD F16 M).mono (by omega), b16, k16, aF X G a16⟩, fun _ _ h => zN h⟩
 have Az : HM l.prog w K mg base cls "are_names" 2 ["thing"] [] false (zy Ju) := ⟨⟨_, _, (zb3 F17 M Ac).mono (by omega), b17, k17, aF X G a17⟩, fun _ _ h => zN h⟩
 have AF : HM l.prog w K mg base cls "is_whole" 1 ["thing"] [] false (zy Ji) := ⟨⟨_, _, (zep F18 M).mono (by omega), b18, k18, aF X G a18⟩, fun _ _ h => zN h⟩
 have Al : HM l.prog w K mg base cls "is_from_nought" 2 ["thing"] [] false (zy yu) := ⟨⟨_, _, (Vq F19 M AF).mono (by omega), b19, k19, aF X G a19⟩, fun _ _ h => zN h⟩
 have AG : HM l.prog w K mg base cls "can_show" 3 ["form", "thing"] [] false (zy yF) := ⟨⟨_, _, (zeq F20 M Ac Al).mono (by omega), b20, k20, aF X G a20⟩, fun _ _ h => zN h⟩
 have AR : HM l.prog w K mg base cls "shown" 1 ["thing"] [] false (zy jI) := ⟨⟨_, _, (zja F21 M).mono (by omega), b21, k21, aF X G a21⟩, fun _ _ h => zN h⟩
 have Av : HM l.prog w K mg base cls "show_parts" 4 ["forms", "parts"] [] false (zy Jc) := ⟨⟨_, _, (zbP F22 M Az AG AR).mono (by omega), b22, k22, aF X G a22⟩, fun _ _ h => zN h⟩
 have AH : HM l.prog w K mg base cls "show_row" 5 ["row"] [] false (zy jT) := ⟨⟨_, _, (zer F23 M Av).mono (by omega), b23, k23, aF X G a23⟩, fun _ _ h => zN h⟩
 have AB : HM l.prog w K mg base cls "show_book" 6 ["book"] [] false (zy jw) := ⟨⟨_, _, (zb7 F24 M AH Ad).mono (by omega), b24, k24, aF X G a24⟩, fun _ _ h => zN h⟩
 have Ax : HM l.prog w K mg base cls "_law_same_row" 1 ["_law_one", "_law_other"] [] false (zy yX) := ⟨⟨_, _, (zbR F25 M).mono (by omega), b25, k25, aF X G a25⟩, fun _ _ h => zN h⟩
 exact (zl1 (cls := cls) F26 M Ah AK AA Aa Aw Aj AB Ax).imp fun vs H Q E h => zd0 _root_.M.K67.lawF h
theorem walk {l : PySem.W.OpenLaw} {q : Program} {loose : List Str} {XP : (Str -> Option Value) -> Heap -> Prop} {YP : World -> Heap -> Prop} {d : DefRec} {K : Params -> ae} (hn : l.most = some 63) (hdf : d.params.defaults = [])
 (hY : ∀ (w : World) (h : Heap), YP w h -> (K w.params).In h)
 (F : ∀ (w : World) (mg : Str -> Option Value) (fa : Addr) (h : Heap), (K w.params).In h -> h.Ns ba mg -> mg d.name = some (.ref fa) ->
  ∃ fd : FuncData, (∀ (s : Shared) (u : Value), BindsTo s fd ⟨[u], []⟩ [("_law_script", u)]) /\ ∀ base : Heap, (K w.params).In base -> base.Ns ba mg -> FnOk l.prog w (K w.params) mg base yR 7 fa fd ["_law_script"] (VT (K w.params))) :
 gH q loose XP YP l.row.toRowW d [] (fun f vs => gw f vs) :=
 L2.walk_of (n := 63) (k := 7) (x := "_law_script") (CX := fun _ => yR) (sp := fun w => VT (K w.params)) hn (by decide) hdf ⟨rfl, by decide, by decide⟩ hY F (fun _ _ a ns hl _ hS => ⟨a, ns, rfl, hS, hl, fun _ => rfl⟩) fun _ _ _ _ _ z => z
end W_k67
open PySem PySem.W PyProof.Rows
def PySem.W.Fast.tw5423212240528426306 : Unit := ()
def PySem.W.Fast.tw4283424718400327766 : Unit := ()
def PySem.W.Fast.tw10183144933631354985 : Unit := ()
def PySem.W.Fast.tw4538494427503588814 : Unit := ()
def PySem.W.Fast.tw1347391942170739140 : Unit := ()
def PySem.W.Fast.tw18415467122744314701 : Unit := ()
def PySem.W.Fast.tw7834381122780213712 : Unit := ()
def PySem.W.Fast.tw2302301119955709236 : Unit := ()
def PySem.W.Fast.tw4910977434492608171 : Unit := ()
def PySem.W.Fast.tw2800849594385991915 : Unit := ()
def PySem.W.Fast.tw5996343502735759385 : Unit := ()
def PySem.W.Fast.tw16898602994203312663 : Unit := ()
def PySem.W.Fast.tw628296701017563263 : Unit := ()
def PySem.W.Fast.tw6143984447638787629 : Unit := ()
def PySem.W.Fast.tw5140804319101358157 : Unit := ()
def PySem.W.Fast.tw4578478792254687526 : Unit := ()
def PySem.W.Fast.tw5493591741017611185 : Unit := ()
def PySem.W.Fast.tw5612116773920214202 : Unit := ()
set_option maxRecDepth 100000 in
set_option maxHeartbeats 0 in
theorem PySem.Challenge.cw_enoughsaid_k67_books_read_holds : PySem.Challenge.rw_enoughsaid_k67_books_read.Holds := by
 w_on; o_law; k_head; (case hw => w_witness2)
 k_fill
 refine W_k67.walk (l := PySem.Challenge.rw_enoughsaid_k67_books_read) rfl rfl (fun w h Y => PySem.W.kIn_of Y) ?F
 case F =>
  intro w mg fa h KX G hmg
  refine' W_k67.all_mk KX G hmg ?a1 ?l1 ?c1 ?k1 ?a2 ?l2 ?c2 ?k2 ?a3 ?l3 ?c3 ?k3 ?a4 ?l4 ?c4 ?k4 ?a5 ?l5 ?c5 ?k5 ?a6 ?l6 ?c6 ?k6 ?a7 ?l7 ?c7 ?k7 ?a8 ?l8 ?c8 ?k8 ?a9 ?l9 ?c9 ?k9 ?a10 ?l10 ?c10 ?k10 ?a11 ?l11 ?c11 ?k11 ?a12 ?l12 ?c12 ?k12 ?a13 ?l13 ?c13 ?k13 ?a14 ?l14 ?c14 ?k14 ?a15 ?l15 ?c15 ?k15 ?a16 ?l16 ?c16 ?k16 ?a17 ?l17 ?c17 ?k17 ?a18 ?l18 ?c18 ?k18 ?a19 ?l19 ?c19 ?k19 ?a20 ?l20 ?c20 ?k20 ?a21 ?l21 ?c21 ?k21 ?a22 ?l22 ?c22 ?k22 ?a23 ?l23 ?c23 ?k23 ?a24 ?l24 ?c24 ?k24 ?a25 ?l25 ?c25 ?k25 ?a26 ?l26 ?c26 ?k26 ?Ay ?AZ ?Ba ?Bb ?Bc ?AW ?Bd ?AS ?AT ?AX ?Be ?Bf ?Ar ?y_HEARD_WORDS ?AC ?y_BOOK_ROWS ?An ?Ao ?Af
  all_goals first | delta M.FN0 | delta M.FI | delta M.NI | delta M.NZ | delta M.LK | delta M.CI | delta M.KI | skip
  case a1|l1|c1|k1|a2|l2|c2|k2|a3|l3|c3|k3|a4|l4|c4|k4|a5|l5|c5|k5|a6|l6|c6|k6|a7|l7|c7|k7|a8|l8|c8|k8|a9|l9|c9|k9|a10|l10|c10|k10|a11|l11|c11|k11|a12|l12|c12|k12|a13|l13|c13|k13|a14|l14|c14|k14|a15|l15|c15|k15|a16|l16|c16|k16|a17|l17|c17|k17|a18|l18|c18|k18|a19|l19|c19|k19|a20|l20|c20|k20|a21|l21|c21|k21|a22|l22|c22|k22|a23|l23|c23|k23|a24|l24|c24|k24|a25|l25|c25|k25|a26|l26|c26|k26|Ay|AZ|Ba|Bb|Bc|AW|Bd|AS|AT|AX|Be|Bf|Ar => k_is
  (case y_HEARD_WORDS => kernel_rfl)
  case AC => k_is
  (case y_BOOK_ROWS => kernel_rfl)
  case An|Ao|Af => k_is
