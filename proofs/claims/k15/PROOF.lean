import PyProof.Rows.All
import Wide.All
import OpenK.AllK
import Wide.FinOn
import HandS.ForMost
import HandS.Rev
import HandS.RevTup
import HandS.IsInst
import HandS.Style
import HandS.Conv
import HandS.Wide
import HandS.Flow
import HandS.ListEq
import HandS.More
import HandS.Codes
import HandS.FStr
import HandS.Zip
import HandS.Defaults
import HandS.DeepEq
import KE.SortData
import KE.DataCmp
import KE.KDictSum
import HandS.Deep
import KE.DatumOrd
import KE.KSortTupAny
import HandS.ExcInit
import HandS.ExcIs
import HandS.ExcField
import HandS.ForSpec
import HandS.Nested
import HandS.Struct
import KE.KExcSuper
import HandS.ExcInitHot
import HandS.FStrTup
import HandS.HotCalls
import KE.KExcIs
import HandS.TupAny
import HandS.Iter
import HandS.DictComp
import HandS.Walk
import HandS.ExcCtx
import PyProof.Rows.TupDisplay
import KE.GoesEnum
import HandS.SortKw
import HandS.Property
import HandS.SetFor
import KE.DataFind
import PyProof.FString2
import PySem.Challenge.RW_elenchus_k15_symbols_and_variables_of_fo
set_option Elab.async false
set_option linter.all false
set_option maxRecDepth 100000
namespace Own
open PySem PySem.Spec PyProof.Rows L2 RT

/-! ### xs.extend(t), t a tuple -/
theorem ext_meets (l b : Addr) (xs ys : Array Value) (n m : Nat) (dd : Option Addr) (sl : Array (Option Value)) (long : ¬(!xs.isEmpty && Builtin.List.listTooLong (xs.size + ys.size)) = true) (hx : xs.size ≤ sizeLine) (hxy : xs.size + ys.size ≤ sizeLine + 1) :
    Meets (Builtin.«list.extend» ⟨[.ref l, .ref b], []⟩) (fun _ R s => s.heap.get? l = some { cls := .type "list", dict := none, data := .seq xs n, slots := #[] } ∧
      s.heap.get? b = some { cls := .type "tuple", dict := dd, data := .seq ys m, slots := sl } ∧ R (.ok (.ret Value.none)) { s with heap := s.heap.update l (Obj.mapSeq fun x => x ++ ys), toks := s.toks }) :=
  .of_wp fun prog w A R s h => by
    obtain ⟨hp, g, d, tk, os⟩ := s
    obtain ⟨h1, h2, h3⟩ := h
    have g1 := AutoSeq1.idx_int; have g2 := AutoSeq1.sub_tuple_tuple; have g3 := AutoSeq1.sub_list_list; have g4 := AutoSeq1.sub_tuple_list; have g5 := AutoSeq1.sub_list_tuple
    have fit : (xs ++ ys).size ≤ sizeLine + 1 := Array.size_append ▸ hxy
    wp_walk using (wpAny_updateSeq h1 rfl (hz := hx) (_hz' := fit)), AutoSeq1.wpAny_loadPart' h1, AutoSeq1.wpAny_loadPart' h2
    exact ⟨_, rfl, h3⟩
def rExtendT (K : PySem.W.Frag) : V → List V → Hp → VK → Prop := fun x vs H Q => ∃ l b xs zs, x = .ref l ∧ vs = [.ref b] ∧ H l = some (.lst xs) ∧ SqT K H b zs ∧ xs.length + zs.length ≤ sizeLine ∧ Q .non (upd H l (.lst (xs ++ zs)))
theorem mt_extendT {X : Cx} : MtR X "list.extend" (rExtendT X.K) := by
  intro pins s σ H x vs v us Q I rx rv h
  obtain ⟨l, b, xs, zs, rfl, rfl, hl, hb, fit, q⟩ := h
  cases rx
  obtain ⟨u, rfl, ru⟩ := rv.one
  cases ru
  obtain ⟨z, its, n, r, hlen, e⟩ := I.lstM hl
  obtain ⟨its2, r2, p2, z2⟩ := I.tuple hb
  obtain ⟨⟨c2, d2, dt2, sl2⟩, ho2, hc2, m2, hd2⟩ := id p2
  simp only at hc2 hd2
  subst hc2 hd2
  have e2 := r2.length
  have tot : its.toArray.size + its2.toArray.size ≤ sizeLine := by rw [List.size_toArray, List.size_toArray]; omega
  have notlong : ¬ (!its.toArray.isEmpty && Builtin.List.listTooLong (its.toArray.size + its2.toArray.size)) = true := by rw [notLongL tot, Bool.and_false]; exact Bool.false_ne_true
  refine call_meets PySem.F.slot_list_extend ⟨_, e, rfl⟩ PySem.F.entry_list_extend (PySem.F.args_list_extend_2 _ _) (ext_meets l b its.toArray its2.toArray n m2 d2 sl2 notlong (by rw [List.size_toArray]; omega) (by omega)) ⟨e, ho2, ?_⟩
  exact ⟨.non, _, I.lset (its' := its ++ its2) hl e (by simp) (r.append r2) (by rw [List.length_append]; omega), rfl, q⟩

/-! ### list(reversed(xs)) -/
section
variable {prog : Program} {w : World} {A : Around} {E : Value → Shared → Prop} {s : Shared}
theorem extend_rev {R : Result → Shared → Prop} {it l S : Addr} {items : Array Value} {res : Value} {c0 : Nat} (hh : A.handled = none) (hit : s.heap.IsRevIter it l ((items.size : Int) - 1)) (hl : s.heap.IsList l items) (hne : l ≠ it) (hn : items.size ≤ sizeLine)
    (hS : s.heap.get? S = some { cls := .type "list", data := .seq #[] c0 }) (hSi : S ≠ it) (hSl : S ≠ l)
    (hR : ∀ h' tk acc c', (∀ b o, b ≠ S → b ≠ it → s.heap.get? b = some o → h'.get? b = some o) → h'.get? S = some { cls := .type "list", dict := none, data := .seq acc c', slots := #[] } →
      ItemsOf (fun i v => items[items.size - 1 - i]? = some v) acc items.size → R (.ok (.ret res)) { s with heap := h', toks := tk }) :
    wpAny (model prog w) A.in1 (Builtin.List.listExtendWith (.ref S) (.ref it) res)
      (fun fin s' => match fin with | .done f => R (.ok f) s' | .again c' => c'.quiet = true ∧ codeAny (model prog w) A c' R s') (fun e s' => R (.error e) s') s := by
  have W := (Walks.listRev (prog := prog) (w := w) (A := A.in1) hh it l hne items).toS
  have hSf : S ∉ [it, l] := by simp only [List.mem_cons, List.not_mem_nil, or_false, not_or]; exact ⟨hSi, hSl⟩
  have hT : s.TypeIs (.ref it) "list_reverseiterator" := Heap.IsRevIter.typeIs hit
  have h1 : Builtin.List.listSameRef (.ref S) (.ref it) = false := by simp [Builtin.List.listSameRef, hSi]
  unfold Builtin.List.listExtendWith
  refine wpAny_bind (wpAny_typeOf hT ?_); rw [if_neg (by rw [h1]; decide)]
  refine wpAny_bind (wpAny_pyIter_revIter hit ?_); refine wpAny_bind (wpAny_holding ?_)
  unfold Builtin.List.listLengthHint
  refine wpAny_bind (wpAny_specialOf hT nolen_lri ?_); show wpAny _ A.in1 (specialOf (Value.ref it) (Str.ofString "__length_hint__") >>= _) _ _ s
  refine wpAny_bind (wpAny_specialOf hT hint_lri ?_); generalize hid : ("list_reverseiterator.__length_hint__" : String) = id0
  wp_delta
  rw [show splitId id0 = some ("list_reverseiterator", "__length_hint__") from by subst hid; decide +kernel]; subst hid
  refine wpAny_bind (wpAny_isInstance (b := true) hT (by rw [isSubtype_type]; kernel_rfl) ?_); refine wpAny_pure ?_; rw [if_neg (by decide)]
  have e0 : ((items.size : Nat) : Int) - 1 - ((0 : Nat) : Int) = (items.size : Int) - 1 := by omega
  refine wpAny_pure ⟨plainId_quiet F.plain_extend_loop _, codeAny_extend_loopS W hn S hSf res items.size 0 _ _ _ rfl (Nat.zero_le _) ⟨Nat.zero_le _, by rw [e0]; exact hit, hl⟩ hS (ItemsOf.nil _) fun s' acc' c' hm hS' hacc => ?_⟩
  rw [Moved.eq_with hm]
  refine hR s'.heap s'.toks acc' c' (fun b o hbS hbi e => hm.heap b o (fun hmem => ?_) e) hS' hacc
  rcases List.mem_cons.mp hmem with e' | hmem
  · exact hbS e'
  · exact hbi (List.mem_singleton.mp hmem)
theorem call_list_rev {it l : Addr} {items : Array Value} {Q : Value → Shared → Prop} (hh : A.handled = none) (hit : s.heap.IsRevIter it l ((items.size : Int) - 1)) (hl : s.heap.IsList l items) (hne : l ≠ it) (hn : items.size ≤ sizeLine)
    (hQ : ∀ h' tk acc c', (∀ b o, b ≠ it → s.heap.get? b = some o → h'.get? b = some o) → h'.get? s.heap.objs.size = some { cls := .type "list", dict := none, data := .seq acc c', slots := #[] } →
      ItemsOf (fun i v => items[items.size - 1 - i]? = some v) acc items.size → Q (.ref s.heap.objs.size) { s with heap := h', toks := tk }) :
    wpAny (model prog w) A (call (.type "list") [.ref it]) Q E s := by
  refine callType_codes (Q₁ := fun obj s₁ => obj = .ref s.heap.objs.size ∧ s₁ = { s with heap := s.heap.push { cls := .type "list", data := .seq #[] } }) PySem.F.called_list (PySem.F.typeCall_list_1 _) PySem.F.entry_list_init (code_list_new _ ⟨rfl, rfl⟩) fun obj s₁ h₁ => ?_
  obtain ⟨rfl, rfl⟩ := h₁
  have hS : (s.heap.push { cls := .type "list", data := .seq #[] }).get? s.heap.objs.size = some { cls := .type "list", data := .seq #[] } := Heap.get?_push_size _ rfl
  refine ⟨⟨_, hS, rfl⟩, PySem.F.args_list_init_2 _ _, ?_⟩
  obtain ⟨oi, hoi, _⟩ := id hit
  obtain ⟨ol, hol, _⟩ := id hl
  have nSi : s.heap.objs.size ≠ it := Nat.ne_of_gt (Heap.lt_size hoi)
  have nSl : s.heap.objs.size ≠ l := Nat.ne_of_gt (Heap.lt_size hol)
  have k0 : ∀ b o, s.heap.get? b = some o → ((s.heap.push { cls := .type "list", data := .seq #[] }).update s.heap.objs.size (Obj.mapSeq (fun _ => (#[] : Array Value)))).get? b = some o :=
    fun b o e => (Heap.get?_update_other _ _ (Nat.ne_of_gt (Heap.lt_size e))).trans (Heap.get?_push_of_some _ e)
  show wpAny _ _ (do let old ← Builtin.List.listItems (.ref s.heap.objs.size); Builtin.List.listUpdate (.ref s.heap.objs.size) (fun _ => #[]); letGo old.toList.reverse; Builtin.List.listExtendWith (.ref s.heap.objs.size) (.ref it) .none) _ _ _
  refine wpAny_bind ?_; unfold Builtin.List.listItems
  refine wpAny_bind (wpAny_seqItems hS rfl (wpAny_pure ?_))
  show wpAny _ _ (updateSeq s.heap.objs.size (fun _ => #[]) >>= fun _ => letGo (#[] : Array Value).toList.reverse >>= fun _ => Builtin.List.listExtendWith (.ref s.heap.objs.size) (.ref it) .none) _ _ _
  refine wpAny_bind (wpAny_updateSeq hS rfl ?_)
  refine wpAny_bind (wpAny_letGo ?_)
  refine extend_rev (A := A.in1) (l := l) (items := items) hh (hit.at fun o e => k0 _ _ e) ?_ hne hn (Heap.get?_update_self (Obj.mapSeq (fun _ => (#[] : Array Value))) hS rfl) nSi nSl fun h' tk acc c' hk hS' hacc => ?_
  · obtain ⟨o, ho, hc⟩ := id hl
    exact ⟨o, k0 _ _ ho, hc⟩
  · exact ⟨rfl, hQ h' tk acc c' (fun b o hb e => hk b o (Nat.ne_of_lt (Heap.lt_size e)) hb (k0 _ _ e)) hS' hacc⟩
end
def tListRev (K : PySem.W.Frag) (te : TE) : TE := fun σ H Q => te σ H fun v H1 => ∃ (a : Addr) (xs : List V), v = .ref a ∧ SqL K H1 a xs ∧ ∀ q, H1 q = none → Q (.ref q) (upd H1 q (.lst xs.reverse))
theorem pe_listRev {X : Cx} {e : Expr} {te : TE} {p p2 pos pos2 : Pos} (hc : X.calm = true) (hg : Gl X "list") (hm : X.mg "list" = none) (hg2 : Gl X "reversed") (hm2 : X.mg "reversed" = none) (he : PE X e te)
    (hs : starEach [e] X.env = (false, eval e X.env) :: starEach [] X.env := by rfl)
    (hs2 : starEach [.Call (.Name "reversed" p2) [e] [] pos2] X.env = (false, eval (.Call (.Name "reversed" p2) [e] [] pos2) X.env) :: starEach [] X.env := by rfl) :
    PE X (.Call (.Name "list" p) [.Call (.Name "reversed" p2) [e] [] pos2] [] pos) (tListRev X.K te) := by
  refine ⟨fun pins s σ H Q I h => ?_⟩
  refine Call_ (ld_blt I hg hm boot_list (callWith_type1 (args_cons (Call_ (ld_blt I hg2 hm2 boot_reversed (callWith_type1 (args_cons (thn (he.run pins s σ H _ I h) fun u s1 ⟨v, H1, I1, r1, q1⟩ => args_nil ?_) hs) hs rfl))) hs2) hs2 rfl))
  obtain ⟨a, xs, ev, hq, q⟩ := q1
  subst ev
  obtain rfl : u = Value.ref a := r1
  obtain ⟨its, rv, p', hz⟩ := I1.list hq
  refine call_reversed_list p'.isList (args_nil ?_)
  have k0 : ∀ b o, s1.heap.get? b = some o → (s1.heap.push (revObj a ((its.toArray.size : Int) - 1))).get? b = some o := fun b o e => Heap.get?_push_of_some _ e
  have I2 : Inv X pins σ H1 { s1 with heap := s1.heap.push (revObj a ((its.toArray.size : Int) - 1)) } := I1.kept (t' := s1.toks) k0
  obtain ⟨f0, f1, f2, f3, f4, f5⟩ := I1.fpOk (H' := H1) (b := s1.heap.objs.size) (Nat.le_refl _) (I1.hok.fresh (Nat.le_refl _))
  obtain ⟨ol, hol, _⟩ := id p'.isList
  have hne : a ≠ s1.heap.objs.size := Nat.ne_of_lt (Heap.lt_size hol)
  have hn : its.toArray.size ≤ sizeLine := by rw [List.size_toArray, ← rv.length]; exact hz
  refine call_list_rev (s := { s1 with heap := s1.heap.push (revObj a ((its.toArray.size : Int) - 1)) }) (I1.ok.hd hc) ⟨_, Heap.get?_push_size _ rfl, rfl, rfl⟩ (p'.isList.push _) hne hn fun h' tk acc c' hk hS' hi => ?_
  have kk : ∀ b o, s1.heap.get? b = some o → h'.get? b = some o := fun b o e => hk b o (Nat.ne_of_lt (Heap.lt_size e)) (k0 b o e)
  have hsz : (s1.heap.push (revObj a ((its.toArray.size : Int) - 1))).objs.size = s1.heap.objs.size + 1 := Heap.size_push ..
  have fresh : s1.heap.objs.size ≤ (s1.heap.push (revObj a ((its.toArray.size : Int) - 1))).objs.size := by rw [hsz]; exact Nat.le_succ _
  refine ⟨.ref _, upd H1 _ (.lst xs.reverse), I1.laid (t' := tk) kk fresh (show ObjOk X.prog X.w _ _ _ (.lst xs.reverse) from ⟨by rw [List.length_reverse]; exact hz, acc.toList, c', vals_rev rv hi, ?_⟩), rfl, q _ (I1.hok.fresh fresh)⟩
  rw [Array.toArray_toList]
  exact hS'
end Own
namespace Own
open PySem PySem.Spec PyProof.Rows L2 RT HT

/-! ### t[:0:-1], t a tuple: all but the first item, backwards -/
theorem adjust_back (n : Nat) (h : 0 < n) : Builtin.Slice.sliceAdjust none (some 0) (-1) (n : Int) = ((n : Int) - 1, 0) := by
  unfold Builtin.Slice.sliceAdjust
  have h1 : (-1 : Int) < 0 := by decide
  have h2 : ¬ ((0 : Int) < 0) := by decide
  simp only [h1, h2, if_true, if_false]
  refine Prod.ext rfl ?_
  show min (0 : Int) ((n : Int) - 1) = 0
  omega
theorem places_back (n : Nat) (h : 0 < n) : Builtin.Slice.slicePlaces ((n : Int) - 1) 0 (-1) = n - 1 := by
  unfold Builtin.Slice.slicePlaces
  have h1 : ¬ ((-1 : Int) > 0) := by decide
  simp only [h1, if_false]
  have e : (- -1 : Int) = 1 := by decide
  rw [e, Int.ediv_one]
  split <;> omega
theorem fm_congr {α β : Type} {f g : α → Option β} : ∀ l : List α, (∀ a ∈ l, f a = g a) → l.filterMap f = l.filterMap g
  | [], _ => rfl
  | a :: r, h => by
    rw [List.filterMap_cons, List.filterMap_cons, h a List.mem_cons_self, fm_congr r fun b hb => h b (List.mem_cons_of_mem _ hb)]
theorem pick_back (xs : Array Value) : ((List.range (xs.size - 1)).filterMap fun (m : Nat) => xs[(((xs.size : Int) - 1) + (m : Int) * (-1)).toNat]?).toArray = xs.toList.tail.reverse.toArray := by
  have e1 : (fun (m : Nat) => xs[(((xs.size : Int) - 1) + (m : Int) * (-1)).toNat]?) = fun m => xs[xs.size - 1 - m]? := by
    funext m
    have : (((xs.size : Int) - 1) + (m : Int) * (-1)).toNat = xs.size - 1 - m := by omega
    rw [this]
  rw [e1]
  congr 1
  have e2 : (List.range (xs.size - 1)).filterMap (fun m => xs[xs.size - 1 - m]?) = (List.range (xs.size - 1)).filterMap (fun m => xs.toList.tail.reverse[m]?) := by
    apply fm_congr
    intro m hm
    have hm := List.mem_range.mp hm
    have hl : xs.toList.tail.length = xs.size - 1 := by rw [List.length_tail, Array.length_toList]
    rw [List.getElem?_reverse (by omega), hl, List.getElem?_tail, Array.getElem?_toList]
    try (congr 1; omega)
  rw [e2]
  have hl : xs.toList.tail.reverse.length = xs.size - 1 := by rw [List.length_reverse, List.length_tail, Array.length_toList]
  rw [← hl]
  generalize xs.toList.tail.reverse = ys
  have q := PySem.W.krv_all ys.toArray
  simpa using q
section
variable {prog : Program} {w : World} {A : Around} {E : Value → Shared → Prop} {s : Shared}
theorem sliceApplied_back {sl : Addr} {vl vu vs : Value} {n : Nat} {Q : Int × Int × Nat → Shared → Prop} (hn : 0 < n) (hs : s.heap.IsSliceOf sl vl vu vs) (pl : IsPart vl none) (pu : IsPart vu (some 0)) (ps : IsPart vs (some (-1)))
    (h : Q ((n : Int) - 1, -1, n - 1) s) : wpAny (model prog w) A (Builtin.Slice.sliceApplied (.ref sl) (pure (n : Int))) Q E s := by
  obtain ⟨os, hos, hcs, hds⟩ := id hs
  unfold Builtin.Slice.sliceApplied Builtin.Slice.sliceFields
  refine wpAny_bind (wpAny_bind (wpAny_field hos hds (x := vl) rfl (wpAny_bind (wpAny_field hos hds (x := vu) rfl (wpAny_bind (wpAny_field hos hds (x := vs) rfl (wpAny_pure ?_)))))))
  refine wpAny_bind (slicePart_ ps ?_); show wpAny _ _ (if ((-1 : Int) == 0) = true then _ else _) _ _ s; rw [if_neg (by decide)]
  refine wpAny_bind (slicePart_ pl (wpAny_bind (slicePart_ pu (wpAny_bind (wpAny_pure ?_)))))
  show wpAny _ _ (match Builtin.Slice.sliceAdjust none (some 0) (-1) (n : Int) with | (lo, hi) => pure (lo, (-1 : Int), Builtin.Slice.slicePlaces lo hi (-1))) _ _ s
  rw [adjust_back n hn]
  show wpAny _ _ (pure ((n : Int) - 1, (-1 : Int), Builtin.Slice.slicePlaces ((n : Int) - 1) 0 (-1))) _ _ s
  rw [places_back n hn]
  exact wpAny_pure h
theorem getItem_tuple_back {t sl : Addr} {items : Array Value} {vl vu vs : Value} {Q : Value → Shared → Prop} (ht : IsTup s.heap t items) (hs : s.heap.IsSliceOf sl vl vu vs) (pl : IsPart vl none) (pu : IsPart vu (some 0)) (ps : IsPart vs (some (-1)))
    (hn : 0 < items.size) (h : Q (.ref s.heap.objs.size) { s with heap := s.heap.push { cls := .type "tuple", data := .seq items.toList.tail.reverse.toArray } })
    (hsz : items.size ≤ sizeLine) : wpAny (model prog w) A (getItem (.ref t) (.ref sl)) Q E s := by
  have fit : sizeOk (.seq items.toList.tail.reverse.toArray) := by
    show items.toList.tail.reverse.toArray.size ≤ sizeLine
    rw [List.size_toArray, List.length_reverse, List.length_tail, Array.length_toList]; omega
  obtain ⟨os, hos, hcs, hds⟩ := id hs
  have hTs : s.TypeIs (.ref sl) "slice" := ⟨os, hos, hcs⟩
  unfold getItem
  try with_reducible refine wpAny_holding ?_
  first | refine wpAny_bind (wpAny_pure ?_) | skip
  refine wpAny_bind (wpAny_sequenceKey ht.typeIs (by decide) ?_)
  refine wpAny_bind (wpAny_callSpecial?_slot (name := Str.ofString "__getitem__") ht.typeIs slot_tuple_getitem (wpAny_call_entry slot_tuple_getitem ht.typeIs entry_tuple_getitem ?_ (args_tuple_getitem _ _)))
  show wpAny _ _ (Builtin.Tuple.tupleItemsOf (.ref t) >>= _) _ _ s; refine wpAny_bind (tupleItemsOf_ ht ?_)
  refine wpAny_bind (wpAny_typeOf hTs ?_); rw [if_pos (by decide)]
  refine wpAny_bind (sliceApplied_back hn hs pl pu ps ?_)
  show wpAny _ _ (if (((items.size : Int) - 1) == 0 && (-1 : Int) == 1 && (items.size - 1) == items.size) = true then _ else _) _ _ s
  rw [if_neg (by simp), pick_back]
  first
    | exact wpAny_bind (m := Builtin.Tuple.tupleExact _) (wpAny_newObj_type (wpAny_pure ⟨_, rfl, wpAny_pure h⟩) fit)
    | exact wpAny_bind (m := Builtin.Tuple.tupleExact _) (wpAny_newObj_type (wpAny_bind (wpAny_pure (wpAny_pure ⟨_, rfl, wpAny_pure h⟩))) fit)
    | exact wpAny_bind (wpAny_bind (m := Builtin.Tuple.tupleExact _) (wpAny_newObj_type (wpAny_pure (wpAny_pure ⟨_, rfl, wpAny_pure h⟩)) fit))
    | exact wpAny_bind (wpAny_bind (m := Builtin.Tuple.tupleExact _) (wpAny_newObj_type (wpAny_pure ⟨_, rfl, wpAny_pure h⟩) fit))
end
def tSlBack (K : PySem.W.Frag) (te : TE) : TE := fun σ H Q => te σ H fun x H1 => ∃ a y xs, x = .ref a ∧ SqT K H1 a (y :: xs) ∧ ∀ p, H1 p = none → Q (.ref p) (upd H1 p (.tup xs.reverse))
theorem pe_slBack {X : Cx} {e : Expr} {te : TE} {k0 k1 : Nat} {p0 p1 p2 p3 pos : Pos} (he : PE X e te) :
    PE X (.Subscript e (.Slice none (some (.Constant (.int 0) k0 p0)) (some (.UnaryOp .USub (.Constant (.int 1) k1 p1) p2)) p3) pos) (tSlBack X.K te) := by
  refine ⟨fun pins s σ H Q I h => ?_⟩
  refine Subscript_ (thn (he.run pins s σ H _ I h) fun v s1 ⟨x, H1, I1, r1, q1⟩ => ?_)
  obtain ⟨a, y, xs, ex, hx, q⟩ := q1
  subst ex
  cases r1
  have hhi : PO X (some (.Constant (.int 0) k0 p0)) (tPart (tC (.int 0))) := po_some pe_int
  have hst : PO X (some (.UnaryOp .USub (.Constant (.int 1) k1 p1) p2)) (tPart (tUn (rU fun i => .int (-i)) (tC (.int 1)))) := po_some (pe_un un_neg pe_int)
  refine wpAny_Slice (thn (po_none.run pins s1 σ H1 (fun o H2 => o = none ∧ H2 = H1) I1 ⟨rfl, rfl⟩) fun vl s2 ⟨l, H2, I2, pl, el, e2⟩ => ?_)
  subst el e2
  refine thn (hhi.run pins s2 σ H2 (fun o H3 => o = some 0 ∧ H3 = H2) I2 ⟨0, rfl, rfl, rfl⟩) fun vu s3 ⟨u, H3, I3, pu, eu, e3⟩ => ?_
  subst eu e3
  refine thn (hst.run pins s3 σ H3 (fun o H4 => o = some (-1) ∧ H4 = H3) I3 ⟨1, rfl, -1, rfl, rfl, rfl⟩) fun vs s4 ⟨o, H4, I4, ps, eo, e4⟩ => ?_
  subst eo e4
  have I5 : Inv X pins σ H4 { s4 with heap := s4.heap.push { cls := .type "slice", data := .fields #[vl, vu, vs] } } := I4.kept (t' := s4.toks) fun b ob q => Heap.get?_push_of_some _ q
  obtain ⟨its, r, ht, hz⟩ := I5.tuple hx
  have hlen := r.length
  rw [List.length_cons] at hlen hz
  show wpAny (model X.prog X.w) X.A (subscriptTail e (.Slice none (some (.Constant (.int 0) k0 p0)) (some (.UnaryOp .USub (.Constant (.int 1) k1 p1) p2)) p3) (.ref a) (.ref s4.heap.objs.size)) (EP X pins σ Q) X.xe { s4 with heap := s4.heap.push { cls := .type "slice", data := .fields #[vl, vu, vs] } }
  refine tail_any (ops := [.ref a, .ref s4.heap.objs.size]) ht.typeIs slot_tuple_getitem.lookup ?_ (by with_unfolding_all rfl)
  refine getItem_tuple_back ht (Heap.IsSliceOf.new _ vl vu vs) pl pu ps (by rw [List.size_toArray]; omega) ?_ (by rw [List.size_toArray]; omega)
  have rt : Vals xs its.tail := by
    cases r with
    | cons _ t => exact t
  refine ⟨.ref _, _, I5.laid (t' := s4.toks) (o := .tup xs.reverse) (fun b ob q => Heap.get?_push_of_some _ q) (Nat.le_refl _) ?_, rfl, q _ (I5.hok.fresh (Nat.le_refl _))⟩
  exact ⟨by rw [List.length_reverse]; omega, _, rt.reverse, IsTup.new _ _⟩
end Own
namespace Own
open PySem PySem.Spec PyProof.Rows L2 RT HT

/-! ### heaps: all but one object stays; tuples stay -/
def But (d : Addr) (H H' : Hp) : Prop := ∀ b o, b ≠ d → H b = some o → H' b = some o
theorem But.refl (d : Addr) (H : Hp) : But d H H := fun _ _ _ e => e
theorem But.trans {d : Addr} {H H1 H2 : Hp} (a : But d H H1) (b : But d H1 H2) : But d H H2 := fun c o n e => b c o n (a c o n e)
theorem But.upd {d : Addr} {H : Hp} {o : HO} : But d H (upd H d o) := fun b u n e => by rw [upd_ne n]; exact e
theorem same_new {H : Hp} {p : Addr} (h : H p = none) (o : HO) : Same H (upd H p o) := fun b u e => by rw [upd_ne (ne_of_none e h)]; exact e
theorem _root_.L2.Same.but {d : Addr} {H H' : Hp} (a : Same H H') : But d H H' := fun b o _ e => a b o e
/-- a change of what is new is no change -/
theorem But.same {d : Addr} {H H1 H2 : Hp} (n : H d = none) (a : Same H H1) (b : But d H1 H2) : Same H H2 := fun c o e => b c o (ne_of_none e n) (a c o e)
theorem But.free {d : Addr} {H H' : Hp} (a : But d H H') {p : Addr} (n : p ≠ d) (h : H' p = none) : H p = none := by
  cases e : H p with
  | none => rfl
  | some o => rw [a p o n e] at h; cases h
def Tups (H H' : Hp) : Prop := ∀ b xs, H b = some (.tup xs) → H' b = some (.tup xs)
theorem Tups.trans {H H1 H2 : Hp} (a : Tups H H1) (b : Tups H1 H2) : Tups H H2 := fun c xs e => b c xs (a c xs e)
theorem Tups.refl (H : Hp) : Tups H H := fun _ _ e => e
theorem _root_.L2.Same.tups {H H' : Hp} (a : Same H H') : Tups H H' := fun b xs e => a b _ e
theorem But.tups {d : Addr} {H H' : Hp} {ys : List V} (a : But d H H') (h : H d = some (.lst ys)) : Tups H H' := fun b xs e => a b _ (ne_of e h (by intro z; cases z)) e
theorem tups_upd {H : Hp} {d : Addr} {ys : List V} {o : HO} (h : H d = some (.lst ys)) : Tups H (upd H d o) := But.upd.tups h
theorem tups_updD {H : Hp} {d : Addr} {ys : List (Key × V)} {o : HO} (h : H d = some (.dK ys)) : Tups H (upd H d o) := fun b xs e => by rw [upd_ne (ne_of e h (by intro z; cases z))]; exact e

/-! ### terms -/
inductive Ter where
  | var (k : Key)
  | ap (f : Str) (as : List Ter)
mutual
def Ter.size : Ter → Nat
  | .var _ => 1
  | .ap _ as => Ter.sizes as + 1
def Ter.sizes : List Ter → Nat
  | [] => 0
  | a :: r => a.size + Ter.sizes r
end
mutual
def Ter.nest : Ter → Nat
  | .var _ => 1
  | .ap _ as => Ter.nests as + 1
def Ter.nests : List Ter → Nat
  | [] => 0
  | a :: r => max a.nest (Ter.nests r)
end
mutual
def Ter.ground : Ter → Bool
  | .var _ => false
  | .ap _ as => Ter.grounds as
def Ter.grounds : List Ter → Bool
  | [] => true
  | a :: r => a.ground && Ter.grounds r
end
def Ter.isVar : Ter → Bool
  | .var _ => true
  | .ap _ _ => false
theorem Ter.size_pos : ∀ t : Ter, 1 ≤ t.size
  | .var _ => Nat.le_refl _
  | .ap _ _ => Nat.le_add_left _ _
theorem Ter.sizes_len : ∀ ts : List Ter, ts.length ≤ Ter.sizes ts
  | [] => Nat.zero_le _
  | a :: r => by
    have h1 := a.size_pos
    have h2 := Ter.sizes_len r
    show r.length + 1 ≤ a.size + Ter.sizes r
    omega
theorem Ter.sizes_app : ∀ (as bs : List Ter), Ter.sizes (as ++ bs) = Ter.sizes as + Ter.sizes bs
  | [], bs => by show Ter.sizes bs = 0 + Ter.sizes bs; omega
  | a :: r, bs => by
    show a.size + Ter.sizes (r ++ bs) = a.size + Ter.sizes r + Ter.sizes bs
    rw [Ter.sizes_app r bs]
    omega
mutual
inductive TmAt (H : Hp) : V → Ter → Prop
  | int (i : Int) : TmAt H (.int i) (.var (.inl i))
  | str (x : Str) : TmAt H (.str x) (.var (.inr x))
  | ap {p : Addr} {f : Str} {xs : List V} {as : List Ter} : H p = some (.tup (.str f :: xs)) → TmAll H xs as → TmAt H (.ref p) (.ap f as)
inductive TmAll (H : Hp) : List V → List Ter → Prop
  | nil : TmAll H [] []
  | cons {v : V} {vs : List V} {t : Ter} {ts : List Ter} : TmAt H v t → TmAll H vs ts → TmAll H (v :: vs) (t :: ts)
end
mutual
theorem TmAt.mono {H H' : Hp} (m : Tups H H') : ∀ (t : Ter) (v : V), TmAt H v t → TmAt H' v t
  | .var _, _, h => by
    cases h with
    | int i => exact .int i
    | str x => exact .str x
  | .ap f as, _, h => by
    cases h with
    | ap e hs => exact .ap (m _ _ e) (TmAll.mono m as _ hs)
theorem TmAll.mono {H H' : Hp} (m : Tups H H') : ∀ (ts : List Ter) (vs : List V), TmAll H vs ts → TmAll H' vs ts
  | [], _, h => by cases h; exact .nil
  | t :: ts, _, h => by
    cases h with
    | cons h1 h2 => exact .cons (TmAt.mono m t _ h1) (TmAll.mono m ts _ h2)
end
theorem TmAll.len {H : Hp} : ∀ {vs : List V} {ts : List Ter}, TmAll H vs ts → vs.length = ts.length
  | _, _, .nil => rfl
  | _, _, .cons _ t => congrArg (· + 1) t.len
theorem TmAll.app {H : Hp} : ∀ {vs ws : List V} {ts us : List Ter}, TmAll H vs ts → TmAll H ws us → TmAll H (vs ++ ws) (ts ++ us)
  | _, _, _, _, .nil, h => h
  | _, _, _, _, .cons a r, h => .cons a (r.app h)
theorem TmAll.rev {H : Hp} : ∀ {vs : List V} {ts : List Ter}, TmAll H vs ts → TmAll H vs.reverse ts.reverse
  | _, _, .nil => .nil
  | _, _, .cons a r => by
    rw [List.reverse_cons, List.reverse_cons]
    exact r.rev.app (.cons a .nil)
theorem TmAll.get {H : Hp} : ∀ {vs : List V} {ts : List Ter} {i : Nat} {v : V}, TmAll H vs ts → vs[i]? = some v → ∃ t, ts[i]? = some t ∧ TmAt H v t
  | _, _, _, _, .nil, e => by simp at e
  | _, _, 0, _, .cons a r, e => by
    simp at e
    subst e
    exact ⟨_, rfl, a⟩
  | _, _, i + 1, v, .cons a r, e => by
    obtain ⟨t, h1, h2⟩ := TmAll.get (i := i) (v := v) r (by simpa using e)
    exact ⟨t, by simpa using h1, h2⟩
/-- the last one -/
theorem TmAll.last {H : Hp} {vs : List V} {ts : List Ter} (h : TmAll H vs ts) (hv : vs ≠ []) : ∃ vs' v ts' t, vs = vs' ++ [v] ∧ ts = ts' ++ [t] ∧ TmAll H vs' ts' ∧ TmAt H v t := by
  have r := h.rev
  cases e1 : vs.reverse with
  | nil => exact absurd (List.reverse_eq_nil_iff.mp e1) hv
  | cons v vr =>
    cases e2 : ts.reverse with
    | nil => rw [e1, e2] at r; cases r
    | cons t tr =>
      rw [e1, e2] at r
      cases r with
      | cons a q =>
        refine ⟨vr.reverse, v, tr.reverse, t, ?_, ?_, q.rev, a⟩
        · rw [← List.reverse_reverse (as := vs), e1, List.reverse_cons]
        · rw [← List.reverse_reverse (as := ts), e2, List.reverse_cons]

/-! ### readings that come often -/
/-- isinstance(v, tuple), v a term -/
def rIsiTer : List V → Hp → VK → Prop := fun xs H Q => ∃ (v : V) (t : Ter), xs = [v, .ty "tuple"] ∧ TmAt H v t ∧ Q (.bl (!t.isVar)) H
theorem call_isiTer {X : Cx} : CallR X (.builtin "isinstance") rIsiTer := by
  intro pins s σ H xs us Q I r h
  obtain ⟨v, t, rfl, h, q⟩ := h
  refine call_isi pins s σ H _ us Q I r ?_
  cases h with
  | int i => exact ⟨_, _, _, _, false, rfl, .ty _, .base (.int i), kit_ty (by decide +kernel), q⟩
  | str x => exact ⟨_, _, _, _, false, rfl, .ty _, .base (.str x), kit_ty (by decide +kernel), q⟩
  | ap e _ => exact ⟨_, _, _, _, true, rfl, .ty _, .base (.tup e), kit_ty (by decide +kernel), q⟩
theorem cut_1 (y : V) (ys : List V) : cutV (y :: ys) (some 1) none = ys := by
  unfold cutV
  rw [show HT.sIx (y :: ys).length 0 (some 1) = min 1 (y :: ys).length from HT.sIx_nat (y :: ys).length 0 1, HT.sIx_none, List.length_cons, show min 1 (ys.length + 1) = 1 by omega]
  show List.take (ys.length + 1 - 1) ys = ys
  rw [Nat.add_sub_cancel]
  exact List.take_length
/-- t[1:] of a tuple that is not empty -/
def rSl1 (K : PySem.W.Frag) : V → Option Int → Option Int → Hp → VK → Prop := fun x lo hi H Q => ∃ a y ys, x = .ref a ∧ lo = some 1 ∧ hi = none ∧ SqT K H a (y :: ys) ∧ ∀ p, H p = none → Q (.ref p) (upd H p (.tup ys))
theorem sl_1 {X : Cx} : SlR X (rSl1 X.K) := by
  intro pins s σ H x v vl vu lo hi sl Q I rx hs pl pu h
  obtain ⟨a, y, ys, rfl, rfl, rfl, e, q⟩ := h
  refine sl_tup pins s σ H _ v vl vu _ _ sl Q I rx hs pl pu ⟨a, _, rfl, e, fun ⟨z, _⟩ => ?_, fun p hp => ?_⟩
  · rw [show HT.sIx (y :: ys).length 0 (some 1) = min 1 (y :: ys).length from HT.sIx_nat (y :: ys).length 0 1, List.length_cons] at z
    omega
  · rw [cut_1]
    exact q p hp
/-- xs.pop(), the last item told -/
def rPopL : V → List V → Hp → VK → Prop := fun x xs H Q => ∃ (l : Addr) (vs : List V) (v : V), x = .ref l ∧ xs = [] ∧ H l = some (.lst (vs ++ [v])) ∧ Q v (upd H l (.lst vs))
theorem mt_popL {X : Cx} : MtR X "list.pop" rPopL := by
  intro pins s σ H x xs v us Q I rx rxs h
  obtain ⟨l, vs, y, rfl, rfl, e, q⟩ := h
  refine mt_pop pins s σ H _ _ v us Q I rx rxs ⟨l, _, y, rfl, rfl, e, ?_, ?_⟩
  · rw [List.length_append, List.length_singleton, Nat.add_sub_cancel]
    exact List.getElem?_concat_length
  · rw [List.dropLast_concat]
    exact q
theorem tyl {K : PySem.W.Frag} {H : Hp} {l : Addr} {vs : List V} (h : H l = some (.lst vs)) : tyV K "list" (.ref l) H := .inl ⟨rfl, _, .inl (.inl h)⟩
theorem tru_l {K : PySem.W.Frag} {H : Hp} {l : Addr} {vs : List V} (h : H l = some (.lst vs)) : TruV K (.ref l) H (!vs.isEmpty) := .inl ⟨vs, .inl (.inl h), rfl⟩
theorem small6 {n : Nat} (h : n ≤ 1000000) : n ≤ sizeLine := Nat.le_trans h (by decide)
theorem small6' {n : Nat} (h : n ≤ 1000000) : n < sizeLine := Nat.lt_of_le_of_lt h (by decide)
end Own
namespace Own
open PySem PySem.Spec PyProof.Rows L2 RT HT

/-! ### walks within a comprehension, the turn's body any -/
theorem walk_l {K : PySem.W.Frag} {a : Addr} {xs : List V} {H0 : Hp} {Qd : Hp → Prop} {body : (Hp → Prop) → V → Hp → Prop} (Pv : Nat → Hp → Prop) (h0 : Pv 0 H0) (hl : ∀ i H, i ≤ xs.length → Pv i H → SqL K H a xs)
    (hs : ∀ i x H, xs[i]? = some x → Pv i H → body (Pv (i + 1)) x H) (hd : ∀ H, Pv xs.length H → Qd H) :
    ∃ W : Nat → Nat → Hp → Prop, (∃ m, W 0 m H0) ∧ ∀ i m H, W i m H → ((Itl K a).stop i H ∧ Qd H) ∨ ((Itl K a).go i H ∧ ∃ Nx : Hp → Prop, (∀ H', Nx H' → ∃ m', m' < m ∧ W (i + 1) m' H') ∧ ∀ x H', (Itl K a).yld i H x H' → body Nx x H') := by
  refine ⟨fun i m H => m = xs.length - i ∧ i ≤ xs.length ∧ Pv i H, ⟨xs.length, by simp, Nat.zero_le _, h0⟩, ?_⟩
  rintro i m H ⟨rfl, hi, p⟩
  have q := hl i H hi p
  by_cases hlt : i < xs.length
  · refine .inr ⟨⟨xs, xs[i], q, by simp [hlt]⟩, Pv (i + 1), fun H' p' => ⟨xs.length - (i + 1), by omega, rfl, hlt, p'⟩, fun x H' y => ?_⟩
    obtain ⟨e, y⟩ := y
    subst e
    exact hs i x _ (y xs q) p
  · have e : i = xs.length := by omega
    subst e
    exact .inl ⟨⟨xs, q, Nat.le_refl _⟩, hd H p⟩
theorem walk_t {K : PySem.W.Frag} {a : Addr} {xs : List V} {H0 : Hp} {Qd : Hp → Prop} {body : (Hp → Prop) → V → Hp → Prop} (Pv : Nat → Hp → Prop) (h0 : Pv 0 H0) (hl : ∀ i H, i ≤ xs.length → Pv i H → SqT K H a xs)
    (hs : ∀ i x H, xs[i]? = some x → Pv i H → body (Pv (i + 1)) x H) (hd : ∀ H, Pv xs.length H → Qd H) :
    ∃ W : Nat → Nat → Hp → Prop, (∃ m, W 0 m H0) ∧ ∀ i m H, W i m H → ((Itt K a).stop i H ∧ Qd H) ∨ ((Itt K a).go i H ∧ ∃ Nx : Hp → Prop, (∀ H', Nx H' → ∃ m', m' < m ∧ W (i + 1) m' H') ∧ ∀ x H', (Itt K a).yld i H x H' → body Nx x H') := by
  refine ⟨fun i m H => m = xs.length - i ∧ i ≤ xs.length ∧ Pv i H, ⟨xs.length, by simp, Nat.zero_le _, h0⟩, ?_⟩
  rintro i m H ⟨rfl, hi, p⟩
  have q := hl i H hi p
  by_cases hlt : i < xs.length
  · refine .inr ⟨⟨xs, xs[i], q, by simp [hlt]⟩, Pv (i + 1), fun H' p' => ⟨xs.length - (i + 1), by omega, rfl, hlt, p'⟩, fun x H' y => ?_⟩
    obtain ⟨e, y⟩ := y
    subst e
    exact hs i x _ (y xs q) p
  · have e : i = xs.length := by omega
    subst e
    exact .inl ⟨⟨xs, q, Nat.le_refl _⟩, hd H p⟩

/-! ### what the functions of terms compute -/
def Ter.args : Ter → List Ter
  | .var _ => []
  | .ap _ as => as
def argsOf (ts : List Ter) : List Ter := ts.flatMap Ter.args
theorem argsOf_app (as bs : List Ter) : argsOf (as ++ bs) = argsOf as ++ argsOf bs := List.flatMap_append
theorem argsOf_take {ts : List Ter} {i : Nat} {t : Ter} (h : ts[i]? = some t) : argsOf (ts.take (i + 1)) = argsOf (ts.take i) ++ t.args := by
  rw [List.take_add_one, h, argsOf_app]
  show _ ++ ([t].flatMap Ter.args) = _
  rw [List.flatMap_cons, List.flatMap_nil, List.append_nil]
theorem sizes_argsOf : ∀ ts : List Ter, Ter.sizes (argsOf ts) + ts.length = Ter.sizes ts
  | [] => rfl
  | .var k :: r => by
    have ih := sizes_argsOf r
    show Ter.sizes (argsOf r) + (r.length + 1) = 1 + Ter.sizes r
    omega
  | .ap f as :: r => by
    have ih := sizes_argsOf r
    show Ter.sizes (as ++ argsOf r) + (r.length + 1) = Ter.sizes as + 1 + Ter.sizes r
    rw [Ter.sizes_app]
    omega
theorem nests_app : ∀ (as bs : List Ter), Ter.nests (as ++ bs) = max (Ter.nests as) (Ter.nests bs)
  | [], bs => by show Ter.nests bs = max 0 _; omega
  | a :: r, bs => by
    show max a.nest (Ter.nests (r ++ bs)) = max (max a.nest (Ter.nests r)) (Ter.nests bs)
    rw [nests_app r bs]
    omega
theorem Ter.nest_pos : ∀ t : Ter, 1 ≤ t.nest
  | .var _ => Nat.le_refl _
  | .ap _ _ => Nat.le_add_left _ _
theorem nests_argsOf : ∀ ts : List Ter, ts ≠ [] → Ter.nests (argsOf ts) + 1 = Ter.nests ts
  | [], h => absurd rfl h
  | [.var k], _ => rfl
  | [.ap f as], _ => by
    show Ter.nests (as ++ []) + 1 = max (Ter.nests as + 1) 0
    rw [List.append_nil]
    omega
  | .var k :: b :: r, _ => by
    have ih := nests_argsOf (b :: r) (by simp)
    have p := b.nest_pos
    have e : Ter.nests (b :: r) = max b.nest (Ter.nests r) := rfl
    show Ter.nests (argsOf (b :: r)) + 1 = max 1 (Ter.nests (b :: r))
    omega
  | .ap f as :: b :: r, _ => by
    have ih := nests_argsOf (b :: r) (by simp)
    show Ter.nests (as ++ argsOf (b :: r)) + 1 = max (Ter.nests as + 1) (Ter.nests (b :: r))
    rw [nests_app]
    omega
def hasK (acc : List Key) (k : Key) : Bool := acc.any fun x => decide (x = k)
theorem hasK_iff {acc : List Key} {k : Key} : hasK acc k = true ↔ k ∈ acc := by
  unfold hasK
  rw [List.any_eq_true]
  constructor
  · rintro ⟨x, hx, h⟩
    have h : x = k := of_decide_eq_true h
    exact h ▸ hx
  · intro h
    exact ⟨k, h, decide_eq_true rfl⟩
def addK (acc : List Key) (k : Key) : List Key := if hasK acc k = true then acc else acc ++ [k]
mutual
def Ter.into (acc : List Key) : Ter → List Key
  | .var k => addK acc k
  | .ap _ as => Ter.intos acc as
def Ter.intos (acc : List Key) : List Ter → List Key
  | [] => acc
  | a :: r => Ter.intos (Ter.into acc a) r
end
theorem intos_app : ∀ (as bs : List Ter) (acc : List Key), Ter.intos acc (as ++ bs) = Ter.intos (Ter.intos acc as) bs
  | [], _, _ => rfl
  | a :: r, bs, acc => intos_app r bs (Ter.into acc a)
def Ter.vars (t : Ter) : List Key := Ter.into [] t
def yes (k : Key) : Key × V := (k, .bl true)
theorem put_yes (acc : List Key) (k : Key) : putK (acc.map yes) k (.bl true) = (addK acc k).map yes := by
  unfold putK addK
  have e : ((acc.map yes).any fun kv => decide (kv.1 = k)) = hasK acc k := by
    rw [List.any_map]
    rfl
  rw [e]
  by_cases hk : hasK acc k = true
  · rw [if_pos hk, if_pos hk, List.map_map]
    apply List.map_congr_left
    intro x _
    show (if x = k then (x, V.bl true) else (x, V.bl true)) = (x, V.bl true)
    split <;> rfl
  · rw [if_neg hk, if_neg hk, List.map_append]
    rfl
theorem addK_len (acc : List Key) (k : Key) : (addK acc k).length ≤ acc.length + 1 := by
  unfold addK
  split
  · omega
  · rw [List.length_append, List.length_singleton]; omega
theorem yes_keys (acc : List Key) : (acc.map yes).map (fun kv => kV kv.1) = acc.map kV := by
  rw [List.map_map]
  rfl
theorem addK_ne (acc : List Key) (k : Key) : addK acc k ≠ [] := by
  unfold addK
  split
  · rename_i h
    intro z
    rw [z] at h
    exact absurd (show false = true from h) Bool.false_ne_true
  · simp
mutual
theorem into_ne : ∀ (t : Ter) (acc : List Key), acc ≠ [] ∨ t.ground = false → Ter.into acc t ≠ []
  | .var k, acc, _ => addK_ne acc k
  | .ap f as, acc, h => intos_ne as acc h
theorem intos_ne : ∀ (ts : List Ter) (acc : List Key), acc ≠ [] ∨ Ter.grounds ts = false → Ter.intos acc ts ≠ []
  | [], acc, h => h.resolve_right (by intro z; cases z)
  | a :: r, acc, h => by
    refine intos_ne r _ ?_
    rcases h with h | h
    · exact .inl (into_ne a acc (.inl h))
    · have h : (a.ground && Ter.grounds r) = false := h
      cases ha : a.ground with
      | false => exact .inl (into_ne a acc (.inr ha))
      | true =>
        rw [ha] at h
        exact .inr h
end
mutual
theorem into_ground : ∀ (t : Ter) (acc : List Key), t.ground = true → Ter.into acc t = acc
  | .var k, _, h => by cases h
  | .ap f as, acc, h => intos_ground as acc h
theorem intos_ground : ∀ (ts : List Ter) (acc : List Key), Ter.grounds ts = true → Ter.intos acc ts = acc
  | [], _, _ => rfl
  | a :: r, acc, h => by
    have h : (a.ground && Ter.grounds r) = true := h
    rw [Bool.and_eq_true] at h
    show Ter.intos (Ter.into acc a) r = acc
    rw [into_ground a acc h.1, intos_ground r acc h.2]
end
theorem vars_nil (t : Ter) : decide (t.vars = []) = t.ground := by
  cases h : t.ground with
  | true => exact decide_eq_true (into_ground t [] h)
  | false => exact decide_eq_false (into_ne t [] (.inr h))
end Own
namespace Own
open PySem PySem.Spec PyProof.Rows L2 RT HT

/-! ### a list of ints at d, whatever they are -/
def Ints (H : Hp) (d : Addr) : Prop := ∃ ms : List Int, ms.length ≤ 100000 ∧ H d = some (.lst (ms.map V.int))
theorem Ints.lst {H : Hp} {d : Addr} (h : Ints H d) : ∃ vs, H d = some (.lst vs) := by
  obtain ⟨ms, _, e⟩ := h
  exact ⟨_, e⟩
theorem But.tupsI {d : Addr} {H H' : Hp} (a : But d H H') (h : Ints H d) : Tups H H' := by
  obtain ⟨ms, _, e⟩ := h
  exact a.tups e
theorem Ints.ne {H : Hp} {d p : Addr} (h : Ints H d) (n : H p = none) : p ≠ d := by
  obtain ⟨ms, _, e⟩ := h
  exact (ne_of_none e n).symm
theorem Ints.of_but {H H' : Hp} {d p : Addr} (h : Ints H d) (b : But p H H') (n : d ≠ p) : Ints H' d := by
  obtain ⟨ms, l, e⟩ := h
  exact ⟨ms, l, b d _ n e⟩
theorem Ints.same {H H' : Hp} {d : Addr} (h : Ints H d) (b : Same H H') : Ints H' d := by
  obtain ⟨ms, l, e⟩ := h
  exact ⟨ms, l, b d _ e⟩

/-! ### words -/
abbrev LET : Str := "abcdefghijklmnopqrstuvwxyz"
abbrev SGN : Str := LET ++ ("ABCDEFGHIJKLMNOPQRSTUVWXYZ0123456789_" : Str)
abbrev RES : List Str := ["true", "false", "all", "some", "goal", "axiom"]
def chOk (c : Nat) : Bool := (decide (97 ≤ c) && decide (c ≤ 122)) || (decide (65 ≤ c) && decide (c ≤ 90)) || (decide (48 ≤ c) && decide (c ≤ 57)) || decide (c = 95)
def isLow (c : Nat) : Bool := decide (97 ≤ c) && decide (c ≤ 122)
/-- a word: a small letter, then signs -/
structure WordOk (x : Str) : Prop where
  head : ∃ c r, x.cps.toList = c :: r ∧ isLow c = true
  all : x.cps.toList.all chOk = true
  len : x.length ≤ 40
theorem let_len : LET.length = 26 := by decide +kernel
theorem sgn_len : SGN.length = 63 := by decide +kernel
theorem let_at {i : Nat} (h : i < 26) : ∃ c, LET.cps[i]? = some c ∧ isLow c = true ∧ chOk c = true := by
  have a : LET.cps.toList.all (fun c => isLow c && chOk c) = true := by decide +kernel
  have l : LET.cps.toList.length = 26 := by decide +kernel
  have hi : i < LET.cps.toList.length := by omega
  have b := List.all_eq_true.mp a _ (List.getElem_mem hi)
  rw [Bool.and_eq_true] at b
  exact ⟨_, by rw [← Array.getElem?_toList, List.getElem?_eq_getElem hi], b.1, b.2⟩
theorem sgn_at {i : Nat} (h : i < 63) : ∃ c, SGN.cps[i]? = some c ∧ chOk c = true := by
  have a : SGN.cps.toList.all chOk = true := by decide +kernel
  have l : SGN.cps.toList.length = 63 := by decide +kernel
  have hi : i < SGN.cps.toList.length := by omega
  exact ⟨_, by rw [← Array.getElem?_toList, List.getElem?_eq_getElem hi], List.all_eq_true.mp a _ (List.getElem_mem hi)⟩
theorem app_cps (x y : Str) : (x ++ y).cps.toList = x.cps.toList ++ y.cps.toList := by
  show (x.cps ++ y.cps).toList = _
  rw [Array.toList_append]
theorem app_len (x y : Str) : (x ++ y).length = x.length + y.length := by
  show (x.cps ++ y.cps).size = x.cps.size + y.cps.size
  rw [Array.size_append]
/-- part of a word: all but the length -/
structure WordIn (x : Str) (n : Nat) : Prop where
  head : ∃ c r, x.cps.toList = c :: r ∧ isLow c = true
  all : x.cps.toList.all chOk = true
  len : x.length ≤ n
theorem word1 {c : Nat} (h1 : isLow c = true) (h2 : chOk c = true) : WordIn ⟨#[c]⟩ 1 := ⟨⟨c, [], rfl, h1⟩, by show (chOk c && true) = true; rw [h2]; rfl, Nat.le_refl _⟩
theorem WordIn.add {x y : Str} {n m : Nat} (h : WordIn x n) (a : y.cps.toList.all chOk = true) (l : y.length ≤ m) : WordIn (x ++ y) (n + m) := by
  obtain ⟨c, r, e, hc⟩ := h.head
  refine ⟨⟨c, r ++ y.cps.toList, by rw [app_cps, e]; rfl, hc⟩, by rw [app_cps, List.all_append, h.all, a]; rfl, by rw [app_len]; have := h.len; omega⟩
theorem WordIn.ok {x : Str} {n : Nat} (h : WordIn x n) (l : n ≤ 40) : WordOk x := ⟨h.head, h.all, Nat.le_trans h.len l⟩
/-- words of a law: all right, no two alike, none reserved -/
structure Words (ws : List Str) : Prop where
  ok : ∀ x ∈ ws, WordOk x
  nd : ws.Nodup
  res : ∀ x ∈ ws, x ∉ RES
/-- how many of the blocked ones are as long as n or longer -/
def longer (B : List Str) (n : Nat) : Nat := (B.filter fun y => decide (n ≤ y.length)).length
theorem longer_le (B : List Str) (n : Nat) : longer B n ≤ B.length := List.length_filter_le _ _
theorem longer_lt : ∀ {B : List Str} {x : Str}, x ∈ B → longer B (x.length + 1) < longer B x.length := by
  intro B
  have mono : ∀ (B : List Str) (n : Nat), longer B (n + 1) ≤ longer B n := fun B n => by
    induction B with
    | nil => exact Nat.le_refl _
    | cons y r ih =>
      unfold longer at ih ⊢
      rw [List.filter_cons, List.filter_cons]
      by_cases h1 : n + 1 ≤ y.length
      · rw [if_pos (decide_eq_true h1), if_pos (decide_eq_true (by omega)), List.length_cons, List.length_cons]; omega
      · rw [if_neg (by rw [decide_eq_false h1]; decide)]
        split
        · rw [List.length_cons]; omega
        · exact ih
  induction B with
  | nil => intro x h; cases h
  | cons y r ih =>
    intro x h
    unfold longer at ih ⊢
    rw [List.filter_cons, List.filter_cons]
    rcases List.mem_cons.mp h with e | h
    · subst e
      rw [if_neg (by rw [decide_eq_false (by omega)]; decide), if_pos (decide_eq_true (Nat.le_refl _)), List.length_cons]
      have := mono r x.length
      unfold longer at this
      omega
    · have q := ih h
      by_cases h1 : x.length + 1 ≤ y.length
      · rw [if_pos (decide_eq_true h1), if_pos (decide_eq_true (by omega)), List.length_cons, List.length_cons]; omega
      · rw [if_neg (by rw [decide_eq_false h1]; decide)]
        split
        · rw [List.length_cons]; omega
        · exact q
theorem inV_str (x : Str) (ws : List Str) : inV (.str x) (ws.map V.str) = true ↔ x ∈ ws := by
  unfold inV
  rw [List.any_map, List.any_eq_true]
  constructor
  · rintro ⟨y, hy, h⟩
    have h : (y == x) = true := h
    exact eq_of_beq h ▸ hy
  · intro h
    exact ⟨x, h, show (x == x) = true from beq_self_eq_true x⟩
theorem flat_strs (ws : List Str) : (ws.map V.str).all flatV = true := by
  rw [List.all_map, List.all_eq_true]
  intro x _
  rfl
end Own
namespace Own
open PySem PySem.Spec PyProof.Rows L2 RT HT

/-! ### terms over words -/
mutual
def Ter.wf (W : Str → Nat → Prop) (U : Key → Prop) : Ter → Prop
  | .var k => U k
  | .ap f as => W f as.length ∧ Ter.wfs W U as
def Ter.wfs (W : Str → Nat → Prop) (U : Key → Prop) : List Ter → Prop
  | [] => True
  | a :: r => a.wf W U ∧ Ter.wfs W U r
end
theorem wfs_app {W : Str → Nat → Prop} {U : Key → Prop} : ∀ {as bs : List Ter}, Ter.wfs W U as → Ter.wfs W U bs → Ter.wfs W U (as ++ bs)
  | [], _, _, h => h
  | _ :: _, _, h, h2 => ⟨h.1, wfs_app h.2 h2⟩
theorem wfs_get {W : Str → Nat → Prop} {U : Key → Prop} : ∀ {as : List Ter} {i : Nat} {t : Ter}, Ter.wfs W U as → as[i]? = some t → t.wf W U
  | [], _, _, _, e => by simp at e
  | a :: r, 0, t, h, e => by
    simp at e
    exact e ▸ h.1
  | a :: r, i + 1, t, h, e => wfs_get (as := r) (i := i) h.2 (by simpa using e)
/-- the i-th word has i - 2 arguments -/
def symOf (ws : List Str) (f : Str) (n : Nat) : Prop := ∃ i : Nat, i < 6 ∧ ws[i]? = some f ∧ n = i - 2
def numVar (k : Key) : Prop := ∃ r : Int, k = .inl r ∧ 0 ≤ r ∧ r < 900
theorem sizes_snoc (as : List Ter) (t : Ter) : Ter.sizes (as ++ [t]) = Ter.sizes as + t.size := by
  rw [Ter.sizes_app]
  show _ + (t.size + 0) = _
  omega
theorem nests_snoc (as : List Ter) (t : Ter) : Ter.nests (as ++ [t]) = max (Ter.nests as) t.nest := by
  rw [nests_app]
  show max _ (max t.nest 0) = _
  omega
theorem grounds_app : ∀ (as bs : List Ter), Ter.grounds (as ++ bs) = (Ter.grounds as && Ter.grounds bs)
  | [], _ => rfl
  | a :: r, bs => by
    show (a.ground && Ter.grounds (r ++ bs)) = _
    rw [grounds_app r bs, ← Bool.and_assoc]
    rfl
theorem grounds_snoc (as : List Ter) (t : Ter) : Ter.grounds (as ++ [t]) = (Ter.grounds as && t.ground) := by
  rw [grounds_app]
  show (_ && (t.ground && true)) = _
  rw [Bool.and_true]
theorem pow4 (n : Nat) : 1 ≤ 4 ^ n := Nat.one_le_pow _ _ (by decide)
mutual
theorem nest_size : ∀ t : Ter, t.nest ≤ t.size
  | .var _ => Nat.le_refl _
  | .ap _ as => Nat.succ_le_succ (nests_sizes as)
theorem nests_sizes : ∀ ts : List Ter, Ter.nests ts ≤ Ter.sizes ts
  | [] => Nat.le_refl _
  | a :: r => by
    have h1 := nest_size a
    have h2 := nests_sizes r
    show max a.nest (Ter.nests r) ≤ a.size + Ter.sizes r
    omega
end
theorem nest_le_of : ∀ {ts : List Ter} {i : Nat} {t : Ter}, ts[i]? = some t → t.nest ≤ Ter.nests ts
  | [], _, _, e => by simp at e
  | a :: r, 0, t, e => by
    simp at e
    subst e
    exact Nat.le_max_left _ _
  | a :: r, i + 1, t, e => Nat.le_trans (nest_le_of (ts := r) (i := i) (by simpa using e)) (Nat.le_max_right _ _)
theorem size_le_of : ∀ {ts : List Ter} {i : Nat} {t : Ter}, ts[i]? = some t → t.size ≤ Ter.sizes ts
  | [], _, _, e => by simp at e
  | a :: r, 0, t, e => by
    simp at e
    subst e
    exact Nat.le_add_right _ _
  | a :: r, i + 1, t, e => Nat.le_trans (size_le_of (ts := r) (i := i) (by simpa using e)) (Nat.le_add_left _ _)

/-! ### data: the kind of a value -/
def kindOf : PyData → String
  | .none => "NoneType"
  | .bool _ => "bool"
  | .int _ => "int"
  | .str _ => "str"
  | .list _ => "list"
  | .tuple _ => "tuple"
  | .dict _ => "dict"
theorem tyx_dp {K : PySem.W.Frag} {H : Hp} {v : V} {x : PyData} (h : Dp K H v x) : TyX K H v (.type (kindOf x)) := by
  cases h with
  | non => exact .base .non
  | bl b => exact .base (.bl b)
  | int i => exact .base (.int i)
  | str y => exact .base (.str y)
  | lst h _ =>
    rcases h with (h | ⟨o, h⟩) | ⟨o, its, n, h, c, _⟩
    · exact .base (.lst h)
    · exact .base (.frz h)
    · exact .kList h c
  | tup h _ =>
    rcases h with (h | ⟨o, h⟩) | ⟨o, its, n, h, c, _⟩
    · exact .base (.tup h)
    · exact .fTuple h
    · exact .kTuple h c
def rIsiDat (K : PySem.W.Frag) : List V → Hp → VK → Prop := fun xs H Q => ∃ (v : V) (x : PyData) (c : String) (b : Bool), xs = [v, .ty c] ∧ Dp K H v x ∧ kitB (kindOf x) c = some b ∧ Q (.bl b) H
theorem call_isiDat {X : Cx} : CallR X (.builtin "isinstance") (rIsiDat X.K) := by
  intro pins s σ H xs us Q I r h
  obtain ⟨v, x, c, b, rfl, h, e, q⟩ := h
  exact call_isi pins s σ H _ us Q I r ⟨v, .ty c, _, _, b, rfl, .ty c, tyx_dp h, kit_ty e, q⟩
theorem Dp.len {K : PySem.W.Frag} {H : Hp} : ∀ {vs : List V} {xs : List PyData}, DpAll K H vs xs → vs.length = xs.length
  | _, _, .nil => rfl
  | _, _, .cons _ t => congrArg (· + 1) (Dp.len t)
theorem Dp.get {K : PySem.W.Frag} {H : Hp} : ∀ {vs : List V} {xs : List PyData} {i : Nat} {v : V}, DpAll K H vs xs → vs[i]? = some v → ∃ x, xs[i]? = some x ∧ Dp K H v x
  | _, _, _, _, .nil, e => by simp at e
  | _, _, 0, _, .cons a r, e => by
    simp at e
    subst e
    exact ⟨_, rfl, a⟩
  | _, _, i + 1, v, .cons a r, e => by
    obtain ⟨t, h1, h2⟩ := Dp.get (i := i) (v := v) r (by simpa using e)
    exact ⟨t, by simpa using h1, h2⟩
theorem depth_le_of : ∀ {xs : List PyData} {i : Nat} {x : PyData}, xs[i]? = some x → x.depth ≤ PyData.depthAll xs
  | [], _, _, e => by simp at e
  | a :: r, 0, t, e => by
    simp at e
    subst e
    exact Nat.le_max_left _ _
  | a :: r, i + 1, t, e => Nat.le_trans (depth_le_of (xs := r) (i := i) (by simpa using e)) (Nat.le_max_right _ _)
mutual
theorem Dp.same {K : PySem.W.Frag} {H H' : Hp} (m : Same H H') : ∀ (x : PyData) (v : V), Dp K H v x → Dp K H' v x
  | .none, _, h => by cases h; exact .non
  | .bool b, _, h => by cases h; exact .bl b
  | .int i, _, h => by cases h; exact .int i
  | .str x, _, h => by cases h; exact .str x
  | .list ds, _, h => by
    cases h with
    | lst e hs => exact .lst (m.seq e) (Dp.sameA m ds _ hs)
  | .tuple ds, _, h => by
    cases h with
    | tup e hs =>
      refine .tup ?_ (Dp.sameA m ds _ hs)
      rcases e with (e | ⟨o, e⟩) | e
      · exact .inl (.inl (m _ _ e))
      · exact .inl (.inr ⟨o, m _ _ e⟩)
      · exact .inr e
  | .dict _, _, h => by cases h
theorem Dp.sameA {K : PySem.W.Frag} {H H' : Hp} (m : Same H H') : ∀ (xs : List PyData) (vs : List V), DpAll K H vs xs → DpAll K H' vs xs
  | [], _, h => by cases h; exact .nil
  | x :: xs, _, h => by
    cases h with
    | cons a r => exact .cons (Dp.same m x _ a) (Dp.sameA m xs _ r)
end
def isTupD : PyData → Bool
  | .tuple _ => true
  | _ => false
def isListD : PyData → Bool
  | .list _ => true
  | _ => false
def isBoolD : PyData → Bool
  | .bool _ => true
  | _ => false
def isIntD : PyData → Bool
  | .bool _ => true
  | .int _ => true
  | _ => false
def isStrD : PyData → Bool
  | .str _ => true
  | _ => false
theorem k_tup (x : PyData) : kitB (kindOf x) "tuple" = some (isTupD x) := by
  cases x <;> (unfold kindOf isTupD; dsimp only; decide +kernel)
theorem k_list (x : PyData) : kitB (kindOf x) "list" = some (isListD x) := by
  cases x <;> (unfold kindOf isListD; dsimp only; decide +kernel)
theorem k_bool (x : PyData) : kitB (kindOf x) "bool" = some (isBoolD x) := by
  cases x <;> (unfold kindOf isBoolD; dsimp only; decide +kernel)
theorem k_int (x : PyData) : kitB (kindOf x) "int" = some (isIntD x) := by
  cases x <;> (unfold kindOf isIntD; dsimp only; decide +kernel)
theorem k_str (x : PyData) : kitB (kindOf x) "str" = some (isStrD x) := by
  cases x <;> (unfold kindOf isStrD; dsimp only; decide +kernel)
/-- nested less than n deep, no dict, no item too long -/
def fitsD : Nat → PyData → Prop
  | 0, _ => False
  | n + 1, .list ds => ds.length ≤ 1000000 ∧ ∀ d ∈ ds, fitsD n d
  | n + 1, .tuple ds => ds.length ≤ 1000000 ∧ ∀ d ∈ ds, fitsD n d
  | _ + 1, .dict _ => False
  | _ + 1, _ => True
/-- a[i], a a list or a tuple -/
def rIxLT (K : PySem.W.Frag) : R2 := fun x y H Q => ∃ (p : Addr) (xs : List V) (i : Int) (v : V), x = .ref p ∧ y = .int i ∧ (SqL K H p xs ∨ SqT K H p xs) ∧ atI xs i = some v ∧ Q v H
theorem ix_lt {X : Cx} : IxR X (rIxLT X.K) := by
  intro value slice pins s σ H x y v u Q I rx ry h hs
  obtain ⟨p, xs, i, z, ex, ey, h, e, q⟩ := h
  rcases h with h | h
  · exact ix_list value slice pins s σ H x y v u Q I rx ry ⟨p, xs, i, z, ex, ey, h, e, q⟩ hs
  · exact ix_tup value slice pins s σ H x y v u Q I rx ry ⟨p, xs, i, z, ex, ey, h, e, q⟩ hs
theorem dp_ints {K : PySem.W.Frag} {H : Hp} : ∀ ns : List Int, DpAll K H (ns.map V.int) (ns.map PyData.int)
  | [] => .nil
  | n :: r => .cons (.int n) (dp_ints r)
end Own
namespace Own
open PySem PySem.Spec PyProof.Rows L2 RT HT

def isNum : Key → Prop
  | .inl _ => True
  | .inr _ => False
theorem addK_all {R : Key → Prop} {acc : List Key} {k : Key} (h : ∀ x ∈ acc, R x) (hk : R k) : ∀ x ∈ addK acc k, R x := by
  unfold addK
  split
  · exact h
  · intro x hx
    rcases List.mem_append.mp hx with hx | hx
    · exact h x hx
    · rw [List.mem_singleton.mp hx]; exact hk
mutual
theorem into_all {W : Str → Nat → Prop} {U R : Key → Prop} (ur : ∀ k, U k → R k) : ∀ (t : Ter) (acc : List Key), t.wf W U → (∀ x ∈ acc, R x) → ∀ x ∈ Ter.into acc t, R x
  | .var k, acc, h, a => addK_all a (ur k h)
  | .ap f as, acc, h, a => intos_all ur as acc h.2 a
theorem intos_all {W : Str → Nat → Prop} {U R : Key → Prop} (ur : ∀ k, U k → R k) : ∀ (ts : List Ter) (acc : List Key), Ter.wfs W U ts → (∀ x ∈ acc, R x) → ∀ x ∈ Ter.intos acc ts, R x
  | [], _, _, a => a
  | t :: r, acc, h, a => intos_all ur r _ h.2 (into_all ur t acc h.1 a)
end
/-- a key as data -/
def kD : Key → PyData
  | .inl i => .int i
  | .inr x => .str x
def keyFine : Key → Prop
  | .inl _ => True
  | .inr x => PyData.strOk x = true
theorem dp_keys {K : PySem.W.Frag} {H : Hp} : ∀ ks : List Key, DpAll K H (ks.map kV) (ks.map kD)
  | [] => .nil
  | .inl i :: r => .cons (.int i) (dp_keys r)
  | .inr x :: r => .cons (.str x) (dp_keys r)
theorem lay_keys : ∀ ks : List Key, (∀ k ∈ ks, keyFine k) → PyData.canLayAll0 (ks.map kD) = true ∧ PyData.depthAll (ks.map kD) = 0
  | [], _ => ⟨rfl, rfl⟩
  | .inl i :: r, h => by
    obtain ⟨h1, h2⟩ := lay_keys r fun k hk => h k (List.mem_cons_of_mem _ hk)
    exact ⟨by show (true && PyData.canLayAll0 (r.map kD)) = true; rw [h1]; rfl, by show max 0 (PyData.depthAll (r.map kD)) = 0; rw [h2]; rfl⟩
  | .inr x :: r, h => by
    obtain ⟨h1, h2⟩ := lay_keys r fun k hk => h k (List.mem_cons_of_mem _ hk)
    have hx : PyData.strOk x = true := h (.inr x) List.mem_cons_self
    exact ⟨by show (PyData.strOk x && PyData.canLayAll0 (r.map kD)) = true; rw [h1, hx]; rfl, by show max 0 (PyData.depthAll (r.map kD)) = 0; rw [h2]; rfl⟩
theorem shaped_keys {ks : List Key} (h : ∀ k ∈ ks, keyFine k) : SeqAt.shaped (.list (ks.map kD)) = true := by
  obtain ⟨h1, h2⟩ := lay_keys ks h
  show (PyData.canLayAll0 (ks.map kD) && decide (PyData.depthAll (ks.map kD) + 1 ≤ 64)) = true
  rw [h1, h2]
  rfl
theorem eqv_nil (ks : List Key) : PyData.eqv (.list (ks.map kD)) (.list []) = decide (ks = []) := by
  cases ks with
  | nil => rfl
  | cons a r => exact (decide_eq_false (by simp)).symm
theorem num_fine (k : Key) (h : numVar k) : keyFine k := by
  obtain ⟨r, rfl, _⟩ := h
  exact trivial
end Own
namespace Own
open PySem PySem.Spec PyProof.Rows L2 RT HT

theorem kV_inj {a b : Key} (h : kV a = kV b) : a = b := by
  cases a <;> cases b <;> simp [kV] at h <;> simp [h]
theorem flat_keys (ks : List Key) : (ks.map kV).all flatV = true := by
  rw [List.all_map, List.all_eq_true]
  intro k _
  cases k <;> rfl
theorem eqV_key (a b : Key) : eqV (kV a) (kV b) = decide (a = b) := by
  cases a with
  | inl i =>
    cases b with
    | inl j =>
      rw [key_ll]
      rfl
    | inr y => rw [key_lr]; rfl
  | inr x =>
    cases b with
    | inl j => rw [key_rl]; rfl
    | inr y =>
      rw [key_rr]
      show (x == y) = decide (x = y)
      rfl
theorem inV_key (k : Key) (ks : List Key) : inV (kV k) (ks.map kV) = hasK ks k := by
  unfold inV hasK
  rw [List.any_map]
  congr 1
  funext x
  exact eqV_key x k
theorem flat_key (k : Key) : flatV (kV k) = true := by cases k <;> rfl
/-- keys put in one by one -/
def addKs (acc : List Key) (ks : List Key) : List Key := ks.foldl addK acc
theorem hasK_addK (acc : List Key) (k x : Key) : hasK (addK acc k) x = (hasK acc x || decide (k = x)) := by
  unfold addK
  by_cases h : hasK acc k = true
  · rw [if_pos h]
    by_cases e : k = x
    · subst e
      rw [h, Bool.true_or]
    · rw [decide_eq_false e, Bool.or_false]
  · rw [if_neg h]
    unfold hasK
    rw [List.any_append]
    simp
theorem hasK_addKs : ∀ (ks acc : List Key) (x : Key), hasK (addKs acc ks) x = (hasK acc x || hasK ks x)
  | [], acc, x => by show hasK acc x = (hasK acc x || false); rw [Bool.or_false]
  | k :: r, acc, x => by
    show hasK (addKs (addK acc k) r) x = _
    rw [hasK_addKs r, hasK_addK, Bool.or_assoc]
    rfl
theorem addKs_addK (acc b : List Key) (k : Key) : addKs acc (addK b k) = addK (addKs acc b) k := by
  by_cases h : hasK b k = true
  · have e : addK b k = b := by unfold addK; rw [if_pos h]
    have h2 : hasK (addKs acc b) k = true := by rw [hasK_addKs, h, Bool.or_true]
    rw [e]
    unfold addK
    rw [if_pos h2]
  · have e : addK b k = b ++ [k] := by unfold addK; rw [if_neg h]
    rw [e]
    unfold addKs
    rw [List.foldl_append]
    rfl
mutual
theorem addKs_into (acc : List Key) : ∀ (t : Ter) (b : List Key), addKs acc (Ter.into b t) = Ter.into (addKs acc b) t
  | .var k, b => addKs_addK acc b k
  | .ap _ as, b => addKs_intos acc as b
theorem addKs_intos (acc : List Key) : ∀ (ts : List Ter) (b : List Key), addKs acc (Ter.intos b ts) = Ter.intos (addKs acc b) ts
  | [], _ => rfl
  | t :: r, b => by
    show addKs acc (Ter.intos (Ter.into b t) r) = _
    rw [addKs_intos acc r, addKs_into acc t]
    rfl
end
theorem into_met (acc : List Key) (t : Ter) : addKs acc t.vars = Ter.into acc t := addKs_into acc t []
theorem intos_snoc (acc : List Key) (as : List Ter) (t : Ter) : Ter.intos acc (as ++ [t]) = Ter.into (Ter.intos acc as) t := by
  rw [intos_app]
  rfl
mutual
theorem into_len : ∀ (t : Ter) (acc : List Key), (Ter.into acc t).length ≤ acc.length + t.size
  | .var k, acc => addK_len acc k
  | .ap _ as, acc => Nat.le_trans (intos_len as acc) (by show _ ≤ acc.length + (Ter.sizes as + 1); omega)
theorem intos_len : ∀ (ts : List Ter) (acc : List Key), (Ter.intos acc ts).length ≤ acc.length + Ter.sizes ts
  | [], acc => by show acc.length ≤ acc.length + 0; omega
  | t :: r, acc => by
    have h1 := into_len t acc
    have h2 := intos_len r (Ter.into acc t)
    show (Ter.intos (Ter.into acc t) r).length ≤ acc.length + (t.size + Ter.sizes r)
    omega
end
theorem fits_keys {ks : List Key} (n : Nat) (h : ks.length ≤ 1000000) : fitsD (n + 2) (.list (ks.map kD)) := by
  refine ⟨by rw [List.length_map]; exact h, fun d hd => ?_⟩
  obtain ⟨k, _, rfl⟩ := List.mem_map.mp hd
  cases k <;> exact trivial
/-- xs.pop(i) etc. read the list at its place; t[0] of an application -/
theorem head_at {f : V} {xs : List V} : atI (f :: xs) 0 = some f := atI_nat (j := 0) rfl
end Own
namespace Own
open PySem PySem.Spec PyProof.Rows L2 RT HT

/-! ### texts -/
theorem strE {a b : Str} (h : a.cps.toList = b.cps.toList) : a = b := by
  cases a with
  | mk x =>
    cases b with
    | mk y => exact congrArg Str.mk (Array.toList_inj.mp h)
theorem sApp (a b c : Str) : (a ++ b) ++ c = a ++ (b ++ c) := strE (by simp only [app_cps, List.append_assoc])
theorem sEmp (a : Str) : Str.empty ++ a = a := strE (by rw [app_cps]; rfl)
theorem eqS {a b : Str} {A B : Prop} (h : (a == b) = true) (k : A) : if decide (V.str a = V.str b) = true then A else B := by
  rw [dec_str, h]
  exact iteT k
theorem neS {a b : Str} {A B : Prop} (h : (a == b) = false) (k : B) : if decide (V.str a = V.str b) = true then A else B := by
  rw [dec_str, h]
  exact iteF k

/-! ### terms as data -/
mutual
def Ter.dat : Ter → PyData
  | .var k => kD k
  | .ap f as => .tuple (.str f :: Ter.dats as)
def Ter.dats : List Ter → List PyData
  | [] => []
  | a :: r => a.dat :: Ter.dats r
end
mutual
theorem dp_ter {K : PySem.W.Frag} {H : Hp} : ∀ (t : Ter) (v : V), TmAt H v t → Dp K H v t.dat
  | .var k, _, h => by
    cases h with
    | int i => exact .int i
    | str x => exact .str x
  | .ap f as, _, h => by
    cases h with
    | ap e hs => exact .tup (.inl (.inl e)) (.cons (.str f) (dp_ters as _ hs))
theorem dp_ters {K : PySem.W.Frag} {H : Hp} : ∀ (ts : List Ter) (vs : List V), TmAll H vs ts → DpAll K H vs (Ter.dats ts)
  | [], _, h => by cases h; exact .nil
  | t :: r, _, h => by
    cases h with
    | cons a b => exact .cons (dp_ter t _ a) (dp_ters r _ b)
end
def symFine (f : Str) (_ : Nat) : Prop := PyData.strOk f = true
mutual
theorem lay_ter : ∀ t : Ter, t.wf symFine keyFine → PyData.canLay0 t.dat = true ∧ PyData.depth t.dat ≤ t.nest
  | .var (.inl _), _ => ⟨rfl, Nat.zero_le _⟩
  | .var (.inr x), h => ⟨h, Nat.zero_le _⟩
  | .ap f as, h => by
    obtain ⟨h1, h2⟩ := lay_ters as h.2
    refine ⟨?_, ?_⟩
    · show (PyData.strOk f && PyData.canLayAll0 (Ter.dats as)) = true
      rw [show PyData.strOk f = true from h.1, h1]
      rfl
    · show max 0 (PyData.depthAll (Ter.dats as)) + 1 ≤ Ter.nests as + 1
      omega
theorem lay_ters : ∀ ts : List Ter, Ter.wfs symFine keyFine ts → PyData.canLayAll0 (Ter.dats ts) = true ∧ PyData.depthAll (Ter.dats ts) ≤ Ter.nests ts
  | [], _ => ⟨rfl, Nat.le_refl _⟩
  | t :: r, h => by
    obtain ⟨h1, h2⟩ := lay_ter t h.1
    obtain ⟨h3, h4⟩ := lay_ters r h.2
    refine ⟨?_, ?_⟩
    · show (PyData.canLay0 t.dat && PyData.canLayAll0 (Ter.dats r)) = true
      rw [h1, h3]
      rfl
    · show max t.dat.depth (PyData.depthAll (Ter.dats r)) ≤ max t.nest (Ter.nests r)
      omega
end
theorem shaped_ter {t : Ter} (h : t.wf symFine keyFine) (n : t.nest ≤ 64) : SeqAt.shaped t.dat = true := by
  obtain ⟨h1, h2⟩ := lay_ter t h
  unfold SeqAt.shaped
  rw [h1, decide_eq_true (Nat.le_trans h2 n)]
  rfl
mutual
theorem wf_mono {W W' : Str → Nat → Prop} {U U' : Key → Prop} (w : ∀ f n, W f n → W' f n) (u : ∀ k, U k → U' k) : ∀ t : Ter, t.wf W U → t.wf W' U'
  | .var k, h => u k h
  | .ap f as, h => ⟨w f _ h.1, wfs_mono w u as h.2⟩
theorem wfs_mono {W W' : Str → Nat → Prop} {U U' : Key → Prop} (w : ∀ f n, W f n → W' f n) (u : ∀ k, U k → U' k) : ∀ ts : List Ter, Ter.wfs W U ts → Ter.wfs W' U' ts
  | [], _ => trivial
  | t :: r, h => ⟨wf_mono w u t h.1, wfs_mono w u r h.2⟩
end
theorem wordok_str {x : Str} (h : WordOk x) : PyData.strOk x = true := by
  have a := h.all
  unfold PyData.strOk
  rw [← Array.all_toList, List.all_eq_true]
  intro c hc
  have q := List.all_eq_true.mp a c hc
  unfold chOk at q
  simp only [Bool.or_eq_true, Bool.and_eq_true, decide_eq_true_eq] at q
  exact decide_eq_true (by omega)
def trueT : Ter := .ap "true" []
def isTrueT (t : Ter) : Bool := PyData.eqv t.dat trueT.dat

/-! ### the written form of terms -/
/-- what may be written: short words, small numbers -/
def shSym (f : Str) (_ : Nat) : Prop := f.length ≤ 40 ∧ PyData.strOk f = true
def shKey : Key → Prop
  | .inl r => 0 ≤ r ∧ r < 900
  | .inr x => x.length ≤ 40 ∧ PyData.strOk x = true
theorem sh_fine : ∀ t : Ter, t.wf shSym shKey → t.wf symFine keyFine := wf_mono (fun _ _ h => h.2) (fun k h => by
  cases k with
  | inl r => trivial
  | inr x => exact h.2)
mutual
def showT : Ter → Str
  | .var (.inl i) => ("X" : Str) ++ (toString i : String)
  | .var (.inr x) => x
  | .ap f [] => f
  | .ap f (a :: r) => f ++ (("(" : Str) ++ (Txt.join "," (showTs (a :: r)) ++ (")" : Str)))
def showTs : List Ter → List Str
  | [] => []
  | a :: r => showT a :: showTs r
end
theorem showTs_len : ∀ ts : List Ter, (showTs ts).length = ts.length
  | [] => rfl
  | _ :: r => congrArg (· + 1) (showTs_len r)
theorem showTs_app : ∀ as bs : List Ter, showTs (as ++ bs) = showTs as ++ showTs bs
  | [], _ => rfl
  | a :: r, bs => congrArg (showT a :: ·) (showTs_app r bs)
theorem num_len (r : Int) (h0 : 0 ≤ r) (h1 : r < 900) : ((toString r : String) : Str).length ≤ 4 := by
  have a : ∀ r : Fin 900, (((toString ((r.val : Nat) : Int)) : String) : Str).length ≤ 4 := by decide +kernel
  have e : r = ((r.toNat : Nat) : Int) := by omega
  rw [e]
  exact a ⟨r.toNat, by omega⟩
end Own
namespace Own
open PySem PySem.Spec PyProof.Rows L2 RT HT

def tlen (ys : List Str) : Nat := (ys.map (·.length)).sum
theorem tlen_cons (y : Str) (ys : List Str) : tlen (y :: ys) = y.length + tlen ys := by
  unfold tlen
  rw [List.map_cons, List.sum_cons]
theorem join_len (sep : Str) : ∀ ys : List Str, (Txt.join sep ys).length ≤ tlen ys + ys.length * sep.length
  | [] => by rw [TL.join_eq]; exact Nat.zero_le _
  | [x] => by
    rw [TL.join_eq, tlen_cons]
    show x.length ≤ _
    omega
  | x :: y :: r => by
    have ih := join_len sep (y :: r)
    rw [TL.join_eq] at ih ⊢
    show (x ++ sep ++ Str.join sep (y :: r)).length ≤ _
    rw [app_len, app_len, tlen_cons, List.length_cons, Nat.succ_mul]
    omega
theorem len1 : ("X" : Str).length = 1 ∧ ("(" : Str).length = 1 ∧ (")" : Str).length = 1 ∧ ("," : Str).length = 1 := by decide +kernel
mutual
theorem showT_len : ∀ t : Ter, t.wf shSym shKey → (showT t).length + 1 ≤ 60 * t.size
  | .var (.inl i), h => by
    have q := num_len i h.1 h.2
    show (("X" : Str) ++ (toString i : String)).length + 1 ≤ 60
    rw [app_len, len1.1]
    omega
  | .var (.inr x), h => by
    have q : x.length ≤ 40 := h.1
    show x.length + 1 ≤ 60
    omega
  | .ap f [], h => by
    have q : f.length ≤ 40 := h.1.1
    show f.length + 1 ≤ 60
    omega
  | .ap f (a :: r), h => by
    have q : f.length ≤ 40 := h.1.1
    have q2 := showTs_len2 (a :: r) h.2
    have q3 := join_len "," (showTs (a :: r))
    rw [showTs_len, len1.2.2.2] at q3
    show (f ++ (("(" : Str) ++ (Txt.join "," (showTs (a :: r)) ++ (")" : Str)))).length + 1 ≤ 60 * (Ter.sizes (a :: r) + 1)
    rw [app_len, app_len, app_len, len1.2.1, len1.2.2.1]
    omega
theorem showTs_len2 : ∀ ts : List Ter, Ter.wfs shSym shKey ts → tlen (showTs ts) + ts.length ≤ 60 * Ter.sizes ts
  | [], _ => Nat.le_refl _
  | t :: r, h => by
    have q1 := showT_len t h.1
    have q2 := showTs_len2 r h.2
    show tlen (showT t :: showTs r) + (r.length + 1) ≤ 60 * (t.size + Ter.sizes r)
    rw [tlen_cons]
    omega
end
/-! ### literals -/
def showL (b : Bool) (l r : Ter) : Str :=
  if isTrueT r = true then (if b = true then showT l else ("~" : Str) ++ showT l) else showT l ++ ((if b = true then (" = " : Str) else (" != " : Str)) ++ showT r)
def Lit := Bool × Ter × Ter
def Lit.ok (x : Lit) : Prop := x.2.1.wf shSym shKey ∧ x.2.2.wf shSym shKey ∧ x.2.1.nest ≤ 60 ∧ x.2.2.nest ≤ 60 ∧ x.2.1.size ≤ 1000 ∧ x.2.2.size ≤ 1000
inductive LitAt (H : Hp) : V → Lit → Prop
  | mk {p : Addr} {b : Bool} {x y : V} {l r : Ter} : H p = some (.tup [.bl b, x, y]) → TmAt H x l → TmAt H y r → LitAt H (.ref p) (b, l, r)
theorem LitAt.mono {H H' : Hp} (m : Tups H H') {v : V} {x : Lit} (h : LitAt H v x) : LitAt H' v x := by
  cases h with
  | mk e a b => exact .mk (m _ _ e) (TmAt.mono m _ _ a) (TmAt.mono m _ _ b)
inductive LitAll (H : Hp) : List V → List Lit → Prop
  | nil : LitAll H [] []
  | cons {v : V} {vs : List V} {x : Lit} {xs : List Lit} : LitAt H v x → LitAll H vs xs → LitAll H (v :: vs) (x :: xs)
theorem LitAll.mono {H H' : Hp} (m : Tups H H') : ∀ {vs : List V} {xs : List Lit}, LitAll H vs xs → LitAll H' vs xs
  | _, _, .nil => .nil
  | _, _, .cons a r => .cons (a.mono m) (r.mono m)
theorem LitAll.app {H : Hp} : ∀ {vs ws : List V} {xs ys : List Lit}, LitAll H vs xs → LitAll H ws ys → LitAll H (vs ++ ws) (xs ++ ys)
  | _, _, _, _, .nil, h => h
  | _, _, _, _, .cons a r, h => .cons a (r.app h)
theorem LitAll.len {H : Hp} : ∀ {vs : List V} {xs : List Lit}, LitAll H vs xs → vs.length = xs.length
  | _, _, .nil => rfl
  | _, _, .cons _ t => congrArg (· + 1) t.len
theorem LitAll.get {H : Hp} : ∀ {vs : List V} {xs : List Lit} {i : Nat} {v : V}, LitAll H vs xs → vs[i]? = some v → ∃ x, xs[i]? = some x ∧ LitAt H v x
  | _, _, _, _, .nil, e => by simp at e
  | _, _, 0, _, .cons a r, e => by
    simp at e
    subst e
    exact ⟨_, rfl, a⟩
  | _, _, i + 1, v, .cons a r, e => by
    obtain ⟨t, h1, h2⟩ := LitAll.get (i := i) (v := v) r (by simpa using e)
    exact ⟨t, by simpa using h1, h2⟩
def showC (c : List Lit) : List Str := c.map fun x => showL x.1 x.2.1 x.2.2
theorem showL_len {b : Bool} {l r : Ter} (h1 : l.wf shSym shKey) (h2 : r.wf shSym shKey) (s1 : l.size ≤ 1000) (s2 : r.size ≤ 1000) : (showL b l r).length ≤ 200000 := by
  have q1 := showT_len l h1
  have q2 := showT_len r h2
  have z1 : ("~" : Str).length = 1 := by decide +kernel
  have z2 : (" = " : Str).length = 3 := by decide +kernel
  have z3 : (" != " : Str).length = 4 := by decide +kernel
  unfold showL
  split
  · split
    · omega
    · rw [app_len, z1]; omega
  · rw [app_len, app_len]
    split
    · rw [z2]; omega
    · rw [z3]; omega
/-! ### formulas -/
inductive Op | and | or | imp | iff
def Op.word : Op → Str
  | .and => "and"
  | .or => "or"
  | .imp => "implies"
  | .iff => "iff"
def Op.sign : Op → Str
  | .and => "&"
  | .or => "|"
  | .imp => "->"
  | .iff => "<->"
def qWord (a : Bool) : Str := if a = true then "all" else "some"
inductive Fm where
  | tt (b : Bool)
  | eq (l r : Ter)
  | neg (f : Fm)
  | bin (o : Op) (f g : Fm)
  | qu (a : Bool) (x : Str) (f : Fm)
def Fm.ter : Fm → Ter
  | .tt b => .ap (if b = true then "true" else "false") []
  | .eq l r => .ap "equal" [l, r]
  | .neg f => .ap "not" [f.ter]
  | .bin o f g => .ap o.word [f.ter, g.ter]
  | .qu a x f => .ap (qWord a) [.var (.inr x), f.ter]
def Fm.high : Fm → Nat
  | .tt _ => 1
  | .eq _ _ => 1
  | .neg f => f.high + 1
  | .bin _ f g => max f.high g.high + 1
  | .qu _ _ f => f.high + 1
def Fm.all (R : Ter → Prop) (S : Str → Prop) : Fm → Prop
  | .tt _ => True
  | .eq l r => R l ∧ R r
  | .neg f => f.all R S
  | .bin _ f g => f.all R S ∧ g.all R S
  | .qu _ x f => S x ∧ f.all R S
def showF : Fm → Str
  | .tt b => if b = true then "true" else "false"
  | .eq l r => showL true l r
  | .neg (.eq l r) => showL false l r
  | .neg f => ("~" : Str) ++ showF f
  | .bin o f g => ("(" : Str) ++ (showF f ++ ((" " : Str) ++ (o.sign ++ ((" " : Str) ++ (showF g ++ (")" : Str))))))
  | .qu a x f => ("(" : Str) ++ (qWord a ++ ((" " : Str) ++ (x ++ ((": " : Str) ++ (showF f ++ (")" : Str))))))
end Own
namespace Own
open PySem PySem.Spec PyProof.Rows L2 RT HT

def fmTer (t : Ter) : Prop := t.wf shSym shKey ∧ t.nest ≤ 60 ∧ t.size ≤ 200
def fmStr (x : Str) : Prop := x.length ≤ 40
theorem showL_len2 {b : Bool} {l r : Ter} (h1 : l.wf shSym shKey) (h2 : r.wf shSym shKey) (s1 : l.size ≤ 200) (s2 : r.size ≤ 200) : (showL b l r).length ≤ 25000 := by
  have q1 := showT_len l h1
  have q2 := showT_len r h2
  have z1 : ("~" : Str).length = 1 := by decide +kernel
  have z2 : (" = " : Str).length = 3 := by decide +kernel
  have z3 : (" != " : Str).length = 4 := by decide +kernel
  unfold showL
  split
  · split
    · omega
    · rw [app_len, z1]; omega
  · rw [app_len, app_len]
    split
    · rw [z2]; omega
    · rw [z3]; omega
theorem lens : ("(" : Str).length = 1 ∧ (")" : Str).length = 1 ∧ (" " : Str).length = 1 ∧ (": " : Str).length = 2 ∧ ("~" : Str).length = 1 := by decide +kernel
theorem sign_len (o : Op) : o.sign.length ≤ 3 := by cases o <;> decide +kernel
theorem q_len (a : Bool) : (qWord a).length ≤ 4 := by cases a <;> decide +kernel
theorem two_max (a b : Nat) : 2 ^ a ≤ 2 ^ max a b ∧ 2 ^ b ≤ 2 ^ max a b := ⟨Nat.pow_le_pow_right (by decide) (Nat.le_max_left _ _), Nat.pow_le_pow_right (by decide) (Nat.le_max_right _ _)⟩
theorem showF_len : ∀ f : Fm, f.all fmTer fmStr → (showF f).length + 60 ≤ 25100 * 2 ^ f.high
  | .tt b, _ => by
    show (if b = true then ("true" : Str) else "false").length + 60 ≤ 25100 * 2 ^ 1
    have z1 : ("true" : Str).length = 4 := by decide +kernel
    have z2 : ("false" : Str).length = 5 := by decide +kernel
    split <;> omega
  | .eq l r, h => by
    have q := showL_len2 (b := true) h.1.1 h.2.1 h.1.2.2 h.2.2.2
    show (showL true l r).length + 60 ≤ 25100 * 2 ^ 1
    omega
  | .neg (.eq l r), h => by
    have q := showL_len2 (b := false) h.1.1 h.2.1 h.1.2.2 h.2.2.2
    show (showL false l r).length + 60 ≤ 25100 * 2 ^ 2
    omega
  | .neg (.tt b), h => neg_len (.tt b) (showF_len (.tt b) h)
  | .neg (.neg f), h => neg_len (.neg f) (showF_len (.neg f) h)
  | .neg (.bin o f g), h => neg_len (.bin o f g) (showF_len (.bin o f g) h)
  | .neg (.qu a x f), h => neg_len (.qu a x f) (showF_len (.qu a x f) h)
  | .bin o f g, h => by
    have q1 := showF_len f h.1
    have q2 := showF_len g h.2
    obtain ⟨z1, z2, z3, z4, z5⟩ := lens
    have z6 := sign_len o
    obtain ⟨m1, m2⟩ := two_max f.high g.high
    show (("(" : Str) ++ (showF f ++ ((" " : Str) ++ (o.sign ++ ((" " : Str) ++ (showF g ++ (")" : Str))))))).length + 60 ≤ 25100 * 2 ^ (max f.high g.high + 1)
    rw [app_len, app_len, app_len, app_len, app_len, app_len, Nat.pow_succ]
    omega
  | .qu a x f, h => by
    have q1 := showF_len f h.2
    have q2 : x.length ≤ 40 := h.1
    obtain ⟨z1, z2, z3, z4, z5⟩ := lens
    have z6 := q_len a
    have p : 1 ≤ 2 ^ f.high := Nat.one_le_two_pow
    show (("(" : Str) ++ (qWord a ++ ((" " : Str) ++ (x ++ ((": " : Str) ++ (showF f ++ (")" : Str))))))).length + 60 ≤ 25100 * 2 ^ (f.high + 1)
    rw [app_len, app_len, app_len, app_len, app_len, app_len, Nat.pow_succ]
    omega
where
  neg_len (f : Fm) (h : (showF f).length + 60 ≤ 25100 * 2 ^ f.high) : (("~" : Str) ++ showF f).length + 60 ≤ 25100 * 2 ^ (f.high + 1) := by
    obtain ⟨z1, z2, z3, z4, z5⟩ := lens
    have p : 1 ≤ 2 ^ f.high := Nat.one_le_two_pow
    rw [app_len, Nat.pow_succ]
    omega
def Fm.isEq : Fm → Bool
  | .eq _ _ => true
  | _ => false
theorem showF_neg {f : Fm} (h : f.isEq = false) : showF (.neg f) = ("~" : Str) ++ showF f := by
  cases f with
  | eq l r => cases h
  | _ => rfl
theorem zB {n : Nat} (h : n ≤ 16000000) : n ≤ sizeLine := Nat.le_trans h (by decide)
def Fm.head : Fm → Str
  | .tt b => if b = true then "true" else "false"
  | .eq _ _ => "equal"
  | .neg _ => "not"
  | .bin o _ _ => o.word
  | .qu a _ _ => qWord a
def Fm.tail : Fm → List Ter
  | .tt _ => []
  | .eq l r => [l, r]
  | .neg f => [f.ter]
  | .bin _ f g => [f.ter, g.ter]
  | .qu _ x f => [.var (.inr x), f.ter]
theorem fm_ter (f : Fm) : f.ter = .ap f.head f.tail := by cases f <;> rfl
theorem fm_at {H : Hp} {v : V} {f : Fm} (h : TmAt H v f.ter) : ∃ a xs, v = .ref a ∧ H a = some (.tup (.str f.head :: xs)) ∧ TmAll H xs f.tail := by
  rw [fm_ter] at h
  cases h with
  | ap e hs => exact ⟨_, _, rfl, e, hs⟩
theorem headN {f : Fm} {s : Str} {b : Bool} (w : Str) (h : f.head = w) (d : (w == s) = b) : (f.head == s) = b := by
  rw [h]
  exact d
theorem head_eq (f : Fm) : (f.head == ("equal" : Str)) = f.isEq := by
  cases f with
  | tt b => cases b <;> decide +kernel
  | eq l r => exact headN (b := true) "equal" rfl (by decide +kernel)
  | neg f => exact headN (b := false) "not" rfl (by decide +kernel)
  | bin o f g => exact headN (b := false) o.word rfl (by cases o <;> decide +kernel)
  | qu a x f => exact headN (b := false) (qWord a) rfl (by cases a <;> decide +kernel)
theorem all_two {H : Hp} {xs : List V} {a b : Ter} (h : TmAll H xs [a, b]) : ∃ x y, xs = [x, y] ∧ TmAt H x a ∧ TmAt H y b := by
  cases h with
  | cons h1 h2 =>
    cases h2 with
    | cons h3 h4 =>
      cases h4
      exact ⟨_, _, rfl, h1, h3⟩
theorem all_one {H : Hp} {xs : List V} {a : Ter} (h : TmAll H xs [a]) : ∃ x, xs = [x] ∧ TmAt H x a := by
  cases h with
  | cons h1 h2 =>
    cases h2
    exact ⟨_, rfl, h1⟩
theorem all_nil {H : Hp} {xs : List V} (h : TmAll H xs []) : xs = [] := by cases h; rfl
theorem at_1 {x y : V} {zs : List V} : atI (x :: y :: zs) 1 = some y := atI_nat (j := 1) rfl
theorem at_2 {x y z : V} {zs : List V} : atI (x :: y :: z :: zs) 2 = some z := atI_nat (j := 2) rfl
end Own
namespace Own
open PySem PySem.Spec PyProof.Rows L2 RT HT

abbrev NAMES5 : List Str := ["X", "Y", "Zeta", "X1", "W_0"]
def nameVar (k : Key) : Prop := ∃ x, k = .inr x ∧ x ∈ NAMES5
theorem name_sh (k : Key) (h : nameVar k) : shKey k := by
  obtain ⟨x, rfl, hx⟩ := h
  have a : ∀ x ∈ NAMES5, x.length ≤ 40 ∧ PyData.strOk x = true := by decide +kernel
  exact a x hx
theorem num_sh (k : Key) (h : numVar k) : shKey k := by
  obtain ⟨r, rfl, h0, h1⟩ := h
  exact ⟨h0, h1⟩
theorem sym_sh {ws : List Str} (hw : Words ws) (f : Str) (n : Nat) (h : symOf ws f n) : shSym f n := by
  obtain ⟨i, _, e, _⟩ := h
  have o := hw.ok f (List.mem_of_getElem? e)
  exact ⟨o.len, wordok_str o⟩
theorem word_sh {ws : List Str} (hw : Words ws) {f : Str} {n : Nat} (h : f ∈ ws) : shSym f n := ⟨(hw.ok f h).len, wordok_str (hw.ok f h)⟩
theorem true_sh : trueT.wf shSym shKey := ⟨⟨by decide +kernel, by decide +kernel⟩, trivial⟩
/-- the law's own joining of a literal -/
theorem joinC (c : List Lit) : showC c = c.map fun x => showL x.1 x.2.1 x.2.2 := rfl
theorem showC_snoc (c : List Lit) (x : Lit) : showC (c ++ [x]) = showC c ++ [showL x.1 x.2.1 x.2.2] := by
  unfold showC
  rw [List.map_append]
  rfl
end Own
namespace Own
open PySem PySem.Spec PyProof.Rows L2 HT
/-! ### terms with the places where they stand, and what a match binds -/
inductive DTer where
  | var (k : Key)
  | ap (p : Addr) (f : Str) (as : List DTer)
def DTer.val : DTer → V
  | .var k => kV k
  | .ap p _ _ => .ref p
mutual
def DTer.ter : DTer → Ter
  | .var k => .var k
  | .ap _ f as => .ap f (DTer.ters as)
def DTer.ters : List DTer → List Ter
  | [] => []
  | a :: r => a.ter :: DTer.ters r
end
mutual
def DAt (H : Hp) : DTer → Prop
  | .var _ => True
  | .ap p f as => H p = some (.tup (.str f :: as.map DTer.val)) ∧ DAts H as
def DAts (H : Hp) : List DTer → Prop
  | [] => True
  | a :: r => DAt H a ∧ DAts H r
end
mutual
theorem DAt.mono {H H' : Hp} (m : Tups H H') : ∀ d : DTer, DAt H d → DAt H' d
  | .var _, _ => trivial
  | .ap p f as, h => ⟨m _ _ h.1, DAts.mono m as h.2⟩
theorem DAts.mono {H H' : Hp} (m : Tups H H') : ∀ ds : List DTer, DAts H ds → DAts H' ds
  | [], _ => trivial
  | a :: r, h => ⟨DAt.mono m a h.1, DAts.mono m r h.2⟩
end
mutual
theorem DAt.tm {H : Hp} : ∀ d : DTer, DAt H d → TmAt H d.val d.ter
  | .var (.inl i), _ => .int i
  | .var (.inr x), _ => .str x
  | .ap p f as, h => .ap h.1 (DAts.tm as h.2)
theorem DAts.tm {H : Hp} : ∀ ds : List DTer, DAts H ds → TmAll H (ds.map DTer.val) (DTer.ters ds)
  | [], _ => .nil
  | a :: r, h => .cons (DAt.tm a h.1) (DAts.tm r h.2)
end
mutual
theorem TmAt.deco {H : Hp} : ∀ (t : Ter) (v : V), TmAt H v t → ∃ d : DTer, d.val = v ∧ d.ter = t ∧ DAt H d
  | .var k, v, h => by
    cases h with
    | int i => exact ⟨.var (.inl i), rfl, rfl, trivial⟩
    | str x => exact ⟨.var (.inr x), rfl, rfl, trivial⟩
  | .ap f as, v, h => by
    cases h with
    | @ap p _ xs _ e hs =>
      obtain ⟨ds, e1, e2, h2⟩ := TmAll.deco as xs hs
      subst e1
      subst e2
      exact ⟨.ap p f ds, rfl, rfl, e, h2⟩
theorem TmAll.deco {H : Hp} : ∀ (ts : List Ter) (vs : List V), TmAll H vs ts → ∃ ds : List DTer, ds.map DTer.val = vs ∧ DTer.ters ds = ts ∧ DAts H ds
  | [], vs, h => by
    cases h
    exact ⟨[], rfl, rfl, trivial⟩
  | t :: ts, vs, h => by
    cases h with
    | cons a r =>
      obtain ⟨d, e1, e2, h1⟩ := TmAt.deco t _ a
      obtain ⟨ds, e3, e4, h2⟩ := TmAll.deco ts _ r
      subst e1
      subst e2
      subst e3
      subst e4
      exact ⟨d :: ds, rfl, rfl, h1, h2⟩
end
theorem ters_len : ∀ ds : List DTer, (DTer.ters ds).length = ds.length
  | [] => rfl
  | _ :: r => congrArg (· + 1) (ters_len r)
theorem ters_get : ∀ (ds : List DTer) (i : Nat), (DTer.ters ds)[i]? = (ds[i]?).map DTer.ter
  | [], i => by simp [DTer.ters]
  | a :: r, 0 => by simp [DTer.ters]
  | a :: r, i + 1 => by simp [DTer.ters, ters_get r i]
theorem DAts.get {H : Hp} : ∀ {ds : List DTer} {i : Nat} {d : DTer}, DAts H ds → ds[i]? = some d → DAt H d
  | [], _, _, _, e => by simp at e
  | a :: r, 0, d, h, e => by simp at e; exact e ▸ h.1
  | a :: r, i + 1, d, h, e => DAts.get (ds := r) (i := i) h.2 (by simpa using e)
abbrev Bd := List (Key × DTer)
def bKvs (B : Bd) : List (Key × V) := B.map fun e => (e.1, e.2.val)
def look (B : Bd) (k : Key) : Option DTer := (B.find? fun e => decide (e.1 = k)).map (·.2)
theorem look_val : ∀ (B : Bd) (k : Key), valV (bKvs B) k = (look B k).map DTer.val
  | [], k => rfl
  | e :: r, k => by
    by_cases h : e.1 = k
    · rw [show bKvs (e :: r) = (e.1, e.2.val) :: bKvs r from rfl, valV_pos (p := (e.1, e.2.val)) h]
      unfold look
      rw [List.find?_cons, decide_eq_true h]
      rfl
    · rw [show bKvs (e :: r) = (e.1, e.2.val) :: bKvs r from rfl, valV_neg (p := (e.1, e.2.val)) h, look_val r k]
      unfold look
      rw [List.find?_cons, decide_eq_false h]
theorem look_mem {B : Bd} {k : Key} {u : DTer} (h : look B k = some u) : (k, u) ∈ B := by
  unfold look at h
  cases e : B.find? fun e => decide (e.1 = k) with
  | none => rw [e] at h; cases h
  | some p =>
    rw [e] at h
    have h1 := List.find?_some e
    have h2 := List.mem_of_find?_eq_some e
    have h3 : p.1 = k := of_decide_eq_true h1
    have h4 : p.2 = u := Option.some.inj h
    rw [← h3, ← h4]
    exact h2
mutual
def mtch : Ter → DTer → Bd → Bool × Bd
  | .var k, u, B => match look B k with
    | some s => (PyData.eqv s.ter.dat u.ter.dat, B)
    | none => (true, B ++ [(k, u)])
  | .ap g as, u, B => match u with
    | .var _ => (false, B)
    | .ap _ h bs => if g = h ∧ as.length = bs.length then mtchs as bs B else (false, B)
def mtchs : List Ter → List DTer → Bd → Bool × Bd
  | [], _, B => (true, B)
  | a :: as, us, B => match us with
    | [] => (true, B)
    | b :: bs => if (mtch a b B).1 = true then mtchs as bs (mtch a b B).2 else (false, (mtch a b B).2)
end
theorem val_of_mem : ∀ {kvs : List (Key × V)} {e : Key × V}, (kvs.map (·.1)).Nodup → e ∈ kvs → valV kvs e.1 = some e.2
  | [], _, _, h => by cases h
  | p :: r, e, hn, h => by
    have hn : p.1 ∉ r.map (·.1) ∧ (r.map (·.1)).Nodup := List.nodup_cons.mp hn
    rcases List.mem_cons.mp h with rfl | h
    · exact valV_pos rfl
    · have n : ¬ p.1 = e.1 := fun z => hn.1 (z ▸ List.mem_map_of_mem h)
      rw [valV_neg n]
      exact val_of_mem hn.2 h
/-- small symbols of at most two arguments -/
def s7 (f : Str) (n : Nat) : Prop := shSym f n ∧ n ≤ 2
theorem s7_sh : ∀ t : Ter, t.wf s7 numVar → t.wf shSym shKey := wf_mono (fun _ _ h => h.1) (fun k h => by
  obtain ⟨r, rfl, h1, h2⟩ := h
  exact ⟨h1, h2⟩)
structure Gd (H : Hp) (u : DTer) (N : Nat) : Prop where
  at_ : DAt H u
  wf : u.ter.wf s7 numVar
  ne : u.ter.nest ≤ N
theorem Gd.mono {H H' : Hp} {u : DTer} {N : Nat} (g : Gd H u N) (m : Tups H H') : Gd H' u N := ⟨DAt.mono m _ g.at_, g.wf, g.ne⟩
structure BOk (H : Hp) (B : Bd) (N : Nat) : Prop where
  nd : (B.map (·.1)).Nodup
  al : ∀ e ∈ B, (∃ i, e.1 = .inl i ∧ 0 ≤ i) ∧ Gd H e.2 N
theorem BOk.mono {H H' : Hp} {B : Bd} {N : Nat} (g : BOk H B N) (m : Tups H H') : BOk H' B N := ⟨g.nd, fun e h => ⟨(g.al e h).1, (g.al e h).2.mono m⟩⟩
theorem look_none {B : Bd} {k : Key} (h : look B k = none) : k ∉ B.map (·.1) := by
  intro z
  obtain ⟨e, he, h2⟩ := List.mem_map.mp z
  unfold look at h
  cases q : B.find? fun e => decide (e.1 = k) with
  | none =>
    have := List.find?_eq_none.mp q e he
    exact this (decide_eq_true h2)
  | some p => rw [q] at h; cases h
theorem BOk.snoc {H : Hp} {B : Bd} {N : Nat} (g : BOk H B N) {i : Int} (hi : 0 ≤ i) {u : DTer} (hu : Gd H u N) (h : look B (.inl i) = none) : BOk H (B ++ [(.inl i, u)]) N := by
  refine ⟨?_, fun e he => ?_⟩
  · rw [List.map_append]
    exact nd_snoc g.nd (look_none h)
  · rcases List.mem_append.mp he with he | he
    · exact g.al e he
    · rcases List.mem_cons.mp he with rfl | he
      · exact ⟨⟨i, rfl, hi⟩, hu⟩
      · cases he
mutual
theorem mtch_ok {H : Hp} {N : Nat} : ∀ (p : Ter) (u : DTer) (B : Bd), p.wf s7 numVar → Gd H u N → BOk H B N → BOk H (mtch p u B).2 N ∧ (mtch p u B).2.length ≤ B.length + p.size
  | .var k, u, B, hp, hu, hB => by
    obtain ⟨r, rfl, h1, h2⟩ := hp
    unfold mtch
    cases e : look B (.inl r) with
    | some s => exact ⟨hB, Nat.le_add_right _ _⟩
    | none => exact ⟨hB.snoc h1 hu e, by rw [List.length_append]; exact Nat.le_refl _⟩
  | .ap g as, u, B, hp, hu, hB => by
    unfold mtch
    cases u with
    | var k => exact ⟨hB, Nat.le_add_right _ _⟩
    | ap q h bs =>
      show BOk H (if g = h ∧ as.length = bs.length then mtchs as bs B else (false, B)).2 N ∧ (if g = h ∧ as.length = bs.length then mtchs as bs B else (false, B)).2.length ≤ _
      by_cases c : g = h ∧ as.length = bs.length
      · rw [if_pos c]
        have hn : Ter.nests (DTer.ters bs) + 1 ≤ N := hu.ne
        obtain ⟨a, b⟩ := mtchs_ok as bs B hp.2 hu.at_.2 hu.wf.2 (by omega) hB
        exact ⟨a, Nat.le_trans b (Nat.add_le_add_left (Nat.le_succ _) _)⟩
      · rw [if_neg c]
        exact ⟨hB, Nat.le_add_right _ _⟩
theorem mtchs_ok {H : Hp} {N : Nat} : ∀ (ps : List Ter) (us : List DTer) (B : Bd), Ter.wfs s7 numVar ps → DAts H us → Ter.wfs s7 numVar (DTer.ters us) → Ter.nests (DTer.ters us) ≤ N → BOk H B N → BOk H (mtchs ps us B).2 N ∧ (mtchs ps us B).2.length ≤ B.length + Ter.sizes ps
  | [], _, B, _, _, _, _, hB => ⟨hB, Nat.le_add_right _ _⟩
  | a :: as, [], B, _, _, _, _, hB => ⟨hB, Nat.le_add_right _ _⟩
  | a :: as, b :: bs, B, hp, hu, hw, hn, hB => by
    have hn : max b.ter.nest (Ter.nests (DTer.ters bs)) ≤ N := hn
    have z : Ter.sizes (a :: as) = a.size + Ter.sizes as := rfl
    obtain ⟨x, y⟩ := mtch_ok a b B hp.1 ⟨hu.1, hw.1, by omega⟩ hB
    show BOk H (if (mtch a b B).1 = true then mtchs as bs (mtch a b B).2 else (false, (mtch a b B).2)).2 N ∧ (if (mtch a b B).1 = true then mtchs as bs (mtch a b B).2 else (false, (mtch a b B).2)).2.length ≤ _
    by_cases c : (mtch a b B).1 = true
    · rw [if_pos c]
      obtain ⟨x2, y2⟩ := mtchs_ok as bs _ hp.2 hu.2 hw.2 (by omega) x
      exact ⟨x2, by omega⟩
    · rw [if_neg c]
      exact ⟨x, by show (mtch a b B).2.length ≤ _; omega⟩
end
mutual
theorem ter_refl : ∀ t : Ter, PyData.eqv t.dat t.dat = true
  | .var (.inl i) => by show PyData.eqv (.int i) (.int i) = true; simp [PyData.eqv]
  | .var (.inr x) => by show PyData.eqv (.str x) (.str x) = true; simp [PyData.eqv]
  | .ap f as => by
    show PyData.eqv (.tuple (.str f :: Ter.dats as)) (.tuple (.str f :: Ter.dats as)) = true
    rw [PyData.eqv, PyData.eqvAll, ters_refl as]
    simp [PyData.eqv]
theorem ters_refl : ∀ ts : List Ter, PyData.eqvAll (Ter.dats ts) (Ter.dats ts) = true
  | [] => rfl
  | t :: r => by
    show PyData.eqvAll (t.dat :: Ter.dats r) (t.dat :: Ter.dats r) = true
    rw [PyData.eqvAll, ter_refl t, ters_refl r]
    rfl
end
theorem Gd.fine {H : Hp} {u : DTer} (g : Gd H u 40) : SeqAt.shaped u.ter.dat = true := shaped_ter (sh_fine _ (s7_sh _ g.wf)) (by have := g.ne; omega)
theorem But.tupsK {d : Addr} {H H' : Hp} {kvs : List (Key × V)} (a : But d H H') (h : H d = some (.dK kvs)) : Tups H H' := fun b xs e => a b _ (ne_of e h (by intro z; cases z)) e
end Own
namespace Own
open PySem PySem.Spec PyProof.Rows L2 HT
/-! ### < of data; sorted over a dict with tuple keys -/
section
variable {X : Cx}
def rLtD (K : PySem.W.Frag) : R2 := fun x y H Q => ∃ d e, Dp K H x d ∧ Dp K H y e ∧ PySem.W.alike d e = true ∧ d ≠ .none ∧ d.depth ≤ 64 ∧ Q (.bl (PySem.W.dataLt d e)) H
theorem op_ltD (hu : X.A.units + 64 < cLine) : OpR X (compareOp .Lt) (rLtD X.K) := by
  intro pins s σ H x y v u Q I rx ry h
  obtain ⟨d, e, hd, he, ha, hn, h64, q⟩ := h
  obtain ⟨as, r1⟩ := Dp.reads I d x v hd rx
  obtain ⟨bs, r2⟩ := Dp.reads I e y u he ry
  exact PySem.W.lt_data r1 r2 ha hn (by omega) ⟨.bl _, H, I, rfl, q⟩
/-- a key tuple as data -/
def keyD (k : List Key) : PyData := .tuple (k.map kD)
def keysLe : Addr × List Key → Addr × List Key → Bool := PySem.W.dataLe false fun z => keyD z.2
def rSortedDT (K : PySem.W.Frag) : List V → Hp → VK → Prop := fun vs H Q => ∃ (a : Addr) (kvs : List (List Key × V)), vs = [V.ref a] ∧ H a = some (.dT kvs) ∧ kvs.length ≤ 100000 ∧
  PySem.W.AllAlike (kvs.map fun p => keyD p.1) ∧ (∀ p ∈ kvs, ∃ x r, p.1 = x :: r) ∧ (∀ p ∈ kvs, (keyD p.1).depth ≤ 60) ∧
  ∀ (ps : List (Addr × List Key)) (p : Addr), ps.map (·.2) = kvs.map (·.1) → (∀ z ∈ ps, H z.1 = some (.tup (z.2.map kV))) → H p = none → Q (.ref p) (upd H p (.lst ((ps.mergeSort keysLe).map fun z => V.ref z.1)))
theorem dp_key {K : PySem.W.Frag} {H : Hp} : ∀ k : List Key, DpAll K H (k.map kV) (k.map kD)
  | [] => .nil
  | .inl i :: r => .cons (.int i) (dp_key r)
  | .inr x :: r => .cons (.str x) (dp_key r)
theorem cr_sortedDT (hc : X.calm = true) (hu : X.A.units + 64 < cLine) : CallR X (.builtin "sorted") (rSortedDT X.K) := by
  intro pins s σ H xs us Q I r h
  obtain ⟨a, kvs, rfl, hd, hlen, hal, hne, hdep, q⟩ := h
  obtain ⟨u, rfl, rx⟩ := r.one
  cases rx
  obtain ⟨z, hs, ks, pr, o, es, ep, ho, hx, hdt, he, hn⟩ := (show ObjOk X.prog X.w H s.heap a (.dT kvs) from I.hok _ _ hd)
  have l1 : es.size = ks.length := size_of_entries he
  have l2 : kvs.length = ks.length := Paired.length pr
  refine Calls.call_function_entry PyProof.Rows.kind_sorted PyProof.Rows.plain_sorted PyProof.Rows.entry_sorted (PyProof.Rows.args_sorted1 _) ?_
  unfold Builtin.«sorted»
  refine wpAny_bind (m := checkCount "sorted" 1 1 _) (wpAny_pure ?_)
  refine wpAny_bind (PySem.W.kdu_collect (A := X.A.in1) (kdl_raw hs hx hdt) (I.ok.hd hc) ho (by rw [l1, ← l2]; exact Nat.le_trans hlen (by decide)) fun h' tk acc' kp it => ?_)
  have ea : acc'.toList = (ks.map fun x => x.2.1).map Value.ref := by
    rw [List.map_map]
    have hl : acc'.toList.length = ks.length := by rw [Array.length_toList, it.1]; exact l1
    apply List.ext_getElem?
    intro j
    rw [List.getElem?_map]
    cases hj : acc'.toList[j]? with
    | none =>
      have h1 := List.getElem?_eq_none_iff.mp hj
      rw [List.getElem?_eq_none (by omega)]
      all_goals rfl
    | some v =>
      obtain ⟨en, hen, hv⟩ := it.2 j v (by rw [← Array.getElem?_toList]; exact hj)
      have qe := entry_at he j
      rw [hen] at qe
      cases hb : ks[j]? with
      | none =>
        rw [hb] at qe
        exact nomatch (show some en = none from qe)
      | some b =>
        rw [hb] at qe
        have e2 : en = entryOfKey (tupleKind (mixKind X.prog X.w)) b := Option.some.inj qe
        rw [hv, e2]
        all_goals rfl
  -- the keys with their places
  generalize hps : (ks.map fun x => (x.2.1, x.1)) = ps
  have e1 : ps.map (·.2) = kvs.map (·.1) := by
    rw [← hps, List.map_map]
    clear hps q ea it he hdt l1 l2 hal hne hdep hlen hd z hn
    induction pr with
    | nil => rfl
    | cons h t ih => rw [List.map_cons, List.map_cons, ih]; exact congrArg (· :: _) h.1.symm
  have e2 : ∀ z ∈ ps, H z.1 = some (.tup (z.2.map kV)) := by
    rw [← hps]
    clear hps q ea it he hdt l1 l2 hal hne hdep hlen hd e1 z hn
    induction pr with
    | nil => intro z hz; cases hz
    | cons h t ih =>
      intro z hz
      rcases List.mem_cons.mp hz with rfl | hz
      · show H _ = some (.tup (_))
        rw [h.2.1, h.1]
      · exact ih z hz
  have e3 : (ks.map fun x => x.2.1) = ps.map (·.1) := by rw [← hps, List.map_map]; rfl
  have lps : ps.length = kvs.length := by rw [← hps, List.length_map, l2]
  have hvs : acc'.toList = ps.map fun z => Value.ref z.1 := by rw [ea, e3, List.map_map]; rfl
  have hsz : acc'.toList.length ≤ sizeLine := by rw [hvs, List.length_map, lps]; exact Nat.le_trans hlen (by decide)
  have er : ∀ (h'' : Heap), (∀ b ob, s.heap.get? b = some ob → h''.get? b = some ob) → PySem.W.EachIs (fun v b => ∃ as, Reads h'' v (keyD b.2) as) acc'.toList ps := fun h'' k => by
    rw [hvs]
    have : ∀ qs : List (Addr × List Key), (∀ z ∈ qs, H z.1 = some (.tup (z.2.map kV))) → PySem.W.EachIs (fun v b => ∃ as, Reads h'' v (keyD b.2) as) (qs.map fun z => Value.ref z.1) qs := fun qs => by
      induction qs with
      | nil => exact fun _ => .nil
      | cons z r ih =>
        intro hq
        obtain ⟨as, rd⟩ := Dp.reads I (keyD z.2) (.ref z.1) (.ref z.1) (.tup (.inl (.inl (hq z List.mem_cons_self))) (dp_key _)) rfl
        exact .cons ⟨as, PyProof.Rows.Reads.keeps k rd⟩ (ih fun y hy => hq y (List.mem_cons_of_mem _ hy))
    exact this ps e2
  have I1 : Inv X pins σ H { s with heap := h', toks := tk } := I.kept kp
  refine wpAny_bind (wpAny_newList ?_ hsz)
  have hoL : (h'.push (seqObj "list" acc'.toList.toArray 0)).get? h'.objs.size = some (seqObj "list" acc'.toList.toArray 0) := Heap.get?_push_size _ rfl
  show wpAny _ _ _ _ _ { s with heap := h'.push (seqObj "list" acc'.toList.toArray 0), toks := tk }
  have hk2 : ∀ b ob, s.heap.get? b = some ob → (PySem.W.sortingHeap (h'.push (seqObj "list" acc'.toList.toArray 0)) h'.objs.size acc'.toList).get? b = some ob := fun b ob e => by
    have e4 := kp b ob e
    exact PySem.W.sortingHeap_old (Nat.ne_of_lt (Heap.lt_size e4)) (Heap.get?_push_of_some _ e4)
  have er2 := er _ hk2
  have hmm : ∀ z ∈ ps, ∃ p ∈ kvs, p.1 = z.2 := fun z hz => by
    have : z.2 ∈ kvs.map (·.1) := by rw [← e1]; exact List.mem_map_of_mem hz
    obtain ⟨p, hp, e⟩ := List.mem_map.mp this
    exact ⟨p, hp, e⟩
  have hal2 : PySem.W.AllAlike (ps.map fun z => keyD z.2) := fun d hd d' hd' => by
    obtain ⟨z, hz, rfl⟩ := List.mem_map.mp hd
    obtain ⟨z', hz', rfl⟩ := List.mem_map.mp hd'
    obtain ⟨p, hp, e⟩ := hmm z hz
    obtain ⟨p', hp', e'⟩ := hmm z' hz'
    rw [← e, ← e']
    exact hal _ (List.mem_map_of_mem (f := fun p : List Key × V => keyD p.1) hp) _ (List.mem_map_of_mem (f := fun p : List Key × V => keyD p.1) hp')
  have hso : PySem.W.Sortable (ps.map fun z => keyD z.2) := .inl fun d hd => by
    obtain ⟨z, hz, rfl⟩ := List.mem_map.mp hd
    obtain ⟨p, hp, e⟩ := hmm z hz
    obtain ⟨x, r, e5⟩ := hne p hp
    refine ⟨kD x, r.map kD, ?_⟩
    show PyData.tuple (z.2.map kD) = _
    rw [← e, e5]
    rfl
  have S := PySem.W.SortsAt.data (prog := X.prog) (w := X.w) (A := X.A.in1.in1) (s := { s with heap := PySem.W.sortingHeap (h'.push (seqObj "list" acc'.toList.toArray 0)) h'.objs.size acc'.toList, toks := tk }) (PySem.W.each_map (R := fun v d => ∃ as, Reads (PySem.W.sortingHeap (h'.push (seqObj "list" acc'.toList.toArray 0)) h'.objs.size acc'.toList) v d as) (fun z : Addr × List Key => keyD z.2) er2) hal2 hso (fun d hd => by
    obtain ⟨z, hz, rfl⟩ := List.mem_map.mp hd
    obtain ⟨p, hp, e⟩ := hmm z hz
    have := hdep p hp
    rw [e] at this
    show X.A.units + 2 + _ < cLine
    omega)
  have out := PySem.W.sortVals_data (R := fun v (z : Addr × List Key) => v = Value.ref z.1) false (show PySem.W.EachIs (fun v (z : Addr × List Key) => v = Value.ref z.1) acc'.toList ps from by
    rw [hvs]
    clear hps e1 e2 e3 lps hvs er er2 hmm hal2 hso S
    induction ps with
    | nil => exact .nil
    | cons z r ih => exact .cons rfl ih) er2 hal2
  refine wpAny_bind (wpAny_holding (wpAny_call_entry PyProof.Rows.slot_list_sort ⟨_, hoL, rfl⟩ PyProof.Rows.entry_list_sort
    (PySem.W.list_sort_vals (s := { s with heap := h'.push (seqObj "list" acc'.toList.toArray 0), toks := tk }) hoL S hsz ⟨_, rfl, ?_⟩)
    (PyProof.Rows.args_list_sort _)))
  generalize (PySem.W.sortVals (PySem.W.dataKind (PySem.W.sortingHeap (h'.push (seqObj "list" acc'.toList.toArray 0)) h'.objs.size acc'.toList) (ps.map fun z => keyD z.2)) false acc'.toList acc'.toList) = ov at out
  obtain ⟨e', he'⟩ := PyProof.Rows.sortedHeap_at (vs := acc'.toList) (out := ov.toArray) hoL
  have hov : ov = (ps.mergeSort keysLe).map fun z => Value.ref z.1 := by
    have : ∀ (vs : List Value) (qs : List (Addr × List Key)), PySem.W.EachIs (fun v (z : Addr × List Key) => v = Value.ref z.1) vs qs → vs = qs.map fun z => Value.ref z.1 := fun vs qs h => by
      induction h with
      | nil => rfl
      | cons a _ ih => rw [List.map_cons, ← ih, a]
    exact this _ _ out
  have lov : ((ps.mergeSort keysLe).map fun z => V.ref z.1).length ≤ sizeLine := by
    rw [List.length_map, List.length_mergeSort, lps]
    exact Nat.le_trans hlen (by decide)
  have rv : Vals ((ps.mergeSort keysLe).map fun z => V.ref z.1) ov := by
    rw [hov]
    have := vals_refs ((ps.mergeSort keysLe).map (·.1))
    rw [List.map_map, List.map_map] at this
    exact this
  refine wpAny_pure ⟨_, rfl, .ref h'.objs.size, upd H h'.objs.size (.lst ((ps.mergeSort keysLe).map fun z => V.ref z.1)), I1.laid (t' := tk) (fun b u e => ?_) (Nat.le_refl _)
    (show ObjOk X.prog X.w _ _ _ (.lst ((ps.mergeSort keysLe).map fun z => V.ref z.1)) from ⟨lov, ov, e', rv, he'⟩), rfl, q ps _ e1 e2 (I1.hok.fresh (Nat.le_refl _))⟩
  have hb : b < h'.objs.size := Heap.lt_size e
  rw [PyProof.Rows.sortedHeap_old (Nat.ne_of_lt hb) (by rw [size_push']; exact Nat.lt_succ_of_lt hb)]
  exact Heap.get?_push_of_some _ e
end
end Own
namespace Own
open PySem PySem.Spec PyProof.Rows L2 HT
/-! ### pairs of a symbol and its number of arguments -/
abbrev Pr := Str × Nat
def prD (p : Pr) : PyData := .tuple [.str p.1, .int p.2]
def prV (p : Pr) : List V := [.str p.1, .int (p.2 : Int)]
def prK (p : Pr) : List Key := [.inr p.1, .inl (p.2 : Int)]
theorem prK_inj {p q : Pr} (h : prK p = prK q) : p = q := by
  obtain ⟨a, b⟩ := p
  obtain ⟨c, d⟩ := q
  unfold prK at h
  simp only [List.cons.injEq, Sum.inr.injEq, Sum.inl.injEq, and_true] at h
  obtain ⟨h1, h2⟩ := h
  exact Prod.ext h1 (by show b = d; omega)
theorem keyD_pr (p : Pr) : keyD (prK p) = prD p := rfl
theorem prK_V (p : Pr) : (prK p).map kV = prV p := rfl
inductive PrAt (H : Hp) : V → Pr → Prop
  | mk {a : Addr} {p : Pr} : H a = some (.tup (prV p)) → PrAt H (.ref a) p
inductive PrAll (H : Hp) : List V → List Pr → Prop
  | nil : PrAll H [] []
  | cons {v : V} {p : Pr} {vs : List V} {ps : List Pr} : PrAt H v p → PrAll H vs ps → PrAll H (v :: vs) (p :: ps)
theorem PrAt.mono {H H' : Hp} (m : Tups H H') {v : V} {p : Pr} (h : PrAt H v p) : PrAt H' v p := by
  cases h with
  | mk e => exact .mk (m _ _ e)
theorem PrAll.mono {H H' : Hp} (m : Tups H H') : ∀ {vs : List V} {ps : List Pr}, PrAll H vs ps → PrAll H' vs ps
  | _, _, .nil => .nil
  | _, _, .cons a r => .cons (a.mono m) (r.mono m)
theorem PrAll.len {H : Hp} : ∀ {vs : List V} {ps : List Pr}, PrAll H vs ps → vs.length = ps.length
  | _, _, .nil => rfl
  | _, _, .cons _ r => congrArg (· + 1) r.len
theorem PrAll.app {H : Hp} : ∀ {vs ws : List V} {ps qs : List Pr}, PrAll H vs ps → PrAll H ws qs → PrAll H (vs ++ ws) (ps ++ qs)
  | _, _, _, _, .nil, b => b
  | _, _, _, _, .cons a r, b => .cons a (r.app b)
theorem PrAll.get {H : Hp} : ∀ {vs : List V} {ps : List Pr} {i : Nat} {v : V}, PrAll H vs ps → vs[i]? = some v → ∃ p, ps[i]? = some p ∧ PrAt H v p
  | _, _, _, _, .nil, h => by cases h
  | _, _, 0, _, .cons a r, h => by
    cases (show some _ = some _ from h)
    exact ⟨_, rfl, a⟩
  | _, _, i + 1, _, .cons a r, h => r.get (i := i) h
theorem PrAll.erase {H : Hp} : ∀ {vs : List V} {ps : List Pr} (i : Nat), PrAll H vs ps → PrAll H (vs.eraseIdx i) (ps.eraseIdx i)
  | _, _, _, .nil => .nil
  | _, _, 0, .cons a r => r
  | _, _, i + 1, .cons a r => .cons a (r.erase i)
theorem dp_pr {K : PySem.W.Frag} {H : Hp} {v : V} {p : Pr} (h : PrAt H v p) : Dp K H v (prD p) := by
  cases h with
  | mk e => exact .tup (.inl (.inl e)) (.cons (.str _) (.cons (.int _) .nil))
theorem dp_prs {K : PySem.W.Frag} {H : Hp} : ∀ {vs : List V} {ps : List Pr}, PrAll H vs ps → DpAll K H vs (ps.map prD)
  | _, _, .nil => .nil
  | _, _, .cons a r => .cons (dp_pr a) (dp_prs r)
/-! ### the order -/
def prLt (p q : Pr) : Bool := PySem.W.dataLt (prD p) (prD q)
theorem eqv_pr (p q : Pr) : PyData.eqv (prD p) (prD q) = decide (p = q) := by
  obtain ⟨a, b⟩ := p
  obtain ⟨c, d⟩ := q
  have e : PyData.eqv (prD (a, b)) (prD (c, d)) = ((a == c) && (((b : Int) == (d : Int)) && true)) := rfl
  rw [e, Bool.and_true]
  by_cases h1 : a = c
  · by_cases h2 : b = d
    · subst h1 h2
      simp
    · have h3 : ¬ ((b : Int) = (d : Int)) := fun z => h2 (by omega)
      rw [beq_eq_false_iff_ne.mpr h3, Bool.and_false]
      exact (decide_eq_false fun z => h2 (congrArg Prod.snd z)).symm
  · rw [beq_eq_false_iff_ne.mpr h1, Bool.false_and]
    exact (decide_eq_false fun z => h1 (congrArg Prod.fst z)).symm
theorem prLt_irr (p : Pr) : prLt p p = false := PySem.W.dataLt_self _
theorem prLt_tr {p q r : Pr} (h1 : prLt p q = true) (h2 : prLt q r = true) : prLt p r = true := PyProof.Rows.lex_trans _ _ _ h1 h2
theorem prLt_asym {p q : Pr} (h1 : prLt p q = true) : prLt q p = false := by
  cases h : prLt q p with
  | false => rfl
  | true => exact absurd ((prLt_irr p).symm.trans (prLt_tr h1 h)) (by decide)
theorem prLt_tot {p q : Pr} (h : p ≠ q) (h1 : prLt p q = false) : prLt q p = true := by
  obtain ⟨a, b⟩ := p
  obtain ⟨c, d⟩ := q
  have e1 : prLt (a, b) (c, d) = if PyData.eqv (.str a) (.str c) = true then (if PyData.eqv (.int (b : Int)) (.int (d : Int)) = true then false else PySem.W.dataLt (.int (b : Int)) (.int (d : Int))) else PySem.W.dataLt (.str a) (.str c) := PySem.W.dataLt_pair rfl rfl
  have e2 : prLt (c, d) (a, b) = if PyData.eqv (.str c) (.str a) = true then (if PyData.eqv (.int (d : Int)) (.int (b : Int)) = true then false else PySem.W.dataLt (.int (d : Int)) (.int (b : Int))) else PySem.W.dataLt (.str c) (.str a) := PySem.W.dataLt_pair rfl rfl
  have es : ∀ x y : Str, PyData.eqv (.str x) (.str y) = (x == y) := fun x y => by rw [PyData.eqv]
  have ei : ∀ x y : Int, PyData.eqv (.int x) (.int y) = (x == y) := fun x y => by rw [PyData.eqv]
  rw [e1, es, ei, PySem.W.dataLt_int, PySem.W.dataLt_str] at h1
  rw [e2, es, ei, PySem.W.dataLt_int, PySem.W.dataLt_str]
  by_cases g1 : a = c
  · subst g1
    have g2 : b ≠ d := fun z => h (by rw [z])
    have g3 : ¬ ((b : Int) = (d : Int)) := fun z => g2 (by omega)
    have g4 : ¬ ((d : Int) = (b : Int)) := fun z => g2 (by omega)
    rw [if_pos (beq_self_eq_true a), if_neg (by rw [beq_eq_false_iff_ne.mpr g3]; decide)] at h1
    rw [if_pos (beq_self_eq_true a), if_neg (by rw [beq_eq_false_iff_ne.mpr g4]; decide)]
    have h1 := of_decide_eq_false h1
    exact decide_eq_true (by omega)
  · have g2 : ¬ c = a := fun z => g1 z.symm
    rw [if_neg (by rw [beq_eq_false_iff_ne.mpr g1]; decide)] at h1
    rw [if_neg (by rw [beq_eq_false_iff_ne.mpr g2]; decide)]
    have h1 := of_decide_eq_false h1
    by_cases h2 : c.cps.toList < a.cps.toList
    · exact decide_eq_true h2
    · exact absurd (strE (List.le_antisymm h2 h1)) g1
theorem prLt_neg {p q r : Pr} (h1 : prLt q p = false) (h2 : prLt r q = false) : prLt r p = false := by
  cases h : prLt r p with
  | false => rfl
  | true =>
    rcases PyProof.Rows.lex_negTrans _ (PySem.W.keyToks (prD q)) _ h with a | a
    · exact absurd (h2.symm.trans a) (by decide)
    · exact absurd (h1.symm.trans a) (by decide)
theorem _root_.L2.Room.units65 {k : Nat} {A : Around} (r : Room k A) : A.units + 65 < cLine := by have := r.un; omega
abbrev Asc (ps : List Pr) : Prop := ps.Pairwise fun a b => prLt a b = true
theorem asc_eq : ∀ {as bs : List Pr}, Asc as → Asc bs → (∀ x, x ∈ as ↔ x ∈ bs) → as = bs
  | [], [], _, _, _ => rfl
  | [], b :: r, _, _, h => by have := (h b).mpr List.mem_cons_self; cases this
  | a :: r, [], _, _, h => by have := (h a).mp List.mem_cons_self; cases this
  | a :: r, b :: s, h1, h2, h => by
    have k1 := List.pairwise_cons.mp h1
    have k2 := List.pairwise_cons.mp h2
    have e : a = b := by
      rcases List.mem_cons.mp ((h a).mp List.mem_cons_self) with e | m1
      · exact e
      rcases List.mem_cons.mp ((h b).mpr List.mem_cons_self) with e | m2
      · exact e.symm
      exact absurd ((prLt_asym (k1.1 b m2)).symm.trans (k2.1 a m1)) (by decide)
    subst e
    refine congrArg (a :: ·) (asc_eq k1.2 k2.2 fun x => ⟨fun m => ?_, fun m => ?_⟩)
    · rcases List.mem_cons.mp ((h x).mp (List.mem_cons_of_mem _ m)) with e | m'
      · subst e
        exact absurd ((prLt_irr x).symm.trans (k1.1 x m)) (by decide)
      · exact m'
    · rcases List.mem_cons.mp ((h x).mpr (List.mem_cons_of_mem _ m)) with e | m'
      · subst e
        exact absurd ((prLt_irr x).symm.trans (k2.1 x m)) (by decide)
      · exact m'
/-! ### the symbols of a term, and the term with greater variables -/
mutual
def Ter.syms : Ter → List Pr
  | .var _ => []
  | .ap f as => (f, as.length) :: Ter.symss as
def Ter.symss : List Ter → List Pr
  | [] => []
  | a :: r => a.syms ++ Ter.symss r
end
theorem symss_app : ∀ as bs : List Ter, Ter.symss (as ++ bs) = Ter.symss as ++ Ter.symss bs
  | [], _ => rfl
  | a :: r, bs => by
    show a.syms ++ Ter.symss (r ++ bs) = (a.syms ++ Ter.symss r) ++ Ter.symss bs
    rw [symss_app r bs, List.append_assoc]
mutual
def Ter.shift (n : Int) : Ter → Ter
  | .var (.inl i) => .var (.inl (i + n))
  | .var (.inr x) => .var (.inr x)
  | .ap f as => .ap f (Ter.shifts n as)
def Ter.shifts (n : Int) : List Ter → List Ter
  | [] => []
  | a :: r => a.shift n :: Ter.shifts n r
end
theorem shifts_len (n : Int) : ∀ as : List Ter, (Ter.shifts n as).length = as.length
  | [] => rfl
  | _ :: r => congrArg (· + 1) (shifts_len n r)
theorem shifts_app (n : Int) : ∀ as bs : List Ter, Ter.shifts n (as ++ bs) = Ter.shifts n as ++ Ter.shifts n bs
  | [], _ => rfl
  | a :: r, bs => congrArg (a.shift n :: ·) (shifts_app n r bs)
mutual
theorem shift_same (n : Int) : ∀ t : Ter, (t.shift n).size = t.size ∧ (t.shift n).nest = t.nest ∧ (t.shift n).syms = t.syms
  | .var (.inl i) => ⟨rfl, rfl, rfl⟩
  | .var (.inr x) => ⟨rfl, rfl, rfl⟩
  | .ap f as => by
    obtain ⟨h1, h2, h3⟩ := shifts_same n as
    refine ⟨?_, ?_, ?_⟩
    · show Ter.sizes (Ter.shifts n as) + 1 = Ter.sizes as + 1
      rw [h1]
    · show Ter.nests (Ter.shifts n as) + 1 = Ter.nests as + 1
      rw [h2]
    · show (f, (Ter.shifts n as).length) :: Ter.symss (Ter.shifts n as) = (f, as.length) :: Ter.symss as
      rw [h3, shifts_len]
theorem shifts_same (n : Int) : ∀ ts : List Ter, Ter.sizes (Ter.shifts n ts) = Ter.sizes ts ∧ Ter.nests (Ter.shifts n ts) = Ter.nests ts ∧ Ter.symss (Ter.shifts n ts) = Ter.symss ts
  | [] => ⟨rfl, rfl, rfl⟩
  | t :: r => by
    obtain ⟨h1, h2, h3⟩ := shift_same n t
    obtain ⟨k1, k2, k3⟩ := shifts_same n r
    refine ⟨?_, ?_, ?_⟩
    · show (t.shift n).size + Ter.sizes (Ter.shifts n r) = t.size + Ter.sizes r
      rw [h1, k1]
    · show max (t.shift n).nest (Ter.nests (Ter.shifts n r)) = max t.nest (Ter.nests r)
      rw [h2, k2]
    · show (t.shift n).syms ++ Ter.symss (Ter.shifts n r) = t.syms ++ Ter.symss r
      rw [h3, k3]
end
def anyNum (k : Key) : Prop := ∃ i : Int, k = .inl i
mutual
theorem shift_wf {W : Str → Nat → Prop} (n : Int) : ∀ t : Ter, t.wf W anyNum → (t.shift n).wf W anyNum
  | .var (.inl i), _ => ⟨_, rfl⟩
  | .var (.inr x), h => h
  | .ap f as, h => ⟨by rw [shifts_len]; exact h.1, shifts_wf n as h.2⟩
theorem shifts_wf {W : Str → Nat → Prop} (n : Int) : ∀ ts : List Ter, Ter.wfs W anyNum ts → Ter.wfs W anyNum (Ter.shifts n ts)
  | [], _ => trivial
  | t :: r, h => ⟨shift_wf n t h.1, shifts_wf n r h.2⟩
end
/-! ### terms as data are not too long -/
mutual
theorem fits_ter : ∀ (t : Ter) (n : Nat), t.nest < n → t.size ≤ 1000000 → fitsD n t.dat
  | .var (.inl i), n + 1, _, _ => trivial
  | .var (.inr x), n + 1, _, _ => trivial
  | .ap f as, n + 1, h, hz => by
    have h : Ter.nests as + 1 < n + 1 := h
    have hz : Ter.sizes as + 1 ≤ 1000000 := hz
    have l1 := Ter.sizes_len as
    have e : (Ter.dats as).length = as.length := by
      have : ∀ as : List Ter, (Ter.dats as).length = as.length := fun as => by
        induction as with
        | nil => rfl
        | cons a r ih => exact congrArg (· + 1) ih
      exact this as
    show (PyData.str f :: Ter.dats as).length ≤ 1000000 ∧ ∀ d ∈ PyData.str f :: Ter.dats as, fitsD n d
    refine ⟨by rw [List.length_cons, e]; omega, fun d hd => ?_⟩
    rcases List.mem_cons.mp hd with rfl | hd
    · obtain ⟨m, rfl⟩ : ∃ m, n = m + 1 := ⟨n - 1, by omega⟩
      trivial
    · exact fits_ters as n (by omega) (by omega) d hd
theorem fits_ters : ∀ (ts : List Ter) (n : Nat), Ter.nests ts < n → Ter.sizes ts ≤ 1000000 → ∀ d ∈ Ter.dats ts, fitsD n d
  | [], _, _, _, d, hd => by cases hd
  | t :: r, n, h, hz, d, hd => by
    have h : max t.nest (Ter.nests r) < n := h
    have hz : t.size + Ter.sizes r ≤ 1000000 := hz
    rcases List.mem_cons.mp hd with rfl | hd
    · exact fits_ter t n (by omega) (by omega)
    · exact fits_ters r n (by omega) (by omega) d hd
end
theorem fits_prs {ps : List Pr} (n : Nat) (h : ps.length ≤ 1000000) : fitsD (n + 3) (.list (ps.map prD)) := by
  refine ⟨by rw [List.length_map]; exact h, fun d hd => ?_⟩
  obtain ⟨p, _, rfl⟩ := List.mem_map.mp hd
  refine ⟨by show 2 ≤ 1000000; decide, fun d hd => ?_⟩
  rcases List.mem_cons.mp hd with rfl | hd
  · trivial
  · rcases List.mem_cons.mp hd with rfl | hd
    · trivial
    · cases hd
/-- pairs whose symbols can be laid -/
theorem shaped_pr {p : Pr} (h : PyData.strOk p.1 = true) : SeqAt.shaped (prD p) = true := by
  show ((PyData.strOk p.1 && (true && true)) && decide (max 0 (max 0 0) + 1 ≤ 64)) = true
  rw [h]
  rfl
theorem lay_prs : ∀ ps : List Pr, (∀ p ∈ ps, PyData.strOk p.1 = true) → PyData.canLayAll0 (ps.map prD) = true ∧ PyData.depthAll (ps.map prD) ≤ 1
  | [], _ => ⟨rfl, Nat.zero_le _⟩
  | p :: r, h => by
    obtain ⟨h1, h2⟩ := lay_prs r fun k hk => h k (List.mem_cons_of_mem _ hk)
    have hp := h p List.mem_cons_self
    refine ⟨?_, ?_⟩
    · show ((PyData.strOk p.1 && (true && true)) && PyData.canLayAll0 (r.map prD)) = true
      rw [h1, hp]
      rfl
    · show max (max 0 (max 0 0) + 1) (PyData.depthAll (r.map prD)) ≤ 1
      omega
theorem shaped_prs {ps : List Pr} (h : ∀ p ∈ ps, PyData.strOk p.1 = true) : SeqAt.shaped (.list (ps.map prD)) = true := by
  obtain ⟨h1, h2⟩ := lay_prs ps h
  show (PyData.canLayAll0 (ps.map prD) && decide (PyData.depthAll (ps.map prD) + 1 ≤ 64)) = true
  rw [h1, decide_eq_true (by omega)]
  rfl
theorem any_pr (ps : List Pr) (p : Pr) : ((ps.map prD).any fun z => PyData.eqv z (prD p)) = decide (p ∈ ps) := by
  induction ps with
  | nil => rfl
  | cons q r ih =>
    rw [List.map_cons, List.any_cons, ih, eqv_pr]
    by_cases h : q = p
    · subst h
      rw [decide_eq_true rfl, decide_eq_true List.mem_cons_self]
      rfl
    · rw [decide_eq_false h, Bool.false_or]
      by_cases h2 : p ∈ r
      · rw [decide_eq_true h2, decide_eq_true (List.mem_cons_of_mem _ h2)]
      · rw [decide_eq_false h2]
        refine (decide_eq_false fun z => ?_).symm
        rcases List.mem_cons.mp z with z | z
        · exact h z.symm
        · exact h2 z
mutual
theorem syms_wf {W : Str → Nat → Prop} {U : Key → Prop} : ∀ (t : Ter), t.wf W U → ∀ p ∈ t.syms, W p.1 p.2
  | .var _, _, p, hp => by cases hp
  | .ap f as, h, p, hp => by
    rcases List.mem_cons.mp hp with rfl | hp
    · exact h.1
    · exact symss_wf as h.2 p hp
theorem symss_wf {W : Str → Nat → Prop} {U : Key → Prop} : ∀ (ts : List Ter), Ter.wfs W U ts → ∀ p ∈ Ter.symss ts, W p.1 p.2
  | [], _, p, hp => by cases hp
  | t :: r, h, p, hp => by
    rcases List.mem_append.mp hp with hp | hp
    · exact syms_wf t h.1 p hp
    · exact symss_wf r h.2 p hp
end
/-! ### sets of pairs as dicts -/
def addP (acc : List Pr) (p : Pr) : List Pr := if p ∈ acc then acc else acc ++ [p]
def yesT (p : Pr) : List Key × V := (prK p, .bl true)
theorem put_yesT (acc : List Pr) (k : Pr) : putK (acc.map yesT) (prK k) (.bl true) = (addP acc k).map yesT := by
  unfold putK addP
  have e : ((acc.map yesT).any fun kv => decide (kv.1 = prK k)) = decide (k ∈ acc) := by
    rw [List.any_map]
    induction acc with
    | nil => rfl
    | cons x r ih =>
      rw [List.any_cons, ih]
      show (decide (prK x = prK k) || decide (k ∈ r)) = _
      by_cases h : x = k
      · subst h
        rw [decide_eq_true rfl, decide_eq_true List.mem_cons_self]
        rfl
      · rw [decide_eq_false (fun z => h (prK_inj z)), Bool.false_or]
        by_cases h2 : k ∈ r
        · rw [decide_eq_true h2, decide_eq_true (List.mem_cons_of_mem _ h2)]
        · rw [decide_eq_false h2]
          refine (decide_eq_false fun z => ?_).symm
          rcases List.mem_cons.mp z with z | z
          · exact h z.symm
          · exact h2 z
  rw [e]
  by_cases hk : k ∈ acc
  · rw [if_pos (decide_eq_true hk), if_pos hk, List.map_map]
    apply List.map_congr_left
    intro x _
    show (if prK x = prK k then (prK x, V.bl true) else (prK x, V.bl true)) = (prK x, V.bl true)
    split <;> rfl
  · rw [if_neg (by rw [decide_eq_false hk]; decide), if_neg hk, List.map_append]
    rfl
theorem addP_len (acc : List Pr) (k : Pr) : (addP acc k).length ≤ acc.length + 1 := by
  unfold addP
  split
  · omega
  · rw [List.length_append, List.length_singleton]; omega
theorem mem_addP (acc : List Pr) (k x : Pr) : x ∈ addP acc k ↔ x ∈ acc ∨ x = k := by
  unfold addP
  split
  · rename_i h
    exact ⟨.inl, fun z => z.elim id fun e => e ▸ h⟩
  · rw [List.mem_append, List.mem_singleton]
theorem addP_nd {acc : List Pr} (h : acc.Nodup) (k : Pr) : (addP acc k).Nodup := by
  unfold addP
  split
  · exact h
  · rename_i n
    exact List.nodup_append.mpr ⟨h, List.nodup_cons.mpr ⟨by simp, List.nodup_nil⟩, fun a ha b hb e => n (by rw [← List.mem_singleton.mp hb, ← e]; exact ha)⟩
/-- what sorted gives of such a dict -/
theorem sorted_prs {H : Hp} {acc : List Pr} (nd : acc.Nodup) {ps : List (Addr × List Key)} (e : ps.map (·.2) = acc.map prK) (h : ∀ z ∈ ps, H z.1 = some (.tup (z.2.map kV))) :
    ∃ L, PrAll H ((ps.mergeSort keysLe).map fun z => V.ref z.1) L ∧ Asc L ∧ (∀ x, x ∈ L ↔ x ∈ acc) ∧ L.length = acc.length := by
  have hp := List.mergeSort_perm ps keysLe
  have hs : (ps.mergeSort keysLe).Pairwise fun a b => keysLe a b = true := by
    have lle : ∀ a b : Addr × List Key, keysLe a b = !PySem.W.dataLt (keyD b.2) (keyD a.2) := fun a b => rfl
    refine List.pairwise_mergeSort (fun a b c h1 h2 => ?_) (fun a b => ?_) ps
    · rw [lle] at h1 h2 ⊢
      cases h3 : PySem.W.dataLt (keyD c.2) (keyD a.2) with
      | false => rfl
      | true =>
        rcases PyProof.Rows.lex_negTrans _ (PySem.W.keyToks (keyD b.2)) _ h3 with z | z
        · have z : PySem.W.dataLt (keyD c.2) (keyD b.2) = true := z
          rw [z] at h2
          exact h2
        · have z : PySem.W.dataLt (keyD b.2) (keyD a.2) = true := z
          rw [z] at h1
          exact h1
    · rw [lle, lle]
      cases h3 : PySem.W.dataLt (keyD b.2) (keyD a.2) with
      | false => rfl
      | true =>
        cases h4 : PySem.W.dataLt (keyD a.2) (keyD b.2) with
        | false => rfl
        | true => exact absurd (show false = true from (PySem.W.dataLt_self (keyD b.2)).symm.trans (PyProof.Rows.lex_trans _ _ _ h3 h4)) (by decide)
  have n2 : ((ps.mergeSort keysLe).map (·.2)).Nodup := by
    refine (hp.map (·.2)).nodup_iff.mpr ?_
    rw [e]
    exact List.pairwise_map.mpr (nd.imp fun {a b} h z => h (prK_inj z))
  have m2 : ∀ x : List Key, x ∈ (ps.mergeSort keysLe).map (·.2) ↔ x ∈ acc.map prK := fun x => by
    rw [(hp.map (·.2)).mem_iff, e]
  have h2 : ∀ z ∈ ps.mergeSort keysLe, H z.1 = some (.tup (z.2.map kV)) := fun z hz => h z (hp.mem_iff.mp hz)
  have hl : (ps.mergeSort keysLe).length = acc.length := by
    rw [List.length_mergeSort]
    have := congrArg List.length e
    rw [List.length_map, List.length_map] at this
    exact this
  have hq : ∃ L : List Pr, (ps.mergeSort keysLe).map (·.2) = L.map prK := by
    have : ∀ l : List (List Key), (∀ x ∈ l, x ∈ acc.map prK) → ∃ L : List Pr, l = L.map prK := fun l => by
      induction l with
      | nil => exact fun _ => ⟨[], rfl⟩
      | cons x r ih =>
        intro hx
        obtain ⟨L, rfl⟩ := ih fun y hy => hx y (List.mem_cons_of_mem _ hy)
        obtain ⟨p, _, rfl⟩ := List.mem_map.mp (hx x List.mem_cons_self)
        exact ⟨p :: L, rfl⟩
    exact this _ fun x hx => (m2 x).mp hx
  obtain ⟨L, eL⟩ := hq
  refine ⟨L, ?_, ?_, ?_, ?_⟩
  · generalize ps.mergeSort keysLe = qs at eL h2
    clear hl m2 n2 hs hp
    induction qs generalizing L with
    | nil =>
      cases L with
      | nil => exact .nil
      | cons p r => cases eL
    | cons z r ih =>
      cases L with
      | nil => cases eL
      | cons p s =>
        obtain ⟨e1, e2⟩ := List.cons.inj eL
        have e1 : z.2 = prK p := e1
        refine .cons (.mk ?_) (ih s e2 fun y hy => h2 y (List.mem_cons_of_mem _ hy))
        rw [h2 z List.mem_cons_self, e1]
        rfl
  · have h5 : ((ps.mergeSort keysLe).map (·.2)).Pairwise fun a b => a ≠ b ∧ PySem.W.dataLt (keyD b) (keyD a) = false := by
      refine List.Pairwise.and n2 ?_
      refine List.pairwise_map.mpr (hs.imp fun {a b} h => ?_)
      have h : (!PySem.W.dataLt (keyD b.2) (keyD a.2)) = true := h
      cases h6 : PySem.W.dataLt (keyD b.2) (keyD a.2) with
      | false => rfl
      | true => rw [h6] at h; cases h
    rw [eL] at h5
    exact (List.pairwise_map.mp h5).imp fun {a b} h => prLt_tot (fun z => h.1 (by rw [z])) h.2
  · intro x
    constructor
    · intro hx
      have := (m2 (prK x)).mp (by rw [eL]; exact List.mem_map_of_mem hx)
      obtain ⟨y, hy, e9⟩ := List.mem_map.mp this
      rw [← prK_inj e9]
      exact hy
    · intro hx
      have := (m2 (prK x)).mpr (List.mem_map_of_mem hx)
      rw [eL] at this
      obtain ⟨y, hy, e9⟩ := List.mem_map.mp this
      rw [← prK_inj e9]
      exact hy
  · have := congrArg List.length eL
    rw [List.length_map, List.length_map] at this
    omega
theorem alike_keys (acc : List Pr) : PySem.W.AllAlike ((acc.map yesT).map fun p => keyD p.1) := by
  intro d hd d' hd'
  rw [List.map_map] at hd hd'
  obtain ⟨p, _, rfl⟩ := List.mem_map.mp hd
  obtain ⟨q, _, rfl⟩ := List.mem_map.mp hd'
  rfl
end Own
set_option maxHeartbeats 2000000
namespace Own
open PySem PySem.Spec PyProof.Rows L2 HT
/-! ### super().__init__(..) in an own exception class above ValueError -/
section
variable {prog : Program} {w : World} {A : Around} {E : Value → Shared → Prop} {hp : Heap} {g : Array GenState} {dr : Drawn} {tk : Nat} {os : OsState}
variable {nm qn : Str} {C N : Addr} {bs bm : List Value} {hd : Bool} {sn : List Str} {sub : List Value} {ab : Bool} {col : Option Bool} {dd : Option Addr} {k0 k1 k2 k3 k5 : Option Value}
/-- the bound built-in __init__ is called: the exception's arguments are laid anew, nothing else changes -/
theorem vi_call {u x t0 : Addr} {vs : List Value} {Q : Value → Shared → Prop}
    (hC : hp.get? C = some (excClassObj nm qn C N bs bm hd sn sub ab col dd k0 k1 k2 k3 k5 "ValueError.__new__"))
    (hx : hp.get? x = some (PySem.HandSPX.excO C t0)) (hu : hp.get? u = some (PySem.W.kxs_mw "ValueError.__init__" x)) (hz : vs.length ≤ sizeLine)
    (hq : ∀ h' t1, (∀ b o, b ≠ x → hp.get? b = some o → h'.get? b = some o) → h'.get? x = some (PySem.HandSPX.excO C t1) → Q .none ⟨h', g, dr, tk, os⟩) :
    wpAny (model prog w) A (call (.ref u) vs) Q E ⟨hp, g, dr, tk, os⟩ := by
  have FB := F.excBase_ValueError
  refine wpAny_call (codeAny_of_tree ?_)
  show wpAny _ _ (callAny (.ref u) ⟨vs, []⟩) _ _ ⟨hp, g, dr, tk, os⟩
  simp only [callAny]
  refine wpAny_bind (wpAny_load hu ?_)
  have b1 : (Value.type "method-wrapper" == Value.type "method" || Value.type "method-wrapper" == Value.type "builtin_function_or_method" || Value.type "method-wrapper" == Value.type "method-wrapper") = true := by decide
  simp only [PySem.W.kxs_mw, b1, if_true]
  refine PySem.W.KFB.if_so b1 (wpAny_bind (PySem.W.check_bound_init FB.toExcCallFacts hC hx rfl (wpAny_bind (wpAny_pure (wpAny_pure ?_)))))
  refine ⟨plainId_quiet FB.init.plain _, codeAny_builtin FB.initEntry ?_⟩
  exact PySem.W.exc_init_tree (cls := .ref C) (t0 := t0) (dv := none) (c2 := .none) (c3 := .none) (b4 := .bool false) hx hz fun h' k e _ => hq h' _ k e
end
/-- a statement, a block that must know its own activation (body: that of the whole def) -/
structure PSAt (X : Cx) (body : List Stmt) (st : Stmt) (t : TS) : Prop where
  run : ∀ (pins : List (Addr × Obj)) (s : Shared) (σ : L2.St) (H : Hp) (D : Ends), Inv X pins σ H s → t D σ H → PySem.wpAt (model X.prog X.w) X.A (.func body X.env) (exec st X.env) (SP X pins D) X.xe s
structure PSsAt (X : Cx) (body st : List Stmt) (t : TS) : Prop where
  run : ∀ (pins : List (Addr × Obj)) (s : Shared) (σ : L2.St) (H : Hp) (D : Ends), Inv X pins σ H s → t D σ H → PySem.wpAt (model X.prog X.w) X.A (.func body X.env) (execs st X.env) (SP X pins D) X.xe s
theorem pssAt_cons {X : Cx} {body : List Stmt} {st : Stmt} {rest : List Stmt} {t u : TS} (h1 : PSAt X body st t) (h2 : PSs X rest u) : PSsAt X body (st :: rest) (tSeq t u) := by
  refine ⟨fun pins s σ H D I h => ?_⟩
  refine ks_wpAt_execs_cons (PySem.ks_wpAt_mono (h1.run pins s σ H { D with nx := u D } I h) (fun f s1 q => ?_) fun _ _ z => z)
  cases f with
  | next =>
    obtain ⟨σ1, H1, J, q⟩ := q
    exact PySem.wpAt_of_wpAny (h2.run pins s1 σ1 H1 D J q)
  | ret u => exact q
  | brk => exact q
  | cont => exact q
/-- what the activation must have for super() -/
structure SupX (X : Cx) (C cc : Addr) : Prop where
  ks : X.env.kindOf "super" = some .globalImplicit
  kc : X.env.kindOf "__class__" = some .free
  fn : ∃ f o fd, X.env.func = some f ∧ X.K.lookup f = some o ∧ o.data = .func fd ∧ ∃ ar, (fd.params.posonlyargs ++ fd.params.args).head? = some ar ∧ ar.arg = ("self" : Str)
  code : ∃ cda o vs file tf, X.env.code = .ref cda ∧ X.K.lookup cda = some o ∧ o.data = .fields vs ∧ vs[2]? = some (.str file tf) ∧ ((X.prog.main.file : Str) == file) = true
  top : (X.prog.main.scope.names.lookup ("super" : Str)).isSome = false
  cell : X.env.cells.lookup ("__class__" : Str) = some cc
  cellv : ∃ cl cld csl, X.K.lookup cc = some ⟨cl, cld, .cell (some (.ref C)), csl⟩
  glob : X.mg "super" = none
  self : X.env.kindOf "self" = some .local
  n0 : X.N[0]? = some ("self" : Str)
/-- what the class must have for super().__init__ to be ValueError's -/
structure SupC (K : PySem.W.Frag) (C : Addr) : Prop where
  oex : OexC K C
  up : PySem.W.ks_superIn K C C "__init__" = some (some (.builtin "ValueError.__init__"))
  sub : PySem.W.subIn K (.ref C) (.type "ValueError") = some true
  own : PySem.W.mroIn K C (.ref C) = some true
  opq : PySem.W.nsIn K cStatics "thirdparty.any" = some none
def tSup (C : Addr) (ta : TA) : TS := fun D σ H => ∃ a, σ[0]? = some (some (.ref a)) ∧ H a = some (exo a C none) ∧ ta σ H fun vs H1 => vs.length ≤ 1000 ∧ H1 a = some (exo a C none) ∧ D.nx σ H1
theorem exo_get {X : Cx} {pins : List (Addr × Obj)} {σ : L2.St} {H : Hp} {s : Shared} {a C : Addr} (I : Inv X pins σ H s) (e : H a = some (exo a C none)) : ∃ t0, s.heap.get? a = some (PySem.HandSPX.excO C t0) := exo_at I.hok e
theorem ps_superAt {X : Cx} {body : List Stmt} {C cc : Addr} {p0 p1 p2 pos pos2 : Pos} {e : Expr} {es : List Expr} {ta : TA} (S : SupX X C cc) (T : SupC X.K C) (ha : PA X (e :: es) ta)
    (hev : eval (.Call (.Attribute (.Call (.Name "super" p0) [] [] p1) "__init__" p2) (e :: es) [] pos) X.env = (do
      let ov ← attributeBase (.Call (.Name "super" p0) [] [] p1) "__init__" X.env (eval (.Call (.Name "super" p0) [] [] p1) X.env)
      standAt p2.atName
      let (f, first) ← holding [ov] (getMethod ov "__init__" (pure false))
      callWith pos f first (backTo pos (starEach (e :: es) X.env)) []) := by rfl)
    (hi : interactive X.env = false := by rfl) (hs : swapsWith (.Call (.Attribute (.Call (.Name "super" p0) [] [] p1) "__init__" p2) (e :: es) [] pos) none pos2.line X.env = pure false := by rfl)
    (he : starEach (e :: es) X.env = (false, eval e X.env) :: starEach es X.env := by rfl) (hpl : (backTo pos (starEach es X.env)).any (·.1) = false := by rfl) :
    PSAt X body (.Expr (.Call (.Attribute (.Call (.Name "super" p0) [] [] p1) "__init__" p2) (e :: es) [] pos) pos2) (tSup C ta) := by
  refine ⟨fun pins s σ H D I h => ?_⟩
  obtain ⟨a, h0, hex, h⟩ := h
  obtain ⟨f, o, fd, hfu, hfl, hfd, ar, hhd, har⟩ := S.fn
  obtain ⟨cda, oc, fvs, file, tf, hco, hcl, hcd, hfv, hfile⟩ := S.code
  obtain ⟨cl, cld, csl, hcell⟩ := S.cellv
  obtain ⟨nm, qn, N, bs, bm, sn, sub, ab, col, dd, k0, k1, k2, k3, k5, hC, hbm⟩ := T.oex.cls
  have KX := I.kIn
  have hCg := KX _ _ hC
  obtain ⟨m, hns, hl⟩ := I.loc
  obtain ⟨u0, r0, lk⟩ := hl 0 "self" (.ref a) S.n0 h0 (.inl S.self)
  cases r0
  have hself : m "self" = some (.ref a) := by
    rcases lk with ⟨_, q⟩ | ⟨q, _⟩
    · exact q
    · rw [S.self] at q
      rcases q with q | q <;> cases q
  obtain ⟨t0, hox⟩ := exo_get I hex
  have hcls : PySem.W.clsIn X.K C = some { name := nm, bases := bs, mro := .ref C :: bm, ns := N, qualname := qn, hasDict := true, slotNames := sn, subclasses := sub, abstract := ab, collection := col, hasDel := false } := by unfold PySem.W.clsIn; rw [hC] <;> rfl
  have J : PySem.W.InstAt s.heap a (PySem.HandSPX.excO C t0) C none := ⟨hox, rfl, rfl, trivial⟩
  obtain ⟨mb, hb1, hb2⟩ := I.mod.blt
  refine PySem.ks_wpAt_Expr_any (PySem.ks_wpAt_MethodCall (pl := pure false) ?_ hev) hi hs
  refine PySem.ks_wpAt_super_base (env := X.env) S.ks S.kc rfl hfu (KX _ _ hfl) hfd hhd hco (KX _ _ hcl) hcd hfv hfile S.top ?_
  refine PySem.W.ks_loadName_global I.ok.kind S.ks ?_
  refine Calls.loadGlobal_builtin (by rw [I.ok.glob]; exact I.mod.glob.keeps I.bk) S.glob (by rw [I.ok.blt]; exact hb1.keeps I.bk) ((hb2 "super" (by decide)).trans (show bootBuiltins "super" = some (.type "super") by first | rfl | kernel_rfl)) ?_
  refine ⟨rfl, ?_⟩
  refine wpAny_loadName_free I.ok.kind S.kc S.cell ⟨_, KX _ _ hcell, rfl⟩ ?_
  rw [har]
  refine wpAny_loadName_local I.ok.kind S.self hns hself ?_
  obtain ⟨hh, gg, dr, tk, os⟩ := s
  refine PySem.ks_wpAny_isType_cls hCg rfl ⟨rfl, ?_⟩
  refine PySem.ks_wpAny_call_super hCg rfl hox rfl (fun c z => by cases z) (PySem.W.looks_mroIn KX T.own) (fun h1 ho1 k1 => ?_)
  -- the super object stands at hh.objs.size
  have KX1 : X.K.In h1 := KX.keeps k1
  have J1 : PySem.W.InstAt h1 a (PySem.HandSPX.excO C t0) C none := ⟨k1 _ _ hox, rfl, rfl, trivial⟩
  have I1 : Inv X pins σ H ⟨h1, gg, dr, tk, os⟩ := I.kept (t' := tk) k1
  have up := T.up
  unfold PySem.W.ks_superIn at up
  rw [hcls] at up
  refine PySem.W.kxs_getMethod PySem.W.kxs_ValueError ho1 (PySem.W.looks_opaque KX1 T.opq) (l₀ := .ref C :: bm) (fun A Q E s k q => wpAny_bind ((PySem.W.looks_clsIn KX1 hcls) A _ E s k (wpAny_pure q))) rfl KX1 up
    (J1.type.andThen (PySem.W.looks_subIn KX1 T.sub)) (PySem.W.ks_ne KX1 J1 hcls) rfl ?_
  have k2 : ∀ b ob, h1.get? b = some ob → (h1.push (PySem.W.kxs_mw "ValueError.__init__" a)).get? b = some ob := fun b ob q => Heap.get?_push_of_some _ q
  have I2 : Inv X pins σ H ⟨h1.push (PySem.W.kxs_mw "ValueError.__init__" a), gg, dr, tk + 1, os⟩ := I1.kept (t' := tk + 1) k2
  have hw : (h1.push (PySem.W.kxs_mw "ValueError.__init__" a)).get? h1.objs.size = some (PySem.W.kxs_mw "ValueError.__init__" a) := Heap.get?_push_at rfl rfl
  have hnew : H h1.objs.size = none := I1.hok.fresh (Nat.le_refl _)
  have I3 : Inv X (pins ++ [(h1.objs.size, PySem.W.kxs_mw "ValueError.__init__" a)]) σ H ⟨h1.push (PySem.W.kxs_mw "ValueError.__init__" a), gg, dr, tk + 1, os⟩ := I2.pins_of fun p hp => by
    rcases List.mem_append.mp hp with hp | hp
    · exact I2.pin p (List.mem_append_right _ hp)
    · rw [List.mem_singleton.mp hp]
      exact ⟨hw, hnew, Ne.symm (Nat.ne_of_lt I1.lt), I1.nofs (Nat.le_refl _), fun v z => by cases z⟩
  show wpAny _ _ (callWith pos (Value.ref h1.objs.size) [] (backTo pos (starEach (e :: es) X.env)) []) _ _ _
  rw [he]
  refine PySem.W.kxs_callWith (i := "ValueError.__init__") (x := a) (by show (false || (backTo pos (starEach es X.env)).any (·.1)) = false; rw [hpl]; rfl) ?_
  refine Calls.evalArgs_plain ?_
  have hr := ha.run pos _ _ σ H _ I3 h
  rw [he] at hr
  refine thn hr fun us s2 hq => ?_
  obtain ⟨vs, H2, I4, rv, hlen, hex2, hD⟩ := hq
  refine ⟨(I4.pin (h1.objs.size, _) (List.mem_append_right _ (List.mem_append_right _ (List.mem_singleton.mpr rfl)))).1, ?_⟩
  have hw4 := (I4.pin (h1.objs.size, PySem.W.kxs_mw "ValueError.__init__" a) (List.mem_append_right _ (List.mem_append_right _ (List.mem_singleton.mpr rfl)))).1
  obtain ⟨t4, hox4⟩ := exo_get I4 hex2
  have hC4 := I4.kIn _ _ hC
  have I5 : Inv X pins σ H2 s2 := I4.pins_of fun p hp => I4.pin p (List.mem_append_right _ (List.mem_append_left _ hp))
  obtain ⟨h4, g4, d4, tk4, os4⟩ := s2
  show wpAny _ _ (call (Value.ref h1.objs.size) ([] ++ us)) _ _ _
  refine vi_call hC4 hox4 hw4 (by rw [List.nil_append, ← Paired.length rv, sizeLine_eq]; omega) fun h' t1 kk hx' => ?_
  have J5 := I5.write (t' := tk4) (x := a) (e := a) (o := exo a C none) (by rw [hex2]; exact True.intro) (.inl rfl) kk ⟨_, hx'⟩ (exo_ok hx')
  have eu : upd H2 a (exo a C none) = H2 := by
    funext b
    by_cases hb : b = a
    · rw [hb, upd_same, hex2]
    · rw [upd_ne hb]
  rw [eu] at J5
  exact ⟨σ, H2, J5, hD⟩
end Own
set_option maxHeartbeats 2000000
namespace Own
open PySem PySem.Spec PyProof.Rows L2 HT NdefX
/-! ### the def __init__ that says super().__init__(..) first -/
section
variable {CX : CXT} {P : Program} {w : World} {K : PySem.W.Frag} {mg : Str → Option Value} {base : Heap} {k : Nat} {fI cc cda C : Addr} {name qual : Str} {params : Arguments} {body : List Stmt} {scope : Scope} {dV kV doc pm ct oc : Value} {an od : Option Addr}
  {osl : Array (Option Value)} {N ps : List Str} {sp : Sp}
abbrev iNF (name qual : Str) (params : Arguments) (body : List Stmt) (scope : Scope) (cc cda : Addr) : NF := ⟨name, qual, params, body, scope, [("__class__", cc)], cda⟩
abbrev icx (CX : CXT) (P : Program) (w : World) (K : PySem.W.Frag) (mg : Str → Option Value) (base : Heap) (N : List Str) (name qual : Str) (params : Arguments) (body : List Stmt) (scope : Scope) (cc cda fI : Addr) (A : Around) (outer : List Env) (s : Shared) (H : Hp) (E : XK) : Cx :=
  ncx CX P w K mg base N (iNF name qual params body scope cc cda) fI A outer s H E
theorem init_of (lk : K.lookup fI = some ⟨oc, od, .func (PySem.W.fnX name qual params body scope [("__class__", cc)] dV kV doc pm an (.ref cda) ct), osl⟩) (hcd : PySem.W.codeIn K (.ref cda) qual = true)
    (hcell : ∃ cl cld csl, K.lookup cc = some ⟨cl, cld, .cell (some (.ref C)), csl⟩) (S : NScope N ps ["__class__"] scope) (len : ∀ vs H Q E, sp vs H Q E → vs.length = ps.length)
    (hb : ∀ (A : Around) (outer : List Env) (s : Shared) (H : Hp) (vs : List V) (Q : VK) (E : XK), Room k (A.deeper (envF (iNF name qual params body scope cc cda) fI s.heap.objs.size)) → sp vs H Q E →
      ∃ t, PSsAt (icx CX P w K mg base N name qual params body scope cc cda fI A outer s H E) body body t ∧ t { nx := fun _ H' => Q .non H', rt := Q } (startF N vs [some (.ref C)]) H) :
    FnOk P w K mg base CX (k + 1) fI (PySem.W.fnX name qual params body scope [("__class__", cc)] dV kV doc pm an (.ref cda) ct) ps sp := by
  refine ⟨len, fun A outer s H args us vs Q E hr e0 hbd rv hsp => ?_⟩
  have hlen := len _ _ _ _ hsp
  have kx : K.In s.heap := e0.mod.kin.keeps fun b o e => (e0.bs b o e).1
  have nolim : s.heap.NoLimit := e0.mod.nolimit.keeps fun b o e => (e0.bs b o e).1
  obtain ⟨cl, cld, csl, hcl⟩ := hcell
  refine PySem.ks_codeAny_call_defAt (body := body) (binds := ps.zip us) hr.depth (kx _ _ lk) rfl nolim (PySem.W.codeRec_of kx hcd) rfl hbd S.nocell (fun ⟨n, _⟩ hy => S.par n (List.of_mem_zip hy).1) (fun h1 hns kp => ?_) S.co S.gen S.kind
  have hcells : CellsAt [("__class__", cc)] ["__class__"] [some (V.ref C)] s.heap H := by
    refine ⟨rfl, fun y c e => ?_, fun x y c e1 e2 => ?_, fun i y hy => ?_⟩
    · have ec : c = cc := by
        by_cases hy : y = "__class__"
        · subst hy
          simpa [List.lookup] using e.symm
        · have : (y == ("__class__" : Str)) = false := by simpa using hy
          simp [List.lookup, this] at e
      subst ec
      exact ⟨(e0.bs _ _ (e0.mod.kin _ _ hcl)).2, _, _, kx _ _ hcl, rfl⟩
    · have key : ∀ {z : Str} {d : Addr}, List.lookup z [(("__class__" : Str), cc)] = some d → z = "__class__" := fun {z d} h => by
        by_cases hz : z = "__class__"
        · exact hz
        · have : (z == ("__class__" : Str)) = false := by simpa using hz
          simp [List.lookup, this] at h
      rw [key e1, key e2]
    · cases i with
      | zero =>
        cases (show some _ = some _ from hy)
        refine ⟨cc, by simp [List.lookup], fun v hv => ?_⟩
        cases (show some (some _) = some (some _) from hv)
        exact ⟨.ref C, rfl, _, kx _ _ hcl, rfl⟩
      | succ i => cases (show none = some _ from hy)
  have I : Inv (icx CX P w K mg base N name qual params body scope cc cda fI A outer s H E) [] (startF N vs [some (.ref C)]) H { s with heap := h1, toks := s.toks + (ps.zip us).length } := inv_startN S hr.hd e0 hlen rv hcells hns kp
  obtain ⟨t, ht, hq⟩ := hb A outer s H vs Q E (hr.deeper _) hsp
  refine PySem.ks_wpAt_mono (ht.run [] _ _ H _ I hq) (fun fl s' hs => ?_) fun e s' hs => hs
  have close : ∀ {σ' : L2.St} {H' : Hp} {v : V} {u : Value}, Inv (icx CX P w K mg base N name qual params body scope cc cda fI A outer s H E) [] σ' H' s' → L2.RelV v u → Q v H' → CE outer P w H s Q u s' :=
    fun {σ' H' v u} J r q => ⟨v, H', J.os, J.bare, J.base, J.hok, r, q⟩
  cases fl with
  | ret u =>
    obtain ⟨v, σ', H', J, r, q⟩ := hs
    exact close J r q
  | next =>
    obtain ⟨σ', H', J, q⟩ := hs
    exact close (v := V.non) (u := Value.none) J rfl q
  | brk => exact False.elim hs.choose_spec.choose_spec.2
  | cont => exact False.elim hs.choose_spec.choose_spec.2
/-- what the written part says of such a def, and of its class -/
structure InitC (P : Program) (K : PySem.W.Frag) (mg : Str → Option Value) (C fI cc cda : Addr) (name qual : Str) (params : Arguments) (body : List Stmt) (scope : Scope) (fd : FuncData) : Prop where
  sup : SupC K C
  fn : ∃ oc od dV kV doc pm an ct osl, fd = PySem.W.fnX name qual params body scope [("__class__", cc)] dV kV doc pm an (.ref cda) ct ∧ K.lookup fI = some ⟨oc, od, .func fd, osl⟩
  code : PySem.W.codeIn K (.ref cda) qual = true
  file : ∃ o vs file tf, K.lookup cda = some o ∧ o.data = .fields vs ∧ vs[2]? = some (.str file tf) ∧ ((P.main.file : Str) == file) = true
  top : (P.main.scope.names.lookup ("super" : Str)).isSome = false
  cell : ∃ cl cld csl, K.lookup cc = some ⟨cl, cld, .cell (some (.ref C)), csl⟩
  glob : mg "super" = none
  self : ∃ ar, (params.posonlyargs ++ params.args).head? = some ar ∧ ar.arg = ("self" : Str)
  k1 : scope.names.lookup ("super" : Str) = some .globalImplicit
  k2 : scope.names.lookup ("__class__" : Str) = some .free
  k3 : scope.names.lookup ("self" : Str) = some .local
  iC : PySem.W.findIn K (.ref C) "__init__" = some (some (.ref fI))
  tI : PySem.W.typeIn K (.ref fI) = some (.type "function")
theorem InitC.supX {fd : FuncData} {A : Around} {outer : List Env} {s : Shared} {H : Hp} {E : XK} (T : InitC P K mg C fI cc cda name qual params body scope fd) (h0 : N[0]? = some ("self" : Str)) :
    SupX (icx CX P w K mg base N name qual params body scope cc cda fI A outer s H E) C cc := by
  obtain ⟨oc, od, dV, kV, doc, pm, an, ct, osl, rfl, l⟩ := T.fn
  obtain ⟨o, vs, file, tf, e1, e2, e3, e4⟩ := T.file
  obtain ⟨ar, e5, e6⟩ := T.self
  exact ⟨T.k1, T.k2, ⟨fI, _, _, rfl, l, rfl, ar, e5, e6⟩, ⟨cda, o, vs, file, tf, rfl, e1, e2, e3, e4⟩, T.top, by show List.lookup _ [(("__class__" : Str), cc)] = _; simp [List.lookup], T.cell, T.glob, T.k3, h0⟩
/-- the promise: the fields, each with its argument; ok: what the text of super().__init__ asks of the arguments -/
def spInit (C : Addr) (fs : List Str) (ok : List V → Hp → Prop) : Sp := fun vs H Q _ => ∃ a ws, vs = .ref a :: ws ∧ ws.length = fs.length ∧ H a = some (exo a C none) ∧ ok ws H ∧
  ∀ H2 dx, (∀ b, b ≠ a → b ≠ dx → H2 b = H b) → H dx = none → dx ≠ a → H2 a = some (exo a C (some dx)) → H2 dx = some (exd dx (fs.zip ws).reverse) → Q .non H2
end
/-! ### the call C(e, ..), where nothing is handled -/
section
variable {X : Cx} {CX : CXT} {x : Str} {e : Expr} {es : List Expr} {ta : TA} {p pos : Pos} {C fI : Addr} {k : Nat} {fd : FuncData} {ps : List Str} {sp : Sp}
theorem pmkN_sup (T : OexC X.K C) (iC : PySem.W.findIn X.K (.ref C) "__init__" = some (some (.ref fI))) (tI : PySem.W.typeIn X.K (.ref fI) = some (.type "function"))
    (F1 : FnOk X.prog X.w X.K X.mg X.base CX k fI fd ps sp) (hr : Room (k + 1) X.A) (hb : Binds X.K fd ps []) (hx : Passes CX X (fun _ _ _ => False)) (hg : Gl X x) (hm : X.mg x = some (.ref C)) (ha : PA X (e :: es) ta)
    (hdb : (x == ("__debug__" : Str)) = false := by decide) (he : starEach (e :: es) X.env = (false, eval e X.env) :: starEach es X.env := by rfl) (hpl : (backTo pos (starEach es X.env)).any (·.1) = false := by rfl) :
    L2N.PMk X (.Call (.Name x p) (e :: es) [] pos) (tMkO C sp [] ta) := by
  intro pins s σ H Q I h
  obtain ⟨nm, qn, N, bs, bm, sn, sub, ab, col, dd, k0, k1, k2, k3, k5, hcl, hve⟩ := T.cls
  refine wpAny_Call_Name_kw (ld_glob I hg hm ?_ hdb)
  refine PySem.W.callWith_K (h₀ := X.base) I.ok.mod.kin T.kC (thn (ha.run pos pins s σ H _ I h) fun us s1 hq => ?_) he hpl
  obtain ⟨vs, H1, I1, rv, hlen, hsp⟩ := hq
  refine ⟨I1.kIn, ?_⟩
  show wpAny _ _ (call (.ref C) us) _ _ _
  obtain ⟨h1, g1, d1, tk1, os1⟩ := s1
  have free1 : H1 (h1.objs.size + 1) = none := I1.hok.fresh (Nat.le_succ _)
  have hsp := hsp _ free1
  rw [List.append_nil] at hsp
  have older : ∀ b o, h1.get? b = some o → ((h1.push (PySem.W.kdv_tup us)).push (PySem.HandSPX.excO C h1.objs.size)).get? b = some o := fun b o q => Heap.get?_push_of_some _ (Heap.get?_push_of_some _ q)
  have there : ((h1.push (PySem.W.kdv_tup us)).push (PySem.HandSPX.excO C h1.objs.size)).get? (h1.objs.size + 1) = some (PySem.HandSPX.excO C h1.objs.size) := by heap_get
  have I2 := I1.laid (t' := tk1) (a := h1.objs.size + 1) (o := exo (h1.objs.size + 1) C none) older (Nat.le_succ _) (exo_ok there)
  have rv2 : Vals (V.ref (h1.objs.size + 1) :: vs) (Value.ref (h1.objs.size + 1) :: us) := .cons rfl rv
  have elen : (Value.ref (h1.objs.size + 1) :: us ++ []).length = ps.length := by
    rw [List.append_nil, ← rv2.length]
    exact F1.len _ _ _ _ hsp
  have ulen : us.length ≤ sizeLine := by
    have := Paired.length rv
    rw [sizeLine_eq]
    omega
  have bind2 := hb _ (Value.ref (h1.objs.size + 1) :: us) I2.kIn elen
  rw [List.append_nil] at bind2
  have init := F1.run _ X.stack _ _ ⟨Value.ref (h1.objs.size + 1) :: us, []⟩ (Value.ref (h1.objs.size + 1) :: us) _ _ (fun _ _ _ => False) (hr.make C us []) (I2.env0.make C us []) bind2 rv2 hsp
  refine wpAny_call (PySem.HandSPX.call_own F.excBase_ValueError (fun Y => PySem.HandSPX.refsVE_contains Y bm hve) (I1.kIn _ _ hcl) (PySem.W.looks_findIn I1.kIn iC) (fun self => PySem.W.bind_fn I1.kIn self tI) ulen (codeAny_mono init fun r s' hq => ?_))
  cases r with
  | error er => exact hx pins σ _ _ er s' I2 hq
  | ok fl =>
    cases fl with
    | ret u =>
      obtain ⟨v, H2, hos, hbare, hun, hok2, hrel, ev, d, fs, ea, ed, free2, q⟩ := hq
      subst ev
      obtain ⟨h2, g2, d2, tk2, os2⟩ := s'
      obtain ⟨t0, G, J, kG, gone, hoe, nota⟩ := mk_end0 (d2 := d2) (t2 := tk2) I1 (Nat.le_succ _) older hun hok2 hos hbare ea ed free2
      refine ⟨hrel, h1.objs.size + 1, _, _, ⟨G, g2, d2, tk2, os2⟩, _, .ref C, some d, rfl, J, kG, gone, hoe, ⟨rfl, rfl, fun vs hv => ?_⟩, rfl, rfl, nota, rfl, hbare, raises_own T.exC T.tyC, q⟩
      cases hv
      rfl
    | next => exact hq.elim
    | brk => exact hq.elim
    | cont => exact hq.elim
/-- the reading of raise C(e, ..) -/
def tMkS (C : Addr) (fs : List Str) (ok : List V → Hp → Prop) (ta : TA) : L2.St → Hp → XK → Prop := fun σ H Q => ta σ H fun vs H1 => vs.length = fs.length ∧ vs.length ≤ 1000 ∧ (∀ a, H1 a = none → ok vs (upd H1 a (exo a C none))) ∧
  ∀ d, H1 d = none → Q (.ref C) (some d) (upd H1 d (.xd (fs.zip vs).reverse))
theorem tMk_of {fs : List Str} {ok : List V → Hp → Prop} {σ : L2.St} {H : Hp} {Q : XK} (hm : ∀ {P Q : List V → Hp → Prop}, (∀ vs H, P vs H → Q vs H) → ∀ {σ H}, ta σ H P → ta σ H Q) (h : tMkS C fs ok ta σ H Q) : tMkO C (spInit C fs ok) [] ta σ H Q := by
  refine hm (fun vs H1 hq => ?_) h
  obtain ⟨h1, h2, h3, h4⟩ := hq
  refine ⟨h2, fun a na => ?_⟩
  rw [List.append_nil]
  refine ⟨a, vs, rfl, h1, upd_same, h3 a na, fun H2 dx same fx nx ea ed => ⟨rfl, dx, _, ea, ed, ?_, ?_⟩⟩
  · rw [← upd_ne (H := H1) (o := exo a C none) nx]
    exact fx
  · have e9 : upd (del H2 a) dx (.xd (fs.zip vs).reverse) = upd H1 dx (.xd (fs.zip vs).reverse) := by
      funext b
      by_cases hb : b = dx
      · rw [hb, upd_same, upd_same]
      · rw [upd_ne hb, upd_ne hb]
        by_cases hb2 : b = a
        · rw [hb2, del_same, na]
        · rw [del_ne hb2, same b hb2 hb, upd_ne hb2]
    rw [e9]
    refine h4 dx ?_
    rw [← upd_ne (H := H1) (o := exo a C none) nx]
    exact fx
end
/-! ### the fields -/
section
variable {X : Cx}
theorem fst_field {K : PySem.W.Frag} {σ : L2.St} {H : Hp} {D : Ends} {a C : Addr} {f : Str} {y : V} {to te : TE} (T : OexC K C) (hf : PySem.W.findIn K (.ref C) f = some none) (e : H a = some (exo a C none)) (h1 : ∀ Q, te σ H Q ↔ Q y H) (h2 : ∀ Q, to σ H Q ↔ Q (.ref a) H)
    (h : ∀ dx, H dx = none → dx ≠ a → D.nx σ (upd (upd H dx (exd dx [(f, y)])) a (exo a C (some dx)))) : tOst K f to te D σ H :=
  (h1 _).mpr ((h2 _).mpr ⟨a, C, rfl, T, hf, .inl ⟨e, h⟩⟩)
theorem nxt_field {K : PySem.W.Frag} {σ : L2.St} {H : Hp} {D : Ends} {a C dx : Addr} {f : Str} {y : V} {fs : List (Str × V)} {to te : TE} (T : OexC K C) (hf : PySem.W.findIn K (.ref C) f = some none) (e : H a = some (exo a C (some dx))) (ed : H dx = some (exd dx fs)) (hl : fs.length ≤ 900)
    (h1 : ∀ Q, te σ H Q ↔ Q y H) (h2 : ∀ Q, to σ H Q ↔ Q (.ref a) H) (h : D.nx σ (upd H dx (exd dx ((f, y) :: fs)))) : tOst K f to te D σ H :=
  (h1 _).mpr ((h2 _).mpr ⟨a, C, rfl, T, hf, .inr ⟨dx, fs, e, ed, hl, h⟩⟩)
end
/-! ### {t}, t a tuple of whole numbers, in an f-string: some text -/
section
variable {X : Cx}
theorem repr_ints {prog : Program} {w : World} : ∀ {l : List Int} {its : List Value}, Vals (l.map V.int) its → (∀ y ∈ l, y.natAbs.log2 < 1920) → ReprAll prog w its (l.map fun y => ((toString y : String) : Str))
  | [], _, r, _ => by
    cases r
    exact .nil
  | y :: l, _, r, h => by
    cases r with
    | cons ra rb =>
      obtain ⟨t, rfl⟩ := ra
      exact .cons (ReprIs.int t (h y List.mem_cons_self)) (repr_ints rb fun z hz => h z (List.mem_cons_of_mem _ hz))
def tFmtI (K : PySem.W.Frag) (te : TE) : TE := fun σ H Q => te σ H fun x H1 => ∃ (a : Addr) (l : List Int), x = .ref a ∧ SqT K H1 a (l.map V.int) ∧ (∀ y ∈ l, y.natAbs.log2 < 1920) ∧ (tupleText (l.map fun y => ((toString y : String) : Str))).length ≤ 1000000 ∧ ∀ m : Str, m.length ≤ 1000005 → Q (.str m) H1
theorem pe_fmtI {e : Expr} {te : TE} {pos : Pos} {k : Nat} (hr : Room k X.A) (he : PE X e te) : PE X (.FormattedValue e (-1) none pos) (tFmtI X.K te) := by
  refine ⟨fun pins s σ H Q I h => ?_⟩
  refine wpAny_FormattedValue_plain (thn (he.run pins s σ H _ I h) fun v s1 hv => ?_)
  obtain ⟨x, H1, I1, r1, a, l, rfl, ht, hl, hz, q⟩ := hv
  cases r1
  obtain ⟨its, rv, ⟨o, ho, hcl, n, hd⟩, _⟩ := I1.tuple ht
  have hu := hr.units
  refine fmt_tuple (ts := l.map fun y => ((toString y : String) : Str)) (by omega) ho hcl hd (repr_ints rv hl) (by rw [sizeLine_eq]; omega) fun m u tk hm => ?_
  exact ⟨.str m, H1, I1.tok _, ⟨u, rfl⟩, q m (by omega)⟩
end
end Own
set_option maxHeartbeats 2000000
namespace Own
open PySem PySem.Spec PyProof.Rows L2 HT NdefX
/-- the j-th statement of a class's body -/
def clsAt (s : Stmt) (j : Nat) : Stmt := match s with
  | .ClassDef _ _ _ b _ _ _ _ _ _ _ => b.getD j (.Pass ⟨0, 0, 0, 0⟩)
  | _ => .Pass ⟨0, 0, 0, 0⟩
/-! ### defs that may raise, defs called within an except suite -/
section
variable {P : Program} {w : World} {K : PySem.W.Frag} {mg : Str → Option Value} {base : Heap} {x qual : Str} {st : Stmt} {f : Addr} {fd : FuncData} {N ps : List Str} {k : Nat} {sp : Sp}
theorem _root_.L2.Fun.okN (F : Fun K x qual st f fd) (S : FnScope N ps (defScope st)) (len : ∀ vs H Q E, sp vs H Q E → vs.length = ps.length)
    (hb : ∀ (cdv : Value) (A : Around) (outer : List Env) (s : Shared) (H : Hp) (vs : List V) (Q : VK) (E : XK), Room k (A.deeper (envOfC qual (defScope st) s.heap.objs.size f cdv)) → sp vs H Q E →
      ∃ t, PSs (cxOf (L2N.CX P w) P w K mg base N qual (defScope st) f cdv A outer s H E) (defBody st) t ∧ t { nx := fun _ H' => Q .non H', rt := Q } (start N vs) H) : FnOk P w K mg base (L2N.CX P w) (k + 1) f fd ps sp := by
  obtain ⟨oc, od, kV, doc, pm, an, cdv, ct, osl, rfl, l, c⟩ := F.ex
  exact fn_of l c S len fun A outer s H vs Q E r q => hb cdv A outer s H vs Q E r q
theorem _root_.L2.Fun.okH (F : Fun K x qual st f fd) (S : FnScope N ps (defScope st)) (len : ∀ vs H Q E, sp vs H Q E → vs.length = ps.length)
    (hb : ∀ (cdv : Value) (A : Around) (outer : List Env) (s : Shared) (H : Hp) (vs : List V) (Q : VK) (E : XK) (p : Addr × Obj), L2H.HotC (L2H.cxH CX0 P w K mg base N qual (defScope st) f cdv A outer s H E p) → L2H.RoomH k (A.deeper (envOfC qual (defScope st) s.heap.objs.size f cdv)) → sp vs H Q E →
      ∃ t, PSs (L2H.cxH CX0 P w K mg base N qual (defScope st) f cdv A outer s H E p) (defBody st) t ∧ t { nx := fun _ H' => Q .non H', rt := Q } (start N vs) H) : L2H.FnH P w K mg base CX0 (k + 1) f fd ps sp := by
  obtain ⟨oc, od, kV, doc, pm, an, cdv, ct, osl, rfl, l, c⟩ := F.ex
  exact L2H.fn_ofH l c S len fun A outer s H vs Q E p hot r q => hb cdv A outer s H vs Q E p ⟨p, ⟨hot.1, hot.2⟩, List.mem_singleton.mpr rfl⟩ r q
end
theorem passA0 {X : Cx} {E : L2.St → XK} (σ : L2.St) : PassesAt CX0 X σ (E σ) := fun _ _ _ _ _ _ z => z.elim
/-- around a body nothing is let out -/
theorem takesN0 {X : Cx} : L2N.Takes X (fun _ _ _ _ => False) := fun _ _ x => by
  obtain ⟨_, _, _, _, _, _, _, _, _, _, _, _, _, _, _, _, z⟩ := x
  exact z.elim
/-! ### raise C(e, ..) -/
section
variable {X : Cx} {CX : CXT} {x : Str} {e : Expr} {es : List Expr} {ta : TA} {p pos pos2 : Pos} {C fI : Addr} {k : Nat} {fd : FuncData} {ps : List Str} {fs : List Str} {ok : List V → Hp → Prop} {W : WX}
theorem ps_raiseS (hc : X.calm = true) (tk : L2N.Takes X W) (T : OexC X.K C) (iC : PySem.W.findIn X.K (.ref C) "__init__" = some (some (.ref fI))) (tI : PySem.W.typeIn X.K (.ref fI) = some (.type "function"))
    (F1 : FnOk X.prog X.w X.K X.mg X.base CX k fI fd ps (spInit C fs ok)) (hr : Room (k + 1) X.A) (hb : Binds X.K fd ps []) (hx : Passes CX X (fun _ _ _ => False)) (hg : Gl X x) (hm : X.mg x = some (.ref C)) (ha : PA X (e :: es) ta)
    (mono : ∀ {P Q : List V → Hp → Prop}, (∀ vs H, P vs H → Q vs H) → ∀ {σ H}, ta σ H P → ta σ H Q)
    (hdb : (x == ("__debug__" : Str)) = false := by decide) (he : starEach (e :: es) X.env = (false, eval e X.env) :: starEach es X.env := by rfl) (hpl : (backTo pos (starEach es X.env)).any (·.1) = false := by rfl) :
    PS X (.Raise (some (.Call (.Name x p) (e :: es) [] pos)) none pos2) (fun _ σ H => tMkS C fs ok ta σ H fun cls d H' => W cls d σ H') := by
  have m := pmkN_sup (p := p) (pos := pos) T iC tI F1 hr hb hx hg hm ha hdb he hpl
  exact L2N.ps_raise (t := tMkS C fs ok ta) hc tk fun pins s σ H Q I h => m pins s σ H Q I (tMk_of mono h)
end
/-! ### the caught exception, asked -/
structure ErrC (K : PySem.W.Frag) (C : Addr) : Prop where
  ga : PySem.W.findIn K (.ref C) "__getattribute__" = some (some (.builtin "BaseException.__getattribute__"))
  gg : PySem.W.findIn K (.ref C) "__getattr__" = some none
  exC : PySem.W.subIn K (.ref C) (.type "BaseException") = some true
  hdC : PySem.W.hasDictIn K C = true
  ic : PySem.W.isClsIn K C = true
  ca : PySem.W.findIn K (.ref C) "__class__" = some (some (.builtin "object.__class__"))
  cn : PySem.W.specialIn K (.builtin "object.__class__") "__get__" = some (some (.builtin "getset_descriptor.__get__"))
  ct : PySem.W.takesIn K (.builtin "object.__class__") = some true
  mo : PySem.W.mroIn K C (.type "object") = some true
theorem ErrC.xf {K : PySem.W.Frag} {C : Addr} (T : ErrC K C) : XfC K C := ⟨T.ga, T.gg, T.exC, T.hdC⟩
def rIsD (K : PySem.W.Frag) (C a : Addr) (cls : Value) (d : Option Addr) : List V → Hp → VK → Prop := fun xs H Q => cls = .ref C ∧ ∃ (dd : Addr) (fs : List (Str × V)) (c : V) (cv : Value) (b : Bool), d = some dd ∧ H dd = some (.xd fs) ∧ xs = [.ref a, c] ∧ (∀ u, RelV c u → u = cv) ∧ PySem.W.kitOne K (.ref C) cv = some b ∧ Q (.bl b) H
theorem call_isD {X : Cx} {a C : Addr} {cls : Value} {d : Option Addr} {oe : Obj} {pn : List (Addr × Obj)} (T : ErrC X.K C) (hz : Zc cls d oe) (hf : ∃ vs, oe.data = .fields vs) : CallR (X.suite a ((a, oe) :: pn)) (.builtin "isinstance") (rIsD X.K C a cls d) := by
  intro pins s σ H xs us Q I r h
  obtain ⟨ec, dd, fs, c, cv, b, ed, hdd, rfl, hcv, hk, q⟩ := h
  subst ec
  subst ed
  obtain ⟨u1, rest, rfl, r1, rr⟩ : ∃ u1 rest, us = u1 :: rest ∧ RelV (.ref a) u1 ∧ Vals [c] rest := by
    cases r with
    | cons x y => exact ⟨_, _, rfl, x, y⟩
  obtain ⟨u2, rfl, r2⟩ := rr.one
  cases r1
  have e2 := hcv _ r2
  subst e2
  obtain ⟨hget, _⟩ := I.pin (a, oe) (List.mem_append_left _ List.mem_cons_self)
  obtain ⟨vs, hv⟩ := hf
  obtain ⟨mA, hns, _⟩ := (show ObjOk X.prog X.w H s.heap dd (.xd fs) from I.hok dd _ hdd)
  obtain ⟨od, ho, _⟩ := lookIn_ns hns
  have J : PySem.W.InstAt s.heap a oe C (some od) := ⟨hget, hz.1, by unfold PySem.W.notCls; rw [hv] <;> rfl, by rw [hz.2]; exact ho⟩
  exact PySem.W.kia_one (PySem.W.kitx_exc T.ic T.ga T.gg T.exC T.ca T.cn T.ct T.mo) I.kIn J hk (fun z => nomatch z) fun tk => ⟨.bl b, H, I.kept (t' := tk) fun _ _ z => z, rfl, q⟩
/-- the handled exception of a suite, for calls within it -/
theorem hot_suite {X : Cx} {a : Addr} {oe : Obj} {cls : Value} {d : Option Addr} {pn : List (Addr × Obj)} (hz : L2N.Zn cls d oe) (hf : ∃ vs, oe.data = .fields vs) : L2H.HotC (X.suite a ((a, oe) :: pn)) := by
  obtain ⟨vs, hv⟩ := hf
  exact ⟨(a, oe), ⟨rfl, vs, hv, hz.2.2 vs hv⟩, List.mem_cons_self⟩
/-- a class in an except clause, of itself -/
theorem exm_self {K : PySem.W.Frag} {C : Addr} (h1 : PySem.W.subIn K (.ref C) (.type "BaseException") = some true) (h2 : PySem.W.isClsIn K C = true) (h3 : PySem.W.typeIn K (.ref C) = some (.type "type")) {cls : Value} {b : Bool} (h4 : PySem.W.subIn K cls (.ref C) = some b) : PySem.W.exmOne K cls (.ref C) = some b := by
  have e1 : (PySem.W.subIn K (.ref C) (.type "BaseException") == some true) = true := by rw [h1] <;> rfl
  have e2 : ((PySem.W.clsIn K C).isSome && PySem.W.typeIn K (.ref C) == some (.type "type")) = true := by
    have h5 : (PySem.W.clsIn K C).isSome = true := h2
    rw [h5, h3] <;> rfl
  show (if (PySem.W.subIn K (.ref C) (.type "BaseException") == some true) = true then (if ((PySem.W.clsIn K C).isSome && PySem.W.typeIn K (.ref C) == some (.type "type")) = true then PySem.W.subIn K cls (.ref C) else none) else none) = some b
  rw [if_pos e1, if_pos e2]
  exact h4
end Own
namespace Own
open PySem PySem.Spec PyProof.Rows L2 HT
theorem mono1 {i : Nat} {P Q : List V → Hp → Prop} (hm : ∀ vs H, P vs H → Q vs H) {σ : L2.St} {H : Hp} (h : tCons (tVar i) tNil σ H P) : tCons (tVar i) tNil σ H Q := by
  obtain ⟨v, hv, hp⟩ := h
  exact ⟨v, hv, hm _ _ hp⟩
theorem monoS {x : Str} {P Q : List V → Hp → Prop} (hm : ∀ vs H, P vs H → Q vs H) {σ : L2.St} {H : Hp} (h : tCons (tC (.str x)) tNil σ H P) : tCons (tC (.str x)) tNil σ H Q := hm _ _ h
end Own
namespace Own
open PySem PySem.Spec PyProof.Rows L2 HT
/-! ### positions -/
def Ter.step (n : Int) : Ter → Option Ter
  | .var _ => none
  | .ap _ as => if 1 ≤ n then as[(n - 1).toNat]? else none
def Ter.at : Ter → List Int → Option Ter
  | t, [] => some t
  | t, n :: r => (t.step n).bind fun u => u.at r
theorem at_app : ∀ (ns ms : List Int) (t : Ter), t.at (ns ++ ms) = (t.at ns).bind fun u => u.at ms
  | [], _, _ => rfl
  | n :: r, ms, t => by
    show ((t.step n).bind fun u => u.at (r ++ ms)) = _
    rw [show t.at (n :: r) = (t.step n).bind fun u => u.at r from rfl]
    cases t.step n with
    | none => rfl
    | some u => exact at_app r ms u
theorem at_one (n : Int) (t : Ter) : t.at [n] = t.step n := by
  show ((t.step n).bind fun u => some u) = _
  cases t.step n <;> rfl
theorem at_snoc {ns : List Int} {n : Int} {t u : Ter} (h : t.at ns = some u) : t.at (ns ++ [n]) = u.step n := by
  rw [at_app, h]
  exact at_one n u
theorem at_none {ns : List Int} (ms : List Int) {t : Ter} (h : t.at ns = none) : t.at (ns ++ ms) = none := by rw [at_app, h]; rfl
/-- put in the place of the subterm at a position -/
def Ter.put : Ter → Ter → List Int → Ter
  | _, s, [] => s
  | .var k, _, _ :: _ => .var k
  | .ap f as, s, n :: r => .ap f (as.modify (n - 1).toNat fun a => a.put s r)
theorem step_eq (f : Str) (as : List Ter) (n : Int) : (Ter.ap f as).step n = if 1 ≤ n then as[(n - 1).toNat]? else none := rfl
theorem step_ap {f : Str} {as : List Ter} {n : Int} {u : Ter} (h : (Ter.ap f as).step n = some u) : 1 ≤ n ∧ as[(n - 1).toNat]? = some u := by
  rw [step_eq] at h
  by_cases c : 1 ≤ n
  · rw [if_pos c] at h
    exact ⟨c, h⟩
  · rw [if_neg c] at h
    cases h
theorem step_var {k : Key} {n : Int} : (Ter.var k).step n = none := rfl
theorem put_at (s : Ter) : ∀ (ns : List Int) (t u : Ter), t.at ns = some u → (t.put s ns).at ns = some s
  | [], t, u, _ => by cases t <;> rfl
  | n :: r, .var k, u, h => by cases h
  | n :: r, .ap f as, u, h => by
    cases e : (Ter.ap f as).step n with
    | none => rw [show (Ter.ap f as).at (n :: r) = ((Ter.ap f as).step n).bind fun u => u.at r from rfl, e] at h; cases h
    | some a =>
      have h : a.at r = some u := by rw [show (Ter.ap f as).at (n :: r) = ((Ter.ap f as).step n).bind fun u => u.at r from rfl, e] at h; exact h
      obtain ⟨h1, h2⟩ := step_ap e
      show ((Ter.ap f _).step n).bind _ = _
      rw [step_eq]
      rw [if_pos h1, List.getElem?_modify_eq, h2]
      exact put_at s r a u h
theorem put_put (s : Ter) : ∀ (ns : List Int) (t u : Ter), t.at ns = some u → (t.put s ns).put u ns = t
  | [], t, u, h => by
    cases (show some t = some u from h)
    cases s <;> rfl
  | n :: r, .var k, u, h => by cases h
  | n :: r, .ap f as, u, h => by
    cases e : (Ter.ap f as).step n with
    | none => rw [show (Ter.ap f as).at (n :: r) = ((Ter.ap f as).step n).bind fun u => u.at r from rfl, e] at h; cases h
    | some a =>
      have h : a.at r = some u := by rw [show (Ter.ap f as).at (n :: r) = ((Ter.ap f as).step n).bind fun u => u.at r from rfl, e] at h; exact h
      obtain ⟨h1, h2⟩ := step_ap e
      show Ter.ap f ((as.modify (n - 1).toNat fun a => a.put s r).modify (n - 1).toNat fun a => a.put u r) = Ter.ap f as
      congr 1
      apply List.ext_getElem?
      intro j
      by_cases hj : (n - 1).toNat = j
      · subst hj
        rw [List.getElem?_modify_eq, List.getElem?_modify_eq, h2]
        exact congrArg some (put_put s r a u h)
      · rw [List.getElem?_modify_ne _ _ hj, List.getElem?_modify_ne _ _ hj]
/-- what stands at a place that is neither above nor below -/
theorem put_beside (s : Ter) : ∀ (ms ns : List Int) (t u v : Ter), (∀ k ∈ ms, 1 ≤ k) → t.at ns = some u → t.at ms = some v → ms.take (min ms.length ns.length) ≠ ns.take (min ms.length ns.length) → (t.put s ns).at ms = some v
  | [], ns, t, u, v, _, _, _, d => by
    rw [show min ([] : List Int).length ns.length = 0 from Nat.zero_min _] at d
    exact absurd rfl d
  | m :: ms, [], t, u, v, _, _, _, d => by
    rw [show min (m :: ms).length ([] : List Int).length = 0 from Nat.min_zero _] at d
    exact absurd rfl d
  | m :: ms, n :: r, .var k, u, v, _, h, _, _ => by cases h
  | m :: ms, n :: r, .ap f as, u, v, pos, h, hm, d => by
    have key : ∀ (q : List Int) (x : Int) (w : Ter), (Ter.ap f as).at (x :: q) = some w → ∃ a, (Ter.ap f as).step x = some a ∧ a.at q = some w := fun q x w h => by
      cases e : (Ter.ap f as).step x with
      | none => rw [show (Ter.ap f as).at (x :: q) = ((Ter.ap f as).step x).bind fun u => u.at q from rfl, e] at h; cases h
      | some a => exact ⟨a, rfl, by rw [show (Ter.ap f as).at (x :: q) = ((Ter.ap f as).step x).bind fun u => u.at q from rfl, e] at h; exact h⟩
    obtain ⟨a, ea, ha⟩ := key r n u h
    obtain ⟨b, eb, hb⟩ := key ms m v hm
    obtain ⟨h1, h2⟩ := step_ap ea
    obtain ⟨g1, g2⟩ := step_ap eb
    show ((Ter.ap f (as.modify (n - 1).toNat fun a => a.put s r)).step m).bind _ = some v
    rw [step_eq]
    rw [if_pos g1]
    by_cases e : m = n
    · subst e
      rw [h2] at g2
      cases g2
      rw [List.getElem?_modify_eq, h2]
      refine put_beside s ms r a u v (fun k hk => pos k (List.mem_cons_of_mem _ hk)) ha hb fun z => d ?_
      rw [List.length_cons, List.length_cons, Nat.succ_min_succ, List.take_succ_cons, List.take_succ_cons, z]
    · rw [List.getElem?_modify_ne _ _ (show (n - 1).toNat ≠ (m - 1).toNat by omega), g2]
      exact hb
/-- what stands above -/
theorem put_above (s : Ter) : ∀ (ms ns : List Int) (t u v : Ter), t.at ns = some u → t.at ms = some v → ms.length < ns.length → ms.take (min ms.length ns.length) = ns.take (min ms.length ns.length) → ∃ f as bs, v = .ap f as ∧ (t.put s ns).at ms = some (.ap f bs) ∧ bs.length = as.length
  | [], [], _, _, _, _, _, l, _ => absurd l (by simp)
  | [], n :: r, .var k, u, v, h, _, _, _ => by cases h
  | [], n :: r, .ap f as, u, v, h, hv, l, _ => by
    cases (show some _ = some v from hv)
    exact ⟨f, as, _, rfl, rfl, List.length_modify _ _ _⟩
  | m :: ms, [], _, _, _, _, _, l, _ => absurd l (by simp)
  | m :: ms, n :: r, .var k, u, v, h, _, _, _ => by cases h
  | m :: ms, n :: r, .ap f as, u, v, h, hv, l, e => by
    rw [List.length_cons, List.length_cons, Nat.succ_min_succ, List.take_succ_cons, List.take_succ_cons] at e
    obtain ⟨e1, e2⟩ := List.cons.inj e
    subst e1
    have key : ∀ (q : List Int) (x : Int) (w : Ter), (Ter.ap f as).at (x :: q) = some w → ∃ a, (Ter.ap f as).step x = some a ∧ a.at q = some w := fun q x w h => by
      cases e : (Ter.ap f as).step x with
      | none => rw [show (Ter.ap f as).at (x :: q) = ((Ter.ap f as).step x).bind fun u => u.at q from rfl, e] at h; cases h
      | some a => exact ⟨a, rfl, by rw [show (Ter.ap f as).at (x :: q) = ((Ter.ap f as).step x).bind fun u => u.at q from rfl, e] at h; exact h⟩
    obtain ⟨a, ea, ha⟩ := key r m u h
    obtain ⟨b, eb, hb⟩ := key ms m v hv
    obtain ⟨h1, h2⟩ := step_ap ea
    rw [ea] at eb
    cases eb
    obtain ⟨g, xs, ys, rfl, hy, ly⟩ := put_above s ms r a u v ha hb (by simp only [List.length_cons] at l; omega) e2
    refine ⟨g, xs, ys, rfl, ?_, ly⟩
    show ((Ter.ap f (as.modify (m - 1).toNat fun a => a.put s r)).step m).bind _ = _
    rw [step_eq]
    rw [if_pos h1, List.getElem?_modify_eq, h2]
    exact hy
/-- from below: one level of put -/
theorem put_up {s : Ter} {ns ms : List Int} {n : Int} {t : Ter} {f : Str} {as : List Ter} {a : Ter} (ht : t.at ns = some (.ap f as)) (h1 : 1 ≤ n) (ha : as[(n - 1).toNat]? = some a) :
    (Ter.ap f as).put s (n :: ms) = .ap f (as.take (n - 1).toNat ++ a.put s ms :: as.drop ((n - 1).toNat + 1)) := by
  show Ter.ap f (as.modify (n - 1).toNat fun a => a.put s ms) = _
  congr 1
  obtain ⟨hl, e⟩ := List.getElem?_eq_some_iff.mp ha
  rw [List.modify_eq_take_cons_drop hl, e]
/-! ### the walk -/
abbrev Row := List Int × Ter
mutual
def Ter.walk (here : List Int) : Ter → List Row
  | .var k => [(here, .var k)]
  | .ap f as => (here, .ap f as) :: Ter.walks here 1 as
def Ter.walks (here : List Int) (i : Int) : List Ter → List Row
  | [] => []
  | a :: r => a.walk (here ++ [i]) ++ Ter.walks here (i + 1) r
end
theorem walks_app (here : List Int) : ∀ (as bs : List Ter) (i : Int), Ter.walks here i (as ++ bs) = Ter.walks here i as ++ Ter.walks here (i + as.length) bs
  | [], bs, i => by
    show Ter.walks here i bs = [] ++ Ter.walks here (i + (0 : Nat)) bs
    simp
  | a :: r, bs, i => by
    show a.walk (here ++ [i]) ++ Ter.walks here (i + 1) (r ++ bs) = (a.walk (here ++ [i]) ++ Ter.walks here (i + 1) r) ++ Ter.walks here (i + ((r.length + 1 : Nat) : Int)) bs
    rw [walks_app here r bs (i + 1), List.append_assoc, show i + 1 + (r.length : Int) = i + ((r.length + 1 : Nat) : Int) by omega]
mutual
theorem walk_len (here : List Int) : ∀ t : Ter, (t.walk here).length = t.size
  | .var k => rfl
  | .ap f as => by
    show (Ter.walks here 1 as).length + 1 = Ter.sizes as + 1
    rw [walks_len here as 1]
theorem walks_len (here : List Int) : ∀ (ts : List Ter) (i : Int), (Ter.walks here i ts).length = Ter.sizes ts
  | [], _ => rfl
  | t :: r, i => by
    show (t.walk _ ++ Ter.walks here (i + 1) r).length = t.size + Ter.sizes r
    rw [List.length_append, walk_len, walks_len here r]
end
/-- symbols of at most three arguments -/
def ar3 (f : Str) (n : Nat) : Prop := PyData.strOk f = true ∧ n ≤ 3
def anyKey (_ : Key) : Prop := True
theorem at_wf {W : Str → Nat → Prop} {U : Key → Prop} : ∀ (ns : List Int) (t u : Ter), t.wf W U → t.at ns = some u → u.wf W U ∧ u.size ≤ t.size ∧ u.nest + ns.length ≤ t.nest
  | [], t, u, h, e => by
    cases (show some t = some u from e)
    exact ⟨h, Nat.le_refl _, Nat.le_refl _⟩
  | n :: r, .var k, u, h, e => by cases e
  | n :: r, .ap f as, u, h, e => by
    cases e2 : (Ter.ap f as).step n with
    | none => rw [show (Ter.ap f as).at (n :: r) = ((Ter.ap f as).step n).bind fun u => u.at r from rfl, e2] at e; cases e
    | some a =>
      have e : a.at r = some u := by rw [show (Ter.ap f as).at (n :: r) = ((Ter.ap f as).step n).bind fun u => u.at r from rfl, e2] at e; exact e
      obtain ⟨h1, h2⟩ := step_ap e2
      have hm := wfs_get h.2 h2
      obtain ⟨k1, k2, k3⟩ := at_wf r a u hm e
      have s1 := size_le_of h2
      have n1 := nest_le_of h2
      refine ⟨k1, ?_, ?_⟩
      · show _ ≤ Ter.sizes as + 1
        omega
      · show u.nest + (r.length + 1) ≤ Ter.nests as + 1
        omega
mutual
theorem walk_mem (here : List Int) : ∀ (t : Ter), t.wf ar3 anyKey → ∀ x ∈ t.walk here, ∃ q, x.1 = here ++ q ∧ t.at q = some x.2 ∧ ∀ y ∈ q, 1 ≤ y ∧ y ≤ 3
  | .var k, _, x, hx => by
    rw [List.mem_singleton.mp hx]
    exact ⟨[], (List.append_nil _).symm, rfl, fun y hy => by cases hy⟩
  | .ap f as, h, x, hx => by
    rcases List.mem_cons.mp hx with rfl | hx
    · exact ⟨[], (List.append_nil _).symm, rfl, fun y hy => by cases hy⟩
    · obtain ⟨j, a, q, hj, e1, e2, e3⟩ := walks_mem here as 1 (by omega) h.2 x hx
      have lt := (List.getElem?_eq_some_iff.mp hj).1
      have l3 := h.1.2
      refine ⟨(1 + (j : Int)) :: q, e1, ?_, fun y hy => ?_⟩
      · show ((Ter.ap f as).step (1 + (j : Int))).bind _ = _
        rw [step_eq]
        rw [if_pos (by omega), show (1 + (j : Int) - 1).toNat = j by omega, hj]
        exact e2
      · rcases List.mem_cons.mp hy with rfl | hy
        · omega
        · exact e3 y hy
theorem walks_mem (here : List Int) : ∀ (ts : List Ter) (i : Int), 0 ≤ i → Ter.wfs ar3 anyKey ts → ∀ x ∈ Ter.walks here i ts, ∃ (j : Nat) (a : Ter) (q : List Int), ts[j]? = some a ∧ x.1 = here ++ (i + (j : Int)) :: q ∧ a.at q = some x.2 ∧ ∀ y ∈ q, 1 ≤ y ∧ y ≤ 3
  | [], _, _, _, x, hx => by cases hx
  | t :: r, i, hi, h, x, hx => by
    rcases List.mem_append.mp hx with hx | hx
    · obtain ⟨q, e1, e2, e3⟩ := walk_mem (here ++ [i]) t h.1 x hx
      refine ⟨0, t, q, rfl, ?_, e2, e3⟩
      rw [e1, List.append_assoc]
      show here ++ (i :: q) = here ++ (i + ((0 : Nat) : Int)) :: q
      rw [show i + ((0 : Nat) : Int) = i by omega]
    · obtain ⟨j, a, q, hj, e1, e2, e3⟩ := walks_mem here r (i + 1) (by omega) h.2 x hx
      refine ⟨j + 1, a, q, hj, ?_, e2, e3⟩
      rw [e1, show i + 1 + (j : Int) = i + ((j + 1 : Nat) : Int) by omega]
end
/-! ### rows on the heap -/
inductive RowAt (H : Hp) : V → Row → Prop
  | mk {r b : Addr} {x : V} {p : List Int} {u : Ter} : H r = some (.tup [.ref b, x]) → H b = some (.tup (p.map V.int)) → TmAt H x u → RowAt H (.ref r) (p, u)
inductive RowAll (H : Hp) : List V → List Row → Prop
  | nil : RowAll H [] []
  | cons {v : V} {p : Row} {vs : List V} {ps : List Row} : RowAt H v p → RowAll H vs ps → RowAll H (v :: vs) (p :: ps)
theorem RowAt.mono {H H' : Hp} (m : Tups H H') {v : V} {p : Row} (h : RowAt H v p) : RowAt H' v p := by
  cases h with
  | mk e1 e2 e3 => exact .mk (m _ _ e1) (m _ _ e2) (TmAt.mono m _ _ e3)
theorem RowAll.mono {H H' : Hp} (m : Tups H H') : ∀ {vs : List V} {ps : List Row}, RowAll H vs ps → RowAll H' vs ps
  | _, _, .nil => .nil
  | _, _, .cons a r => .cons (a.mono m) (r.mono m)
theorem RowAll.len {H : Hp} : ∀ {vs : List V} {ps : List Row}, RowAll H vs ps → vs.length = ps.length
  | _, _, .nil => rfl
  | _, _, .cons _ r => congrArg (· + 1) r.len
theorem RowAll.app {H : Hp} : ∀ {vs ws : List V} {ps qs : List Row}, RowAll H vs ps → RowAll H ws qs → RowAll H (vs ++ ws) (ps ++ qs)
  | _, _, _, _, .nil, b => b
  | _, _, _, _, .cons a r, b => .cons a (r.app b)
theorem RowAll.get {H : Hp} : ∀ {vs : List V} {ps : List Row} {i : Nat} {v : V}, RowAll H vs ps → vs[i]? = some v → ∃ p, ps[i]? = some p ∧ RowAt H v p
  | _, _, _, _, .nil, h => by cases h
  | _, _, 0, _, .cons a r, h => by
    cases (show some _ = some _ from h)
    exact ⟨_, rfl, a⟩
  | _, _, i + 1, _, .cons a r, h => r.get (i := i) h
/-! ### a position's text -/
def posOk (ns : List Int) : Prop := ns.length ≤ 100 ∧ ∀ y ∈ ns, 0 ≤ y ∧ y < 900
theorem pos_text {ns : List Int} (h : posOk ns) : (∀ y ∈ ns, y.natAbs.log2 < 1920) ∧ (tupleText (ns.map fun y => ((toString y : String) : Str))).length ≤ 1000000 := by
  refine ⟨fun y hy => ?_, ?_⟩
  · have := h.2 y hy
    refine Nat.lt_of_le_of_lt (Nat.log2_le_self _) ?_
    omega
  · have t1 := fmt_text (ns.map fun y => ((toString y : String) : Str))
    have t2 : ∀ l : List Int, (∀ y ∈ l, 0 ≤ y ∧ y < 900) → piled (l.map fun y => ((toString y : String) : Str)) ≤ 10 * l.length := fun l => by
      induction l with
      | nil => exact fun _ => Nat.zero_le _
      | cons y r ih =>
        intro hl
        have i1 := ih fun z hz => hl z (List.mem_cons_of_mem _ hz)
        have i2 := hl y List.mem_cons_self
        have i3 := num_len y i2.1 i2.2
        rw [List.map_cons, piled_cons, List.length_cons]
        omega
    have t3 := t2 ns h.2
    have t4 := h.1
    omega
theorem posOk_walk {t : Ter} {x : Row} (h : t.wf ar3 anyKey) (n : t.nest ≤ 50) (hx : x ∈ t.walk []) : posOk x.1 ∧ t.at x.1 = some x.2 ∧ ∀ y ∈ x.1, 1 ≤ y := by
  obtain ⟨q, e1, e2, e3⟩ := walk_mem [] t h x hx
  have e1 : x.1 = q := e1
  obtain ⟨_, _, k3⟩ := at_wf q t x.2 h e2
  rw [e1]
  exact ⟨⟨by omega, fun y hy => by have := e3 y hy; omega⟩, e2, fun y hy => (e3 y hy).1⟩
end Own
namespace Own
open PySem PySem.Spec PyProof.Rows L2 HT
theorem cut_take (xs : List V) (i : Nat) (h : i ≤ xs.length) : cutV xs none (some (i : Int)) = xs.take i := by
  unfold cutV
  rw [HT.sIx_nat, HT.sIx_none, Nat.min_eq_left h]
  simp
theorem cut_drop (xs : List V) (i : Nat) (h : i ≤ xs.length) : cutV xs (some (i : Int)) none = xs.drop i := by
  unfold cutV
  rw [HT.sIx_nat, HT.sIx_none, Nat.min_eq_left h]
  exact List.take_of_length_le (by rw [List.length_drop]; omega)
theorem TmAll.take {H : Hp} : ∀ {vs : List V} {ts : List Ter} (i : Nat), TmAll H vs ts → TmAll H (vs.take i) (ts.take i)
  | _, _, 0, _ => .nil
  | _, _, i + 1, .nil => .nil
  | _, _, i + 1, .cons a r => .cons a (r.take i)
theorem TmAll.drop {H : Hp} : ∀ {vs : List V} {ts : List Ter} (i : Nat), TmAll H vs ts → TmAll H (vs.drop i) (ts.drop i)
  | _, _, 0, h => h
  | _, _, i + 1, .nil => .nil
  | _, _, i + 1, .cons a r => r.drop i
/-- a position and one with more behind it -/
theorem catA_ints {K : PySem.W.Frag} {H : Hp} {a b : Addr} {ns ms : List Int} {Q : VK} (ha : H a = some (.tup (ns.map V.int))) (hb : H b = some (.tup (ms.map V.int))) (ne : ms ≠ []) (hl : ns.length + ms.length ≤ 1000)
    (q : ∀ (p : Addr) (H' : Hp), Same H H' → H' p = some (.tup ((ns ++ ms).map V.int)) → Q (.ref p) H') : rCatA K (.ref a) (.ref b) H Q := by
  refine ⟨a, b, _, _, rfl, rfl, .inl (.inl ha), .inl (.inl hb), small6 (by rw [List.length_map, List.length_map]; omega), fun z => ?_, fun _ z => ?_, fun _ _ p np => ?_⟩
  · have : ns = [] := List.map_eq_nil_iff.mp z
    subst this
    exact q b H (Same.refl _) hb
  · exact absurd (List.map_eq_nil_iff.mp z) ne
  · refine q p _ (same_new np _) ?_
    rw [upd_same, List.map_append]
end Own
namespace Own
open PySem PySem.Spec PyProof.Rows L2 HT
mutual
theorem wf_true : ∀ t : Ter, t.wf (fun _ _ => True) (fun _ => True)
  | .var _ => trivial
  | .ap _ as => ⟨trivial, wfs_true as⟩
theorem wfs_true : ∀ ts : List Ter, Ter.wfs (fun _ _ => True) (fun _ => True) ts
  | [] => trivial
  | t :: r => ⟨wf_true t, wfs_true r⟩
end
end Own
namespace Own
open PySem PySem.Spec PyProof.Rows L2 HT
theorem sizes_modify (f : Ter → Ter) (n : Nat) (h : ∀ a, (f a).size ≤ a.size + n) : ∀ (as : List Ter) (i : Nat), Ter.sizes (as.modify i f) ≤ Ter.sizes as + n
  | [], i => by rw [List.modify_nil]; exact Nat.zero_le _
  | a :: r, 0 => by
    rw [List.modify_zero_cons]
    have := h a
    show (f a).size + Ter.sizes r ≤ a.size + Ter.sizes r + n
    omega
  | a :: r, i + 1 => by
    rw [List.modify_succ_cons]
    have := sizes_modify f n h r i
    show a.size + Ter.sizes (r.modify i f) ≤ a.size + Ter.sizes r + n
    omega
theorem put_size (s : Ter) : ∀ (ns : List Int) (t : Ter), (t.put s ns).size ≤ t.size + s.size
  | [], t => by cases t <;> exact Nat.le_add_left _ _
  | n :: r, .var k => Nat.le_add_right _ _
  | n :: r, .ap f as => by
    have := sizes_modify (fun a => a.put s r) s.size (fun a => put_size s r a) as (n - 1).toNat
    show Ter.sizes (as.modify (n - 1).toNat fun a => a.put s r) + 1 ≤ Ter.sizes as + 1 + s.size
    omega
theorem eqv_ints : ∀ ns ms : List Int, PyData.eqvAll (ns.map PyData.int) (ms.map PyData.int) = decide (ns = ms)
  | [], [] => rfl
  | [], m :: ms => rfl
  | n :: ns, [] => rfl
  | n :: ns, m :: ms => by
    show ((n == m) && PyData.eqvAll (ns.map PyData.int) (ms.map PyData.int)) = _
    rw [eqv_ints ns ms]
    by_cases h1 : n = m
    · subst h1
      by_cases h2 : ns = ms
      · subst h2
        simp
      · simp [h2]
    · simp [h1]
theorem eqv_tints (ns ms : List Int) : PyData.eqv (.tuple (ns.map PyData.int)) (.tuple (ms.map PyData.int)) = decide (ns = ms) := eqv_ints ns ms
theorem lay_ints : ∀ ns : List Int, PyData.canLayAll0 (ns.map PyData.int) = true ∧ PyData.depthAll (ns.map PyData.int) = 0
  | [] => ⟨rfl, rfl⟩
  | n :: r => by
    obtain ⟨h1, h2⟩ := lay_ints r
    exact ⟨by show (true && PyData.canLayAll0 (r.map PyData.int)) = true; rw [h1]; rfl, by show max 0 (PyData.depthAll (r.map PyData.int)) = 0; rw [h2]; rfl⟩
theorem shaped_tints (ns : List Int) : SeqAt.shaped (.tuple (ns.map PyData.int)) = true := by
  obtain ⟨h1, h2⟩ := lay_ints ns
  show (PyData.canLayAll0 (ns.map PyData.int) && decide (PyData.depthAll (ns.map PyData.int) + 1 ≤ 64)) = true
  rw [h1, h2]
  rfl
/-- the beginning of a position -/
theorem slA_ints {K : PySem.W.Frag} {H : Hp} {a : Addr} {ns : List Int} {n : Nat} {Q : VK} (ha : H a = some (.tup (ns.map V.int))) (hn : n ≤ ns.length)
    (q : ∀ (p : Addr) (H' : Hp), Same H H' → H' p = some (.tup ((ns.take n).map V.int)) → Q (.ref p) H') : rSlA K (.ref a) none (some (n : Int)) H Q := by
  refine ⟨a, _, rfl, .inl (.inl ha), fun z => ?_, fun _ p np => ?_⟩
  · obtain ⟨_, z⟩ := z
    rw [HT.sIx_nat, List.length_map] at z
    refine q a H (Same.refl _) ?_
    rw [ha, show ns.take n = ns from List.take_of_length_le (by omega)]
  · refine q p _ (same_new np _) ?_
    rw [upd_same, cut_take _ _ (by rw [List.length_map]; exact hn), List.map_take]
theorem passLN {X : Cx} (σ : L2.St) : PassesAt (L2N.CX X.prog X.w) X σ ((fun _ => E0 : L2.St → XK) σ) := fun _ _ _ _ _ _ h => by
  obtain ⟨_, _, _, _, _, _, _, _, _, _, _, _, z⟩ := h
  exact z.elim
end Own
namespace Own
open PySem PySem.Spec PyProof.Rows L2 HT
/-! ### positions as a list, by a stack -/
def kids (p : List Int) (i : Int) : List Ter → List Row
  | [] => []
  | a :: r => (p ++ [i], a) :: kids p (i + 1) r
def allWalk (rs : List Row) : List Row := rs.flatMap fun x => x.2.walk x.1
theorem kids_walk (p : List Int) : ∀ (as : List Ter) (i : Int), allWalk (kids p i as) = Ter.walks p i as
  | [], _ => rfl
  | a :: r, i => by
    show a.walk (p ++ [i]) ++ allWalk (kids p (i + 1) r) = _
    rw [kids_walk p r (i + 1)]
    rfl
theorem kids_len (p : List Int) : ∀ (as : List Ter) (i : Int), (kids p i as).length = as.length
  | [], _ => rfl
  | _ :: r, i => congrArg (· + 1) (kids_len p r (i + 1))
theorem kids_get (p : List Int) : ∀ (as : List Ter) (i : Int) (j : Nat) (a : Ter), as[j]? = some a → (kids p i as)[j]? = some (p ++ [i + (j : Int)], a)
  | [], _, _, _, h => by cases h
  | b :: r, i, 0, a, h => by
    cases (show some b = some a from h)
    show some (p ++ [i], b) = some (p ++ [i + ((0 : Nat) : Int)], b)
    rw [show i + ((0 : Nat) : Int) = i by omega]
  | b :: r, i, j + 1, a, h => by
    show (kids p (i + 1) r)[j]? = _
    rw [kids_get p r (i + 1) j a h, show i + 1 + (j : Int) = i + ((j + 1 : Nat) : Int) by omega]
def rsize (rs : List Row) : Nat := Ter.sizes (rs.map (·.2))
theorem rsize_app (a b : List Row) : rsize (a ++ b) = rsize a + rsize b := by
  unfold rsize
  rw [List.map_append, Ter.sizes_app]
theorem rsize_rev (a : List Row) : rsize a.reverse = rsize a := by
  induction a with
  | nil => rfl
  | cons x r ih =>
    rw [List.reverse_cons, rsize_app, ih]
    show rsize r + (x.2.size + 0) = x.2.size + rsize r
    omega
theorem kids_size (p : List Int) : ∀ (as : List Ter) (i : Int), rsize (kids p i as) = Ter.sizes as
  | [], _ => rfl
  | a :: r, i => by
    have := kids_size p r (i + 1)
    show a.size + rsize (kids p (i + 1) r) = a.size + Ter.sizes r
    rw [this]
/-- what positions keeps -/
def posOf (wv : Bool) (rs : List Row) : List (List Int) := (rs.filter fun x => wv || !x.2.isVar).map (·.1)
theorem posOf_app (wv : Bool) (a b : List Row) : posOf wv (a ++ b) = posOf wv a ++ posOf wv b := by
  unfold posOf
  rw [List.filter_append, List.map_append]
theorem posOf_true (a : List Row) : posOf true a = a.map (·.1) := by
  unfold posOf
  have e : (a.filter fun x => true || !x.2.isVar) = a := List.filter_eq_self.mpr fun x _ => rfl
  rw [e]
theorem walk_ap (p : List Int) (f : Str) (as : List Ter) : (Ter.ap f as).walk p = (p, .ap f as) :: allWalk (kids p 1 as) := by rw [kids_walk]; rfl
/-! ### positions on the heap -/
inductive PosAt (H : Hp) : V → List Int → Prop
  | mk {b : Addr} {p : List Int} : H b = some (.tup (p.map V.int)) → PosAt H (.ref b) p
inductive PosAll (H : Hp) : List V → List (List Int) → Prop
  | nil : PosAll H [] []
  | cons {v : V} {p : List Int} {vs : List V} {ps : List (List Int)} : PosAt H v p → PosAll H vs ps → PosAll H (v :: vs) (p :: ps)
theorem PosAt.mono {H H' : Hp} (m : Tups H H') {v : V} {p : List Int} (h : PosAt H v p) : PosAt H' v p := by
  cases h with
  | mk e => exact .mk (m _ _ e)
theorem PosAll.mono {H H' : Hp} (m : Tups H H') : ∀ {vs : List V} {ps : List (List Int)}, PosAll H vs ps → PosAll H' vs ps
  | _, _, .nil => .nil
  | _, _, .cons a r => .cons (a.mono m) (r.mono m)
theorem PosAll.len {H : Hp} : ∀ {vs : List V} {ps : List (List Int)}, PosAll H vs ps → vs.length = ps.length
  | _, _, .nil => rfl
  | _, _, .cons _ r => congrArg (· + 1) r.len
theorem PosAll.app {H : Hp} : ∀ {vs ws : List V} {ps qs : List (List Int)}, PosAll H vs ps → PosAll H ws qs → PosAll H (vs ++ ws) (ps ++ qs)
  | _, _, _, _, .nil, b => b
  | _, _, _, _, .cons a r, b => .cons a (r.app b)
theorem PosAll.get {H : Hp} : ∀ {vs : List V} {ps : List (List Int)} {i : Nat} {v : V}, PosAll H vs ps → vs[i]? = some v → ∃ p, ps[i]? = some p ∧ PosAt H v p
  | _, _, _, _, .nil, h => by cases h
  | _, _, 0, _, .cons a r, h => by
    cases (show some _ = some _ from h)
    exact ⟨_, rfl, a⟩
  | _, _, i + 1, _, .cons a r, h => r.get (i := i) h
def posD (p : List Int) : PyData := .tuple (p.map PyData.int)
theorem dp_poss {K : PySem.W.Frag} {H : Hp} : ∀ {vs : List V} {ps : List (List Int)}, PosAll H vs ps → DpAll K H vs (ps.map posD)
  | _, _, .nil => .nil
  | _, _, .cons (.mk e) r => .cons (.tup (.inl (.inl e)) (dp_ints _)) (dp_poss r)
theorem fits_poss {ps : List (List Int)} (n : Nat) (h : ps.length ≤ 1000000) (hl : ∀ p ∈ ps, p.length ≤ 1000000) : fitsD (n + 3) (.list (ps.map posD)) := by
  refine ⟨by rw [List.length_map]; exact h, fun d hd => ?_⟩
  obtain ⟨p, hp, rfl⟩ := List.mem_map.mp hd
  refine ⟨by rw [List.length_map]; exact hl p hp, fun d hd => ?_⟩
  obtain ⟨x, _, rfl⟩ := List.mem_map.mp hd
  exact trivial
/-- the last row of a stack -/
theorem RowAll.last {H : Hp} : ∀ {vs : List V} {rs : List Row}, RowAll H vs rs → vs ≠ [] → ∃ vs' v rs' r, vs = vs' ++ [v] ∧ rs = rs' ++ [r] ∧ RowAll H vs' rs' ∧ RowAt H v r
  | _, _, .nil, h => absurd rfl h
  | _, _, .cons a .nil, _ => ⟨[], _, [], _, rfl, rfl, .nil, a⟩
  | _, _, .cons a (.cons b r), _ => by
    obtain ⟨vs', v, rs', x, e1, e2, h1, h2⟩ := RowAll.last (.cons b r) (by simp)
    exact ⟨_ :: vs', v, _ :: rs', x, by rw [e1]; rfl, by rw [e2]; rfl, .cons a h1, h2⟩
/-! ### leaves -/
def isLeaf : Ter → Bool
  | .var _ => true
  | .ap _ as => as.isEmpty
mutual
theorem has_leaf (here : List Int) : ∀ t : Ter, ∃ x ∈ t.walk here, isLeaf x.2 = true
  | .var k => ⟨_, List.mem_singleton.mpr rfl, rfl⟩
  | .ap f [] => ⟨_, List.mem_cons_self, rfl⟩
  | .ap f (a :: r) => by
    obtain ⟨x, hx, hl⟩ := has_leaf (here ++ [1]) a
    exact ⟨x, List.mem_cons_of_mem _ (List.mem_append_left _ hx), hl⟩
end
def leafOf (rs : List Row) : List Row := rs.filter fun x => isLeaf x.2
theorem leaf_step {t u : Ter} {ns : List Int} (h : t.at ns = some u) (hl : isLeaf u = true) (n : Int) (ms : List Int) : t.at (ns ++ (n :: ms)) = none := by
  rw [at_app, h]
  show (u.step n).bind _ = none
  cases u with
  | var k => rfl
  | ap f as =>
    have e : as = [] := by
      cases as with
      | nil => rfl
      | cons a r => cases hl
    subst e
    rw [step_eq]
    split <;> rfl
end Own
set_option maxHeartbeats 2000000
namespace Own
open PySem PySem.Spec PyProof.Rows L2 HT
/-! ### == of deep data -/
section
variable {X : Cx}
def rEqDeep (K : PySem.W.Frag) : R2 := fun x y H Q => ∃ d e, Dp K H x d ∧ Dp K H y e ∧ d.canLay0 = true ∧ e.canLay0 = true ∧ d.depth ≤ 150 ∧ Q (.bl (PyData.eqv d e)) H
theorem op_eqDeep (room : X.A.units + 150 < cLine) : OpR X (compareOp .Eq) (rEqDeep X.K) := by
  intro pn t τ G p r vp vr Q J kp kr
  rintro ⟨d, e, h1, h2, c1, c2, dl, q⟩
  obtain ⟨_, g1⟩ := Dp.reads J d p vp h1 kp
  obtain ⟨_, g2⟩ := Dp.reads J e r vr h2 kr
  exact SeqAt.compareEq_reads g1 g2 c1 c2 (by have := Nat.min_le_left d.depth e.depth; omega) ⟨.bl _, G, J, rfl, q⟩
/-! ### != of two dicts that hold the same data -/
theorem hits_data {pn : List (Addr × Obj)} {τ : L2.St} {G : Hp} {t : Shared} (J : Inv X pn τ G t) {A : Around} (room : A.units + 64 < cLine) {ls : List (Key × V)} {wb : List (Key × Value)} (kb : KV ls wb) {ks : List (Key × V)} {wa : List (Key × Value)} (ka : KV ks wa) :
    (∀ p ∈ ks, ∃ u d, valV ls p.1 = some u ∧ Dp X.K G p.2 d ∧ Dp X.K G u d ∧ SeqAt.shaped d = true ∧ PyData.eqv d d = true) → PySem.W.KeqHits A t wb wa true := by
  unfold KV at ka
  induction ka with
  | nil => exact fun _ => .nil
  | @cons e1 e2 _ _ g _ ih =>
    intro all
    obtain ⟨kk, uu⟩ := e2
    obtain ⟨g1, g2⟩ := g
    have g1 : e1.1 = kk := g1
    obtain ⟨u, d, f1, f2, f3, f4, f5⟩ := all e1 List.mem_cons_self
    have ro := kb.val e1.1
    rw [f1] at ro
    obtain ⟨z, hz, rz⟩ := RelO.some_of ro
    rw [g1] at hz
    obtain ⟨_, r1⟩ := Dp.reads J d _ _ f2 g2
    obtain ⟨_, r2⟩ := Dp.reads J d _ _ f3 rz
    have eq1 := SeqAt.eqAt_reads d d A t _ _ _ _ r1 r2 (SeqAt.canLay_of_shaped f4) (SeqAt.canLay_of_shaped f4) (SeqAt.room_of_shaped f4 room)
    rw [f5] at eq1
    show PySem.W.KeqHits A t wb ((kk, uu) :: _) (true && true)
    exact .hit hz eq1 (ih fun p m => all p (List.mem_cons_of_mem _ m))
def rNeDct (K : PySem.W.Frag) : R2 := fun x y H Q => ∃ a b ks ls, x = .ref a ∧ y = .ref b ∧ H a = some (.dK ks) ∧ H b = some (.dK ls) ∧ ks.length = ls.length ∧
  (∀ p ∈ ks, ∃ u d, valV ls p.1 = some u ∧ Dp K H p.2 d ∧ Dp K H u d ∧ SeqAt.shaped d = true ∧ PyData.eqv d d = true) ∧ Q (.bl false) H
theorem op_neDct (room : X.A.units + 65 < cLine) : OpR X (compareOp .NotEq) (rNeDct X.K) := by
  intro pn t τ G p r vp vr Q J kp kr
  rintro ⟨a, b, ks, ls, rfl, rfl, ea, eb, len, all, q⟩
  cases (show vp = Value.ref a from kp)
  cases (show vr = Value.ref b from kr)
  obtain ⟨_, ya, wa, ra, da⟩ := (show ObjOk X.prog X.w G t.heap a (.dK ks) from J.hok a _ ea)
  obtain ⟨_, yb, wb, rb, db⟩ := (show ObjOk X.prog X.w G t.heap b (.dK ls) from J.hok b _ eb)
  have el : wa.length = wb.length := ra.length.symm.trans (len.trans rb.length)
  refine PySem.W.keq_ne (knd := mixKind X.prog X.w) (r := true) ya yb da db (by omega) (fun _ => hits_data J (A := X.A.in1) (by show X.A.units + 1 + 64 < cLine; omega) rb ra all) ?_
  rw [el, beq_self_eq_true]
  exact ⟨.bl false, G, J, rfl, q⟩
end
/-! ### a dict comprehension over what is walked -/
theorem dc_it {J : It} {n : Nat} {G : Hp → Prop} {Y : Nat → Hp → V → Hp → Prop} (w : Walk J n G Y) {g : TG} {tt : TT} {tk tv : TE} {vs : List Nat} {τ : L2.St} {F1 : Hp} {D : Addr} {Qd : Hp → Prop} (Pv : Nat → Hp → Prop) (h0 : Pv 0 (upd F1 D (.dK []))) (hG : ∀ i F, i ≤ n → Pv i F → G F)
    (hs : ∀ i x F F2, i < n → Pv i F → Y i F x F2 → g x (wipe τ vs) F2 fun τ3 F3 => wipe τ3 vs = wipe τ vs ∧ tt τ3 F3 fun b F4 =>
      if b = true then tk τ3 F4 fun y F5 => tv τ3 F5 fun z F6 => ∃ kvs k, y = kV k ∧ F6 D = some (.dK kvs) ∧ kvs.length < sizeLine ∧ Pv (i + 1) (upd F6 D (.dK (putK kvs k z))) else Pv (i + 1) F4) (hd : ∀ F, Pv n F → Qd F) :
    ∃ W : Nat → Nat → Hp → Prop, (∃ m, W 0 m (upd F1 D (.dK []))) ∧ ∀ i m F, W i m F →
      (J.stop i F ∧ Qd F) ∨ (J.go i F ∧ ∃ Nx : Hp → Prop, (∀ F2, Nx F2 → ∃ m', m' < m ∧ W (i + 1) m' F2) ∧ ∀ x F2, J.yld i F x F2 → g x (wipe τ vs) F2 fun τ3 F3 => wipe τ3 vs = wipe τ vs ∧ tt τ3 F3 fun b F4 =>
        if b = true then tk τ3 F4 fun y F5 => tv τ3 F5 fun z F6 => ∃ kvs k, y = kV k ∧ F6 D = some (.dK kvs) ∧ kvs.length < sizeLine ∧ Nx (upd F6 D (.dK (putK kvs k z))) else Nx F4) := by
  refine ⟨fun i m F => m = n - i ∧ i ≤ n ∧ Pv i F, ⟨n, (Nat.sub_zero n).symm, Nat.zero_le _, h0⟩, ?_⟩
  rintro i m F ⟨rfl, le, pv⟩
  have gf := hG i F le pv
  rcases Nat.lt_or_eq_of_le le with lt | rfl
  · exact .inr ⟨w.goes i F lt gf, Pv (i + 1), fun F2 p2 => ⟨_, by omega, rfl, lt, p2⟩, fun x F2 y => hs i x F F2 lt pv (w.yields i F x F2 lt gf y)⟩
  · exact .inl ⟨w.stops F gf, hd F pv⟩
/-! ### several except clauses, named or not -/
abbrev HdT := Value × Option Nat × (Addr → Value → Option Addr → TS)
def wHds (K : PySem.W.Frag) (Wout : WX) (D : Ends) : List HdT → WX
  | [] => Wout
  | (c, none, ts) :: r => fun cls d σ H => ∃ b, PySem.W.exmOne K cls c = some b ∧ (b = true → ∀ a, H a = none → ts a cls d D σ H) ∧ (b = false → wHds K Wout D r cls d σ H)
  | (c, some i, ts) :: r => fun cls d σ H => ∃ b, PySem.W.exmOne K cls c = some b ∧ (b = true → ∀ a, H a = none → ts a cls d { nx := fun τ G => D.nx (τ.set i none) G, rt := D.rt, bk := fun τ G => D.bk (τ.set i none) G, ct := fun τ G => D.ct (τ.set i none) G } (σ.set i (some (.ref a))) H) ∧
      (b = false → wHds K Wout D r cls d σ H)
inductive Hds (X : Cx) : List ExceptHandler → List HdT → Prop
  | nil : Hds X [] []
  | one {x : Str} {c : Value} {ts : Addr → Value → Option Addr → TS} {b₀ : Stmt} {suite : List Stmt} {np pp : Pos} {hds : List ExceptHandler} {l : List HdT} (hc : Names X x c)
      (hsu : ∀ (a : Addr) (oe : Obj) (cls : Value) (d : Option Addr) (pn : List (Addr × Obj)), L2N.Zn cls d oe → (∃ vs, oe.data = .fields vs) → PSs (X.suite a ((a, oe) :: pn)) (b₀ :: suite) (ts a cls d)) (r : Hds X hds l) :
      Hds X (.ExceptHandler (some (.Name x np)) none (b₀ :: suite) pp :: hds) ((c, none, ts) :: l)
  | as {x n : Str} {c : Value} {i : Nat} {ts : Addr → Value → Option Addr → TS} {b₀ : Stmt} {suite : List Stmt} {np pp : Pos} {hds : List ExceptHandler} {l : List HdT} (hi : X.N[i]? = some n) (hln : X.env.kindOf n = some .local) (hc : Names X x c)
      (hsu : ∀ (a : Addr) (oe : Obj) (cls : Value) (d : Option Addr) (pn : List (Addr × Obj)), L2N.Zn cls d oe → (∃ vs, oe.data = .fields vs) → PSs (X.suite a ((a, oe) :: pn)) (b₀ :: suite) (ts a cls d)) (r : Hds X hds l) :
      Hds X (.ExceptHandler (some (.Name x np)) (some n) (b₀ :: suite) pp :: hds) ((c, some i, ts) :: l)
section
variable {X : Cx} {body : List Stmt} {h₀ : ExceptHandler} {hds : List ExceptHandler} {l : List HdT} {pos : Pos} {tb : WX → TS} {Wout : WX}
theorem ps_try_hds (hs : X.stack = X.env :: X.outer) (hf : X.env.frame = some X.env.locals) (nd : X.N.Nodup) (tk : L2N.Takes X Wout)
    (hb : ∀ (W : WX) (pn : List (Addr × Obj)) (xe : Value → Shared → Prop), L2N.Takes (X.tr pn xe) W → PassesOwn (model X.prog X.w) X.A X.env xe → PSs (X.tr pn xe) body (tb W))
    (hh : Hds X (h₀ :: hds) l) : PS X (.Try body (h₀ :: hds) [] [] pos) (fun D σ H => tb (wHds X.K Wout D l) D σ H) := by
  refine ⟨fun pn t τ G D J h => ?_⟩
  have okJ := J.ok
  have frs0 : X.A.frames = some (X.env :: X.outer) := okJ.frames.trans (congrArg some hs)
  refine wpAny_Try_except ?_
  have run := (hb (wHds X.K Wout D l) (X.pn ++ pn) (fun e t1 => wpAny (model X.prog X.w) X.A (noteFrame e X.env) (fun _ t2 => wpAny (model X.prog X.w) X.A (setFlight e none) (fun _ t3 => wpAny (model X.prog X.w) X.A (handleBy e X.env (h₀ :: hds)) (SP X pn D) X.xe t3) X.xe t2) X.xe t1) (fun u t9 air => ?_) PassesOwn.looking).run [] t τ G D (J.toTry _) h
  · refine wpAny_mono run (fun fl t1 sp => ?_) (fun _ _ z => z)
    cases fl with
    | next => obtain ⟨τ2, G2, J2, q⟩ := sp; exact wpAny_execs_nil ⟨_, _, J2.ofTry okJ, q⟩
    | brk => obtain ⟨τ2, G2, J2, q⟩ := sp; exact ⟨_, _, J2.ofTry okJ, q⟩
    | cont => obtain ⟨τ2, G2, J2, q⟩ := sp; exact ⟨_, _, J2.ofTry okJ, q⟩
    | ret u => obtain ⟨v, τ2, G2, J2, r, q⟩ := sp; exact ⟨v, _, _, J2.ofTry okJ, r, q⟩
  -- caught
  obtain ⟨x, B, t5, pn5, τ5, G5, cls, d, rfl, K5, newB, up5, sky5, nx5, os5, ag5, wish⟩ := air
  have J5 : Inv X pn τ5 G5 t5 := K5.ofTry okJ
  rw [show (X.tr (X.pn ++ pn) _).stack = X.env :: X.outer from hs] at sky5
  show wpAny (model X.prog X.w) X.A (noteFrame (.ref x) X.env) _ _ _
  refine L2N.Sky.land L2N.Zn.steady frs0 hf sky5 fun hp6 land6 up6 => ?_
  have J6 : Inv X pn τ5 G5 { t9 with heap := hp6 } := J5.landed newB land6.1 (up5.trans up6) os5 ag5
  obtain ⟨o6, w6, at6, z6, f6⟩ := land6.there
  have apart : x ∉ frs (X.env :: X.outer) := fun m => by
    obtain ⟨_, o8, at8, n8⟩ := land6.2.2.1.mem m
    cases at6.symm.trans at8
    exact n8 _ f6
  have apL : x ≠ X.env.locals := fun z => apart (List.mem_filterMap.mpr ⟨X.env, List.mem_cons_self, hf.trans (congrArg some z.symm)⟩)
  have apF : x ∉ X.fs := fun m => by
    obtain ⟨e, me, q⟩ := List.mem_filterMap.mp m
    exact apart (List.mem_filterMap.mpr ⟨e, List.mem_cons_of_mem _ me, q⟩)
  have S6 := J6.suite at6 f6 nx5 apL apF
  have test : ∀ {y : Str} {c : Value} {np : Pos} {Q E : Value → Shared → Prop}, Names X y c → Q c { t9 with heap := hp6 } → wpAny (model X.prog X.w) (X.A.mark (some (.ref x))) (eval (.Name y np) X.env) Q E { t9 with heap := hp6 } := fun {y c np Q E} nm q => by
    rcases nm with ⟨n1, n2, n3 | ⟨n3, n4, n5⟩⟩
    · exact ld_glob (X := X.suite x ((x, o6) :: (X.pn ++ pn))) S6 n1 n3 q n2
    · exact ld_blt (X := X.suite x ((x, o6) :: (X.pn ++ pn))) S6 n1 n3 n4 q n5 n2
  have looks : PySem.W.Looks (model X.prog X.w) hp6 (typeOf (.ref x)) cls := fun A Q E s k q => wpAny_typeOf_ref (k _ _ at6) (z6.1.symm ▸ q)
  have go : ∀ {hs2 : List ExceptHandler} {l2 : List HdT}, Hds X hs2 l2 → wHds X.K Wout D l2 cls d τ5 G5 → wpAny (model X.prog X.w) X.A (handleBy (.ref x) X.env hs2) (SP X pn D) X.xe { t9 with heap := hp6 } := by
    intro hs2 l2 hk
    induction hk with
    | nil =>
      intro out
      refine wpAny_handleBy_nil ?_
      obtain ⟨_, _, _, o7, w7, T, oT, _, at7, _, f7, tb7, _⟩ := id land6
      unfold PySem.passOn
      refine wpAny_bind (wpAny_field at7 f7 tb7 ?_)
      rw [if_neg (show ¬ ((Value.ref T == Value.none) = true) from fun z => by simp at z)]
      have leave : wpAny (model X.prog X.w) X.A (setFlight (.ref x) X.env.frame) (fun _ t8 => wpAny (model X.prog X.w) X.A (throw (.ref x) : Sem Flow) (SP X pn D) X.xe t8) X.xe { t9 with heap := hp6 } := by
        rw [hf]
        refine HandSPX.setFlight_upZ land6 fun hp8 in8 up8 => wpAny_throw (tk _ _ ⟨x, B, t5, pn, τ5, G5, cls, d, rfl, J5, newB, (up5.trans up6).trans up8, .inr (.inr (hs.symm ▸ in8)), nx5, os5, ag5, out⟩)
      first | exact wpAny_bind (wpAny_pure (wpAny_bind leave)) | exact wpAny_bind leave
    | @one y c ts b₀ suite np pp hds3 l3 hc hsu r ih =>
      rintro ⟨b, hb1, yes, no⟩
      refine wpAny_handleBy_cons (codeAny_handlers_test ?_) (by intro z; cases z)
      refine test hc ((PySem.W.exm_one (M := model X.prog X.w) J6.kIn looks hb1).here ?_)
      cases b with
      | false =>
        show wpAny _ X.A (handleBy (.ref x) X.env hds3) _ _ _
        exact ih (no rfl)
      | true =>
        refine codeAny_handlers_suite (HandSPX.lands_againZ land6 fun hp8 land8 up8 => ?_)
        have J8 : Inv X pn τ5 G5 { t9 with heap := hp8 } := J5.landed newB land8.1 ((up5.trans up6).trans up8) os5 ag5
        obtain ⟨o8, w8, at8, z8, f8⟩ := land8.there
        refine wpAny_mono ((hsu x o8 cls d (X.pn ++ pn) z8 ⟨w8, f8⟩).run [] _ _ G5 _ (J8.suite at8 f8 nx5 apL apF) (yes rfl x nx5)) (fun fl t1 sp => ?_) (fun _ _ z => z.elim)
        cases fl with
        | next => obtain ⟨τ2, G2, S2, q⟩ := sp; exact ⟨_, _, S2.unsuite okJ, q⟩
        | brk => obtain ⟨τ2, G2, S2, q⟩ := sp; exact ⟨_, _, S2.unsuite okJ, q⟩
        | cont => obtain ⟨τ2, G2, S2, q⟩ := sp; exact ⟨_, _, S2.unsuite okJ, q⟩
        | ret u => obtain ⟨v2, τ2, G2, S2, r2, q⟩ := sp; exact ⟨_, _, _, S2.unsuite okJ, r2, q⟩
    | @as y n c i ts b₀ suite np pp hds3 l3 hi hln hc hsu r ih =>
      rintro ⟨b, hb1, yes, no⟩
      refine wpAny_handleBy_cons (codeAny_handlers_test ?_) (by intro z; cases z)
      refine test hc ((PySem.W.exm_one (M := model X.prog X.w) J6.kIn looks hb1).here ?_)
      cases b with
      | false =>
        show wpAny _ X.A (handleBy (.ref x) X.env hds3) _ _ _
        exact ih (no rfl)
      | true =>
        refine codeAny_handlers_suite_as (HandSPX.lands_againZ land6 fun hp8 land8 up8 => ?_)
        have J8 : Inv X pn τ5 G5 { t9 with heap := hp8 } := J5.landed newB land8.1 ((up5.trans up6).trans up8) os5 ag5
        obtain ⟨o8, w8, at8, z8, f8⟩ := land8.there
        refine store_ok (X := X.suite x ((x, o8) :: (X.pn ++ pn))) (v := .ref x) (J8.suite at8 f8 nx5 apL apF) nd hi (.inl hln) rfl (fun t7 S7 => ?_) (.inr hln)
        refine wpAny_mono ((hsu x o8 cls d (X.pn ++ pn) z8 ⟨w8, f8⟩).run [] t7 _ G5 _ S7 (yes rfl x nx5)) (fun fl t1 sp => ?_) (fun _ _ z => z.elim)
        have fin : ∀ {τ2 : L2.St} {G2 : Hp} {Q : Shared → Prop}, Inv (X.suite x ((x, o8) :: (X.pn ++ pn))) [] τ2 G2 t1 → (∀ t2, Inv X pn (τ2.set i none) G2 t2 → Q t2) → wpAny (model X.prog X.w) X.A (do bindName X.env n .none; unbindBehindTheSuite X.env n pp) (fun _ t2 => Q t2) X.xe t1 := fun S2 hq => gone_ok (S2.unsuite okJ) nd hi hln hq
        cases fl with
        | next => obtain ⟨τ2, G2, S2, q⟩ := sp; exact fin S2 fun t2 J2 => ⟨_, _, J2, q⟩
        | brk => obtain ⟨τ2, G2, S2, q⟩ := sp; exact fin S2 fun t2 J2 => ⟨_, _, J2, q⟩
        | cont => obtain ⟨τ2, G2, S2, q⟩ := sp; exact fin S2 fun t2 J2 => ⟨_, _, J2, q⟩
        | ret u => obtain ⟨v2, τ2, G2, S2, r2, q⟩ := sp; exact fin S2 fun t2 J2 => ⟨_, _, _, J2, r2, q⟩
  exact go hh wish
end
end Own
set_option maxHeartbeats 2000000
namespace Own
open PySem PySem.Spec PyProof.Rows L2 HT
/-! ### substitutions -/
abbrev Sb := List (Key × Ter)
def Sb.look : Sb → Key → Option Ter
  | [], _ => none
  | e :: r, k => if e.1 = k then some e.2 else Sb.look r k
def Sb.has (θ : Sb) (k : Key) : Bool := (Sb.look θ k).isSome
def Sb.keys (θ : Sb) : List Key := θ.map (·.1)
mutual
def Ter.sub (θ : Sb) : Ter → Ter
  | .var k => (Sb.look θ k).getD (.var k)
  | .ap f as => .ap f (Ter.subs θ as)
def Ter.subs (θ : Sb) : List Ter → List Ter
  | [] => []
  | a :: r => a.sub θ :: Ter.subs θ r
end
theorem subs_len (θ : Sb) : ∀ as : List Ter, (Ter.subs θ as).length = as.length
  | [] => rfl
  | a :: r => congrArg (· + 1) (subs_len θ r)
theorem subs_app (θ : Sb) : ∀ as bs : List Ter, Ter.subs θ (as ++ bs) = Ter.subs θ as ++ Ter.subs θ bs
  | [], _ => rfl
  | a :: r, bs => congrArg (a.sub θ :: ·) (subs_app θ r bs)
theorem slook_mem : ∀ {θ : Sb} {k : Key} {t : Ter}, Sb.look θ k = some t → (k, t) ∈ θ
  | e :: r, k, t, h => by
    obtain ⟨a, b⟩ := e
    unfold Sb.look at h
    by_cases c : a = k
    · rw [if_pos c] at h
      cases h
      subst c
      exact List.mem_cons_self
    · rw [if_neg c] at h
      exact List.mem_cons_of_mem _ (slook_mem h)
theorem look_not : ∀ {θ : Sb} {k : Key}, Sb.look θ k = none → k ∉ Sb.keys θ
  | [], _, _ => fun z => by cases z
  | e :: r, k, h => by
    unfold Sb.look at h
    by_cases c : e.1 = k
    · rw [if_pos c] at h; cases h
    · rw [if_neg c] at h
      intro z
      rcases List.mem_cons.mp z with z | z
      · exact c z.symm
      · exact look_not h z
theorem look_key : ∀ {θ : Sb} {k : Key}, k ∉ Sb.keys θ → Sb.look θ k = none
  | [], _, _ => rfl
  | e :: r, k, h => by
    unfold Sb.look
    have h1 : ¬ e.1 = k := fun z => h (z ▸ List.mem_cons_self)
    rw [if_neg h1]
    exact look_key fun z => h (List.mem_cons_of_mem _ z)
theorem look_at : ∀ {θ : Sb} {k : Key} {t : Ter}, (Sb.keys θ).Nodup → (k, t) ∈ θ → Sb.look θ k = some t
  | e :: r, k, t, nd, h => by
    have nd : e.1 ∉ Sb.keys r ∧ (Sb.keys r).Nodup := List.nodup_cons.mp nd
    unfold Sb.look
    rcases List.mem_cons.mp h with rfl | h
    · exact if_pos rfl
    · have : ¬ e.1 = k := fun z => nd.1 (z ▸ List.mem_map_of_mem (f := fun e : Key × Ter => e.1) h)
      rw [if_neg this]
      exact look_at nd.2 h
theorem look_app : ∀ (a b : Sb) (k : Key), Sb.look (a ++ b) k = (Sb.look a k).or (Sb.look b k)
  | [], _, _ => rfl
  | e :: r, b, k => by
    show (if e.1 = k then some e.2 else Sb.look (r ++ b) k) = ((if e.1 = k then some e.2 else Sb.look r k).or (Sb.look b k))
    by_cases c : e.1 = k
    · rw [if_pos c, if_pos c]; rfl
    · rw [if_neg c, if_neg c]; exact look_app r b k
theorem look_map (g : Ter → Ter) : ∀ (a : Sb) (k : Key), Sb.look (a.map fun e => (e.1, g e.2)) k = (Sb.look a k).map g
  | [], _ => rfl
  | e :: r, k => by
    show (if e.1 = k then some (g e.2) else Sb.look (r.map fun e => (e.1, g e.2)) k) = ((if e.1 = k then some e.2 else Sb.look r k).map g)
    by_cases c : e.1 = k
    · rw [if_pos c, if_pos c]; rfl
    · rw [if_neg c, if_neg c]; exact look_map g r k
theorem keys_filter_sub {p : Key × Ter → Bool} {θ : Sb} {k : Key} (h : k ∈ Sb.keys (θ.filter p)) : k ∈ Sb.keys θ := by
  obtain ⟨e, he, h2⟩ := List.mem_map.mp h
  exact List.mem_map.mpr ⟨e, (List.mem_filter.mp he).1, h2⟩
theorem keys_filter_nd {p : Key × Ter → Bool} {θ : Sb} (h : (Sb.keys θ).Nodup) : (Sb.keys (θ.filter p)).Nodup := List.Sublist.nodup (List.Sublist.map _ List.filter_sublist) h
theorem look_filter (p : Key × Ter → Bool) : ∀ (θ : Sb) (k : Key), (Sb.keys θ).Nodup → Sb.look (θ.filter p) k = (Sb.look θ k).bind fun t => if p (k, t) = true then some t else none
  | [], _, _ => rfl
  | e :: r, k, nd => by
    obtain ⟨a, t⟩ := e
    have nd : a ∉ Sb.keys r ∧ (Sb.keys r).Nodup := List.nodup_cons.mp nd
    show Sb.look (List.filter p ((a, t) :: r)) k = (if a = k then some t else Sb.look r k).bind _
    by_cases c : a = k
    · subst c
      rw [if_pos rfl]
      show _ = if p (a, t) = true then some t else none
      by_cases q : p (a, t) = true
      · rw [List.filter_cons_of_pos q, if_pos q]
        exact if_pos rfl
      · rw [List.filter_cons_of_neg q, if_neg q]
        exact look_key fun z => nd.1 (keys_filter_sub z)
    · rw [if_neg c]
      by_cases q : p (a, t) = true
      · rw [List.filter_cons_of_pos q]
        show (if a = k then some t else Sb.look (List.filter p r) k) = _
        rw [if_neg c]
        exact look_filter p r k nd.2
      · rw [List.filter_cons_of_neg q]
        exact look_filter p r k nd.2
/-- a variable bound to itself -/
def triv (e : Key × Ter) : Bool := match e.2 with
  | .var k => decide (k = e.1)
  | .ap _ _ => false
theorem triv_var {k : Key} {t : Ter} (h : triv (k, t) = true) : t = .var k := by
  unfold triv at h
  cases t with
  | var j => exact congrArg Ter.var (of_decide_eq_true h)
  | ap f as => cases h
def Sb.comp (θ η : Sb) : Sb := ((θ.map fun e => (e.1, e.2.sub η)) ++ η.filter fun e => !Sb.has θ e.1).filter fun e => !triv e
theorem keys_map (θ η : Sb) : Sb.keys (θ.map fun e => (e.1, e.2.sub η)) = Sb.keys θ := by
  unfold Sb.keys
  rw [List.map_map]
  rfl
theorem keys_union {θ η : Sb} (h1 : (Sb.keys θ).Nodup) (h2 : (Sb.keys η).Nodup) : (Sb.keys ((θ.map fun e => (e.1, e.2.sub η)) ++ η.filter fun e => !Sb.has θ e.1)).Nodup := by
  show (List.map (fun e : Key × Ter => e.1) _).Nodup
  rw [List.map_append]
  have k1 : (Sb.keys (θ.map fun e => (e.1, e.2.sub η))).Nodup := by rw [keys_map]; exact h1
  refine List.nodup_append.mpr ⟨k1, keys_filter_nd h2, fun a ha b hb z => ?_⟩
  subst z
  have ha : a ∈ Sb.keys (θ.map fun e => (e.1, e.2.sub η)) := ha
  rw [keys_map] at ha
  obtain ⟨e, he, rfl⟩ := List.mem_map.mp hb
  have q := (List.mem_filter.mp he).2
  unfold Sb.has at q
  cases c : Sb.look θ e.1 with
  | none => exact look_not c ha
  | some t => rw [c] at q; cases q
theorem keys_comp {θ η : Sb} (h1 : (Sb.keys θ).Nodup) (h2 : (Sb.keys η).Nodup) : (Sb.keys (Sb.comp θ η)).Nodup := keys_filter_nd (keys_union h1 h2)
theorem look_comp {θ η : Sb} (h1 : (Sb.keys θ).Nodup) (h2 : (Sb.keys η).Nodup) (k : Key) : (Sb.look (Sb.comp θ η) k).getD (.var k) = Ter.sub η ((Sb.look θ k).getD (.var k)) := by
  unfold Sb.comp
  rw [look_filter _ _ k (keys_union h1 h2), look_app, look_map, look_filter _ _ k h2]
  have fin : ∀ t : Ter, ((some t).bind fun t => if (!triv (k, t)) = true then some t else none).getD (.var k) = t := fun t => by
    show (if (!triv (k, t)) = true then some t else none).getD (.var k) = t
    by_cases c : triv (k, t) = true
    · rw [c]
      show Ter.var k = t
      exact (triv_var c).symm
    · rw [Bool.not_eq_true] at c
      rw [c]
      rfl
  cases c : Sb.look θ k with
  | some t =>
    show (((some (t.sub η)).or _).bind _).getD _ = t.sub η
    exact fin _
  | none =>
    show (((Sb.look η k).bind fun t => if (!Sb.has θ k) = true then some t else none).bind _).getD _ = (Sb.look η k).getD (.var k)
    have e : (!Sb.has θ k) = true := by unfold Sb.has; rw [c]; rfl
    cases d : Sb.look η k with
    | none => rfl
    | some t =>
      show ((if (!Sb.has θ k) = true then some t else none).bind _).getD _ = t
      rw [if_pos e]
      exact fin t
mutual
theorem sub_comp {θ η : Sb} (h1 : (Sb.keys θ).Nodup) (h2 : (Sb.keys η).Nodup) : ∀ t : Ter, t.sub (Sb.comp θ η) = (t.sub θ).sub η
  | .var k => look_comp h1 h2 k
  | .ap f as => congrArg (Ter.ap f) (subs_comp h1 h2 as)
theorem subs_comp {θ η : Sb} (h1 : (Sb.keys θ).Nodup) (h2 : (Sb.keys η).Nodup) : ∀ ts : List Ter, Ter.subs (Sb.comp θ η) ts = Ter.subs η (Ter.subs θ ts)
  | [] => rfl
  | t :: r => by
    show t.sub _ :: Ter.subs _ r = (t.sub θ).sub η :: Ter.subs η (Ter.subs θ r)
    rw [sub_comp h1 h2 t, subs_comp h1 h2 r]
end
/-! ### how large -/
mutual
theorem sub_nest {θ : Sb} {N : Nat} (h : ∀ e ∈ θ, e.2.nest ≤ N) (h1 : 1 ≤ N) : ∀ t : Ter, (t.sub θ).nest + 1 ≤ t.nest + N
  | .var k => by
    show ((Sb.look θ k).getD (.var k)).nest + 1 ≤ 1 + N
    cases c : Sb.look θ k with
    | none => show 1 + 1 ≤ 1 + N; omega
    | some t =>
      have := h _ (slook_mem c)
      show t.nest + 1 ≤ 1 + N
      have : t.nest ≤ N := this
      omega
  | .ap f as => by
    have := subs_nests h h1 as
    show (Ter.nests (Ter.subs θ as) + 1) + 1 ≤ (Ter.nests as + 1) + N
    omega
theorem subs_nests {θ : Sb} {N : Nat} (h : ∀ e ∈ θ, e.2.nest ≤ N) (h1 : 1 ≤ N) : ∀ ts : List Ter, Ter.nests (Ter.subs θ ts) + 1 ≤ Ter.nests ts + N
  | [] => by show 0 + 1 ≤ 0 + N; omega
  | t :: r => by
    have a := sub_nest h h1 t
    have b := subs_nests h h1 r
    show max (t.sub θ).nest (Ter.nests (Ter.subs θ r)) + 1 ≤ max t.nest (Ter.nests r) + N
    omega
end
mutual
theorem sub_wf {W : Str → Nat → Prop} {U : Key → Prop} {θ : Sb} (h : ∀ e ∈ θ, e.2.wf W U) : ∀ t : Ter, t.wf W U → (t.sub θ).wf W U
  | .var k, hw => by
    show ((Sb.look θ k).getD (.var k)).wf W U
    cases c : Sb.look θ k with
    | none => exact hw
    | some t => exact h _ (slook_mem c)
  | .ap f as, hw => ⟨by rw [subs_len]; exact hw.1, subs_wf h as hw.2⟩
theorem subs_wf {W : Str → Nat → Prop} {U : Key → Prop} {θ : Sb} (h : ∀ e ∈ θ, e.2.wf W U) : ∀ ts : List Ter, Ter.wfs W U ts → Ter.wfs W U (Ter.subs θ ts)
  | [], _ => trivial
  | t :: r, hw => ⟨sub_wf h t hw.1, subs_wf h r hw.2⟩
end
mutual
theorem size_pow {W : Str → Nat → Prop} {U : Key → Prop} (h : ∀ f n, W f n → n ≤ 2) : ∀ t : Ter, t.wf W U → t.size + 1 ≤ 2 ^ t.nest
  | .var k, _ => by show 1 + 1 ≤ 2 ^ 1; decide
  | .ap f as, hw => by
    have a := sizes_pow h as hw.2
    have b := h _ _ hw.1
    have c : 1 ≤ 2 ^ Ter.nests as := Nat.one_le_pow _ _ (by decide)
    show (Ter.sizes as + 1) + 1 ≤ 2 ^ (Ter.nests as + 1)
    rw [Nat.pow_succ]
    have d : as.length = 0 ∨ as.length = 1 ∨ as.length = 2 := by omega
    rcases d with d | d | d <;> rw [d] at a <;> omega
theorem sizes_pow {W : Str → Nat → Prop} {U : Key → Prop} (h : ∀ f n, W f n → n ≤ 2) : ∀ ts : List Ter, Ter.wfs W U ts → Ter.sizes ts + ts.length ≤ ts.length * 2 ^ Ter.nests ts
  | [], _ => Nat.zero_le _
  | t :: r, hw => by
    have a := size_pow h t hw.1
    have b := sizes_pow h r hw.2
    have c : 2 ^ t.nest ≤ 2 ^ (max t.nest (Ter.nests r)) := Nat.pow_le_pow_right (by decide) (Nat.le_max_left _ _)
    have d : 2 ^ Ter.nests r ≤ 2 ^ (max t.nest (Ter.nests r)) := Nat.pow_le_pow_right (by decide) (Nat.le_max_right _ _)
    have e : r.length * 2 ^ Ter.nests r ≤ r.length * 2 ^ (max t.nest (Ter.nests r)) := Nat.mul_le_mul_left _ d
    show (t.size + Ter.sizes r) + (r.length + 1) ≤ (r.length + 1) * 2 ^ (max t.nest (Ter.nests r))
    rw [Nat.add_mul, Nat.one_mul]
    omega
end
/-! ### dicts that hold a substitution -/
inductive SubT (H : Hp) : List (Key × V) → Sb → Prop
  | nil : SubT H [] []
  | cons {k : Key} {v : V} {t : Ter} {kvs : List (Key × V)} {θ : Sb} : TmAt H v t → SubT H kvs θ → SubT H ((k, v) :: kvs) ((k, t) :: θ)
theorem SubT.mono {H H' : Hp} (m : Tups H H') : ∀ {kvs : List (Key × V)} {θ : Sb}, SubT H kvs θ → SubT H' kvs θ
  | _, _, .nil => .nil
  | _, _, .cons a r => .cons (TmAt.mono m _ _ a) (r.mono m)
theorem SubT.len {H : Hp} : ∀ {kvs : List (Key × V)} {θ : Sb}, SubT H kvs θ → kvs.length = θ.length
  | _, _, .nil => rfl
  | _, _, .cons _ r => congrArg (· + 1) r.len
theorem SubT.keys {H : Hp} : ∀ {kvs : List (Key × V)} {θ : Sb}, SubT H kvs θ → kvs.map (·.1) = Sb.keys θ
  | _, _, .nil => rfl
  | _, _, .cons (k := k) _ r => congrArg (k :: ·) r.keys
theorem SubT.app {H : Hp} : ∀ {kvs ls : List (Key × V)} {θ η : Sb}, SubT H kvs θ → SubT H ls η → SubT H (kvs ++ ls) (θ ++ η)
  | _, _, _, _, .nil, h => h
  | _, _, _, _, .cons a r, h => .cons a (r.app h)
theorem SubT.get {H : Hp} : ∀ {kvs : List (Key × V)} {θ : Sb} {i : Nat} {k : Key} {v : V}, SubT H kvs θ → kvs[i]? = some (k, v) → ∃ t, θ[i]? = some (k, t) ∧ TmAt H v t
  | _, _, _, _, _, .nil, e => by simp at e
  | _, _, 0, _, _, .cons a r, e => by
    simp at e
    obtain ⟨e1, e2⟩ := e
    subst e1
    subst e2
    exact ⟨_, rfl, a⟩
  | _, _, i + 1, k, v, .cons a r, e => by
    obtain ⟨t, h1, h2⟩ := SubT.get (i := i) (k := k) (v := v) r (by simpa using e)
    exact ⟨t, by simpa using h1, h2⟩
theorem SubT.look {H : Hp} : ∀ {kvs : List (Key × V)} {θ : Sb}, SubT H kvs θ → ∀ k : Key, (valV kvs k = none ∧ Sb.look θ k = none) ∨ ∃ v t, valV kvs k = some v ∧ Sb.look θ k = some t ∧ TmAt H v t
  | _, _, .nil, _ => .inl ⟨rfl, rfl⟩
  | _, _, .cons (k := j) (v := v) (t := t) (kvs := kvs) (θ := θ) a r, k => by
    by_cases c : j = k
    · exact .inr ⟨v, t, valV_pos c, if_pos c, a⟩
    · have e1 : valV ((j, v) :: kvs) k = valV kvs k := valV_neg c
      have e2 : Sb.look ((j, t) :: θ) k = Sb.look θ k := if_neg c
      rw [e1, e2]
      exact r.look k
theorem SubT.put {H : Hp} {kvs : List (Key × V)} {θ : Sb} (h : SubT H kvs θ) {k : Key} {v : V} {t : Ter} (n : k ∉ Sb.keys θ) (ht : TmAt H v t) : SubT H (putK kvs k v) (θ ++ [(k, t)]) := by
  rcases h.look k with ⟨e, _⟩ | ⟨_, _, _, e, _⟩
  · rw [putK_new v e]
    exact h.app (.cons ht .nil)
  · rw [look_key n] at e
    cases e
/-- small numbers for variables, terms of k06 and its like, of nesting up to N -/
structure SbOk (θ : Sb) (N : Nat) : Prop where
  nd : (Sb.keys θ).Nodup
  num : ∀ e ∈ θ, ∃ i : Int, e.1 = .inl i ∧ 0 ≤ i
  wf : ∀ e ∈ θ, e.2.wf s7 numVar
  ne : ∀ e ∈ θ, e.2.nest ≤ N
theorem SbOk.comp {θ η : Sb} {N M : Nat} (h : SbOk θ N) (g : SbOk η M) (m1 : 1 ≤ M) : SbOk (Sb.comp θ η) (N + M) := by
  have al : ∀ e ∈ Sb.comp θ η, (∃ i : Int, e.1 = .inl i ∧ 0 ≤ i) ∧ e.2.wf s7 numVar ∧ e.2.nest ≤ N + M := fun e he => by
    rcases List.mem_append.mp (List.mem_filter.mp he).1 with he | he
    · obtain ⟨a, ha, rfl⟩ := List.mem_map.mp he
      have q := sub_nest g.ne m1 a.2
      have q2 := h.ne a ha
      exact ⟨h.num a ha, sub_wf g.wf _ (h.wf a ha), by show (a.2.sub η).nest ≤ N + M; omega⟩
    · have ha := (List.mem_filter.mp he).1
      exact ⟨g.num e ha, g.wf e ha, Nat.le_trans (g.ne e ha) (Nat.le_add_left _ _)⟩
  exact ⟨keys_comp h.nd g.nd, fun e he => (al e he).1, fun e he => (al e he).2.1, fun e he => (al e he).2.2⟩
theorem SbOk.nil {N : Nat} : SbOk [] N := ⟨List.nodup_nil, (fun _ z => by cases z), (fun _ z => by cases z), (fun _ z => by cases z)⟩
theorem triv_data {i : Int} {t : Ter} (h : t.wf s7 numVar) : PyData.eqv t.dat (kD (.inl i)) = triv (.inl i, t) := by
  cases t with
  | var k =>
    obtain ⟨r, rfl, _⟩ := h
    show PyData.eqv (.int r) (.int i) = decide ((Sum.inl r : Key) = Sum.inl i)
    have : PyData.eqv (.int r) (.int i) = (r == i) := by rw [PyData.eqv]
    rw [this]
    by_cases c : r = i
    · subst c; simp
    · simp [c]
  | ap f as => rfl
/-! ### what is given of some size -/
def Ter.chain : Nat → Ter → Ter
  | 0, t => t
  | n + 1, t => .ap "f" [Ter.chain n t]
def Ter.dbl : Nat → Ter
  | 0 => .ap "a" []
  | n + 1 => .ap "g" [Ter.dbl n, Ter.dbl n]
theorem chain_sub (θ : Sb) (t : Ter) : ∀ n : Nat, (Ter.chain n t).sub θ = Ter.chain n (t.sub θ)
  | 0 => rfl
  | n + 1 => by
    show Ter.ap "f" [(Ter.chain n t).sub θ] = Ter.ap "f" [Ter.chain n (t.sub θ)]
    rw [chain_sub θ t n]
theorem chain_chain (t : Ter) (m : Nat) : ∀ n : Nat, Ter.chain n (Ter.chain m t) = Ter.chain (n + m) t
  | 0 => by rw [Nat.zero_add]; rfl
  | n + 1 => by
    rw [Nat.add_right_comm]
    show Ter.ap "f" [Ter.chain n (Ter.chain m t)] = Ter.ap "f" [Ter.chain (n + m) t]
    rw [chain_chain t m n]
theorem chain_nest (t : Ter) : ∀ n : Nat, (Ter.chain n t).nest = n + t.nest
  | 0 => (Nat.zero_add _).symm
  | n + 1 => by
    show max (Ter.chain n t).nest 0 + 1 = n + 1 + t.nest
    rw [chain_nest t n]
    omega
theorem chain_size (t : Ter) : ∀ n : Nat, (Ter.chain n t).size = n + t.size
  | 0 => (Nat.zero_add _).symm
  | n + 1 => by
    show ((Ter.chain n t).size + 0) + 1 = n + 1 + t.size
    rw [chain_size t n]
    omega
theorem chain_wf {W : Str → Nat → Prop} {U : Key → Prop} (h : W "f" 1) {t : Ter} (ht : t.wf W U) : ∀ n : Nat, (Ter.chain n t).wf W U
  | 0 => ht
  | n + 1 => ⟨h, chain_wf h ht n, trivial⟩
theorem dbl_sub (θ : Sb) : ∀ n : Nat, (Ter.dbl n).sub θ = Ter.dbl n
  | 0 => rfl
  | n + 1 => by
    show Ter.ap "g" [(Ter.dbl n).sub θ, (Ter.dbl n).sub θ] = _
    rw [dbl_sub θ n]
    rfl
theorem dbl_nest : ∀ n : Nat, (Ter.dbl n).nest = n + 1
  | 0 => rfl
  | n + 1 => by
    show max (Ter.dbl n).nest (max (Ter.dbl n).nest 0) + 1 = n + 1 + 1
    rw [dbl_nest n]
    omega
theorem dbl_size : ∀ n : Nat, (Ter.dbl n).size + 1 = 2 ^ (n + 1)
  | 0 => rfl
  | n + 1 => by
    have := dbl_size n
    show (((Ter.dbl n).size + ((Ter.dbl n).size + 0)) + 1) + 1 = 2 ^ (n + 1 + 1)
    rw [Nat.pow_succ]
    omega
theorem dbl_wf {W : Str → Nat → Prop} {U : Key → Prop} (h0 : W "a" 0) (h2 : W "g" 2) : ∀ n : Nat, (Ter.dbl n).wf W U
  | 0 => ⟨h0, trivial⟩
  | n + 1 => ⟨h2, dbl_wf h0 h2 n, dbl_wf h0 h2 n, trivial⟩
def Ter.fits (t : Ter) : Bool := decide (t.size ≤ 1000) && decide (t.nest ≤ 100)
end Own
set_option maxHeartbeats 2000000
namespace Own
open PySem PySem.Spec PyProof.Rows L2 HT
/-! ### a dict that is locked for a while -/
theorem But.tupsD {d : Addr} {H H' : Hp} {ys : List (Key × V)} (a : But d H H') (h : H d = some (.dK ys)) : Tups H H' := fun b xs e => a b _ (ne_of e h (by intro z; cases z)) e
theorem tups_frz {H : Hp} {d : Addr} {od : Obj} {u o : HO} (h : H d = some (.frz od u)) : Tups H (upd H d o) := fun b xs e => by rw [upd_ne (ne_of e h (by intro z; cases z))]; exact e
theorem but_unlock {a : Addr} {H H2 : Hp} {u : HO} (e : H a = some u) (b : But a H H2) : Same H (upd H2 a u) := fun c o h => by
  by_cases q : c = a
  · subst q
    rw [upd_same, ← e]
    exact h
  · rw [upd_ne q]
    exact b c o q h
theorem but_fresh {a p : Addr} {H H2 : Hp} {o : HO} (b : But a H H2) (np : H p = none) : But a H (upd H2 p o) := fun c x n e => by
  rw [upd_ne (ne_of_none e np)]
  exact b c x n e
theorem same_fresh {p : Addr} {H H2 : Hp} {o : HO} (s : Same H H2) (np : H p = none) : Same H (upd H2 p o) := fun c x e => by
  rw [upd_ne (ne_of_none e np)]
  exact s c x e
theorem DGet.frz {H : Hp} {a : Addr} {od : Obj} {kvs : List (Key × V)} {k : Key} {v : V} (e : H a = some (.frz od (.dK kvs))) (h : valV kvs k = some v) : DGet H a (kV k) (some v) := .inl ⟨kvs, k, .inr ⟨od, e⟩, rfl, h.symm⟩
theorem DGet.of {H : Hp} {a : Addr} {kvs : List (Key × V)} {k : Key} {v : V} (e : H a = some (.dK kvs)) (h : valV kvs k = some v) : DGet H a (kV k) (some v) := .inl ⟨kvs, k, .inl e, rfl, h.symm⟩
/-! ### one more of a substitution -/
theorem sb_take {U : Sb} {i : Nat} {k : Key} {t : Ter} (h : U[i]? = some (k, t)) : U.take (i + 1) = U.take i ++ [(k, t)] := by rw [List.take_add_one, h]; rfl
theorem sb_fresh {U : Sb} {i : Nat} {k : Key} {t : Ter} (nd : (Sb.keys U).Nodup) (h : U[i]? = some (k, t)) : k ∉ Sb.keys (U.take i) := by
  intro z
  have e : Sb.keys U = Sb.keys (U.take i) ++ Sb.keys (U.drop i) := by
    unfold Sb.keys
    rw [← List.map_append, List.take_append_drop]
  rw [e] at nd
  refine (List.nodup_append.mp nd).2.2 k z k ?_ rfl
  have : (U.drop i)[0]? = some (k, t) := by rw [List.getElem?_drop]; exact h
  exact List.mem_map.mpr ⟨(k, t), List.mem_of_getElem? this, rfl⟩
theorem sb_filter (p : Key × Ter → Bool) {U : Sb} {i : Nat} {k : Key} {t : Ter} (h : U[i]? = some (k, t)) : (U.take (i + 1)).filter p = (U.take i).filter p ++ (if p (k, t) = true then [(k, t)] else []) := by
  rw [sb_take h, List.filter_append]
  by_cases c : p (k, t) = true
  · rw [if_pos c, List.filter_cons_of_pos c]; rfl
  · rw [if_neg c, List.filter_cons_of_neg c]; rfl
theorem sb_ffresh (p : Key × Ter → Bool) {U : Sb} {i : Nat} {k : Key} {t : Ter} (nd : (Sb.keys U).Nodup) (h : U[i]? = some (k, t)) : k ∉ Sb.keys ((U.take i).filter p) := fun z => sb_fresh nd h (keys_filter_sub z)
theorem sb_map {θ η : Sb} {i : Nat} {k : Key} {t : Ter} (h : θ[i]? = some (k, t)) : (θ.map fun e => (e.1, e.2.sub η))[i]? = some (k, t.sub η) := by rw [List.getElem?_map, h]; rfl
theorem sb_look {U : Sb} {i : Nat} {k : Key} {t : Ter} (nd : (Sb.keys U).Nodup) (h : U[i]? = some (k, t)) : Sb.look U k = some t := look_at nd (List.mem_of_getElem? h)
theorem SubT.val {H : Hp} {kvs : List (Key × V)} {θ : Sb} (h : SubT H kvs θ) (nd : (Sb.keys θ).Nodup) {i : Nat} {k : Key} {v : V} (e : kvs[i]? = some (k, v)) : valV kvs k = some v := val_of_mem (e := (k, v)) (by rw [h.keys]; exact nd) (List.mem_of_getElem? e)
theorem shaped_num (i : Int) : SeqAt.shaped (kD (.inl i)) = true := rfl
theorem has_some {θ : Sb} {k : Key} {t : Ter} (h : Sb.look θ k = some t) : Sb.has θ k = true := by unfold Sb.has; rw [h]; rfl
theorem has_none {θ : Sb} {k : Key} (h : Sb.look θ k = none) : Sb.has θ k = false := by unfold Sb.has; rw [h]; rfl
theorem comp_eq (θ η : Sb) : Sb.comp θ η = ((θ.map fun e => (e.1, e.2.sub η)).filter fun e => !triv e) ++ η.filter fun e => !triv e && !Sb.has θ e.1 := by
  unfold Sb.comp
  rw [List.filter_append, List.filter_filter]
theorem s7_fine {t : Ter} (h : t.wf s7 numVar) : t.wf symFine keyFine := wf_mono (fun _ _ h => h.1.2) (fun k h => by
  obtain ⟨r, rfl, _⟩ := h
  exact trivial) t h
theorem shaped7 {t : Ter} (h : t.wf s7 numVar) (n : t.nest ≤ 64) : SeqAt.shaped t.dat = true := shaped_ter (s7_fine h) n
theorem s7_two (f : Str) (n : Nat) (h : s7 f n) : n ≤ 2 := h.2
theorem fits_small {t : Ter} (h : t.wf s7 numVar) (n : t.nest ≤ 9) : t.fits = true := by
  have a := size_pow s7_two t h
  have b : 2 ^ t.nest ≤ 2 ^ 9 := Nat.pow_le_pow_right (by decide) n
  have c : 2 ^ 9 = 512 := by decide
  unfold Ter.fits
  rw [decide_eq_true (show t.size ≤ 1000 by omega), decide_eq_true (show t.nest ≤ 100 by omega)]
  rfl
theorem size_small {t : Ter} (h : t.wf s7 numVar) (n : t.nest ≤ 9) : t.size ≤ 1000000 := by
  have a := size_pow s7_two t h
  have b : 2 ^ t.nest ≤ 2 ^ 9 := Nat.pow_le_pow_right (by decide) n
  have c : 2 ^ 9 = 512 := by decide
  omega
/-- two dicts of one substitution -/
theorem SubT.same {K : PySem.W.Frag} {H : Hp} {ks ls : List (Key × V)} {θ : Sb} {N : Nat} (h : SubT H ks θ) (g : SubT H ls θ) (o : SbOk θ N) (hN : N ≤ 64) : ks.length = ls.length ∧ ∀ p ∈ ks, ∃ u d, valV ls p.1 = some u ∧ Dp K H p.2 d ∧ Dp K H u d ∧ SeqAt.shaped d = true ∧ PyData.eqv d d = true := by
  refine ⟨h.len.trans g.len.symm, fun p hp => ?_⟩
  obtain ⟨i, hi⟩ := List.getElem?_of_mem hp
  obtain ⟨k, v⟩ := p
  obtain ⟨t, h1, h2⟩ := h.get hi
  have hm := List.mem_of_getElem? h1
  rcases g.look k with ⟨_, e2⟩ | ⟨u, t2, e1, e2, hu⟩
  · rw [sb_look o.nd h1] at e2
    cases e2
  · rw [sb_look o.nd h1] at e2
    cases e2
    exact ⟨u, t.dat, e1, dp_ter t v h2, dp_ter t u hu, shaped7 (o.wf (k, t) hm) (Nat.le_trans (o.ne (k, t) hm) hN), ter_refl t⟩
end Own
set_option maxHeartbeats 2000000
namespace Own
open PySem PySem.Spec PyProof.Rows L2 HT
/-! ### {k: v}, k a tuple -/
def tDispT (tk tv : TE) : TE := fun σ H Q => ∀ p, H p = none → tPairs [(tk, tv)] σ (upd H p (.dT [])) fun ps H2 => H2 p = some (.dT []) ∧ ∃ (k : List Key) (b : Addr) (y : V), ps = [(.ref b, y)] ∧ H2 b = some (.tup (k.map kV)) ∧ Q (.ref p) (upd H2 p (.dT [(k, y)]))
theorem pe_dispT {X : Cx} {k v : Expr} {tk tv : TE} {pos : Pos} (hu : X.A.units + 1 < cLine) (hk : PE X k tk) (hv : PE X v tv) : PE X (.Dict [some k] [v] pos) (tDispT tk tv) := by
  refine ⟨fun pn t τ G Q J h => ?_⟩
  have fresh := J.hok.fresh (Nat.le_refl t.heap.objs.size)
  have J1 := J.laid (a := t.heap.objs.size) (o := .dT []) (h' := t.heap.push { cls := .type "dict", data := .dict #[] }) (t' := t.toks) (fun _ _ q => Heap.get?_push_of_some _ q) (Nat.le_refl _) (dt_empty t.heap J.big)
  have run := (pps_cons hk hv (pps_nil (pos := pos))).run pn _ τ _ _ J1 (h _ fresh)
  refine wpAny_Dict_any rfl rfl (by simp) (by simp) (wpAny_mono run (fun ws t2 hq => ?_) (fun _ _ z => z))
  obtain ⟨ps, G2, J2, rel, e, kk, b, y, rfl, eb, q⟩ := hq
  cases rel with
  | @cons _ w1 _ _ hw tl =>
    cases tl
    obtain ⟨w2, w3⟩ := w1
    obtain ⟨r1, r2⟩ := hw
    cases (show w2 = Value.ref b from r1)
    obtain ⟨z, hd, xs, rk, dd⟩ := dt_of J2.hok e
    cases rk
    unfold storeAll
    rw [List.forIn_cons]
    refine wpAny_bind (wpAny_bind (wpAny_dictSet_heap (hsz := Nat.zero_le _) (knd := tupleKind (mixKind X.prog X.w)) (show X.A.units < cLine by omega) (key_of J2.hok eb) dd fun hp3 dd3 sb3 => wpAny_pure ?_))
    dsimp only
    rw [List.forIn_nil]
    refine wpAny_pure ?_
    obtain ⟨o3, es3, ep3, g1, g2, g3, g4, _, g5⟩ := dd3
    have new : ObjOk X.prog X.w (upd G2 t.heap.objs.size (.dT [(kk, y)])) hp3 t.heap.objs.size (.dT [(kk, y)]) := by
      refine ⟨by show 1 ≤ sizeLine; decide, hd, _, (KT.put (kvs := []) (xs := []) .nil kk eb r2).keeps fun c ys ec => ?_, o3, es3, ep3, g1, g2, g3, g4, g5⟩
      rw [upd_ne (ne_of ec e (fun z => nomatch z))]
      exact ec
    exact ⟨.ref t.heap.objs.size, _, d_write J2 (by rw [e]; exact True.intro) sb3 ⟨o3, g1⟩ new, rfl, q⟩
end Own
set_option maxHeartbeats 2000000
namespace Own
open PySem PySem.Spec PyProof.Rows L2 HT
/-! ### formulas over a few symbols -/
def sym20 (f : Str) (n : Nat) : Prop := (f = "a" ∧ n = 0) ∨ (f = "b" ∧ n = 0) ∨ (f = "f" ∧ n = 1) ∨ (f = "g" ∧ n = 2)
def nam20 (NM : List Str) (k : Key) : Prop := ∃ x, k = .inr x ∧ x ∈ NM
def atom20 (NM : List Str) (l r : Ter) : Prop := (l.wf sym20 (nam20 NM) ∧ r.wf sym20 (nam20 NM)) ∨ ∃ f as, l = .ap f as ∧ ((f = ("p" : Str) ∧ as.length = 1) ∨ (f = ("q" : Str) ∧ as.length = 2) ∨ (f = ("r" : Str) ∧ as.length = 0)) ∧ Ter.wfs sym20 (nam20 NM) as ∧ r = .ap "true" []
def fm20 (NM : List Str) : Fm → Prop
  | .tt _ => True
  | .eq l r => atom20 NM l r ∧ l.nest ≤ 3 ∧ r.nest ≤ 3 ∧ l.size ≤ 20 ∧ r.size ≤ 20
  | .neg f => fm20 NM f
  | .bin _ f g => fm20 NM f ∧ fm20 NM g
  | .qu _ x f => x ∈ NM ∧ fm20 NM f
/-! ### tables as functions -/
def FnsAt {α : Type} (H : Hp) (F : Addr) (emb : α → V) (d : α) (fn : Str → List Int → α) : Prop := ∃ kvs : List (Key × V), H F = some (.dK kvs) ∧ ∀ (f : Str) (vs : List Int), (valV kvs (.inr f) = none ∧ fn f vs = d) ∨
  ∃ (q : Addr) (rows : List (List Key × V)), valV kvs (.inr f) = some (.ref q) ∧ H q = some (.dT rows) ∧ ((valV rows (vs.map Sum.inl) = none ∧ fn f vs = d) ∨ valV rows (vs.map Sum.inl) = some (emb (fn f vs)))
theorem FnsAt.same {α : Type} {H H' : Hp} {F : Addr} {emb : α → V} {d : α} {fn : Str → List Int → α} (h : FnsAt H F emb d fn) (s : Same H H') : FnsAt H' F emb d fn := by
  obtain ⟨kvs, e, al⟩ := h
  refine ⟨kvs, s _ _ e, fun f vs => ?_⟩
  rcases al f vs with h | ⟨q, rows, h1, h2, h3⟩
  · exact .inl h
  · exact .inr ⟨q, rows, h1, s _ _ h2, h3⟩
theorem valV_mem {κ : Type} [DecidableEq κ] {kvs : List (κ × V)} {k : κ} {v : V} (h : valV kvs k = some v) : ∃ e ∈ kvs, e.2 = v := by
  unfold valV at h
  cases q : kvs.find? fun kv => decide (kv.1 = k) with
  | none => rw [q] at h; cases h
  | some p =>
    rw [q] at h
    exact ⟨p, List.mem_of_find?_eq_some q, Option.some.inj h⟩
def AllT {α : Type} (H : Hp) (q : Addr) (emb : α → V) (n : Nat) : Prop := ∃ rows : List (List Key × V), H q = some (.dT rows) ∧ rows.length ≤ n ∧ ∀ e ∈ rows, ∃ x, e.2 = emb x
theorem fns_mk {α : Type} {H : Hp} {F : Addr} {emb : α → V} (d : α) {kvs : List (Key × V)} (e : H F = some (.dK kvs)) (h : ∀ x ∈ kvs, ∃ q n, x.2 = .ref q ∧ AllT H q emb n) : ∃ fn : Str → List Int → α, FnsAt H F emb d fn := by
  have P : ∀ (f : Str) (vs : List Int), ∃ y : α, (valV kvs (.inr f) = none ∧ y = d) ∨
      ∃ (q : Addr) (rows : List (List Key × V)), valV kvs (.inr f) = some (.ref q) ∧ H q = some (.dT rows) ∧ ((valV rows (vs.map Sum.inl) = none ∧ y = d) ∨ valV rows (vs.map Sum.inl) = some (emb y)) := fun f vs => by
    cases c : valV kvs (.inr f) with
    | none => exact ⟨d, .inl ⟨rfl, rfl⟩⟩
    | some v =>
      obtain ⟨x, hx, rfl⟩ := valV_mem c
      obtain ⟨q, n, e1, rows, e2, _, e3⟩ := h x hx
      cases c2 : valV rows (vs.map Sum.inl) with
      | none => exact ⟨d, .inr ⟨q, rows, by rw [e1], e2, .inl ⟨c2, rfl⟩⟩⟩
      | some u =>
        obtain ⟨y, hy, rfl⟩ := valV_mem c2
        obtain ⟨z, hz⟩ := e3 y hy
        exact ⟨z, .inr ⟨q, rows, by rw [e1], e2, .inr (by rw [c2, hz])⟩⟩
  exact ⟨fun f vs => Classical.choose (P f vs), kvs, e, fun f vs => Classical.choose_spec (P f vs)⟩
theorem AllT.put {α : Type} {H : Hp} {q : Addr} {emb : α → V} {n : Nat} (h : AllT H q emb n) (k : List Key) (x : α) : ∃ rows, H q = some (.dT rows) ∧ rows.length ≤ n ∧ AllT (L2.upd H q (.dT (putK rows k (emb x)))) q emb (n + 1) := by
  obtain ⟨rows, e, l, al⟩ := h
  refine ⟨rows, e, l, putK rows k (emb x), upd_same, ?_, fun e he => ?_⟩
  · unfold putK
    split
    · rw [List.length_map]; omega
    · rw [List.length_append, List.length_singleton]; omega
  · unfold putK at he
    split at he
    · obtain ⟨p, hp, rfl⟩ := List.mem_map.mp he
      by_cases c : p.1 = k
      · rw [if_pos c]; exact ⟨x, rfl⟩
      · rw [if_neg c]; exact al p hp
    · rcases List.mem_append.mp he with he | he
      · exact al e he
      · rw [List.mem_singleton.mp he]; exact ⟨x, rfl⟩
structure Mdl where
  sz : Nat
  fn : Str → List Int → Int
  pr : Str → List Int → Bool
mutual
def Ter.val (M : Mdl) (ρ : Str → Int) : Ter → Int
  | .var (.inl _) => 0
  | .var (.inr x) => ρ x
  | .ap f as => M.fn f (Ter.vals M ρ as)
def Ter.vals (M : Mdl) (ρ : Str → Int) : List Ter → List Int
  | [] => []
  | a :: r => a.val M ρ :: Ter.vals M ρ r
end
theorem vals_app (M : Mdl) (ρ : Str → Int) : ∀ as bs : List Ter, Ter.vals M ρ (as ++ bs) = Ter.vals M ρ as ++ Ter.vals M ρ bs
  | [], _ => rfl
  | a :: r, bs => congrArg (a.val M ρ :: ·) (vals_app M ρ r bs)
theorem vals_len (M : Mdl) (ρ : Str → Int) : ∀ as : List Ter, (Ter.vals M ρ as).length = as.length
  | [] => rfl
  | a :: r => congrArg (· + 1) (vals_len M ρ r)
/-- is it ('true',) -/
def isTr : Ter → Bool
  | .ap f as => f == "true" && as.isEmpty
  | .var _ => false
def eqHolds (M : Mdl) (ρ : Str → Int) (l r : Ter) : Bool := if isTr r = true then (match l with | .ap f as => M.pr f (Ter.vals M ρ as) | .var _ => false) else decide (l.val M ρ = r.val M ρ)
def wider (ρ : Str → Int) (x : Str) (i : Int) : Str → Int := fun y => if y = x then i else ρ y
def Op.fn : Op → Bool → Bool → Bool
  | .and, a, b => a && b
  | .or, a, b => a || b
  | .imp, a, b => b || !a
  | .iff, a, b => a == b
def Fm.truth (M : Mdl) : (Str → Int) → Fm → Bool
  | _, .tt b => b
  | ρ, .eq l r => eqHolds M ρ l r
  | ρ, .neg f => !f.truth M ρ
  | ρ, .bin o f g => o.fn (f.truth M ρ) (g.truth M ρ)
  | ρ, .qu true x f => (List.range M.sz).all fun i => f.truth M (wider ρ x i)
  | ρ, .qu false x f => (List.range M.sz).any fun i => f.truth M (wider ρ x i)
/-! ### the negation normal form -/
def Fm.nf : Fm → Bool → Fm
  | .tt b, n => .tt (b != n)
  | .eq l r, n => if n = true then .neg (.eq l r) else .eq l r
  | .neg f, n => f.nf (!n)
  | .bin .and f g, n => .bin (if n = true then .or else .and) (f.nf n) (g.nf n)
  | .bin .or f g, n => .bin (if n = true then .and else .or) (f.nf n) (g.nf n)
  | .bin .imp f g, n => .bin (if n = true then .and else .or) (f.nf (!n)) (g.nf n)
  | .bin .iff f g, n => if n = true then .bin .and (.bin .or (f.nf false) (g.nf false)) (.bin .or (f.nf true) (g.nf true)) else .bin .and (.bin .or (f.nf true) (g.nf false)) (.bin .or (g.nf true) (f.nf false))
  | .qu a x f, n => .qu (a != n) x (f.nf n)
def Fm.sz : Fm → Nat × Nat
  | .tt _ => (1, 1)
  | .eq _ _ => (1, 2)
  | .neg f => (f.sz.2, f.sz.1)
  | .bin .and f g => (1 + f.sz.1 + g.sz.1, 1 + f.sz.2 + g.sz.2)
  | .bin .or f g => (1 + f.sz.1 + g.sz.1, 1 + f.sz.2 + g.sz.2)
  | .bin .imp f g => (1 + f.sz.2 + g.sz.1, 1 + f.sz.1 + g.sz.2)
  | .bin .iff f g => (3 + f.sz.1 + f.sz.2 + g.sz.1 + g.sz.2, 3 + f.sz.1 + f.sz.2 + g.sz.1 + g.sz.2)
  | .qu _ _ f => (1 + f.sz.1, 1 + f.sz.2)
def Fm.cnt : Fm → Nat
  | .tt _ => 1
  | .eq _ _ => 1
  | .neg _ => 2
  | .bin _ f g => 1 + (f.cnt + g.cnt)
  | .qu _ _ f => 1 + f.cnt
def Fm.nnf : Fm → Prop
  | .tt _ => True
  | .eq _ _ => True
  | .neg (.eq _ _) => True
  | .neg _ => False
  | .bin .and f g => f.nnf ∧ g.nnf
  | .bin .or f g => f.nnf ∧ g.nnf
  | .bin _ _ _ => False
  | .qu _ _ f => f.nnf
theorem nnf_nf : ∀ (φ : Fm) (n : Bool), (φ.nf n).nnf
  | .tt b, n => trivial
  | .eq l r, n => by cases n <;> exact trivial
  | .neg f, n => nnf_nf f (!n)
  | .bin .and f g, n => by cases n <;> exact ⟨nnf_nf f _, nnf_nf g _⟩
  | .bin .or f g, n => by cases n <;> exact ⟨nnf_nf f _, nnf_nf g _⟩
  | .bin .imp f g, n => by cases n <;> exact ⟨nnf_nf f _, nnf_nf g _⟩
  | .bin .iff f g, n => by cases n <;> exact ⟨⟨nnf_nf _ _, nnf_nf _ _⟩, ⟨nnf_nf _ _, nnf_nf _ _⟩⟩
  | .qu a x f, n => nnf_nf f n
theorem cnt_nf : ∀ (φ : Fm) (n : Bool), (φ.nf n).cnt = if n = true then φ.sz.2 else φ.sz.1
  | .tt b, n => by cases n <;> rfl
  | .eq l r, n => by cases n <;> rfl
  | .neg f, n => by
    have := cnt_nf f (!n)
    show (f.nf (!n)).cnt = _
    rw [this]
    cases n <;> rfl
  | .bin .and f g, n => by
    have a := cnt_nf f n
    have b := cnt_nf g n
    show 1 + ((f.nf n).cnt + (g.nf n).cnt) = _
    cases n
    · show _ = 1 + f.sz.1 + g.sz.1
      simp at a b
      omega
    · show _ = 1 + f.sz.2 + g.sz.2
      simp at a b
      omega
  | .bin .or f g, n => by
    have a := cnt_nf f n
    have b := cnt_nf g n
    show 1 + ((f.nf n).cnt + (g.nf n).cnt) = _
    cases n
    · show _ = 1 + f.sz.1 + g.sz.1
      simp at a b
      omega
    · show _ = 1 + f.sz.2 + g.sz.2
      simp at a b
      omega
  | .bin .imp f g, n => by
    have a := cnt_nf f (!n)
    have b := cnt_nf g n
    show 1 + ((f.nf (!n)).cnt + (g.nf n).cnt) = _
    cases n
    · show _ = 1 + f.sz.2 + g.sz.1
      simp at a b
      show 1 + ((f.nf true).cnt + (g.nf false).cnt) = _
      omega
    · show _ = 1 + f.sz.1 + g.sz.2
      simp at a b
      show 1 + ((f.nf false).cnt + (g.nf true).cnt) = _
      omega
  | .bin .iff f g, n => by
    have a := cnt_nf f true
    have b := cnt_nf g true
    have c := cnt_nf f false
    have d := cnt_nf g false
    simp at a b c d
    cases n
    · show 1 + ((1 + ((f.nf true).cnt + (g.nf false).cnt)) + (1 + ((g.nf true).cnt + (f.nf false).cnt))) = 3 + f.sz.1 + f.sz.2 + g.sz.1 + g.sz.2
      omega
    · show 1 + ((1 + ((f.nf false).cnt + (g.nf false).cnt)) + (1 + ((f.nf true).cnt + (g.nf true).cnt))) = 3 + f.sz.1 + f.sz.2 + g.sz.1 + g.sz.2
      omega
  | .qu a x f, n => by
    have := cnt_nf f n
    show 1 + (f.nf n).cnt = _
    rw [this]
    cases n <;> rfl
theorem high_nf : ∀ (φ : Fm) (n : Bool), (φ.nf n).high ≤ 2 * φ.high
  | .tt b, n => by show 1 ≤ 2 * 1; decide
  | .eq l r, n => by
    cases n
    · show 1 ≤ 2 * 1; decide
    · show 1 + 1 ≤ 2 * 1; decide
  | .neg f, n => by
    have := high_nf f (!n)
    show (f.nf (!n)).high ≤ 2 * (f.high + 1)
    omega
  | .bin .and f g, n => by
    have a := high_nf f n
    have b := high_nf g n
    show max (f.nf n).high (g.nf n).high + 1 ≤ 2 * (max f.high g.high + 1)
    omega
  | .bin .or f g, n => by
    have a := high_nf f n
    have b := high_nf g n
    show max (f.nf n).high (g.nf n).high + 1 ≤ 2 * (max f.high g.high + 1)
    omega
  | .bin .imp f g, n => by
    have a := high_nf f (!n)
    have b := high_nf g n
    show max (f.nf (!n)).high (g.nf n).high + 1 ≤ 2 * (max f.high g.high + 1)
    omega
  | .bin .iff f g, n => by
    have a := high_nf f true
    have b := high_nf g true
    have c := high_nf f false
    have d := high_nf g false
    cases n
    · show max (max (f.nf true).high (g.nf false).high + 1) (max (g.nf true).high (f.nf false).high + 1) + 1 ≤ 2 * (max f.high g.high + 1)
      omega
    · show max (max (f.nf false).high (g.nf false).high + 1) (max (f.nf true).high (g.nf true).high + 1) + 1 ≤ 2 * (max f.high g.high + 1)
      omega
  | .qu a x f, n => by
    have := high_nf f n
    show (f.nf n).high + 1 ≤ 2 * (f.high + 1)
    omega
theorem fm20_nf {NM : List Str} : ∀ (φ : Fm) (n : Bool), fm20 NM φ → fm20 NM (φ.nf n)
  | .tt b, n, _ => trivial
  | .eq l r, n, h => by cases n <;> exact h
  | .neg f, n, h => fm20_nf f (!n) h
  | .bin .and f g, n, h => ⟨fm20_nf f n h.1, fm20_nf g n h.2⟩
  | .bin .or f g, n, h => ⟨fm20_nf f n h.1, fm20_nf g n h.2⟩
  | .bin .imp f g, n, h => ⟨fm20_nf f _ h.1, fm20_nf g n h.2⟩
  | .bin .iff f g, n, h => by
    cases n
    · exact ⟨⟨fm20_nf f _ h.1, fm20_nf g _ h.2⟩, ⟨fm20_nf g _ h.2, fm20_nf f _ h.1⟩⟩
    · exact ⟨⟨fm20_nf f _ h.1, fm20_nf g _ h.2⟩, ⟨fm20_nf f _ h.1, fm20_nf g _ h.2⟩⟩
  | .qu a x f, n, h => ⟨h.1, fm20_nf f n h.2⟩
theorem truth_nf (M : Mdl) : ∀ (φ : Fm) (n : Bool) (ρ : Str → Int), (φ.nf n).truth M ρ = (φ.truth M ρ != n)
  | .tt b, n, ρ => rfl
  | .eq l r, n, ρ => by
    cases n
    · show eqHolds M ρ l r = (eqHolds M ρ l r != false)
      simp
    · show (!eqHolds M ρ l r) = (eqHolds M ρ l r != true)
      simp
  | .neg f, n, ρ => by
    show (f.nf (!n)).truth M ρ = ((!f.truth M ρ) != n)
    rw [truth_nf M f (!n) ρ]
    cases f.truth M ρ <;> cases n <;> rfl
  | .bin .and f g, n, ρ => by
    have a := truth_nf M f n ρ
    have b := truth_nf M g n ρ
    show Op.fn _ ((f.nf n).truth M ρ) ((g.nf n).truth M ρ) = ((f.truth M ρ && g.truth M ρ) != n)
    rw [a, b]
    cases f.truth M ρ <;> cases g.truth M ρ <;> cases n <;> rfl
  | .bin .or f g, n, ρ => by
    have a := truth_nf M f n ρ
    have b := truth_nf M g n ρ
    show Op.fn _ ((f.nf n).truth M ρ) ((g.nf n).truth M ρ) = ((f.truth M ρ || g.truth M ρ) != n)
    rw [a, b]
    cases f.truth M ρ <;> cases g.truth M ρ <;> cases n <;> rfl
  | .bin .imp f g, n, ρ => by
    have a := truth_nf M f (!n) ρ
    have b := truth_nf M g n ρ
    show Op.fn _ ((f.nf (!n)).truth M ρ) ((g.nf n).truth M ρ) = ((g.truth M ρ || !f.truth M ρ) != n)
    rw [a, b]
    cases f.truth M ρ <;> cases g.truth M ρ <;> cases n <;> rfl
  | .bin .iff f g, n, ρ => by
    have a := truth_nf M f true ρ
    have b := truth_nf M g true ρ
    have c := truth_nf M f false ρ
    have d := truth_nf M g false ρ
    cases n
    · show (((f.nf true).truth M ρ || (g.nf false).truth M ρ) && ((g.nf true).truth M ρ || (f.nf false).truth M ρ)) = ((f.truth M ρ == g.truth M ρ) != false)
      rw [a, b, c, d]
      cases f.truth M ρ <;> cases g.truth M ρ <;> rfl
    · show (((f.nf false).truth M ρ || (g.nf false).truth M ρ) && ((f.nf true).truth M ρ || (g.nf true).truth M ρ)) = ((f.truth M ρ == g.truth M ρ) != true)
      rw [a, b, c, d]
      cases f.truth M ρ <;> cases g.truth M ρ <;> rfl
  | .qu a x f, n, ρ => by
    have h : ∀ i : Int, (f.nf n).truth M (wider ρ x i) = (f.truth M (wider ρ x i) != n) := fun i => truth_nf M f n _
    cases a <;> cases n
    · show ((List.range M.sz).any fun i => (f.nf false).truth M (wider ρ x i)) = (((List.range M.sz).any fun i => f.truth M (wider ρ x i)) != false)
      simp [h]
    · show ((List.range M.sz).all fun i => (f.nf true).truth M (wider ρ x i)) = (((List.range M.sz).any fun i => f.truth M (wider ρ x i)) != true)
      simp [h, List.not_any_eq_all_not]
    · show ((List.range M.sz).all fun i => (f.nf false).truth M (wider ρ x i)) = (((List.range M.sz).all fun i => f.truth M (wider ρ x i)) != false)
      simp [h]
    · show ((List.range M.sz).any fun i => (f.nf true).truth M (wider ρ x i)) = (((List.range M.sz).all fun i => f.truth M (wider ρ x i)) != true)
      simp [h, List.not_all_eq_any_not]
end Own
set_option maxHeartbeats 2000000
namespace Own
open PySem PySem.Spec PyProof.Rows L2 HT
/-! ### two kinds of tables, written to -/
theorem AllT.keep {α : Type} {H H' : Hp} {q p : Addr} {emb : α → V} {n : Nat} (h : AllT H q emb n) (b : But p H H') (ne : q ≠ p) : AllT H' q emb n := by
  obtain ⟨rows, e, l, al⟩ := h
  exact ⟨rows, b q _ ne e, l, al⟩
theorem AllT.same {α : Type} {H H' : Hp} {q : Addr} {emb : α → V} {n : Nat} (h : AllT H q emb n) (b : Same H H') : AllT H' q emb n := by
  obtain ⟨rows, e, l, al⟩ := h
  exact ⟨rows, b q _ e, l, al⟩
theorem AllT.le {α : Type} {H : Hp} {q : Addr} {emb : α → V} {n m : Nat} (h : AllT H q emb n) (l : n ≤ m) : AllT H q emb m := by
  obtain ⟨rows, e, l1, al⟩ := h
  exact ⟨rows, e, Nat.le_trans l1 l, al⟩
theorem AllT.lst {α : Type} {H H' : Hp} {q d : Addr} {emb : α → V} {n : Nat} (h : AllT H q emb n) (b : But d H H') (hI : Ints H d) : AllT H' q emb n := by
  obtain ⟨ms, _, ed⟩ := hI
  have h2 := h
  obtain ⟨rows, e, _⟩ := h2
  exact h.keep b (ne_of e ed (fun z => nomatch z))
theorem AllT.nil {α : Type} {H : Hp} {q : Addr} {emb : α → V} (e : H q = some (.dT [])) : AllT H q emb 0 := ⟨[], e, Nat.le_refl _, fun _ z => nomatch z⟩
theorem AllT.one {α : Type} {H : Hp} {q : Addr} {emb : α → V} {k : List Key} {x : α} (e : H q = some (.dT [(k, emb x)])) : AllT H q emb 1 := ⟨_, e, Nat.le_refl _, fun y hy => by rw [List.mem_singleton.mp hy]; exact ⟨x, rfl⟩⟩
theorem AllT.lock {α : Type} {H : Hp} {q p : Addr} {emb : α → V} {n : Nat} {kvs : List (Key × V)} (h : AllT H q emb n) (e : H p = some (.dK kvs)) : q ≠ p := by
  obtain ⟨rows, e2, _⟩ := h
  exact ne_of e2 e (fun z => nomatch z)
structure Two (H : Hp) (Qs Rs : List Addr) (n : Nat) : Prop where
  fs : ∀ q ∈ Qs, AllT H q V.int n
  ps : ∀ r ∈ Rs, AllT H r V.bl n
  ne : ∀ q ∈ Qs, ∀ r ∈ Rs, q ≠ r
theorem Two.same {H H' : Hp} {Qs Rs : List Addr} {n : Nat} (h : Two H Qs Rs n) (b : Same H H') : Two H' Qs Rs n := ⟨fun q m => (h.fs q m).same b, fun q m => (h.ps q m).same b, h.ne⟩
theorem Two.lst {H H' : Hp} {Qs Rs : List Addr} {n : Nat} {d : Addr} (h : Two H Qs Rs n) (b : But d H H') (hI : Ints H d) : Two H' Qs Rs n := ⟨fun q m => (h.fs q m).lst b hI, fun q m => (h.ps q m).lst b hI, h.ne⟩
theorem Two.le {H : Hp} {Qs Rs : List Addr} {n m : Nat} (h : Two H Qs Rs n) (l : n ≤ m) : Two H Qs Rs m := ⟨fun q z => (h.fs q z).le l, fun q z => (h.ps q z).le l, h.ne⟩
theorem Two.putF {H : Hp} {Qs Rs : List Addr} {n : Nat} (h : Two H Qs Rs n) {q : Addr} (hq : q ∈ Qs) (k : List Key) (x : Int) :
    ∃ rows, H q = some (.dT rows) ∧ rows.length ≤ n ∧ Two (L2.upd H q (.dT (putK rows k (.int x)))) Qs Rs (n + 1) := by
  obtain ⟨rows, e, l, A⟩ := (h.fs q hq).put k x
  refine ⟨rows, e, l, fun p hp => ?_, fun r hr => ((h.ps r hr).keep But.upd (h.ne q hq r hr).symm).le (Nat.le_succ _), h.ne⟩
  by_cases c : p = q
  · subst c; exact A
  · exact ((h.fs p hp).keep But.upd c).le (Nat.le_succ _)
theorem Two.putP {H : Hp} {Qs Rs : List Addr} {n : Nat} (h : Two H Qs Rs n) {r : Addr} (hr : r ∈ Rs) (k : List Key) (x : Bool) :
    ∃ rows, H r = some (.dT rows) ∧ rows.length ≤ n ∧ Two (L2.upd H r (.dT (putK rows k (.bl x)))) Qs Rs (n + 1) := by
  obtain ⟨rows, e, l, A⟩ := (h.ps r hr).put k x
  refine ⟨rows, e, l, fun q hq => ((h.fs q hq).keep But.upd (h.ne q hq r hr)).le (Nat.le_succ _), fun p hp => ?_, h.ne⟩
  by_cases c : p = r
  · subst c; exact A
  · exact ((h.ps p hp).keep But.upd c).le (Nat.le_succ _)
theorem merge_app : ∀ (more kvs : List (Key × V)), ((kvs ++ more).map (·.1)).Nodup → mergeK kvs more = kvs ++ more
  | [], kvs, _ => by rw [List.append_nil]; rfl
  | p :: r, kvs, nd => by
    show mergeK (putK kvs p.1 p.2) r = _
    have n1 : valV kvs p.1 = none := by
      unfold valV
      rw [List.map_append] at nd
      have : kvs.find? (fun kv => decide (kv.1 = p.1)) = none := List.find?_eq_none.mpr fun x hx => by
        rw [decide_eq_true_iff]
        exact fun z => (List.nodup_append.mp nd).2.2 _ (List.mem_map.mpr ⟨x, hx, rfl⟩) p.1 (List.mem_cons_self ..) z
      rw [this]; rfl
    rw [putK_new p.2 n1, merge_app r (kvs ++ [(p.1, p.2)]) (by rw [List.append_assoc]; exact nd), List.append_assoc]
    rfl
theorem merge_nil {kvs : List (Key × V)} (h : (kvs.map (·.1)).Nodup) : mergeK [] kvs = kvs := merge_app kvs [] h
/-! ### tables and known values, as they stand -/
def TabAt (H : Hp) (T : Addr) (M : Mdl) : Prop := ∃ F G, H T = some (.tup [.int M.sz, .ref F, .ref G]) ∧ FnsAt H F V.int 0 M.fn ∧ FnsAt H G V.bl false M.pr
theorem TabAt.same {H H' : Hp} {T : Addr} {M : Mdl} (h : TabAt H T M) (s : Same H H') : TabAt H' T M := by
  obtain ⟨F, G, e, a, b⟩ := h
  exact ⟨F, G, s _ _ e, a.same s, b.same s⟩
theorem FnsAt.lst {α : Type} {H H' : Hp} {F d : Addr} {emb : α → V} {z : α} {fn : Str → List Int → α} (h : FnsAt H F emb z fn) (b : But d H H') (hI : Ints H d) : FnsAt H' F emb z fn := by
  obtain ⟨ms, _, ed⟩ := hI
  obtain ⟨kvs, e, al⟩ := h
  refine ⟨kvs, b _ _ (ne_of e ed (fun z => nomatch z)) e, fun f vs => ?_⟩
  rcases al f vs with h | ⟨q, rows, h1, h2, h3⟩
  · exact .inl h
  · exact .inr ⟨q, rows, h1, b _ _ (ne_of h2 ed (fun z => nomatch z)) h2, h3⟩
theorem TabAt.lst {H H' : Hp} {T d : Addr} {M : Mdl} (h : TabAt H T M) (b : But d H H') (hI : Ints H d) : TabAt H' T M := by
  obtain ⟨F, G, e, a1, b1⟩ := h
  have hI2 := hI
  obtain ⟨ms, _, ed⟩ := hI2
  exact ⟨F, G, b _ _ (ne_of e ed (fun z => nomatch z)) e, a1.lst b hI, b1.lst b hI⟩
def KnAt (H : Hp) (a : Addr) (NM : List Str) (ρ : Str → Int) : Prop := ∃ kvs : List (Key × V), H a = some (.dK kvs) ∧ kvs.length ≤ 100 ∧ ∀ x ∈ NM, valV kvs (.inr x) = some (.int (ρ x))
theorem KnAt.same {H H' : Hp} {a : Addr} {NM : List Str} {ρ : Str → Int} (h : KnAt H a NM ρ) (s : Same H H') : KnAt H' a NM ρ := by
  obtain ⟨kvs, e, l, al⟩ := h
  exact ⟨kvs, s _ _ e, l, al⟩
theorem put_len_in {κ : Type} [DecidableEq κ] {kvs : List (κ × V)} {k : κ} {v u : V} (h : valV kvs k = some u) : (putK kvs k v).length = kvs.length := by
  unfold putK
  obtain ⟨x, hx, _⟩ := valV_mem h
  have : (kvs.any fun kv => decide (kv.1 = k)) = true := by
    unfold valV at h
    cases q : kvs.find? fun kv => decide (kv.1 = k) with
    | none => rw [q] at h; cases h
    | some p => exact List.any_eq_true.mpr ⟨p, List.mem_of_find?_eq_some q, (by have := List.find?_some q; exact this)⟩
  rw [if_pos this, List.length_map]
/-- what a wider assignment holds -/
theorem KnAt.put {H : Hp} {a : Addr} {NM : List Str} {ρ : Str → Int} {kvs : List (Key × V)} (l : kvs.length ≤ 100) (al : ∀ x ∈ NM, valV kvs (.inr x) = some (.int (ρ x))) {x : Str} (hx : x ∈ NM) (i : Int) (e : H a = some (.dK (putK kvs (.inr x) (.int i)))) : KnAt H a NM (wider ρ x i) := by
  refine ⟨_, e, by rw [put_len_in (al x hx)]; exact l, fun y hy => ?_⟩
  rw [valV_put]
  unfold wider
  by_cases c : y = x
  · rw [if_pos (by rw [c]), if_pos c]
  · rw [if_neg (fun z => c (Sum.inr.inj z)), if_neg c]; exact al y hy
/-! ### is it ('true',) -/
theorem isTr_data {f : Str} {as : List Ter} : PyData.eqv (Ter.ap f as).dat trueT.dat = isTr (.ap f as) := by
  show ((f == ("true" : Str)) && PyData.eqvAll (Ter.dats as) []) = (f == "true" && as.isEmpty)
  cases as <;> rfl
theorem isTr_var {k : Key} : PyData.eqv (Ter.var k).dat trueT.dat = false := by cases k <;> rfl
theorem isTr_eq (t : Ter) : PyData.eqv t.dat trueT.dat = isTr t := by
  cases t with
  | var k => rw [isTr_var]; rfl
  | ap f as => exact isTr_data
theorem sym20_not {f : Str} {n : Nat} (h : sym20 f n) : (f == ("true" : Str)) = false := by
  rcases h with ⟨rfl, _⟩ | ⟨rfl, _⟩ | ⟨rfl, _⟩ | ⟨rfl, _⟩ <;> decide +kernel
theorem isTr_wf {NM : List Str} {t : Ter} (h : t.wf sym20 (nam20 NM)) : isTr t = false := by
  cases t with
  | var k => rfl
  | ap f as => show (f == "true" && as.isEmpty) = false; rw [sym20_not h.1]; rfl
theorem isTr_pred {f : Str} {as : List Ter} (h : (f = ("p" : Str) ∧ as.length = 1) ∨ (f = ("q" : Str) ∧ as.length = 2) ∨ (f = ("r" : Str) ∧ as.length = 0)) : isTr (.ap f as) = false := by
  show (f == "true" && as.isEmpty) = false
  rcases h with ⟨rfl, _⟩ | ⟨rfl, _⟩ | ⟨rfl, _⟩ <;> rw [show ((_ : Str) == ("true" : Str)) = false by decide +kernel] <;> rfl
theorem sym20_str {f : Str} {n : Nat} (h : sym20 f n) : PyData.strOk f = true := by
  rcases h with ⟨rfl, _⟩ | ⟨rfl, _⟩ | ⟨rfl, _⟩ | ⟨rfl, _⟩ <;> decide +kernel
theorem fine20 {NM : List Str} (hN : ∀ x ∈ NM, PyData.strOk x = true) {t : Ter} (h : t.wf sym20 (nam20 NM)) : t.wf symFine keyFine := wf_mono (fun _ _ h => sym20_str h) (fun k h => by obtain ⟨x, rfl, hx⟩ := h; exact hN x hx) t h
theorem atom20_fine {NM : List Str} (hN : ∀ x ∈ NM, PyData.strOk x = true) {l r : Ter} (h : atom20 NM l r) : l.wf symFine keyFine ∧ r.wf symFine keyFine := by
  rcases h with ⟨a, b⟩ | ⟨f, as, rfl, hf, hw, rfl⟩
  · exact ⟨fine20 hN a, fine20 hN b⟩
  · refine ⟨⟨?_, wfs_mono (fun _ _ h => sym20_str h) (fun k h => by obtain ⟨x, rfl, hx⟩ := h; exact hN x hx) as hw⟩, ⟨by show PyData.strOk _ = true; decide +kernel, trivial⟩⟩
    rcases hf with ⟨rfl, _⟩ | ⟨rfl, _⟩ | ⟨rfl, _⟩ <;> (show PyData.strOk _ = true; decide +kernel)
end Own
set_option maxHeartbeats 2000000
namespace Own
open PySem PySem.Spec PyProof.Rows L2 HT
/-! ### {**d, k: v} -/
section
variable {prog : Program} {w : World} {A : Around} {E : Value → Shared → Prop} {s : Shared}
theorem mix_noref {k : Key} {a : Addr} : (mixKind prog w).is k (.ref a) = false := by cases k <;> rfl
theorem wpAny_dictPut_pairs {K : Type} [DecidableEq K] {knd : KeyKind prog w K} {d : Addr} {kvs : List (K × Value)} {k : K} {key v : Value} {Q : Unit → Shared → Prop} (hkey : knd.is k key = true) (hm : s.heap.DictOf knd d kvs)
    (hQ : ∀ h', h'.DictOf knd d (stored kvs k v) → Heap.SameBut d s.heap h' → Q () { s with heap := h' })
    (hsz : kvs.length ≤ sizeLine) :
    wpAny (model prog w) A (dictPut d (knd.hash k) key v) Q E s := by
  obtain ⟨o, es, ep, ho, hc, hd, hk, hp, hn⟩ := hm
  have hes : es.size ≤ sizeLine := by have e1 := hp.length; have e2 : es.toList.length = es.size := by simp
                                      omega
  unfold dictPut
  refine wpAny_bind (wpAny_dictFind_of hkey ho hd hk ?_)
  have hidx : (es.findIdx? fun e => knd.is k e.key) = kvs.findIdx? fun kv => decide (kv.1 = k) := by
    rw [← hp.findIdx k]; obtain ⟨l⟩ := es; simp
  cases hi : es.findIdx? fun e => knd.is k e.key with
  | some i =>
    refine wpAny_updateDict ho hd (hQ _ ⟨_, _, ep, Heap.get?_update_self _ ho (Obj.isFreed_of_dict (Obj.data_mapDict hd _)),
      hc.mapDict _, Obj.data_mapDict hd _, hk.modify _ _, ?_, ?_⟩ (Heap.SameBut.update ..))
    · rw [stored, if_pos (any_of_findIdx_some (hidx ▸ hi))]
      have hl : (es.toList.findIdx? fun e => knd.is k e.key) = some i := by rw [← hi]; obtain ⟨l⟩ := es; simp
      have := hp.modify hn hl v
      obtain ⟨l⟩ := es
      simpa using this
    · rw [stored, if_pos (any_of_findIdx_some (hidx ▸ hi)), keys_map_store]; exact hn
  | none =>
    have hnot : k ∉ kvs.map (·.1) := not_mem_of_findIdx_none (hidx ▸ hi)
    have hany : ¬ (kvs.any fun kv => decide (kv.1 = k)) = true := by
      rw [List.any_eq_true]; rintro ⟨kv, hkv, he⟩
      exact hnot (List.mem_map.mpr ⟨kv, hkv, of_decide_eq_true he⟩)
    refine wpAny_updateDictKeys (hz := hes) ho hd (hQ _ ⟨_, _, ep + 1, Heap.get?_update_self _ ho (Obj.isFreed_of_dict (Obj.data_mapDictKeys hd _)),
      hc.mapDictKeys _, Obj.data_mapDictKeys hd _, hk.push hkey _, ?_, ?_⟩ (Heap.SameBut.update ..))
    · rw [stored, if_neg hany]
      have := hp.append hkey (knd.hash k) v
      obtain ⟨l⟩ := es
      simpa using this
    · rw [stored, if_neg hany, List.map_append, List.nodup_append]
      refine ⟨hn, by simp, ?_⟩
      intro a ha b hb
      simp only [List.map_cons, List.map_nil, List.mem_singleton] at hb
      subst hb
      exact fun e => hnot (e ▸ ha)
theorem wpAny_mergeMapping {d o : Addr} {kvs more : List (Key × Value)} {Q : Unit → Shared → Prop} (hdo : d ≠ o) (hoS : (o == sysModules) = false) (hd : s.heap.DictOf (mixKind prog w) d kvs) (ho : s.heap.DictOf (mixKind prog w) o more)
    (hQ : ∀ h', h'.DictOf (mixKind prog w) d (merged kvs more) → h'.DictOf (mixKind prog w) o more → Heap.SameBut d s.heap h' → Q () { s with heap := h' })
    (hsz : kvs.length + more.length ≤ sizeLine) : wpAny (model prog w) A (mergeMapping d (.ref o) false) Q E s := by
  obtain ⟨od, esd, epd, hod, hcd, hdd, hkd, hpd, hnd⟩ := id hd
  obtain ⟨oo, eso, epo, hoo, hco, hdo', hko, hpo, hno⟩ := id ho
  have hlen : more.length = eso.size := by rw [← hpo.length]; simp
  unfold mergeMapping
  refine wpAny_bind (wpAny_isInstance ho.typeIs isSubtype_dict_dict ?_)
  rw [if_pos rfl]
  refine wpAny_bind (wpAny_specialOf ho.typeIs F.slot_dict_iter.lookup (wpAny_bind (wpAny_pure ?_)))
  simp only [beq_self_eq_true]
  rw [if_neg (by rw [hoS]; exact Bool.false_ne_true)]
  have loop : wpAny (model prog w) A (do
      let l ← dictEntries o
      let epoch ← dictEpoch o
      forIn (List.range l.size) PUnit.unit fun i (_ : PUnit) => (do
          let l' ← dictEntries o
          match l'[i]? with
            | some e => do
              holding [e.key, e.val] (dictPut d e.hash e.key e.val)
              let ep' ← dictEpoch o
              if (ep' != epoch) = true then do
                  (unsupported "dict.changed-during-merge" : Sem PUnit)
                  pure (ForInStep.yield PUnit.unit)
                else pure (ForInStep.yield PUnit.unit)
            | _ => do
              (unsupported "dict.changed-during-merge" : Sem PUnit)
              pure (ForInStep.yield PUnit.unit) : Sem (ForInStep PUnit))
      pure ()) Q E s := by
    refine wpAny_bind (wpAny_dictEntries hoo hdo' ?_)
    refine wpAny_bind (wpAny_dictEpoch hoo hdo' ?_)
    refine wpAny_bind ?_
    rw [List.range_eq_range']
    refine wpAny_forIn_list _
      (fun rest _ s' => ∃ h' i, s' = { s with heap := h' } ∧ rest = List.range' i (eso.size - i) ∧ i ≤ eso.size ∧ h'.DictOf (mixKind prog w) d (merged kvs (more.take i)) ∧ h'.get? o = some oo ∧ Heap.SameBut d s.heap h')
      _ ?_ ?_ _ _ ⟨s.heap, 0, rfl, by simp, Nat.zero_le _, by simpa [merged] using hd, hoo, Heap.SameBut.refl _ _⟩
    · rintro x rest b s' ⟨h', i, rfl, hr, hi, hd', hoo', hs'⟩
      have hlt : i < eso.size := by
        rcases Nat.lt_or_ge i eso.size with h | h
        · exact h
        · rw [Nat.sub_eq_zero_of_le h] at hr; simp at hr
      obtain ⟨rfl, hrest⟩ : x = i ∧ rest = List.range' (i + 1) (eso.size - (i + 1)) := by
        have e : eso.size - i = (eso.size - (i + 1)) + 1 := by omega
        rw [e, List.range'_succ] at hr
        injection hr with h1 h2
        exact ⟨h1, h2⟩
      refine wpAny_bind (wpAny_dictEntries hoo' hdo' ?_)
      rw [Array.getElem?_eq_getElem hlt]
      obtain ⟨kv, hkv⟩ : ∃ kv, more[x]? = some kv := ⟨more[x]'(by rw [hlen]; exact hlt), List.getElem?_eq_getElem _⟩
      obtain ⟨k, v⟩ := kv
      obtain ⟨hkey, hval⟩ := hpo.get? (e := eso[x]) (by simp [hlt]) hkv
      obtain ⟨k', hkey', hhash⟩ := hko eso[x] (Array.getElem_mem hlt)
      obtain rfl : k' = k := (mixKind prog w).inj _ _ _ hkey' hkey
      show wpAny _ _ (holding [eso[x].key, eso[x].val] (dictPut d eso[x].hash eso[x].key eso[x].val) >>= _) _ _ _
      rw [hhash, hval]
      have hmx : (merged kvs (more.take x)).length ≤ sizeLine := by
        have e1 := merged_length_le kvs (more.take x)
        have e2 : (more.take x).length ≤ more.length := by rw [List.length_take]; omega
        omega
      refine wpAny_bind (wpAny_holding (wpAny_dictPut_pairs (hsz := hmx) hkey hd' fun h'' hd'' hs'' => ?_))
      have hoo'' : h''.get? o = some oo := (hs''.2 o (Ne.symm hdo)).trans hoo'
      refine wpAny_bind (wpAny_dictEpoch hoo'' hdo' ?_)
      rw [if_neg (by simp)]
      exact wpAny_pure ⟨h'', x + 1, rfl, hrest, hlt, by rw [merged_take_succ kvs more x (k', v) hkv]; exact hd'', hoo'', hs'.trans hs''⟩
    · rintro b s' ⟨h', i, rfl, hr, hi, hd', hoo', hs'⟩
      have hin : i = eso.size := by
        rcases Nat.lt_or_ge i eso.size with h | h
        · have e : eso.size - i = (eso.size - (i + 1)) + 1 := by omega
          rw [e, List.range'_succ] at hr; exact nomatch hr
        · exact Nat.le_antisymm hi h
      refine wpAny_pure (hQ h' ?_ ⟨oo, eso, epo, hoo', hco, hdo', hko, hpo, hno⟩ hs')
      rw [hin, ← hlen, List.take_length] at hd'; exact hd'
  refine wpAny_bind (wpAny_dictEntries hod hdd ?_)
  split
  · refine wpAny_bind (wpAny_dictEntries hoo hdo' ?_)
    refine wpAny_bind ?_
    rw [← Array.forIn_toList]
    refine wpAny_forIn_list _ (fun rest _ s' => s' = s ∧ ∀ e ∈ rest, e ∈ eso.toList) _ ?_ ?_ _ _ ⟨rfl, fun e he => he⟩
    · rintro x rest b s' ⟨rfl, al⟩
      obtain ⟨k, hk, _⟩ := hko x (by have := al x (List.mem_cons_self ..); simpa using this)
      split
      · rename_i a ha
        rw [ha, mix_noref] at hk
        cases hk
      · exact wpAny_pure ⟨rfl, fun e he => al e (List.mem_cons_of_mem _ he)⟩
    · rintro b s' ⟨rfl, _⟩
      exact loop
  · exact loop
theorem wpAny_dictStar {e k v : Expr} {env : Env} {pos : Pos} {Q : Value → Shared → Prop}
    (h : wpAny (model prog w) A (eval e env) (fun m s1 => wpAny (model prog w) A (mergeMapping s.heap.objs.size m false) (fun _ s2 =>
      wpAny (model prog w) A (subDict [(eval k env, do let x ← eval v env; standAt pos; pure x)]) (fun q s3 => wpAny (model prog w) A (mergeMapping s.heap.objs.size (.ref q) false) (fun _ s4 => Q (.ref s.heap.objs.size) s4) (fun _ _ => False) s3) E s2) (fun _ _ => False) s1) E
      { s with heap := s.heap.push { cls := .type "dict", data := .dict #[] } }) :
    wpAny (model prog w) A (eval (.Dict [none, some k] [e, v] pos) env) Q E s := by
  rw [arm_eval_Dict]
  refine wpAny_bind (wpAny_standAt ?_)
  show wpAny _ _ (dictDisplay [(none, do let x ← eval e env; standAt pos; pure x), (some (eval k env), do let x ← eval v env; standAt pos; pure x)]) Q E s
  unfold dictDisplay
  dsimp only
  rw [List.forIn_cons]
  dsimp only
  rw [if_pos (by decide)]
  refine wpAny_bind (wpAny_bind (wpAny_bind (wpAny_pure ?_)))
  dsimp only
  refine wpAny_bind (wpAny_alloc ?_)
  refine wpAny_bind (wpAny_holding (wpAny_bind (wpAny_mono h (fun m s1 h1 => ?_) (fun _ _ z => z))))
  refine wpAny_bind (wpAny_standAt (wpAny_pure ?_))
  refine wpAny_bind (wpAny_onRaise (wpAny_tryCatch (wpAny_onRaise (wpAny_holding (wpAny_mono h1 (fun _ s2 h2 => ?_) (fun _ _ z => z.elim))))))
  refine wpAny_pure ?_
  dsimp only
  rw [List.forIn_cons]
  dsimp only
  rw [if_neg (by simp)]
  refine wpAny_bind (wpAny_pure ?_)
  dsimp only
  rw [List.forIn_nil]
  refine wpAny_pure ?_
  dsimp only
  rw [if_neg (by simp)]
  refine wpAny_bind (wpAny_bind (wpAny_holding (wpAny_mono h2 (fun q s3 h3 => ?_) (fun _ _ z => z))))
  refine wpAny_bind (wpAny_onRaise (wpAny_holding (wpAny_mono h3 (fun _ s4 h4 => ?_) (fun _ _ z => z.elim))))
  exact wpAny_pure (wpAny_pure h4)
end
def tStar (td tk tv : TE) : TE := fun σ H Q => ∀ p, H p = none → td σ (upd H p (.dK [])) fun x H1 => ∃ (a : Addr) (kvs : List (Key × V)), x = .ref a ∧ Rd H1 a (.dK kvs) ∧ H1 p = some (.dK []) ∧ a ≠ p ∧ kvs.length ≤ 1000000 ∧
  ∀ q, upd H1 p (.dK kvs) q = none → tPairs [(tk, tv)] σ (upd (upd H1 p (.dK kvs)) q (.dK [])) fun ps H3 => H3 q = some (.dK []) ∧ H3 p = some (.dK kvs) ∧ q ≠ p ∧ ∃ (k : Key) (z : V), ps = [(kV k, z)] ∧ Q (.ref p) (upd (upd H3 q (.dK [(k, z)])) p (.dK (putK kvs k z)))
theorem pe_star {X : Cx} {e k v : Expr} {td tk tv : TE} {pos : Pos} (he : PE X e td) (hk : PE X k tk) (hv : PE X v tv) : PE X (.Dict [none, some k] [e, v] pos) (tStar td tk tv) := by
  refine ⟨fun pins s σ H Q I h => ?_⟩
  have hn := I.hok.fresh (Nat.le_refl s.heap.objs.size)
  have I1 := I.laid (a := s.heap.objs.size) (o := .dK []) (h' := s.heap.push { cls := .type "dict", data := .dict #[] }) (t' := s.toks) (fun _ _ q => Heap.get?_push_of_some _ q) (Nat.le_refl _) (dk_empty s.heap I.big)
  refine wpAny_dictStar (thn (he.run pins _ σ _ _ I1 (h _ hn)) fun m s1 ⟨x, H1, I2, rx, a, kvs, ex, hr, ep, nap, lk, q1⟩ => ?_)
  subst ex
  cases rx
  obtain ⟨z0, hd0, vs0, r0, dd0⟩ := dk_of I2.hok ep
  cases r0
  obtain ⟨za, hda, vs, ra, dda⟩ := dk_rd I2.hok hr
  have lvs : vs.length ≤ 1000000 := by rw [← ra.length]; exact lk
  have hnd : (vs.map (·.1)).Nodup := by obtain ⟨_, _, _, _, _, _, _, _, hn⟩ := dda; exact hn
  refine wpAny_mergeMapping (Ne.symm nap) hda dd0 dda (fun h' dd' _ sb => ?_) (by rw [sizeLine_eq, List.length_nil]; omega)
  rw [merged_nil_of_nodup vs hnd] at dd'
  have hex : ∃ q, h'.get? s.heap.objs.size = some q := let ⟨q, _, _, hq, _⟩ := dd'; ⟨q, hq⟩
  have I3 := d_write (t' := s1.toks) I2 (ob := .dK kvs) (by rw [ep]; exact True.intro) sb hex (dk_new za hd0 ra dd')
  have I4 := I3.laid (a := h'.objs.size) (o := .dK []) (h' := h'.push { cls := .type "dict", data := .dict #[] }) (t' := s1.toks) (fun _ _ q => Heap.get?_push_of_some _ q) (Nat.le_refl _) (dk_empty h' I3.big)
  have hn3 := I3.hok.fresh (Nat.le_refl h'.objs.size)
  refine wpAny_subDict (knd := mixKind X.prog X.w) (by show 1 ≤ 15; decide) (thn ((pps_cons (pos := pos) hk hv pps_nil).run pins _ σ _ _ I4 (q1 _ hn3)) fun ws s2 ⟨ps, H5, I5, rel, eq, ep5, nqp, kk, z, eps, q2⟩ => ?_)
  subst eps
  obtain ⟨rs, c, rk⟩ := carries_of (P := X.prog) (w := X.w) (kvs := [(kk, z)]) rel
  obtain ⟨_, hdq, vs5, r5, dd5⟩ := dk_of I5.hok eq
  cases r5
  refine ⟨rs, c, dd5, fun h6 dd6 sb6 => ?_⟩
  have hex6 : ∃ q, h6.get? h'.objs.size = some q := let ⟨q, _, _, hq, _⟩ := dd6; ⟨q, hq⟩
  have rk6 : KV [(kk, z)] (merged [] rs) := rk.merge .nil
  have I6 := d_write (t' := s2.toks + ws.length) I5 (ob := .dK [(kk, z)]) (by rw [eq]; exact True.intro) sb6 hex6 (dk_new (by show 1 ≤ sizeLine; decide) hdq rk6 dd6)
  have ep6 : upd H5 h'.objs.size (.dK [(kk, z)]) s.heap.objs.size = some (.dK kvs) := by rw [upd_ne (Ne.symm nqp)]; exact ep5
  obtain ⟨zp, hdp, vsp, rp, ddp⟩ := dk_of I6.hok ep6
  have lvp : vsp.length ≤ 1000000 := by rw [← rp.length]; exact lk
  obtain ⟨w0, ew, rw0⟩ : ∃ w0, merged [] rs = [(kk, w0)] ∧ RelV z w0 := by
    generalize merged [] rs = ms at rk6
    unfold KV at rk6
    cases rk6 with
    | @cons p q ps qs h t =>
      cases t
      exact ⟨q.2, by rw [show q = (q.1, q.2) from rfl, ← h.1], h.2⟩
  rw [ew] at dd6
  refine wpAny_mergeMapping (Ne.symm nqp) hdq ddp dd6 (fun h7 dd7 _ sb7 => ?_) (by rw [sizeLine_eq, List.length_singleton]; omega)
  have hex7 : ∃ q, h7.get? s.heap.objs.size = some q := let ⟨q, _, _, hq, _⟩ := dd7; ⟨q, hq⟩
  have lz : (putK kvs kk z).length ≤ sizeLine := by
    have := length_putK kvs kk z
    rw [sizeLine_eq]; omega
  have I7 := d_write (t' := s2.toks + ws.length) I6 (ob := .dK (putK kvs kk z)) (by rw [ep6]; exact True.intro) sb7 hex7 (dk_new lz hdp (rp.put kk rw0) dd7)
  exact ⟨.ref s.heap.objs.size, _, I7, rfl, q2⟩
end Own
set_option maxHeartbeats 2000000
namespace Own
open PySem PySem.Spec PyProof.Rows L2 HT
/-! ### t[::-1], a tuple -/
theorem adjust_rev (n : Nat) : Builtin.Slice.sliceAdjust none none (-1) (n : Int) = ((n : Int) - 1, -1) := by
  unfold Builtin.Slice.sliceAdjust
  have h1 : (-1 : Int) < 0 := by decide
  simp only [h1, if_true]
theorem places_rev (n : Nat) : Builtin.Slice.slicePlaces ((n : Int) - 1) (-1) (-1) = n := by
  unfold Builtin.Slice.slicePlaces
  have h1 : ¬ ((-1 : Int) > 0) := by decide
  simp only [h1, if_false]
  have e : (- -1 : Int) = 1 := by decide
  rw [e, Int.ediv_one]
  split <;> omega
theorem pick_rev (xs : Array Value) : ((List.range xs.size).filterMap fun (m : Nat) => xs[(((xs.size : Int) - 1) + (m : Int) * (-1)).toNat]?).toArray = xs.toList.reverse.toArray := by
  congr 1
  have e2 : (List.range xs.size).filterMap (fun (m : Nat) => xs[(((xs.size : Int) - 1) + (m : Int) * (-1)).toNat]?) = (List.range xs.size).filterMap (fun m => xs.toList.reverse[m]?) := by
    apply fm_congr
    intro m hm
    have hm := List.mem_range.mp hm
    have hl : xs.toList.length = xs.size := Array.length_toList
    have e1 : (((xs.size : Int) - 1) + (m : Int) * (-1)).toNat = xs.size - 1 - m := by omega
    rw [e1, List.getElem?_reverse (by omega), hl, Array.getElem?_toList]
  rw [e2]
  have hl : xs.toList.reverse.length = xs.size := by rw [List.length_reverse, Array.length_toList]
  rw [← hl]
  generalize xs.toList.reverse = ys
  have q := PySem.W.krv_all ys.toArray
  simpa using q
section
variable {prog : Program} {w : World} {A : Around} {E : Value → Shared → Prop} {s : Shared}
theorem sliceApplied_rev {sl : Addr} {vl vu vs : Value} {n : Nat} {Q : Int × Int × Nat → Shared → Prop} (hs : s.heap.IsSliceOf sl vl vu vs) (pl : IsPart vl none) (pu : IsPart vu none) (ps : IsPart vs (some (-1)))
    (h : Q ((n : Int) - 1, -1, n) s) : wpAny (model prog w) A (Builtin.Slice.sliceApplied (.ref sl) (pure (n : Int))) Q E s := by
  obtain ⟨os, hos, hcs, hds⟩ := id hs
  unfold Builtin.Slice.sliceApplied Builtin.Slice.sliceFields
  refine wpAny_bind (wpAny_bind (wpAny_field hos hds (x := vl) rfl (wpAny_bind (wpAny_field hos hds (x := vu) rfl (wpAny_bind (wpAny_field hos hds (x := vs) rfl (wpAny_pure ?_)))))))
  refine wpAny_bind (slicePart_ ps ?_); show wpAny _ _ (if ((-1 : Int) == 0) = true then _ else _) _ _ s; rw [if_neg (by decide)]
  refine wpAny_bind (slicePart_ pl (wpAny_bind (slicePart_ pu (wpAny_bind (wpAny_pure ?_)))))
  show wpAny _ _ (match Builtin.Slice.sliceAdjust none none (-1) (n : Int) with | (lo, hi) => pure (lo, (-1 : Int), Builtin.Slice.slicePlaces lo hi (-1))) _ _ s
  rw [adjust_rev n]
  show wpAny _ _ (pure ((n : Int) - 1, (-1 : Int), Builtin.Slice.slicePlaces ((n : Int) - 1) (-1) (-1))) _ _ s
  rw [places_rev n]
  exact wpAny_pure h
theorem getItem_tuple_rev {t sl : Addr} {items : Array Value} {vl vu vs : Value} {Q : Value → Shared → Prop} (ht : IsTup s.heap t items) (hs : s.heap.IsSliceOf sl vl vu vs) (pl : IsPart vl none) (pu : IsPart vu none) (ps : IsPart vs (some (-1)))
    (h : Q (.ref s.heap.objs.size) { s with heap := s.heap.push { cls := .type "tuple", data := .seq items.toList.reverse.toArray } })
    (hsz : items.size ≤ sizeLine) : wpAny (model prog w) A (getItem (.ref t) (.ref sl)) Q E s := by
  have fit : sizeOk (.seq items.toList.reverse.toArray) := by
    show items.toList.reverse.toArray.size ≤ sizeLine
    rw [List.size_toArray, List.length_reverse, Array.length_toList]; omega
  obtain ⟨os, hos, hcs, hds⟩ := id hs
  have hTs : s.TypeIs (.ref sl) "slice" := ⟨os, hos, hcs⟩
  unfold getItem
  try with_reducible refine wpAny_holding ?_
  first | refine wpAny_bind (wpAny_pure ?_) | skip
  refine wpAny_bind (wpAny_sequenceKey ht.typeIs (by decide) ?_)
  refine wpAny_bind (wpAny_callSpecial?_slot (name := Str.ofString "__getitem__") ht.typeIs slot_tuple_getitem (wpAny_call_entry slot_tuple_getitem ht.typeIs entry_tuple_getitem ?_ (args_tuple_getitem _ _)))
  show wpAny _ _ (Builtin.Tuple.tupleItemsOf (.ref t) >>= _) _ _ s; refine wpAny_bind (tupleItemsOf_ ht ?_)
  refine wpAny_bind (wpAny_typeOf hTs ?_); rw [if_pos (by decide)]
  refine wpAny_bind (sliceApplied_rev hs pl pu ps ?_)
  show wpAny _ _ (if (((items.size : Int) - 1) == 0 && (-1 : Int) == 1 && items.size == items.size) = true then _ else _) _ _ s
  rw [if_neg (by simp), pick_rev]
  first
    | exact wpAny_bind (m := Builtin.Tuple.tupleExact _) (wpAny_newObj_type (wpAny_pure ⟨_, rfl, wpAny_pure h⟩) fit)
    | exact wpAny_bind (m := Builtin.Tuple.tupleExact _) (wpAny_newObj_type (wpAny_bind (wpAny_pure (wpAny_pure ⟨_, rfl, wpAny_pure h⟩))) fit)
    | exact wpAny_bind (wpAny_bind (m := Builtin.Tuple.tupleExact _) (wpAny_newObj_type (wpAny_pure (wpAny_pure ⟨_, rfl, wpAny_pure h⟩)) fit))
    | exact wpAny_bind (wpAny_bind (m := Builtin.Tuple.tupleExact _) (wpAny_newObj_type (wpAny_pure ⟨_, rfl, wpAny_pure h⟩) fit))
end
def tRevT (K : PySem.W.Frag) (te : TE) : TE := fun σ H Q => te σ H fun x H1 => ∃ a xs, x = .ref a ∧ SqT K H1 a xs ∧ ∀ p, H1 p = none → Q (.ref p) (upd H1 p (.tup xs.reverse))
theorem pe_revT {X : Cx} {e : Expr} {te : TE} {k1 : Nat} {p1 p2 p3 pos : Pos} (he : PE X e te) :
    PE X (.Subscript e (.Slice none none (some (.UnaryOp .USub (.Constant (.int 1) k1 p1) p2)) p3) pos) (tRevT X.K te) := by
  refine ⟨fun pins s σ H Q I h => ?_⟩
  refine Subscript_ (thn (he.run pins s σ H _ I h) fun v s1 ⟨x, H1, I1, r1, q1⟩ => ?_)
  obtain ⟨a, xs, ex, hx, q⟩ := q1
  subst ex
  cases r1
  have hst : PO X (some (.UnaryOp .USub (.Constant (.int 1) k1 p1) p2)) (tPart (tUn (rU fun i => .int (-i)) (tC (.int 1)))) := po_some (pe_un un_neg pe_int)
  refine wpAny_Slice (thn (po_none.run pins s1 σ H1 (fun o H2 => o = none ∧ H2 = H1) I1 ⟨rfl, rfl⟩) fun vl s2 ⟨l, H2, I2, pl, el, e2⟩ => ?_)
  subst el e2
  refine thn (po_none.run pins s2 σ H2 (fun o H3 => o = none ∧ H3 = H2) I2 ⟨rfl, rfl⟩) fun vu s3 ⟨u, H3, I3, pu, eu, e3⟩ => ?_
  subst eu e3
  refine thn (hst.run pins s3 σ H3 (fun o H4 => o = some (-1) ∧ H4 = H3) I3 ⟨1, rfl, -1, rfl, rfl, rfl⟩) fun vs s4 ⟨o, H4, I4, ps, eo, e4⟩ => ?_
  subst eo e4
  have I5 : Inv X pins σ H4 { s4 with heap := s4.heap.push { cls := .type "slice", data := .fields #[vl, vu, vs] } } := I4.kept (t' := s4.toks) fun b ob q => Heap.get?_push_of_some _ q
  obtain ⟨its, r, ht, hz⟩ := I5.tuple hx
  have hlen := r.length
  show wpAny (model X.prog X.w) X.A (subscriptTail e (.Slice none none (some (.UnaryOp .USub (.Constant (.int 1) k1 p1) p2)) p3) (.ref a) (.ref s4.heap.objs.size)) (EP X pins σ Q) X.xe { s4 with heap := s4.heap.push { cls := .type "slice", data := .fields #[vl, vu, vs] } }
  refine tail_any (ops := [.ref a, .ref s4.heap.objs.size]) ht.typeIs slot_tuple_getitem.lookup ?_ (by with_unfolding_all rfl)
  refine getItem_tuple_rev ht (Heap.IsSliceOf.new _ vl vu vs) pl pu ps ?_ (by rw [List.size_toArray]; omega)
  refine ⟨.ref _, _, I5.laid (t' := s4.toks) (o := .tup xs.reverse) (fun b ob q => Heap.get?_push_of_some _ q) (Nat.le_refl _) ?_, rfl, q _ (I5.hok.fresh (Nat.le_refl _))⟩
  exact ⟨by rw [List.length_reverse]; omega, _, r.reverse, IsTup.new _ _⟩
end Own
set_option maxHeartbeats 2000000
namespace Own
open PySem PySem.Spec PyProof.Rows L2 HT
/-! ### t += u, tuples -/
theorem noI_tuple_add : typeLookup (.type "tuple") (dunderI "add") = pure none := by rw [typeLookup_type, builtinLookup_eq_fast]; kernel_rfl
section
variable {prog : Program} {w : World} {A : Around} {E : Value → Shared → Prop} {s : Shared}
theorem icat_tup {t b : Addr} {vs ws : List Value} {Q : Value → Shared → Prop} (ht : IsTup s.heap t vs.toArray) (hb : IsTup s.heap b ws.toArray)
    (h0 : vs = [] → Q (.ref b) s) (h1 : vs ≠ [] → ws = [] → Q (.ref t) s) (h2 : vs ≠ [] → ws ≠ [] → Q (.ref s.heap.objs.size) { s with heap := s.heap.push { cls := .type "tuple", data := .seq (vs ++ ws).toArray } })
    (hsz : vs.length + ws.length ≤ sizeLine) : wpAny (model prog w) A (inplaceOp .Add (.ref t) (.ref b)) Q E s := by
  obtain ⟨⟨cls, dd, data, sl⟩, ho, hc, n, hd⟩ := id ht
  obtain ⟨⟨cls2, dd2, data2, sl2⟩, ho2, hc2, n2, hd2⟩ := id hb
  simp only at hc hd hc2 hd2
  subst hc hd hc2 hd2
  have e : vs.toArray ++ ws.toArray = (vs ++ ws).toArray := by simp
  refine wpAny_inplaceOp_concat ⟨_, ho, rfl⟩ ⟨_, ho2, rfl⟩ noI_tuple_add noFill_tuple_add seq_tuple_add ?_
  by_cases hv : vs = []
  · exact call_meets PySem.F.slot_tuple_add ⟨_, ho, rfl⟩ PySem.F.entry_tuple_add (PySem.F.args_tuple_add_2 _ _) (tuple_addW0 t b vs.toArray ws.toArray n n2 dd dd2 sl sl2 (by simp [hv])) ⟨ho, ho2, h0 hv⟩
  by_cases hw : ws = []
  · exact call_meets PySem.F.slot_tuple_add ⟨_, ho, rfl⟩ PySem.F.entry_tuple_add (PySem.F.args_tuple_add_2 _ _) (tuple_addW1 t b vs.toArray ws.toArray n n2 dd dd2 sl sl2 (by simpa using hv) (by simp [hw])) ⟨ho, ho2, h1 hv hw⟩
  · refine call_meets PySem.F.slot_tuple_add ⟨_, ho, rfl⟩ PySem.F.entry_tuple_add (PySem.F.args_tuple_add_2 _ _) (tuple_addW2 t b vs.toArray ws.toArray n n2 dd dd2 sl sl2 (by simpa using hv) (by simpa using hw) (by rw [List.size_toArray, List.size_toArray]; exact hsz)) ⟨ho, ho2, ?_⟩
    rw [e]
    exact h2 hv hw
end
theorem ip_catA {X : Cx} : PIp X .Add (rCatA X.K) := by
  intro pins s σ H x y v u Q I rx ry h
  obtain ⟨a, b, xs, ys, rfl, rfl, ha, hb, hz, q0, q1, q2⟩ := h
  cases rx
  cases ry
  obtain ⟨its, r1, p1, _⟩ := I.tuple ha
  obtain ⟨its2, r2, p2, _⟩ := I.tuple hb
  refine icat_tup p1 p2 (fun z => ⟨.ref b, H, I, rfl, q0 (r1.nil_iff.mp z)⟩) (fun z1 z2 => ⟨.ref a, H, I, rfl, q1 (fun z => z1 (r1.nil_iff.mpr z)) (r2.nil_iff.mp z2)⟩) (fun z1 z2 => ?_) (by rw [← r1.length, ← r2.length]; exact hz)
  refine ⟨.ref s.heap.objs.size, _, I.laid (t' := s.toks) (o := .tup (xs ++ ys)) (fun b ob q => Heap.get?_push_of_some _ q) (Nat.le_refl _) ?_, rfl, q2 (fun z => z1 (r1.nil_iff.mpr z)) (fun z => z2 (r2.nil_iff.mpr z)) _ (I.hok.fresh (Nat.le_refl _))⟩
  exact ⟨by rw [List.length_append]; exact hz, _, r1.append r2, IsTup.new _ _⟩
end Own
set_option maxHeartbeats 2000000
namespace Own
open PySem PySem.Spec PyProof.Rows L2 HT
/-! ### formulas within a scope -/
def fmS : List Str → Fm → Prop
  | _, .tt _ => True
  | NM, .eq l r => atom20 NM l r ∧ l.nest ≤ 3 ∧ r.nest ≤ 3 ∧ l.size ≤ 20 ∧ r.size ≤ 20
  | NM, .neg f => fmS NM f
  | NM, .bin _ f g => fmS NM f ∧ fmS NM g
  | NM, .qu _ x f => fmS (x :: NM) f
theorem atom20_mono {A B : List Str} (h : ∀ x ∈ A, x ∈ B) {l r : Ter} (a : atom20 A l r) : atom20 B l r := by
  have u : ∀ k, nam20 A k → nam20 B k := fun k hk => by obtain ⟨x, e, hx⟩ := hk; exact ⟨x, e, h x hx⟩
  rcases a with ⟨h1, h2⟩ | ⟨f, as, h1, h2, h3, h4⟩
  · exact .inl ⟨wf_mono (fun _ _ z => z) u l h1, wf_mono (fun _ _ z => z) u r h2⟩
  · exact .inr ⟨f, as, h1, h2, wfs_mono (fun _ _ z => z) u as h3, h4⟩
theorem fmS_mono : ∀ (φ : Fm) (A B : List Str), (∀ x ∈ A, x ∈ B) → fmS A φ → fmS B φ
  | .tt _, _, _, _, _ => trivial
  | .eq l r, A, B, h, a => ⟨atom20_mono h a.1, a.2⟩
  | .neg f, A, B, h, a => fmS_mono f A B h a
  | .bin _ f g, A, B, h, a => ⟨fmS_mono f A B h a.1, fmS_mono g A B h a.2⟩
  | .qu _ x f, A, B, h, a => fmS_mono f (x :: A) (x :: B) (fun y hy => by
    rcases List.mem_cons.mp hy with e | hy
    · rw [e]; exact List.mem_cons_self ..
    · exact List.mem_cons_of_mem _ (h y hy)) a
/-! ### new names -/
def varN (k : Nat) : Str := ("V" : Str) ++ ((toString (k : Int) : String) : Str)
theorem varN_inj : ∀ j : Fin 64, ∀ k : Fin 64, varN j = varN k → j = k := by decide +kernel
theorem varN_ok : ∀ k : Fin 64, PyData.strOk (varN k) = true := by decide +kernel
mutual
def Ter.rn (η : Str → Str) : Ter → Ter
  | .var (.inr x) => .var (.inr (η x))
  | .var (.inl i) => .var (.inl i)
  | .ap f as => .ap f (Ter.rns η as)
def Ter.rns (η : Str → Str) : List Ter → List Ter
  | [] => []
  | a :: r => a.rn η :: Ter.rns η r
end
theorem rns_len (η : Str → Str) : ∀ as : List Ter, (Ter.rns η as).length = as.length
  | [] => rfl
  | _ :: r => congrArg (· + 1) (rns_len η r)
theorem rns_app (η : Str → Str) : ∀ as bs : List Ter, Ter.rns η (as ++ bs) = Ter.rns η as ++ Ter.rns η bs
  | [], _ => rfl
  | a :: r, bs => congrArg (a.rn η :: ·) (rns_app η r bs)
mutual
theorem rn_sz (η : Str → Str) : ∀ t : Ter, (t.rn η).nest = t.nest ∧ (t.rn η).size = t.size
  | .var (.inr _) => ⟨rfl, rfl⟩
  | .var (.inl _) => ⟨rfl, rfl⟩
  | .ap f as => by
    have := rns_sz η as
    exact ⟨by show Ter.nests _ + 1 = Ter.nests as + 1; rw [this.1], by show Ter.sizes _ + 1 = Ter.sizes as + 1; rw [this.2]⟩
theorem rns_sz (η : Str → Str) : ∀ ts : List Ter, Ter.nests (Ter.rns η ts) = Ter.nests ts ∧ Ter.sizes (Ter.rns η ts) = Ter.sizes ts
  | [] => ⟨rfl, rfl⟩
  | t :: r => by
    have a := rn_sz η t
    have b := rns_sz η r
    exact ⟨by show max _ _ = max _ _; rw [a.1, b.1], by show _ + _ = _ + _; rw [a.2, b.2]⟩
end
mutual
theorem rn_wf {η : Str → Str} {A B : List Str} (h : ∀ x ∈ A, η x ∈ B) : ∀ t : Ter, t.wf sym20 (nam20 A) → (t.rn η).wf sym20 (nam20 B)
  | .var (.inr x), ⟨y, e, hy⟩ => by cases e; exact ⟨_, rfl, h x hy⟩
  | .var (.inl _), ⟨y, e, _⟩ => by cases e
  | .ap f as, hw => ⟨by rw [rns_len]; exact hw.1, rns_wf h as hw.2⟩
theorem rns_wf {η : Str → Str} {A B : List Str} (h : ∀ x ∈ A, η x ∈ B) : ∀ ts : List Ter, Ter.wfs sym20 (nam20 A) ts → Ter.wfs sym20 (nam20 B) (Ter.rns η ts)
  | [], _ => trivial
  | t :: r, hw => ⟨rn_wf h t hw.1, rns_wf h r hw.2⟩
end
theorem atom20_rn {η : Str → Str} {A B : List Str} (h : ∀ x ∈ A, η x ∈ B) {l r : Ter} (a : atom20 A l r) : atom20 B (l.rn η) (r.rn η) := by
  rcases a with ⟨h1, h2⟩ | ⟨f, as, rfl, h2, h3, rfl⟩
  · exact .inl ⟨rn_wf h l h1, rn_wf h r h2⟩
  · exact .inr ⟨f, _, rfl, by rw [rns_len]; exact h2, rns_wf h as h3, rfl⟩
def nmS (η : Str → Str) (x y : Str) : Str → Str := fun z => if z = x then y else η z
def Fm.ren : Fm → (Str → Str) → Nat → Fm × Nat
  | .tt b, _, k => (.tt b, k)
  | .eq l r, η, k => (.eq (l.rn η) (r.rn η), k)
  | .neg f, η, k => (.neg (f.ren η k).1, (f.ren η k).2)
  | .bin o f g, η, k => (.bin o (f.ren η k).1 (g.ren η (f.ren η k).2).1, (g.ren η (f.ren η k).2).2)
  | .qu a x f, η, k => (.qu a (varN k) (f.ren (nmS η x (varN k)) (k + 1)).1, (f.ren (nmS η x (varN k)) (k + 1)).2)
def Fm.qn : Fm → Nat
  | .tt _ => 0
  | .eq _ _ => 0
  | .neg f => f.qn
  | .bin _ f g => f.qn + g.qn
  | .qu _ _ f => f.qn + 1
theorem qn_le : ∀ φ : Fm, φ.qn + 1 ≤ 2 ^ φ.high
  | .tt _ => by show 0 + 1 ≤ 2 ^ 1; decide
  | .eq _ _ => by show 0 + 1 ≤ 2 ^ 1; decide
  | .neg f => by
    have a := qn_le f
    have p : 2 ^ (f.high + 1) = 2 ^ f.high * 2 := Nat.pow_succ ..
    show f.qn + 1 ≤ 2 ^ (f.high + 1)
    omega
  | .bin _ f g => by
    have a := qn_le f
    have b := qn_le g
    have p : 2 ^ (max f.high g.high + 1) = 2 ^ max f.high g.high * 2 := Nat.pow_succ ..
    have q := two_max f.high g.high
    show f.qn + g.qn + 1 ≤ 2 ^ (max f.high g.high + 1)
    omega
  | .qu _ _ f => by
    have a := qn_le f
    have p : 2 ^ (f.high + 1) = 2 ^ f.high * 2 := Nat.pow_succ ..
    show f.qn + 1 + 1 ≤ 2 ^ (f.high + 1)
    omega
theorem ren_high : ∀ (φ : Fm) (η : Str → Str) (k : Nat), (φ.ren η k).1.high = φ.high ∧ (φ.ren η k).2 = k + φ.qn
  | .tt b, η, k => ⟨rfl, rfl⟩
  | .eq l r, η, k => ⟨rfl, rfl⟩
  | .neg f, η, k => by
    have a := ren_high f η k
    exact ⟨congrArg (· + 1) a.1, a.2⟩
  | .bin o f g, η, k => by
    have a := ren_high f η k
    have b := ren_high g η (f.ren η k).2
    refine ⟨by show max _ _ + 1 = max _ _ + 1; rw [a.1, b.1], ?_⟩
    show (g.ren η (f.ren η k).2).2 = k + (f.qn + g.qn)
    omega
  | .qu c x f, η, k => by
    have a := ren_high f (nmS η x (varN k)) (k + 1)
    refine ⟨congrArg (· + 1) a.1, ?_⟩
    show (f.ren (nmS η x (varN k)) (k + 1)).2 = k + (f.qn + 1)
    omega
theorem ren_fmS : ∀ (φ : Fm) (η : Str → Str) (k : Nat) (A B : List Str), fmS A φ → (∀ x ∈ A, η x ∈ B) → fmS B (φ.ren η k).1
  | .tt b, η, k, A, B, _, _ => trivial
  | .eq l r, η, k, A, B, h, m => by
    have a := rn_sz η l
    have b := rn_sz η r
    refine ⟨atom20_rn m h.1, ?_⟩
    rw [a.1, a.2, b.1, b.2]
    exact h.2
  | .neg f, η, k, A, B, h, m => ren_fmS f η k A B h m
  | .bin o f g, η, k, A, B, h, m => ⟨ren_fmS f η k A B h.1 m, ren_fmS g η _ A B h.2 m⟩
  | .qu c x f, η, k, A, B, h, m => ren_fmS f (nmS η x (varN k)) (k + 1) (x :: A) (varN k :: B) h fun y hy => by
    unfold nmS
    by_cases e : y = x
    · rw [if_pos e]; exact List.mem_cons_self ..
    · rw [if_neg e]
      rcases List.mem_cons.mp hy with z | hy
      · exact absurd z e
      · exact List.mem_cons_of_mem _ (m y hy)
mutual
theorem val_rn {M : Mdl} {η : Str → Str} {ρ ρ' : Str → Int} {A : List Str} (h : ∀ x ∈ A, ρ' (η x) = ρ x) : ∀ t : Ter, t.wf sym20 (nam20 A) → (t.rn η).val M ρ' = t.val M ρ
  | .var (.inr x), ⟨y, e, hy⟩ => by cases e; exact h x hy
  | .var (.inl _), ⟨y, e, _⟩ => by cases e
  | .ap f as, hw => by
    show M.fn f (Ter.vals M ρ' (Ter.rns η as)) = M.fn f (Ter.vals M ρ as)
    rw [vals_rn h as hw.2]
theorem vals_rn {M : Mdl} {η : Str → Str} {ρ ρ' : Str → Int} {A : List Str} (h : ∀ x ∈ A, ρ' (η x) = ρ x) : ∀ ts : List Ter, Ter.wfs sym20 (nam20 A) ts → Ter.vals M ρ' (Ter.rns η ts) = Ter.vals M ρ ts
  | [], _ => rfl
  | t :: r, hw => by
    show (t.rn η).val M ρ' :: Ter.vals M ρ' (Ter.rns η r) = t.val M ρ :: Ter.vals M ρ r
    rw [val_rn h t hw.1, vals_rn h r hw.2]
end
theorem isTr_rn {η : Str → Str} (t : Ter) : isTr (t.rn η) = isTr t := by
  cases t with
  | var k => cases k <;> rfl
  | ap f as => show (f == "true" && (Ter.rns η as).isEmpty) = (f == "true" && as.isEmpty); cases as <;> rfl
theorem eqHolds_rn {M : Mdl} {η : Str → Str} {ρ ρ' : Str → Int} {A : List Str} (h : ∀ x ∈ A, ρ' (η x) = ρ x) {l r : Ter} (a : atom20 A l r) : eqHolds M ρ' (l.rn η) (r.rn η) = eqHolds M ρ l r := by
  unfold eqHolds
  rw [isTr_rn]
  rcases a with ⟨h1, h2⟩ | ⟨f, as, rfl, h2, h3, rfl⟩
  · rw [isTr_wf h2, if_neg Bool.false_ne_true, if_neg Bool.false_ne_true, val_rn h l h1, val_rn h r h2]
  · rw [show isTr (.ap "true" []) = true by decide +kernel, if_pos rfl, if_pos rfl]
    show M.pr f (Ter.vals M ρ' (Ter.rns η as)) = M.pr f (Ter.vals M ρ as)
    rw [vals_rn h as h3]
/-- capture does not happen: the new names are new -/
theorem truth_ren (M : Mdl) : ∀ (φ : Fm) (A : List Str) (η : Str → Str) (k : Nat) (ρ ρ' : Str → Int), fmS A φ → (∀ x ∈ A, ρ' (η x) = ρ x) → (∀ x ∈ A, ∃ j, j < k ∧ η x = varN j) → (φ.ren η k).2 ≤ 63 → (φ.ren η k).1.truth M ρ' = φ.truth M ρ
  | .tt b, _, _, _, _, _, _, _, _, _ => rfl
  | .eq l r, A, η, k, ρ, ρ', h, m, _, _ => eqHolds_rn m h.1
  | .neg f, A, η, k, ρ, ρ', h, m, n, b => congrArg (!·) (truth_ren M f A η k ρ ρ' h m n b)
  | .bin o f g, A, η, k, ρ, ρ', h, m, n, b => by
    have b : (g.ren η (f.ren η k).2).2 ≤ 63 := b
    have hf := ren_high f η k
    have hg := ren_high g η (f.ren η k).2
    show o.fn _ _ = o.fn _ _
    rw [truth_ren M f A η k ρ ρ' h.1 m n (by omega), truth_ren M g A η (f.ren η k).2 ρ ρ' h.2 m (fun x hx => by obtain ⟨j, l, e⟩ := n x hx; exact ⟨j, by omega, e⟩) b]
  | .qu c x f, A, η, k, ρ, ρ', h, m, n, b => by
    have b : (f.ren (nmS η x (varN k)) (k + 1)).2 ≤ 63 := b
    have hf := ren_high f (nmS η x (varN k)) (k + 1)
    have st : ∀ i : Int, (f.ren (nmS η x (varN k)) (k + 1)).1.truth M (wider ρ' (varN k) i) = f.truth M (wider ρ x i) := fun i => truth_ren M f (x :: A) (nmS η x (varN k)) (k + 1) (wider ρ x i) (wider ρ' (varN k) i) h
      (fun y hy => by
        unfold nmS wider
        by_cases e : y = x
        · rw [if_pos e, if_pos rfl, if_pos e]
        · rw [if_neg e, if_neg e]
          rcases List.mem_cons.mp hy with z | hy
          · exact absurd z e
          · obtain ⟨j, l, ej⟩ := n y hy
            rw [if_neg fun z => by
              have := varN_inj ⟨j, by omega⟩ ⟨k, by omega⟩ (ej.symm.trans z)
              have := congrArg Fin.val this
              simp at this
              omega]
            exact m y hy)
      (fun y hy => by
        unfold nmS
        by_cases e : y = x
        · exact ⟨k, Nat.lt_succ_self k, by rw [if_pos e]⟩
        · rw [if_neg e]
          rcases List.mem_cons.mp hy with z | hy
          · exact absurd z e
          · obtain ⟨j, l, ej⟩ := n y hy
            exact ⟨j, by omega, ej⟩) b
    cases c
    · show (List.range M.sz).any _ = (List.range M.sz).any _
      congr 1; funext i; exact st i
    · show (List.range M.sz).all _ = (List.range M.sz).all _
      congr 1; funext i; exact st i
/-! ### free names, the first one first -/
def nmK (bd acc : List Key) (k : Key) : List Key := if hasK bd k = true then acc else addK acc k
mutual
def Ter.fv (bd : List Key) (acc : List Key) : Ter → List Key
  | .var k => nmK bd acc k
  | .ap _ as => Ter.fvs bd acc as
def Ter.fvs (bd : List Key) (acc : List Key) : List Ter → List Key
  | [] => acc
  | a :: r => Ter.fvs bd (a.fv bd acc) r
end
def Fm.fv : Fm → List Key → List Key → List Key
  | .tt _, _, acc => acc
  | .eq l r, bd, acc => r.fv bd (l.fv bd acc)
  | .neg f, bd, acc => f.fv bd acc
  | .bin _ f g, bd, acc => g.fv bd (f.fv bd acc)
  | .qu _ x f, bd, acc => f.fv (bd ++ [.inr x]) acc
def nmKs (bd acc ks : List Key) : List Key := ks.foldl (nmK bd) acc
theorem hasK_nmK (bd acc : List Key) (k x : Key) : (hasK bd x || hasK (nmK bd acc k) x) = (hasK bd x || hasK acc x || decide (k = x)) := by
  unfold nmK
  by_cases h : hasK bd k = true
  · rw [if_pos h]
    by_cases e : k = x
    · subst e; rw [h]; simp
    · rw [decide_eq_false e, Bool.or_false]
  · rw [if_neg h, hasK_addK, Bool.or_assoc]
theorem hasK_nmKs (bd : List Key) : ∀ (ks acc : List Key) (x : Key), (hasK bd x || hasK (nmKs bd acc ks) x) = (hasK bd x || hasK acc x || hasK ks x)
  | [], acc, x => by show _ = (hasK bd x || hasK acc x || false); rw [Bool.or_false]; rfl
  | k :: r, acc, x => by
    show (hasK bd x || hasK (nmKs bd (nmK bd acc k) r) x) = _
    rw [hasK_nmKs bd r, hasK_nmK, Bool.or_assoc]
    rfl
theorem nmKs_addK (bd acc b : List Key) (k : Key) : nmKs bd acc (addK b k) = nmK bd (nmKs bd acc b) k := by
  by_cases h : hasK b k = true
  · have e : addK b k = b := by unfold addK; rw [if_pos h]
    have h2 : (hasK bd k || hasK (nmKs bd acc b) k) = true := by rw [hasK_nmKs, h, Bool.or_true]
    rw [e]
    unfold nmK
    by_cases h3 : hasK bd k = true
    · rw [if_pos h3]
    · rw [if_neg h3]
      unfold addK
      rw [Bool.not_eq_true] at h3
      rw [h3, Bool.false_or] at h2
      rw [if_pos h2]
  · have e : addK b k = b ++ [k] := by unfold addK; rw [if_neg h]
    rw [e]
    unfold nmKs
    rw [List.foldl_append]
    rfl
mutual
theorem nmKs_into (bd acc : List Key) : ∀ (t : Ter) (b : List Key), nmKs bd acc (Ter.into b t) = Ter.fv bd (nmKs bd acc b) t
  | .var k, b => nmKs_addK bd acc b k
  | .ap _ as, b => nmKs_intos bd acc as b
theorem nmKs_intos (bd acc : List Key) : ∀ (ts : List Ter) (b : List Key), nmKs bd acc (Ter.intos b ts) = Ter.fvs bd (nmKs bd acc b) ts
  | [], _ => rfl
  | t :: r, b => by
    show nmKs bd acc (Ter.intos (Ter.into b t) r) = _
    rw [nmKs_intos bd acc r, nmKs_into bd acc t]
    rfl
end
/-- the names of two sides, without those that are bound -/
theorem nm_two (bd acc : List Key) (l r : Ter) : nmKs bd acc (Ter.intos [] [l, r]) = r.fv bd (l.fv bd acc) := nmKs_intos bd acc [l, r] []
mutual
theorem fv_len (bd : List Key) : ∀ (t : Ter) (acc : List Key), (t.fv bd acc).length ≤ acc.length + t.size
  | .var k, acc => by
    show (nmK bd acc k).length ≤ acc.length + 1
    unfold nmK
    split
    · omega
    · exact addK_len acc k
  | .ap _ as, acc => Nat.le_trans (fvs_len bd as acc) (by show _ ≤ acc.length + (Ter.sizes as + 1); omega)
theorem fvs_len (bd : List Key) : ∀ (ts : List Ter) (acc : List Key), (Ter.fvs bd acc ts).length ≤ acc.length + Ter.sizes ts
  | [], acc => by show acc.length ≤ acc.length + 0; omega
  | t :: r, acc => by
    have h1 := fv_len bd t acc
    have h2 := fvs_len bd r (t.fv bd acc)
    show (Ter.fvs bd (t.fv bd acc) r).length ≤ acc.length + (t.size + Ter.sizes r)
    omega
end
theorem mem_nmK {bd acc : List Key} {k x : Key} (h : x ∈ nmK bd acc k) : x ∈ acc ∨ (x = k ∧ k ∉ bd) := by
  unfold nmK at h
  split at h
  · exact .inl h
  · rename_i hb
    unfold addK at h
    split at h
    · exact .inl h
    · rcases List.mem_append.mp h with h | h
      · exact .inl h
      · exact .inr ⟨List.mem_singleton.mp h, fun z => hb (hasK_iff.mpr z)⟩
theorem nmK_sub {bd acc : List Key} {k x : Key} (h : x ∈ acc) : x ∈ nmK bd acc k := by
  unfold nmK
  split
  · exact h
  · unfold addK
    split
    · exact h
    · exact List.mem_append_left _ h
theorem nmK_in {bd acc : List Key} {k : Key} : k ∈ bd ∨ k ∈ nmK bd acc k := by
  by_cases h : hasK bd k = true
  · exact .inl (hasK_iff.mp h)
  · refine .inr ?_
    unfold nmK
    rw [if_neg h]
    unfold addK
    split
    · rename_i h2; exact hasK_iff.mp h2
    · exact List.mem_append_right _ (List.mem_singleton.mpr rfl)
mutual
theorem tfv_sub (bd : List Key) : ∀ (t : Ter) (acc : List Key) (x : Key), x ∈ acc → x ∈ t.fv bd acc
  | .var _, _, _, h => nmK_sub h
  | .ap _ as, acc, x, h => tfvs_sub bd as acc x h
theorem tfvs_sub (bd : List Key) : ∀ (ts : List Ter) (acc : List Key) (x : Key), x ∈ acc → x ∈ Ter.fvs bd acc ts
  | [], _, _, h => h
  | t :: r, acc, x, h => tfvs_sub bd r _ x (tfv_sub bd t acc x h)
end
theorem fv_sub : ∀ (φ : Fm) (bd acc : List Key) (x : Key), x ∈ acc → x ∈ φ.fv bd acc
  | .tt _, _, _, _, h => h
  | .eq l r, bd, acc, x, h => tfv_sub bd r _ x (tfv_sub bd l acc x h)
  | .neg f, bd, acc, x, h => fv_sub f bd acc x h
  | .bin _ f g, bd, acc, x, h => fv_sub g bd _ x (fv_sub f bd acc x h)
  | .qu _ _ f, bd, acc, x, h => fv_sub f _ acc x h
/-- all names that occur are bound, or free and told -/
def Reach (bd fr : List Key) (A : List Str) : Prop := ∀ x : Str, (.inr x : Key) ∈ bd ∨ (.inr x : Key) ∈ fr → x ∈ A
mutual
theorem tfv_wf {bd : List Key} {L A : List Str} : ∀ (t : Ter) (acc : List Key), t.wf sym20 (nam20 L) → Reach bd (t.fv bd acc) A → t.wf sym20 (nam20 A)
  | .var k, acc, h, r => by
    obtain ⟨x, rfl, _⟩ := h
    exact ⟨x, rfl, r x nmK_in⟩
  | .ap f as, acc, h, r => ⟨h.1, tfvs_wf as acc h.2 r⟩
theorem tfvs_wf {bd : List Key} {L A : List Str} : ∀ (ts : List Ter) (acc : List Key), Ter.wfs sym20 (nam20 L) ts → Reach bd (Ter.fvs bd acc ts) A → Ter.wfs sym20 (nam20 A) ts
  | [], _, _, _ => trivial
  | t :: r, acc, h, q => ⟨tfv_wf t acc h.1 fun x hx => q x (hx.imp id (tfvs_sub bd r _ _)), tfvs_wf r _ h.2 q⟩
end
theorem fv_fmS : ∀ (φ : Fm) (bd acc : List Key) (L A : List Str), fmS L φ → Reach bd (φ.fv bd acc) A → fmS A φ
  | .tt _, _, _, _, _, _, _ => trivial
  | .eq l r, bd, acc, L, A, h, q => by
    refine ⟨?_, h.2⟩
    rcases h.1 with ⟨h1, h2⟩ | ⟨f, as, rfl, h2, h3, h4⟩
    · exact .inl ⟨tfv_wf l acc h1 fun x hx => q x (hx.imp id (tfv_sub bd r _ _)), tfv_wf r _ h2 q⟩
    · exact .inr ⟨f, as, rfl, h2, tfvs_wf as acc h3 (fun x hx => q x (hx.imp id (tfv_sub bd r _ _))), h4⟩
  | .neg f, bd, acc, L, A, h, q => fv_fmS f bd acc L A h q
  | .bin _ f g, bd, acc, L, A, h, q => ⟨fv_fmS f bd acc L A h.1 fun x hx => q x (hx.imp id (fv_sub g bd _ _)), fv_fmS g bd _ L A h.2 q⟩
  | .qu _ x f, bd, acc, L, A, h, q => fv_fmS f (bd ++ [.inr x]) acc (x :: L) (x :: A) h fun y hy => by
    rcases hy with hy | hy
    · rcases List.mem_append.mp hy with hy | hy
      · exact List.mem_cons_of_mem _ (q y (.inl hy))
      · have := Sum.inr.inj (List.mem_singleton.mp hy)
        rw [this]; exact List.mem_cons_self ..
    · exact List.mem_cons_of_mem _ (q y (.inr hy))
mutual
theorem tfv_mem {bd : List Key} {L : List Str} : ∀ (t : Ter) (acc : List Key), t.wf sym20 (nam20 L) → ∀ k ∈ t.fv bd acc, k ∈ acc ∨ nam20 L k
  | .var k, acc, h, x, hx => by
    rcases mem_nmK hx with hx | ⟨rfl, _⟩
    · exact .inl hx
    · exact .inr h
  | .ap f as, acc, h, x, hx => tfvs_mem as acc h.2 x hx
theorem tfvs_mem {bd : List Key} {L : List Str} : ∀ (ts : List Ter) (acc : List Key), Ter.wfs sym20 (nam20 L) ts → ∀ k ∈ Ter.fvs bd acc ts, k ∈ acc ∨ nam20 L k
  | [], _, _, k, hk => .inl hk
  | t :: r, acc, h, k, hk => by
    rcases tfvs_mem r _ h.2 k hk with q | q
    · exact tfv_mem t acc h.1 k q
    · exact .inr q
end
mutual
theorem tfv_bd {bd : List Key} {L : List Str} (hb : ∀ x ∈ L, (.inr x : Key) ∈ bd) : ∀ (t : Ter) (acc : List Key), t.wf sym20 (nam20 L) → t.fv bd acc = acc
  | .var k, acc, h => by
    obtain ⟨x, rfl, hx⟩ := h
    show nmK bd acc _ = acc
    unfold nmK
    rw [if_pos (hasK_iff.mpr (hb x hx))]
  | .ap f as, acc, h => tfvs_bd hb as acc h.2
theorem tfvs_bd {bd : List Key} {L : List Str} (hb : ∀ x ∈ L, (.inr x : Key) ∈ bd) : ∀ (ts : List Ter) (acc : List Key), Ter.wfs sym20 (nam20 L) ts → Ter.fvs bd acc ts = acc
  | [], _, _ => rfl
  | t :: r, acc, h => by
    show Ter.fvs bd (t.fv bd acc) r = acc
    rw [tfv_bd hb t acc h.1, tfvs_bd hb r acc h.2]
end
theorem fv_bd : ∀ (φ : Fm) (bd acc : List Key) (L : List Str), (∀ x ∈ L, (.inr x : Key) ∈ bd) → fmS L φ → φ.fv bd acc = acc
  | .tt _, _, _, _, _, _ => rfl
  | .eq l r, bd, acc, L, hb, h => by
    show r.fv bd (l.fv bd acc) = acc
    rcases h.1 with ⟨h1, h2⟩ | ⟨f, as, rfl, h2, h3, rfl⟩
    · rw [tfv_bd hb l acc h1, tfv_bd hb r acc h2]
    · show Ter.fvs bd acc as = acc
      exact tfvs_bd hb as acc h3
  | .neg f, bd, acc, L, hb, h => fv_bd f bd acc L hb h
  | .bin _ f g, bd, acc, L, hb, h => by
    show g.fv bd (f.fv bd acc) = acc
    rw [fv_bd f bd acc L hb h.1, fv_bd g bd acc L hb h.2]
  | .qu _ x f, bd, acc, L, hb, h => fv_bd f _ acc (x :: L) (fun y hy => by
    rcases List.mem_cons.mp hy with e | hy
    · rw [e]; exact List.mem_append_right _ (List.mem_singleton.mpr rfl)
    · exact List.mem_append_left _ (hb y hy)) h
mutual
theorem tfv_in {bd : List Key} {L : List Str} : ∀ (t : Ter) (acc : List Key), t.wf sym20 (nam20 L) → ∀ k ∈ t.fv bd acc, k ∈ acc ∨ (k ∉ bd ∧ nam20 L k)
  | .var k, acc, h, x, hx => by
    rcases mem_nmK hx with hx | ⟨rfl, n⟩
    · exact .inl hx
    · exact .inr ⟨n, h⟩
  | .ap f as, acc, h, x, hx => tfvs_in as acc h.2 x hx
theorem tfvs_in {bd : List Key} {L : List Str} : ∀ (ts : List Ter) (acc : List Key), Ter.wfs sym20 (nam20 L) ts → ∀ k ∈ Ter.fvs bd acc ts, k ∈ acc ∨ (k ∉ bd ∧ nam20 L k)
  | [], _, _, k, hk => .inl hk
  | t :: r, acc, h, k, hk => by
    rcases tfvs_in r _ h.2 k hk with q | q
    · exact tfv_in t acc h.1 k q
    · exact .inr q
end
theorem fv_in : ∀ (φ : Fm) (bd acc : List Key) (L : List Str), fmS L φ → ∀ k ∈ φ.fv bd acc, k ∈ acc ∨ (k ∉ bd ∧ nam20 L k)
  | .tt _, _, _, _, _, k, hk => .inl hk
  | .eq l r, bd, acc, L, h, k, hk => by
    have hk : k ∈ r.fv bd (l.fv bd acc) := hk
    rcases h.1 with ⟨h1, h2⟩ | ⟨f, as, rfl, h2, h3, rfl⟩
    · rcases tfv_in r _ h2 k hk with q | q
      · exact tfv_in l acc h1 k q
      · exact .inr q
    · exact tfvs_in as acc h3 k hk
  | .neg f, bd, acc, L, h, k, hk => fv_in f bd acc L h k hk
  | .bin _ f g, bd, acc, L, h, k, hk => by
    rcases fv_in g bd _ L h.2 k hk with q | q
    · exact fv_in f bd acc L h.1 k q
    · exact .inr q
  | .qu _ x f, bd, acc, L, h, k, hk => by
    rcases fv_in f _ acc (x :: L) h k hk with q | ⟨n, y, e, hy⟩
    · exact .inl q
    · refine .inr ⟨fun z => n (List.mem_append_left _ z), y, e, ?_⟩
      rcases List.mem_cons.mp hy with z | hy
      · exact absurd (List.mem_append_right _ (List.mem_singleton.mpr (by rw [e, z]))) n
      · exact hy
theorem nmK_nd {bd acc : List Key} {k : Key} (h : acc.Nodup) : (nmK bd acc k).Nodup := by
  unfold nmK
  split
  · exact h
  · unfold addK
    split
    · exact h
    · rename_i hh
      refine List.nodup_append.mpr ⟨h, List.nodup_cons.mpr ⟨List.not_mem_nil, List.nodup_nil⟩, fun a ha b hb z => hh (hasK_iff.mpr ?_)⟩
      rw [← List.mem_singleton.mp hb, ← z]; exact ha
mutual
theorem tfv_nd (bd : List Key) : ∀ (t : Ter) (acc : List Key), acc.Nodup → (t.fv bd acc).Nodup
  | .var _, _, h => nmK_nd h
  | .ap _ as, acc, h => tfvs_nd bd as acc h
theorem tfvs_nd (bd : List Key) : ∀ (ts : List Ter) (acc : List Key), acc.Nodup → (Ter.fvs bd acc ts).Nodup
  | [], _, h => h
  | t :: r, acc, h => tfvs_nd bd r _ (tfv_nd bd t acc h)
end
theorem fv_nd : ∀ (φ : Fm) (bd acc : List Key), acc.Nodup → (φ.fv bd acc).Nodup
  | .tt _, _, _, h => h
  | .eq l r, bd, acc, h => tfv_nd bd r _ (tfv_nd bd l acc h)
  | .neg f, bd, acc, h => fv_nd f bd acc h
  | .bin _ f g, bd, acc, h => fv_nd g bd _ (fv_nd f bd acc h)
  | .qu _ _ f, bd, acc, h => fv_nd f _ acc h
theorem flt_len (a : Key) : ∀ l : List Key, l.Nodup → l.length ≤ (l.filter fun x => decide (x ≠ a)).length + 1
  | [], _ => Nat.zero_le _
  | x :: r, nd => by
    have nd2 := List.nodup_cons.mp nd
    by_cases c : x = a
    · subst c
      have e : r.filter (fun y => decide (y ≠ x)) = r := List.filter_eq_self.mpr fun y hy => decide_eq_true fun z => nd2.1 (z ▸ hy)
      rw [List.filter_cons_of_neg (by simp), e]
      exact Nat.le_refl _
    · rw [List.filter_cons_of_pos (by simp [c])]
      have := flt_len a r nd2.2
      rw [List.length_cons, List.length_cons]
      omega
theorem nd_len : ∀ (L l : List Key), l.Nodup → (∀ x ∈ l, x ∈ L) → l.length ≤ L.length
  | [], l, _, h => by
    cases l with
    | nil => exact Nat.le_refl _
    | cons x r => exact absurd (h x (List.mem_cons_self ..)) List.not_mem_nil
  | a :: L, l, nd, h => by
    have e := flt_len a l nd
    have i := nd_len L (l.filter fun x => decide (x ≠ a)) (List.Sublist.nodup List.filter_sublist nd) fun x hx => by
      have m := List.mem_filter.mp hx
      rcases List.mem_cons.mp (h x m.1) with z | z
      · exact absurd z (of_decide_eq_true m.2)
      · exact z
    rw [List.length_cons]
    omega
/-! ### the closure -/
def clo (f : Fm) : List Key → Fm
  | [] => f
  | .inr x :: r => .qu true x (clo f r)
  | .inl _ :: r => clo f r
theorem clo_ok {f : Fm} : ∀ (ks : List Key) (A : List Str), (∀ k ∈ ks, ∃ x, k = .inr x) → (∀ B : List Str, (∀ x ∈ A, x ∈ B) → (∀ x : Str, (.inr x : Key) ∈ ks → x ∈ B) → fmS B f) → fmS A (clo f ks)
  | [], A, _, h => h A (fun _ z => z) fun _ z => absurd z List.not_mem_nil
  | .inr y :: r, A, al, h => by
    show fmS (y :: A) (clo f r)
    refine clo_ok r (y :: A) (fun k hk => al k (List.mem_cons_of_mem _ hk)) fun B h1 h2 => h B (fun x hx => h1 x (List.mem_cons_of_mem _ hx)) fun x hx => ?_
    rcases List.mem_cons.mp hx with e | hx
    · rw [Sum.inr.inj e]; exact h1 y (List.mem_cons_self ..)
    · exact h2 x hx
  | .inl i :: r, A, al, _ => by
    obtain ⟨x, e⟩ := al _ (List.mem_cons_self ..)
    cases e
theorem clo_high {f : Fm} : ∀ ks : List Key, (clo f ks).high ≤ f.high + ks.length ∧ (clo f ks).qn ≤ f.qn + ks.length
  | [] => ⟨Nat.le_refl _, Nat.le_refl _⟩
  | .inr y :: r => by
    have a := clo_high (f := f) r
    refine ⟨?_, ?_⟩
    · show (clo f r).high + 1 ≤ f.high + (r.length + 1); omega
    · show (clo f r).qn + 1 ≤ f.qn + (r.length + 1); omega
  | .inl _ :: r => by
    have a := clo_high (f := f) r
    refine ⟨?_, ?_⟩
    · show (clo f r).high ≤ f.high + (r.length + 1); omega
    · show (clo f r).qn ≤ f.qn + (r.length + 1); omega
theorem clo_app {f : Fm} : ∀ (as bs : List Key), clo f (as ++ bs) = clo (clo f bs) as
  | [], _ => rfl
  | .inr y :: r, bs => congrArg (Fm.qu true y) (clo_app r bs)
  | .inl _ :: r, bs => clo_app r bs
end Own
set_option maxHeartbeats 2000000
namespace Own
open PySem PySem.Spec PyProof.Rows L2 HT
/-! ### what the names of a scope stand for -/
def KnS (H : Hp) (a : Addr) (NM : List Str) (ρ : Str → Int) : Prop := ∃ kvs : List (Key × V), H a = some (.dK kvs) ∧ kvs.length ≤ NM.length ∧ ∀ x ∈ NM, valV kvs (.inr x) = some (.int (ρ x))
theorem KnS.same {H H' : Hp} {a : Addr} {NM : List Str} {ρ : Str → Int} (h : KnS H a NM ρ) (s : Same H H') : KnS H' a NM ρ := by
  obtain ⟨kvs, e, l, al⟩ := h
  exact ⟨kvs, s _ _ e, l, al⟩
theorem KnS.put {H : Hp} {a : Addr} {NM : List Str} {ρ : Str → Int} {kvs : List (Key × V)} (l : kvs.length ≤ NM.length) (al : ∀ x ∈ NM, valV kvs (.inr x) = some (.int (ρ x))) (x : Str) (i : Int) (e : H a = some (.dK (putK kvs (.inr x) (.int i)))) : KnS H a (x :: NM) (wider ρ x i) := by
  refine ⟨_, e, ?_, fun y hy => ?_⟩
  · have := length_putK kvs (Sum.inr x : Key) (V.int i)
    rw [List.length_cons]; omega
  · rw [valV_put]
    unfold wider
    by_cases c : y = x
    · rw [if_pos (by rw [c]), if_pos c]
    · rw [if_neg (fun z => c (Sum.inr.inj z)), if_neg c]
      rcases List.mem_cons.mp hy with z | hy
      · exact absurd z c
      · exact al y hy
/-- what a dict of new names does -/
def NmAt (H : Hp) (a : Addr) (η : Str → Str) (n : Nat) : Prop := ∃ kvs : List (Key × V), H a = some (.dK kvs) ∧ kvs.length ≤ n ∧ ∀ x : Str, (valV kvs (.inr x) = some (.str (η x))) ∨ (valV kvs (.inr x) = none ∧ η x = x)
theorem NmAt.same {H H' : Hp} {a : Addr} {η : Str → Str} {n : Nat} (h : NmAt H a η n) (s : Same H H') : NmAt H' a η n := by
  obtain ⟨kvs, e, l, al⟩ := h
  exact ⟨kvs, s _ _ e, l, al⟩
theorem NmAt.put {H : Hp} {a : Addr} {η : Str → Str} {n : Nat} {kvs : List (Key × V)} (l : kvs.length ≤ n) (al : ∀ x : Str, (valV kvs (.inr x) = some (.str (η x))) ∨ (valV kvs (.inr x) = none ∧ η x = x)) (x y : Str) (e : H a = some (.dK (putK kvs (.inr x) (.str y)))) : NmAt H a (nmS η x y) (n + 1) := by
  refine ⟨_, e, ?_, fun z => ?_⟩
  · have := length_putK kvs (Sum.inr x : Key) (V.str y)
    omega
  · rw [valV_put]
    unfold nmS
    by_cases c : z = x
    · rw [if_pos (by rw [c]), if_pos c]; exact .inl rfl
    · rw [if_neg (fun w => c (Sum.inr.inj w)), if_neg c]; exact al z
/-! ### formulas as data -/
def Fm.qs (S : Str → Prop) : Fm → Prop
  | .tt _ => True
  | .eq _ _ => True
  | .neg f => f.qs S
  | .bin _ f g => f.qs S ∧ g.qs S
  | .qu _ x f => S x ∧ f.qs S
abbrev okS (x : Str) : Prop := PyData.strOk x = true
theorem fm_fine : ∀ (φ : Fm) (NM : List Str), (∀ x ∈ NM, okS x) → fmS NM φ → φ.qs okS → φ.ter.wf symFine keyFine ∧ φ.ter.nest ≤ φ.high + 3
  | .tt b, NM, hN, _, _ => by
    refine ⟨⟨?_, trivial⟩, by show 0 + 1 ≤ 1 + 3; decide⟩
    cases b <;> (show PyData.strOk _ = true; decide +kernel)
  | .eq l r, NM, hN, h, _ => by
    have a := atom20_fine hN h.1
    have m1 := h.2.1
    have m2 := h.2.2.1
    exact ⟨⟨by show PyData.strOk "equal" = true; decide +kernel, a.1, a.2, trivial⟩, by show max l.nest (max r.nest 0) + 1 ≤ 1 + 3; omega⟩
  | .neg f, NM, hN, h, q => by
    have a := fm_fine f NM hN h q
    exact ⟨⟨by show PyData.strOk "not" = true; decide +kernel, a.1, trivial⟩, by have := a.2; show max f.ter.nest 0 + 1 ≤ f.high + 1 + 3; omega⟩
  | .bin o f g, NM, hN, h, q => by
    have a := fm_fine f NM hN h.1 q.1
    have b := fm_fine g NM hN h.2 q.2
    refine ⟨⟨?_, a.1, b.1, trivial⟩, by have := a.2; have := b.2; show max f.ter.nest (max g.ter.nest 0) + 1 ≤ max f.high g.high + 1 + 3; omega⟩
    cases o <;> (show PyData.strOk _ = true; decide +kernel)
  | .qu c x f, NM, hN, h, q => by
    have a := fm_fine f (x :: NM) (fun y hy => by
      rcases List.mem_cons.mp hy with e | hy
      · rw [e]; exact q.1
      · exact hN y hy) h q.2
    refine ⟨⟨?_, q.1, a.1, trivial⟩, by have := a.2; show max 1 (max f.ter.nest 0) + 1 ≤ f.high + 1 + 3; omega⟩
    cases c <;> (show PyData.strOk _ = true; decide +kernel)
theorem qs_clo {S : Str → Prop} {f : Fm} (h : f.qs S) : ∀ ks : List Key, (∀ k ∈ ks, ∃ x, k = .inr x ∧ S x) → (clo f ks).qs S
  | [], _ => h
  | .inr y :: r, al => by
    obtain ⟨x, e, hx⟩ := al _ (List.mem_cons_self ..)
    cases e
    exact ⟨hx, qs_clo h r fun k hk => al k (List.mem_cons_of_mem _ hk)⟩
  | .inl _ :: r, al => qs_clo h r fun k hk => al k (List.mem_cons_of_mem _ hk)
theorem qs_ren : ∀ (φ : Fm) (η : Str → Str) (k : Nat), (φ.ren η k).2 ≤ 63 → (φ.ren η k).1.qs okS
  | .tt _, _, _, _ => trivial
  | .eq _ _, _, _, _ => trivial
  | .neg f, η, k, h => qs_ren f η k h
  | .bin _ f g, η, k, h => by
    have h : (g.ren η (f.ren η k).2).2 ≤ 63 := h
    have a := ren_high g η (f.ren η k).2
    exact ⟨qs_ren f η k (by omega), qs_ren g η _ h⟩
  | .qu _ x f, η, k, h => by
    have h : (f.ren (nmS η x (varN k)) (k + 1)).2 ≤ 63 := h
    have a := ren_high f (nmS η x (varN k)) (k + 1)
    exact ⟨varN_ok ⟨k, by omega⟩, qs_ren f _ _ h⟩
/-! ### the parts of a formula -/
def Fm.parts : Fm → List Fm
  | .tt _ => []
  | .eq _ _ => []
  | .neg f => [f]
  | .bin _ f g => [f, g]
  | .qu _ _ f => [f]
def Fm.cnt2 : Fm → Nat
  | .tt _ => 1
  | .eq _ _ => 1
  | .neg f => f.cnt2 + 1
  | .bin _ f g => f.cnt2 + g.cnt2 + 1
  | .qu _ _ f => f.cnt2 + 1
end Own
set_option maxHeartbeats 2000000
namespace Own
open PySem PySem.Spec PyProof.Rows L2 HT
def Fm.wth : Fm → List Fm → Fm
  | .neg _, [g] => .neg g
  | .bin o _ _, [g, h] => .bin o g h
  | f, _ => f
/-- not an equation, not a quantifier -/
def Fm.plain : Fm → Prop
  | .eq _ _ => False
  | .qu _ _ _ => False
  | _ => True
def renP (η : Str → Str) : Nat → List Fm → List Fm × Nat
  | k, [] => ([], k)
  | k, f :: r => ((f.ren η k).1 :: (renP η (f.ren η k).2 r).1, (renP η (f.ren η k).2 r).2)
theorem renP_snoc (η : Str → Str) : ∀ (as : List Fm) (k : Nat) (f : Fm), renP η k (as ++ [f]) = ((renP η k as).1 ++ [(f.ren η (renP η k as).2).1], (f.ren η (renP η k as).2).2)
  | [], k, f => rfl
  | a :: r, k, f => by
    show ((a.ren η k).1 :: (renP η (a.ren η k).2 (r ++ [f])).1, (renP η (a.ren η k).2 (r ++ [f])).2) = _
    rw [renP_snoc η r]
    rfl
theorem ren_plain {φ : Fm} (h : φ.plain) (η : Str → Str) (k : Nat) : φ.ren η k = (φ.wth (renP η k φ.parts).1, (renP η k φ.parts).2) := by
  cases φ with
  | tt b => rfl
  | eq l r => exact h.elim
  | neg f => rfl
  | bin o f g => rfl
  | qu a x f => exact h.elim
theorem renP_len (η : Str → Str) : ∀ (as : List Fm) (k : Nat), (renP η k as).1.length = as.length
  | [], _ => rfl
  | a :: r, k => congrArg (· + 1) (renP_len η r _)
def qnP (as : List Fm) : Nat := (as.map Fm.qn).sum
theorem renP_num (η : Str → Str) : ∀ (as : List Fm) (k : Nat), (renP η k as).2 = k + qnP as
  | [], k => rfl
  | a :: r, k => by
    have h := (ren_high a η k).2
    have i := renP_num η r (a.ren η k).2
    show (renP η (a.ren η k).2 r).2 = k + (a.qn + qnP r)
    omega
theorem qnP_parts {φ : Fm} (h : φ.plain) : qnP φ.parts = φ.qn := by
  cases φ with
  | tt b => rfl
  | eq l r => exact h.elim
  | neg f => show f.qn + 0 = f.qn; omega
  | bin o f g => show f.qn + (g.qn + 0) = f.qn + g.qn; omega
  | qu a x f => exact h.elim
theorem qnP_take : ∀ (as : List Fm) (i : Nat) (f : Fm), as[i]? = some f → qnP (as.take i) + f.qn ≤ qnP as
  | [], _, _, h => by simp at h
  | a :: r, 0, f, h => by
    have : a = f := by simpa using h
    subst this
    show 0 + a.qn ≤ a.qn + qnP r; omega
  | a :: r, i + 1, f, h => by
    have := qnP_take r i f (by simpa using h)
    show a.qn + qnP (r.take i) + f.qn ≤ a.qn + qnP r
    omega
theorem parts_high {φ f : Fm} (h : f ∈ φ.parts) : f.high < φ.high := by
  cases φ with
  | tt b => cases h
  | eq l r => cases h
  | neg g => rw [List.mem_singleton.mp h]; show g.high < g.high + 1; omega
  | bin o g k =>
    show f.high < max g.high k.high + 1
    rcases List.mem_cons.mp h with e | h
    · rw [e]; omega
    · rw [List.mem_singleton.mp h]; omega
  | qu a x g => rw [List.mem_singleton.mp h]; show g.high < g.high + 1; omega
/-- sides of an equation, loosely -/
def lw (_ : Str) (n : Nat) : Prop := n ≤ 3
def strK (k : Key) : Prop := ∃ x, k = .inr x
theorem sym20_lw (f : Str) (n : Nat) (h : sym20 f n) : lw f n := by
  show n ≤ 3
  rcases h with ⟨_, rfl⟩ | ⟨_, rfl⟩ | ⟨_, rfl⟩ | ⟨_, rfl⟩ <;> decide
theorem atom20_loose {NM : List Str} {l r : Ter} (a : atom20 NM l r) : l.wf lw strK ∧ r.wf lw strK := by
  have u : ∀ k, nam20 NM k → strK k := fun k h => by obtain ⟨x, e, _⟩ := h; exact ⟨x, e⟩
  rcases a with ⟨h1, h2⟩ | ⟨f, as, rfl, h2, h3, rfl⟩
  · exact ⟨wf_mono sym20_lw u l h1, wf_mono sym20_lw u r h2⟩
  · refine ⟨⟨?_, wfs_mono sym20_lw u as h3⟩, ⟨by show 0 ≤ 3; decide, trivial⟩⟩
    show as.length ≤ 3
    rcases h2 with ⟨_, e⟩ | ⟨_, e⟩ | ⟨_, e⟩ <;> omega
/-- the formulas that wait, with the names bound around them -/
abbrev Wt := Fm × List Key
inductive WtAt (H : Hp) : V → Wt → Prop
  | mk {p b : Addr} {x : V} {φ : Fm} {bd : List Key} : H p = some (.tup [x, .ref b]) → TmAt H x φ.ter → H b = some (.tup (bd.map kV)) → WtAt H (.ref p) (φ, bd)
inductive WtAll (H : Hp) : List V → List Wt → Prop
  | nil : WtAll H [] []
  | cons {v : V} {vs : List V} {x : Wt} {xs : List Wt} : WtAt H v x → WtAll H vs xs → WtAll H (v :: vs) (x :: xs)
theorem WtAt.mono {H H' : Hp} (m : Tups H H') {v : V} {x : Wt} (h : WtAt H v x) : WtAt H' v x := by
  cases h with
  | mk e1 e2 e3 => exact .mk (m _ _ e1) (TmAt.mono m _ _ e2) (m _ _ e3)
theorem WtAll.mono {H H' : Hp} (m : Tups H H') : ∀ {vs : List V} {xs : List Wt}, WtAll H vs xs → WtAll H' vs xs
  | _, _, .nil => .nil
  | _, _, .cons a r => .cons (a.mono m) (r.mono m)
theorem WtAll.app {H : Hp} : ∀ {vs ws : List V} {xs ys : List Wt}, WtAll H vs xs → WtAll H ws ys → WtAll H (vs ++ ws) (xs ++ ys)
  | _, _, _, _, .nil, b => b
  | _, _, _, _, .cons a r, b => .cons a (r.app b)
theorem WtAll.len {H : Hp} : ∀ {vs : List V} {xs : List Wt}, WtAll H vs xs → vs.length = xs.length
  | _, _, .nil => rfl
  | _, _, .cons _ r => congrArg (· + 1) r.len
theorem WtAll.last {H : Hp} : ∀ {vs : List V} {xs : List Wt}, WtAll H vs xs → vs ≠ [] → ∃ vs' v xs' x, vs = vs' ++ [v] ∧ xs = xs' ++ [x] ∧ WtAll H vs' xs' ∧ WtAt H v x
  | _, _, .nil, h => absurd rfl h
  | _, _, .cons a .nil, _ => ⟨[], _, [], _, rfl, rfl, .nil, a⟩
  | _, _, .cons a (.cons b r), _ => by
    obtain ⟨vs', v, xs', x, e1, e2, h1, h2⟩ := WtAll.last (.cons b r) (by simp)
    exact ⟨_ :: vs', v, _ :: xs', x, by rw [e1]; rfl, by rw [e2]; rfl, .cons a h1, h2⟩
def fvW (acc : List Key) (st : List Wt) : List Key := st.foldl (fun a e => e.1.fv e.2 a) acc
def cntW (st : List Wt) : Nat := (st.map fun e => e.1.cnt2).sum
theorem cntW_app (a b : List Wt) : cntW (a ++ b) = cntW a + cntW b := by unfold cntW; rw [List.map_append, List.sum_append]
theorem cnt2_pos : ∀ φ : Fm, 1 ≤ φ.cnt2
  | .tt _ => Nat.le_refl _
  | .eq _ _ => Nat.le_refl _
  | .neg _ => Nat.succ_le_succ (Nat.zero_le _)
  | .bin _ _ _ => Nat.succ_le_succ (Nat.zero_le _)
  | .qu _ _ _ => Nat.succ_le_succ (Nat.zero_le _)
def Fm.inner (φ : Fm) (bd : List Key) : List Key := match φ with
  | .qu _ x _ => bd ++ [.inr x]
  | _ => bd
/-- an equation tells its names at once; of all others the parts tell theirs -/
def Fm.here (φ : Fm) (bd acc : List Key) : List Key := match φ with
  | .eq l r => r.fv bd (l.fv bd acc)
  | _ => acc
theorem fv_parts (φ : Fm) (bd acc : List Key) : φ.fv bd acc = fvW (φ.here bd acc) (φ.parts.map fun f => (f, φ.inner bd)) := by cases φ <;> rfl
theorem cnt_parts (φ : Fm) (bd : List Key) : cntW (φ.parts.map fun f => (f, φ.inner bd)) + 1 = φ.cnt2 := by
  cases φ with
  | tt b => rfl
  | eq l r => rfl
  | neg f => show f.cnt2 + 0 + 1 = f.cnt2 + 1; omega
  | bin o f g => show f.cnt2 + (g.cnt2 + 0) + 1 = f.cnt2 + g.cnt2 + 1; omega
  | qu a x f => show f.cnt2 + 0 + 1 = f.cnt2 + 1; omega
theorem fmS_inner {φ f : Fm} {L : List Str} (h : fmS L φ) (m : f ∈ φ.parts) : ∃ L2, fmS L2 f := by
  cases φ with
  | tt b => cases m
  | eq l r => cases m
  | neg g => rw [List.mem_singleton.mp m]; exact ⟨L, h⟩
  | bin o g k =>
    rcases List.mem_cons.mp m with e | m
    · rw [e]; exact ⟨L, h.1⟩
    · rw [List.mem_singleton.mp m]; exact ⟨L, h.2⟩
  | qu a x g => rw [List.mem_singleton.mp m]; exact ⟨x :: L, h⟩
theorem two_size {NM : List Str} {l r : Ter} (h : fmS NM (.eq l r)) : Ter.sizes [l, r] ≤ 40 := by
  have a := h.2.2.2.1
  have b := h.2.2.2.2
  show l.size + (r.size + 0) ≤ 40
  omega
end Own
set_option maxHeartbeats 2000000
namespace Own
open PySem PySem.Spec PyProof.Rows L2 HT
/-! ### own classes: a method that raises, len(o), x in o -/
section
variable {X : Cx} {CX : CXT} {pins : List (Addr × Obj)} {σ : L2.St} {H : Hp} {s : Shared} {a C dx f : Addr} {fs : List (Str × V)} {fd : FuncData} {ps : List Str} {k : Nat} {sp : Sp} {E : L2.St → XK} {m : Str} {o e : Expr} {es : List Expr} {ta : TE} {t : TA} {apos pos : Pos}
def tMethE (C : Addr) (m : Str) (sp : Sp) (E : L2.St → XK) (ta : TE) (t : TA) : TE := fun σ H Q => ta σ H fun x H1 => ∃ a dx fs, x = .ref a ∧ H1 a = some (.ins C dx fs) ∧ fs.lookup m = none ∧ t σ H1 fun vs H2 => sp (x :: vs) H2 Q (E σ)
theorem pe_methE {pl : Sem Bool} (he : PE X o ta) (c : Cls X.K C) (hm : Meth X.K C m f) (F : FnOk X.prog X.w X.K X.mg X.base CX k f fd ps sp) (hr : Room k X.A) (hb : Binds X.K fd ps []) (hx : ∀ σ, PassesAt CX X σ (E σ)) (ha : PA X (e :: es) t)
    (hst : starEach (e :: es) X.env = (false, eval e X.env) :: starEach es X.env := by rfl) (hpl : (backTo pos (starEach es X.env)).any (·.1) = false := by rfl)
    (ht : eval (.Call (.Attribute o m apos) (e :: es) [] pos) X.env = (do
      let ov ← eval o X.env
      standAt apos.atName
      let (f, first) ← holding [ov] (getMethod ov m pl)
      callWith pos f first (backTo pos (starEach (e :: es) X.env)) (backToKw pos (keywordEach [] X.env))) := by rfl) :
    PE X (.Call (.Attribute o m apos) (e :: es) [] pos) (tMethE C m sp E ta t) := by
  refine ⟨fun pins s σ H Q I h => ?_⟩
  refine PySem.W.methodCall_KW (pl := pl) (thn (he.run pins s σ H _ I h) fun u s1 ⟨x, H1, I1, rx, a, dx, fs, ex, ea, l, q⟩ => ?_) ht
  subst ex
  obtain rfl : u = Value.ref a := rx
  refine getmeth_ok I1 ea c hm l ?_
  refine PySem.W.callWith_K (first := [.ref a]) (h₀ := X.base) I.ok.mod.kin hm.kp (thn (ha.run pos pins s1 σ H1 _ I1 q) fun us s2 ⟨vs, H2, I2, r, q2⟩ => ⟨I2.kIn, ?_⟩) hst hpl
  exact run_fnS (us := .ref a :: us) (vs := .ref a :: vs) F hr hb (hx σ) I2 (.cons rfl r) q2
/-- the callee runs within a built-in's call -/
theorem run_in {A : Around} {E : XK} {Q : VK} {us : List Value} {ws : List V} (F : FnOk X.prog X.w X.K X.mg X.base CX k f fd ps sp) (hr : Room k A) (e0 : Env0 X.prog X.w X.K X.mg X.base A X.stack s H) (hb : Binds X.K fd ps []) (hx : Passes CX X E) (I : Inv X pins σ H s) (r : Vals ws us) (h : sp ws H Q E) :
    wpAny (model X.prog X.w) A (call (.ref f) us) (EP X pins σ Q) X.xe s := by
  have hl : us.length = ps.length := by rw [← r.length]; exact F.len _ _ _ _ h
  have b := hb s us I.kIn (by rw [List.append_nil]; exact hl)
  rw [List.append_nil] at b
  refine wpAny_call (codeAny_mono (F.run A X.stack s H ⟨us, []⟩ us ws Q E hr e0 b r h) fun r s' hq => ?_)
  cases r with
  | error e => exact hx pins σ H s e s' I hq
  | ok fl =>
    cases fl with
    | ret u => exact I.after hq
    | next => exact False.elim hq
    | brk => exact False.elim hq
    | cont => exact False.elim hq
theorem ins_at (I : Inv X pins σ H s) (e : H a = some (.ins C dx fs)) : ∃ od, PySem.W.InstAt s.heap a (PySem.W.instObj C dx) C (some od) := by
  obtain ⟨mA, O, _⟩ := ins_get I.hok e
  obtain ⟨od, J, _⟩ := O.look
  exact ⟨od, J⟩
def rLenOwn (C : Addr) (sp : Sp) (E : XK) : List V → Hp → VK → Prop := fun xs H Q => ∃ a dx fs, xs = [V.ref a] ∧ H a = some (.ins C dx fs) ∧ sp [.ref a] H (fun z H' => ∃ i : Int, z = .int i ∧ 0 ≤ i ∧ i < 2 ^ 63 ∧ Q z H') E
theorem call_lenOwn {E : XK} (hs : PySem.W.findIn X.K (.ref C) "__len__" = some (some (.ref f))) (hf : PySem.W.isFn X.K (.ref f) = true) (F : FnOk X.prog X.w X.K X.mg X.base CX k f fd ps sp) (hr : Room (k + 1) X.A) (hb : Binds X.K fd ps []) (hx : Passes CX X E) : CallR X (.builtin "len") (rLenOwn C sp E) := by
  intro pins s σ H xs us Q I r h
  obtain ⟨a, dx, fs, rfl, hsl, q⟩ := h
  obtain ⟨u, rfl, ru⟩ := r.one
  cases (show u = Value.ref a from ru)
  obtain ⟨od, J⟩ := ins_at I hsl
  obtain ⟨m, hF⟩ := I.fr
  refine PySem.W.len_K hF I.ok.mod.kin J hs hf (wpAny_mono (run_in (us := [.ref a]) (ws := [.ref a]) F hr.in1 I.env0.in1 hb hx I (.cons rfl .nil) q) (fun r s' z => ?_) fun _ _ y => y)
  obtain ⟨z', H', I', rz, i, ei, h0, h1, qz⟩ := z
  subst ei
  obtain ⟨t, e⟩ := (show ∃ t, r = Value.int i t from rz)
  subst e
  exact ⟨⟨h0, h1⟩, .int i, H', I'.tok _, ⟨_, rfl⟩, qz⟩
def rInOwn (C : Addr) (sp : Sp) (E : XK) : R2 := fun x y H Q => ∃ a dx fs, y = V.ref a ∧ H a = some (.ins C dx fs) ∧ sp [.ref a, x] H (fun z H' => ∃ b : Bool, z = .bl b ∧ Q (.bl b) H') E
theorem op_inOwn {E : XK} (hs : PySem.W.findIn X.K (.ref C) "__contains__" = some (some (.ref f))) (hf : PySem.W.isFn X.K (.ref f) = true) (F : FnOk X.prog X.w X.K X.mg X.base CX k f fd ps sp) (hr : Room k X.A) (hb : Binds X.K fd ps []) (hx : Passes CX X E) : OpR X (compareOp .In) (rInOwn C sp E) := by
  intro pins s σ H x y v u Q I rx ry h
  obtain ⟨a, dx, fs, rfl, hsl, q⟩ := h
  cases (show u = Value.ref a from ry)
  obtain ⟨od, J⟩ := ins_at I hsl
  obtain ⟨m, hF⟩ := I.fr
  refine PySem.W.in_K hF I.ok.mod.kin J hs hf (wpAny_mono (run_in (us := [.ref a, v]) (ws := [.ref a, x]) F hr I.env0 hb hx I (.cons rfl (.cons rx .nil)) q) (fun r s' z => ?_) fun _ _ y => y)
  obtain ⟨z', H', I', rz, b, eb, qz⟩ := z
  subst eb
  cases (show r = Value.bool b from rz)
  exact wpAny_truthy_bool ⟨.bl b, H', I', rfl, qz⟩
end
end Own
namespace Own
open PySem PySem.Spec PyProof.Rows L2 HT

/-! ### enumerate(a tuple) -/
/-- the tuple at a, each item in a new pair with its number -/
def IteT (K : PySem.W.Frag) (a : Addr) : It :=
  ⟨fun i H => ∃ (xs : List V) (x : V), SqT K H a xs ∧ xs[i]? = some x, fun i H v H' => ∃ T x, v = .ref T ∧ H T = none ∧ H' = upd H T (.tup [.int (i : Nat), x]) ∧ ∀ xs, SqT K H a xs → xs[i]? = some x, fun i H => ∃ xs : List V, SqT K H a xs ∧ xs.length = i⟩
theorem apart_ti {h : Heap} {a it : Addr} {its : Array Value} {i : Nat} (p : h.IsTuple a its) (q : h.IsTupleIter it a i) : a ≠ it := fun z => by
  subst z
  obtain ⟨o, ho, hc, _⟩ := p
  obtain ⟨o', ho', hc', _⟩ := q
  rw [ho] at ho'
  cases ho'
  rw [hc] at hc'
  exact absurd hc' (by decide)
theorem turn_enumT {P : Program} {w : World} {K : PySem.W.Frag} {elts : List Expr} {kk : Nat} {tpos : Pos} (a e it : Addr) :
    Turn P w K (.Tuple elts kk tpos) (IteT K a) [e, it] e (fun i h => (∃ old, IsEnum h e it ((i : Nat) : Int) old) ∧ h.IsTupleIter it a i ∧ e ≠ it ∧ e ≠ a) where
  mem := by simp
  obj := fun i h st b hb => by
    obtain ⟨⟨old, he⟩, ⟨o, ho, hc, hd⟩, _⟩ := st
    have e' : b = e ∨ b = it := by simpa using hb
    rcases e' with z | z
    · rw [z]; exact ⟨_, he, fun v q => nomatch q⟩
    · rw [z]; exact ⟨o, ho, fun v q => by rw [hd] at q; cases q⟩
  keep := fun i h h' st k => let ⟨⟨old, he⟩, hi, hne⟩ := st; ⟨⟨old, k e (by simp) _ he⟩, hi.at fun o q => k it (by simp) o q, hne⟩
  item := by
    intro X hP hw hK hc i pins s σ H E I hf st hg
    subst hP hw hK
    obtain ⟨⟨old, he⟩, hit, hne, hea⟩ := st
    obtain ⟨xs, x, hq, hx⟩ := hg
    obtain ⟨its, rv, p, hz⟩ := I.tuple hq
    have p : s.heap.IsTuple a its.toArray := p
    obtain ⟨u, hu, ru⟩ := rv.get hx
    have hel : e < s.heap.objs.size := Heap.lt_size he
    have hil : it < s.heap.objs.size := by obtain ⟨_, q, _⟩ := hit; exact Heap.lt_size q
    have hai := apart_ti p hit
    have hlt : i < its.toArray.size := by
      rw [List.size_toArray]
      exact (List.getElem?_eq_some_iff.mp hu).1
    refine wpAny_pyNext_enum_itemD (Draws.tuple (A := X.A.in1) (I.ok.hd hc) it a hai its.toArray) he ⟨hit, p⟩ hlt hne (fun m => by
      rcases List.mem_cons.mp m with z | m
      · exact hne z
      · exact hea (List.mem_singleton.mp m)) fun x' h' tk hP ho hit' hT hsz hk => ?_
    have ex : x' = u := by
      have : its.toArray[i]? = some x' := hP
      rw [List.getElem?_toArray, hu] at this
      exact (Option.some.inj this).symm
    subst ex
    refine ⟨_, rfl, wpAny_letOwnedTupleGo_enum (s := { s with heap := h', toks := tk + 1 }) ho fun h'' he' sb => ?_⟩
    have hT2 : h''.get? s.heap.objs.size = some { cls := .type "tuple", data := .seq #[.int i tk, x'] } := (sb.2 _ (Nat.ne_of_gt hel)).trans hT
    have new : ObjOk X.prog X.w (upd H s.heap.objs.size (.tup [.int (i : Nat), x])) h'' s.heap.objs.size (.tup [.int (i : Nat), x]) :=
      ⟨by show 2 ≤ sizeLine; decide, [.int i tk, x'], .cons ⟨_, rfl⟩ (.cons ru .nil), ⟨_, hT2, rfl, _, rfl⟩⟩
    have I1 : Inv X pins σ (upd H s.heap.objs.size (.tup [.int (i : Nat), x])) { s with heap := h'', toks := tk + 1 } :=
      I.turnedNew (ch := [e, it]) (fun b ob hb q => (sb.2 b (fun z => hb (by simp [z]))).trans (hk b ob (fun z => hb (by simp [z])) (fun z => hb (by simp [z])) q)) hf (Nat.le_refl _) new
    refine ⟨.ref s.heap.objs.size, _, I1, rfl, ⟨_, x, rfl, I.hok.fresh (Nat.le_refl _), rfl, fun ys hy => ?_⟩, ⟨⟨x', ?_⟩, hit'.1.at fun o q => (sb.2 it (Ne.symm hne)).trans q, hne, hea⟩, fun b hb => ?_⟩
    · rw [I.tuple_inj hy hq]; exact hx
    · have e1 : ((i + 1 : Nat) : Int) = (i : Int) + 1 := by omega
      rw [e1]; exact he'
    · have hb' : b < s.heap.objs.size := by
        have e' : b = e ∨ b = it := by simpa using hb
        rcases e' with z | z
        · rw [z]; exact hel
        · rw [z]; exact hil
      rw [upd_ne (Nat.ne_of_lt hb')]
      exact (hf b hb).1
  done := by
    intro X hP hw hK hc i pins s σ H E I hf st hg
    subst hP hw hK
    obtain ⟨⟨old, he⟩, hit, hne, hea⟩ := st
    obtain ⟨xs, hq, hx⟩ := hg
    obtain ⟨its, rv, p, hz⟩ := I.tuple hq
    have p : s.heap.IsTuple a its.toArray := p
    obtain ⟨f0, f1, f2, f3, f4, f5⟩ := hf it (by simp)
    have hl := rv.length
    have hai := apart_ti p hit
    have hi : i = its.toArray.size := by rw [List.size_toArray]; omega
    have he2 := he
    rw [hi] at hit
    refine wpAny_pyNext_enum_endD (Draws.tuple (A := X.A.in1) (I.ok.hd hc) it a hai its.toArray) he ⟨hit, p⟩ fun h' eb => ⟨rfl, I.turned (t' := s.toks) (fun b o hb q => eb b o hb q) f0 f1 f3 f4 f5⟩
  self := fun A i s Q E st h => let ⟨⟨_, he⟩, _⟩ := st; wpAny_pyIter_enum he h

set_option maxHeartbeats 1000000 in
theorem meets_enumerate_new1 {v : Value} {o : Obj} {G : Heap → Prop} (B : Begins v o G) :
    Meets (Builtin.«enumerate.__new__» ⟨[.type "enumerate", v], []⟩) (fun _ R s => G s.heap ∧
      R (.ok (.ret (.ref (s.heap.push o).objs.size))) { s with heap := (s.heap.push o).push { cls := .type "enumerate", data := .fields #[.none, .bool false, .ref s.heap.objs.size, rawInt 0, .none, .none] } }) :=
  .of_wp fun prog w A R s h => by
    obtain ⟨hp, g, d, tk, os⟩ := s; obtain ⟨h1, h⟩ := h
    have hsub := sub_enumerate
    have q1 : ∀ {A' : Around} {E : Value → Shared → Prop} {Q : Value → Shared → Prop}, Q (.ref hp.objs.size) ⟨hp.push o, g, d, tk, os⟩ → wpAny (model prog w) A' (pyIter v) Q E ⟨hp, g, d, tk, os⟩ :=
      fun q => B.iter prog w _ _ ⟨hp, g, d, tk, os⟩ _ h1 q
    wp_walk using q1
    refine wpAny_stack_any fun st => wpAny_pure ?_
    split
    · rename_i c _ _ _ _ _
      cases (c == Value.type "enumerate")
      · wp_walk using q1
        exact ⟨_, rfl, h⟩
      · wp_walk using q1
        exact ⟨_, rfl, h⟩
    · wp_walk using q1
      exact ⟨_, rfl, h⟩
theorem call_enumerate_tup {prog : Program} {w : World} {A : Around} {E : Value → Shared → Prop} {s : Shared} {t : Addr} {items : Array Value} {Q : Value → Shared → Prop} (h1 : s.heap.IsTuple t items)
    (h : ∀ h', IsEnum h' (s.heap.objs.size + 1) s.heap.objs.size 0 .none → h'.IsTupleIter s.heap.objs.size t 0 → h'.objs.size = s.heap.objs.size + 2 →
      (∀ b o, s.heap.get? b = some o → h'.get? b = some o) → Q (.ref (s.heap.objs.size + 1)) { s with heap := h' }) :
    wpAny (model prog w) A (call (.type "enumerate") [.ref t]) Q E s := by
  refine callType_new F.called_enumerate (by decide) (F.typeCall_enumerate_1 _) (F.newCall_enumerate_1 _) (fun obj => F.args_object_init_2 obj _) F.entry_enumerate_new
    (meets_enumerate_new1 (begins_tuple t items)) ⟨h1, ?_⟩
  have hz : (s.heap.push { cls := .type "tuple_iterator", data := .fields #[.ref t, .int 0 0] }).objs.size = s.heap.objs.size + 1 := Heap.size_push ..
  show _ ∧ _
  rw [hz]
  have he : IsEnum ((s.heap.push { cls := .type "tuple_iterator", data := .fields #[.ref t, .int 0 0] }).push
      { cls := .type "enumerate", data := .fields #[.none, .bool false, .ref s.heap.objs.size, rawInt 0, .none, .none] }) (s.heap.objs.size + 1) s.heap.objs.size 0 .none := by
    have := Heap.get?_push_size (s.heap.push { cls := .type "tuple_iterator", data := .fields #[.ref t, .int 0 0] })
      (o := { cls := .type "enumerate", data := .fields #[.none, .bool false, .ref s.heap.objs.size, rawInt 0, .none, .none] }) rfl
    rw [hz] at this; exact this
  refine ⟨⟨_, he, rfl⟩, h _ he ⟨_, Heap.get?_push_of_some _ (Heap.get?_push_size _ rfl), rfl, rfl⟩ (by rw [Heap.size_push, hz]) fun b o x => Heap.get?_push_of_some _ (Heap.get?_push_of_some _ x)⟩
def iEnumT (K : PySem.W.Frag) (ta : TA) : TI := fun σ H R => ta σ H fun vs H1 => ∃ a xs, vs = [.ref a] ∧ SqT K H1 a xs ∧ R (IteT K a) H1
theorem pi_enumT {X : Cx} {e : Expr} {ta : TA} {p pos tpos : Pos} {elts : List Expr} {kk : Nat} (hg : Gl X "enumerate") (hm : X.mg "enumerate" = none) (ha : PA X [e] ta) (hs : starEach [e] X.env = [(false, eval e X.env)] := by rfl) :
    PI X (.Tuple elts kk tpos) (.Call (.Name "enumerate" p) [e] [] pos) (iEnumT X.K ta) := by
  refine ⟨fun pins s σ H R I h => ?_⟩
  refine Call_ (ld_blt I hg hm boot_enumerate (PyProof.Rows.callWith_type1 (thn (ha.run pos pins s σ H _ I h) fun us s1 ⟨vs, H1, I1, r1, q1⟩ => ?_) hs rfl))
  obtain ⟨a, xs, ex, hq, q⟩ := q1
  subst ex
  cases r1 with
  | cons r rr =>
    cases rr
    cases r
    obtain ⟨its, rv, p', hz⟩ := I1.tuple hq
    have p' : s1.heap.IsTuple a its.toArray := p'
    refine call_enumerate_tup p' fun h' he hit hsz hk => wpAny_pyIter_enum he ?_
    have I2 : Inv X pins σ H1 { s1 with heap := h' } := I1.kept (t' := s1.toks) hk
    have hla : a < s1.heap.objs.size := by obtain ⟨_, q, _⟩ := p'; exact Heap.lt_size q
    refine ⟨s1.heap.objs.size + 1, [s1.heap.objs.size + 1, s1.heap.objs.size], _, _, H1, rfl, I2, turn_enumT a (s1.heap.objs.size + 1) s1.heap.objs.size, ⟨⟨.none, he⟩, hit, Nat.succ_ne_self _, Nat.ne_of_gt (Nat.lt_succ_of_lt hla)⟩, fun b hb => ?_, q⟩
    have e' : b = s1.heap.objs.size + 1 ∨ b = s1.heap.objs.size := by simpa using hb
    have hle : s1.heap.objs.size ≤ b := by
      rcases e' with z | z
      · rw [z]; exact Nat.le_add_right _ _
      · rw [z]; exact Nat.le_refl _
    exact I1.fpOk hle (I1.hok.fresh hle)
--WALK
theorem walk_enumT {K : PySem.W.Frag} {a : Addr} {xs : List V} : Walk (IteT K a) xs.length (fun H => SqT K H a xs) (YPair (fun i => some (.int (i : Nat))) (fun i => xs[i]?)) := by
  refine ⟨fun i _ hi q => ⟨xs, xs[i], q, by simp [hi]⟩, fun _ q => ⟨xs, q, rfl⟩, fun i H v H' _ q y => ?_⟩
  obtain ⟨T, x, h1, h2, h3, h4⟩ := y
  exact ⟨T, .int (i : Nat), x, h1, h2, h3, rfl, h4 xs q⟩
end Own
namespace Own
open PySem PySem.Spec PyProof.Rows L2 RT HT

/-! ### pieces of tuples and sums of them, wherever they stand -/
theorem slA {K : PySem.W.Frag} {H : Hp} {a : Addr} {xs : List V} {lo hi : Option Int} {Q : VK} (e : H a = some (.tup xs)) (q : ∀ p H', Same H H' → H' p = some (.tup (cutV xs lo hi)) → Q (.ref p) H') : rSlA K (.ref a) lo hi H Q := by
  refine ⟨a, xs, rfl, .inl (.inl e), fun h => ?_, fun _ p np => q p _ (same_new np _) upd_same⟩
  refine q a H (Same.refl _) ?_
  rw [e]
  have : cutV xs lo hi = xs := by
    unfold cutV
    rw [h.1, h.2]
    simp
  rw [this]
theorem slLo {σ : L2.St} {K : PySem.W.Frag} {H : Hp} {a : Addr} {xs : List V} {lo : Option Int} {Q : VK} (e : H a = some (.tup xs)) (q : ∀ p H', Same H H' → H' p = some (.tup (cutV xs lo none)) → Q (.ref p) H') : tNoPart σ H (fun u H3 => rSlA K (.ref a) lo u H3 Q) := slA e q
theorem catA {K : PySem.W.Frag} {H : Hp} {a b : Addr} {xs ys : List V} {Q : VK} (ea : H a = some (.tup xs)) (eb : H b = some (.tup ys)) (l : xs.length + ys.length ≤ 1000000) (q : ∀ p H', Same H H' → H' p = some (.tup (xs ++ ys)) → Q (.ref p) H') : rCatA K (.ref a) (.ref b) H Q := by
  refine ⟨a, b, xs, ys, rfl, rfl, .inl (.inl ea), .inl (.inl eb), small6 l, fun h => ?_, fun _ h => ?_, fun _ _ p np => q p _ (same_new np _) upd_same⟩
  · subst h
    exact q b H (Same.refl _) eb
  · subst h
    exact q a H (Same.refl _) (by rw [List.append_nil]; exact ea)
theorem LitAll.take {H : Hp} : ∀ {vs : List V} {c : List Lit} (i : Nat), LitAll H vs c → LitAll H (vs.take i) (c.take i)
  | _, _, 0, _ => .nil
  | _, _, _ + 1, .nil => .nil
  | _, _, i + 1, .cons a r => .cons a (r.take i)
theorem LitAll.drop {H : Hp} : ∀ {vs : List V} {c : List Lit} (i : Nat), LitAll H vs c → LitAll H (vs.drop i) (c.drop i)
  | _, _, 0, h => h
  | _, _, _ + 1, .nil => .nil
  | _, _, i + 1, .cons _ r => r.drop i
/-! ### alike and opposite literals -/
def eT (t u : Ter) : Bool := PyData.eqv t.dat u.dat
theorem eT_comm (t u : Ter) : eT t u = eT u t := PySem.W.eqv_comm _ _
theorem eT_refl (t : Ter) : eT t t = true := ter_refl t
def litD (x : Lit) : PyData := .tuple [.bool x.1, x.2.1.dat, x.2.2.dat]
theorem dp_lit {K : PySem.W.Frag} {H : Hp} {v : V} {x : Lit} (h : LitAt H v x) : Dp K H v (litD x) := by
  cases h with
  | mk e a b => exact .tup (.inl (.inl e)) (.cons (.bl _) (.cons (dp_ter _ _ a) (.cons (dp_ter _ _ b) .nil)))
theorem dp_lits {K : PySem.W.Frag} {H : Hp} : ∀ {vs : List V} {c : List Lit}, LitAll H vs c → DpAll K H vs (c.map litD)
  | _, _, .nil => .nil
  | _, _, .cons a r => .cons (dp_lit a) (dp_lits r)
theorem eqv_lit (x y : Lit) : PyData.eqv (litD x) (litD y) = ((x.1 == y.1) && (eT x.2.1 y.2.1 && eT x.2.2 y.2.2)) := by
  have e : PyData.eqv (litD x) (litD y) = ((x.1 == y.1) && (eT x.2.1 y.2.1 && (eT x.2.2 y.2.2 && true))) := rfl
  rw [e, Bool.and_true]
def alikeL (x y : Lit) : Bool := (x.1 == y.1) && ((eT x.2.1 y.2.1 && eT x.2.2 y.2.2) || (!isTrueT x.2.2 && (!isTrueT y.2.2 && (eT x.2.1 y.2.2 && eT x.2.2 y.2.1))))
theorem alike1 {x y : Lit} (h : PyData.eqv (litD x) (litD y) = true) : alikeL x y = true := by
  rw [eqv_lit] at h
  unfold alikeL
  revert h
  cases (x.1 == y.1) <;> cases eT x.2.1 y.2.1 <;> cases eT x.2.2 y.2.2 <;> simp
theorem alike2 {x y : Lit} (h : PyData.eqv (litD x) (litD y) = false) (g : isTrueT x.2.2 = true ∨ isTrueT y.2.2 = true) : alikeL x y = false := by
  rw [eqv_lit] at h
  unfold alikeL
  revert h g
  cases (x.1 == y.1) <;> cases eT x.2.1 y.2.1 <;> cases eT x.2.2 y.2.2 <;> cases isTrueT x.2.2 <;> cases isTrueT y.2.2 <;> simp
theorem alike3 {x y : Lit} (h : PyData.eqv (litD x) (litD y) = false) (g1 : isTrueT x.2.2 = false) (g2 : isTrueT y.2.2 = false) : alikeL x y = PyData.eqv (litD x) (litD (y.1, y.2.2, y.2.1)) := by
  rw [eqv_lit] at h
  refine Eq.trans ?_ (eqv_lit x (y.1, y.2.2, y.2.1)).symm
  show ((x.1 == y.1) && ((eT x.2.1 y.2.1 && eT x.2.2 y.2.2) || (!isTrueT x.2.2 && (!isTrueT y.2.2 && (eT x.2.1 y.2.2 && eT x.2.2 y.2.1))))) = ((x.1 == y.1) && (eT x.2.1 y.2.2 && eT x.2.2 y.2.1))
  rw [g1, g2]
  revert h
  cases (x.1 == y.1) <;> cases eT x.2.1 y.2.1 <;> cases eT x.2.2 y.2.2 <;> simp
def oppL (x y : Lit) : Bool := (x.1 != y.1) && alikeL (y.1, x.2) y
/-- the same of the law: the sign of the first one turned -/
def oppR (x y : Lit) : Bool := alikeL (!x.1, x.2) y
theorem opp_sym (x y : Lit) : oppL x y = oppR y x := by
  unfold oppL oppR alikeL
  show ((x.1 != y.1) && ((y.1 == y.1) && ((eT x.2.1 y.2.1 && eT x.2.2 y.2.2) || (!isTrueT x.2.2 && (!isTrueT y.2.2 && (eT x.2.1 y.2.2 && eT x.2.2 y.2.1)))))) = (((!y.1) == x.1) && ((eT y.2.1 x.2.1 && eT y.2.2 x.2.2) || (!isTrueT y.2.2 && (!isTrueT x.2.2 && (eT y.2.1 x.2.2 && eT y.2.2 x.2.1)))))
  rw [eT_comm y.2.1 x.2.1, eT_comm y.2.2 x.2.2, eT_comm y.2.1 x.2.2, eT_comm y.2.2 x.2.1]
  cases x.1 <;> cases y.1 <;> cases isTrueT x.2.2 <;> cases isTrueT y.2.2 <;> cases eT x.2.1 y.2.2 <;> cases eT x.2.2 y.2.1 <;> rfl
def trivL (x : Lit) : Bool := x.1 && eT x.2.1 x.2.2
def tautL (pre : List Lit) : List Lit → Bool
  | [] => false
  | x :: r => trivL x || (pre.any (oppL x) || tautL (pre ++ [x]) r)
def tautR : List Lit → Bool
  | [] => false
  | x :: r => trivL x || (r.any (oppR x) || tautR r)
theorem taut_gen : ∀ (c pre : List Lit), tautL pre c = (tautR c || pre.any fun p => c.any fun x => oppL x p)
  | [], pre => by
    show false = (false || pre.any fun p => false)
    induction pre with
    | nil => rfl
    | cons p r ih => simpa using ih
  | x :: r, pre => by
    show (trivL x || (pre.any (oppL x) || tautL (pre ++ [x]) r)) = ((trivL x || (r.any (oppR x) || tautR r)) || pre.any fun p => (oppL x p || r.any fun y => oppL y p))
    rw [taut_gen r (pre ++ [x]), List.any_append]
    have e1 : ([x].any fun p => r.any fun y => oppL y p) = r.any (oppR x) := by
      show ((r.any fun y => oppL y x) || false) = _
      rw [Bool.or_false]
      congr 1
      funext y
      exact opp_sym y x
    have e2 : (pre.any fun p => (oppL x p || r.any fun y => oppL y p)) = (pre.any (oppL x) || pre.any fun p => r.any fun y => oppL y p) := by
      induction pre with
      | nil => rfl
      | cons p q ih =>
        show ((oppL x p || r.any fun y => oppL y p) || q.any fun p => (oppL x p || r.any fun y => oppL y p)) = ((oppL x p || q.any (oppL x)) || ((r.any fun y => oppL y p) || q.any fun p => r.any fun y => oppL y p))
        rw [ih]
        cases oppL x p <;> cases (r.any fun y => oppL y p) <;> cases q.any (oppL x) <;> rfl
    rw [e1, e2]
    cases trivL x <;> cases tautR r <;> cases r.any (oppR x) <;> cases pre.any (oppL x) <;> cases (pre.any fun p => r.any fun y => oppL y p) <;> rfl
theorem taut_eq (c : List Lit) : tautL [] c = tautR c := by rw [taut_gen]; show (tautR c || false) = _; rw [Bool.or_false]
theorem tautL_at {c : List Lit} {i : Nat} {x : Lit} (h : c[i]? = some x) : tautL (c.take i) (c.drop i) = (trivL x || ((c.take i).any (oppL x) || tautL (c.take (i + 1)) (c.drop (i + 1)))) := by
  have hi := (List.getElem?_eq_some_iff.mp h).1
  have e : c.drop i = x :: c.drop (i + 1) := by rw [List.drop_eq_getElem_cons hi]; rw [List.getElem?_eq_getElem hi] at h; cases h; rfl
  have e2 : c.take (i + 1) = c.take i ++ [x] := by rw [List.take_add_one, h]; rfl
  rw [e, e2]
  rfl
theorem tautR_at {c : List Lit} {i : Nat} {x : Lit} (h : c[i]? = some x) : tautR (c.drop i) = (trivL x || ((c.drop (i + 1)).any (oppR x) || tautR (c.drop (i + 1)))) := by
  have hi := (List.getElem?_eq_some_iff.mp h).1
  have e : c.drop i = x :: c.drop (i + 1) := by rw [List.drop_eq_getElem_cons hi]; rw [List.getElem?_eq_getElem hi] at h; cases h; rfl
  rw [e]
  rfl
end Own
namespace Own
open PySem PySem.Spec PyProof.Rows L2 HT

/-! ### max(list of ints, default=d) -/
def maxI (d : Int) : List Int → Int
  | [] => d
  | x :: xs => PySem.W.maxOf x xs
def rMaxDf (K : PySem.W.Frag) : List V → List V → Hp → VK → Prop := fun vs zs H Q => ∃ (a : Addr) (ns : List Int) (d : Int), vs = [V.ref a] ∧ zs = [.int d] ∧ SqL K H a (ns.map V.int) ∧ Q (.int (maxI d ns)) H
theorem cr_maxDf {X : Cx} (hc : X.calm = true) (hu : X.A.units + 1 < cLine) : CallRK X (.builtin "max") ["default"] (rMaxDf X.K) := by
  intro pins s σ H vs zs us ws Q I r r2 h
  obtain ⟨a, ns, d, rfl, rfl, hs, q⟩ := h
  obtain ⟨its, rv, hl, _⟩ := I.list hs
  rw [Vals.ref1 r]
  cases r2 with
  | cons rd rr =>
    cases rr
    have hd : ∀ {v : Value} {n : Int}, RelV (.int n) v → ∃ t, v = .int n t := fun h => h
    obtain ⟨td, rfl⟩ := hd rd
    obtain ⟨as, ra⟩ := Dp.readsAll I (ns.map PyData.int) (ns.map V.int) its (dp_ints ns) rv
    refine PySem.W.max_list_datum_default (α := Int) (xs := ns) (I.ok.hd hc) hl.isList ⟨as, ra⟩ hu (fun e h' tk hk => ?_) (fun y ys i v h' tk e hi hh hk => ?_)
    · subst e
      exact ⟨.int d, H, I.kept hk, ⟨_, rfl⟩, q⟩
    · subst e
      obtain ⟨bs, rb⟩ := hh
      have hv : ∀ {d : PyData}, Reads h' v d bs → d = .int (PySem.W.maxOf y ys) → ∃ t, v = .int (PySem.W.maxOf y ys) t := fun r e => by
        subst e
        cases r
        exact ⟨_, rfl⟩
      obtain ⟨t, hv⟩ := hv rb rfl
      rw [hv]
      exact ⟨.int _, H, I.kept hk, ⟨_, rfl⟩, q⟩
theorem maxI_snoc (d x : Int) (xs : List Int) (h : ∀ y ∈ xs, d ≤ y) (hx : d ≤ x) : maxI d (xs ++ [x]) = max (maxI d xs) x := by
  have lt : ∀ a b : Int, PySem.W.DatumOrd.lt a b = decide (a < b) := fun a b => rfl
  cases xs with
  | nil =>
    show x = max d x
    omega
  | cons y ys =>
    show PySem.W.maxOf y (ys ++ [x]) = max (PySem.W.maxOf y ys) x
    unfold PySem.W.maxOf
    rw [List.foldl_append]
    generalize ys.foldl (fun a y => if PySem.W.DatumOrd.lt a y = true then y else a) y = m
    show (if PySem.W.DatumOrd.lt m x = true then x else m) = max m x
    rw [lt]
    by_cases c : m < x
    · rw [decide_eq_true c, if_pos rfl]; omega
    · rw [decide_eq_false c, if_neg Bool.false_ne_true]; omega
/-! ### any walk of a comprehension -/
theorem walk_gen {J : It} {n : Nat} {G : Hp → Prop} {Y : Nat → Hp → V → Hp → Prop} (w : Walk J n G Y) {Z : V → Hp → (Hp → Prop) → Prop} {Qd : Hp → Prop} {H0 : Hp} (Pv : Nat → Hp → Prop) (h0 : Pv 0 H0) (hG : ∀ i F, i ≤ n → Pv i F → G F)
    (hs : ∀ i x F F2, i < n → Pv i F → Y i F x F2 → Z x F2 (Pv (i + 1))) (hd : ∀ F, Pv n F → Qd F) :
    ∃ W : Nat → Nat → Hp → Prop, (∃ m, W 0 m H0) ∧ ∀ i m F, W i m F → (J.stop i F ∧ Qd F) ∨ (J.go i F ∧ ∃ Nx : Hp → Prop, (∀ F2, Nx F2 → ∃ m', m' < m ∧ W (i + 1) m' F2) ∧ ∀ x F2, J.yld i F x F2 → Z x F2 Nx) := by
  refine ⟨fun i m F => m = n - i ∧ i ≤ n ∧ Pv i F, ⟨n, (Nat.sub_zero n).symm, Nat.zero_le _, h0⟩, ?_⟩
  rintro i m F ⟨rfl, le, pv⟩
  have gf := hG i F le pv
  rcases Nat.lt_or_eq_of_le le with lt | rfl
  · exact .inr ⟨w.goes i F lt gf, Pv (i + 1), fun F2 p2 => ⟨_, by omega, rfl, lt, p2⟩, fun x F2 y => hs i x F F2 lt pv (w.yields i F x F2 lt gf y)⟩
  · exact .inl ⟨w.stops F gf, hd F pv⟩
/-! ### a list or a tuple, walked -/
def iLT (K : PySem.W.Frag) (tl : TE) : TI := fun σ H R => tl σ H fun x H1 => ∃ a, x = .ref a ∧ (((∃ xs, SqL K H1 a xs) ∧ R (Itl K a) H1) ∨ ((∃ xs, SqT K H1 a xs) ∧ R (Itt K a) H1))
theorem pi_lt {X : Cx} {tg l : Expr} {tl : TE} (hl : PE X l tl) : PI X tg l (iLT X.K tl) := by
  refine ⟨fun pins s σ H R I h => ?_⟩
  refine thn (hl.run pins s σ H _ I h) fun v s1 ⟨x, H1, I1, r1, q1⟩ => ?_
  obtain ⟨a, e, q⟩ := q1
  subst e
  cases r1
  rcases q with ⟨⟨xs, hq⟩, q⟩ | ⟨⟨xs, hq⟩, q⟩
  · obtain ⟨its, rv, p, hz⟩ := I1.list hq
    refine wpAny_pyIter_list p.isList ?_
    refine ⟨s1.heap.objs.size, [s1.heap.objs.size], _, _, H1, rfl, I1.kept (t' := s1.toks) fun b o e => Heap.get?_push_of_some _ e, turn_list a _, ⟨_, Heap.get?_push_size _ rfl, rfl, rfl⟩, fun b hb => ?_, q⟩
    have e : b = s1.heap.objs.size := by simpa using hb
    subst e
    exact I1.fpOk (Nat.le_refl _) (I1.hok.fresh (Nat.le_refl _))
  · obtain ⟨its, rv, p, hz⟩ := I1.tuple hq
    refine wpAny_pyIter_tuple (show s1.heap.IsTuple a its.toArray from p) ?_
    refine ⟨s1.heap.objs.size, [s1.heap.objs.size], _, _, H1, rfl, I1.kept (t' := s1.toks) fun b o e => Heap.get?_push_of_some _ e, turn_tuple a _, ⟨_, Heap.get?_push_size _ rfl, rfl, rfl⟩, fun b hb => ?_, q⟩
    have e : b = s1.heap.objs.size := by simpa using hb
    subst e
    exact I1.fpOk (Nat.le_refl _) (I1.hok.fresh (Nat.le_refl _))
end Own
namespace Own
open PySem PySem.Spec PyProof.Rows L2 RT HT

/-! ### list(reversed(a tuple)) -/
theorem walks_tupRev {prog : Program} {w : World} {A : Around} (hh : A.handled = none) (I l : Addr) (hne : l ≠ I) (items : Array Value) (hsz : items.size ≤ sizeLine) :
    Walks prog w A I [I, l] [I] items.size (fun i v => items[items.size - 1 - i]? = some v) (fun i h => i ≤ items.size ∧ IsRt h I l ((items.size : Int) - 1 - (i : Int)) ∧ h.IsTuple l items) where
  sub := fun b hb => by simp at hb; simp [hb]
  frame := fun _ _ _ x hk => ⟨x.1, x.2.1.at fun o e => hk I (by simp) o e, x.2.2.at fun o e => hk l (by simp) o e⟩
  item := fun i s Q E hi x hQ => by
    have e : (items.size : Int) - 1 - (i : Int) = ((items.size - 1 - i : Nat) : Int) := by omega
    have hit := x.2.1
    rw [e] at hit
    have hx : items[items.size - 1 - i]? = some (items[items.size - 1 - i]'(by omega)) := Array.getElem?_eq_getElem (by omega)
    refine next_rt_item hit x.2.2 hx hsz fun h' hit' hs' => ?_
    have e2 : ((items.size - 1 - i : Nat) : Int) - 1 = (items.size : Int) - 1 - ((i + 1 : Nat) : Int) := by omega
    rw [e2] at hit'
    exact hQ _ h' (s.toks + 1) hx ⟨hi, hit', x.2.2.at fun o eo => (hs'.2 l hne).trans eo⟩ fun b o hb eo => hs'.extBut b o (fun h => hb (by simp [h])) eo
  done := fun s Q E x hQ => by
    have e : (items.size : Int) - 1 - (items.size : Int) = -1 := by omega
    have hit := x.2.1
    rw [e] at hit
    exact next_rt_end hh hit fun h' he' => hQ h' s.toks fun b o hb eo => he' b o (fun h => hb (by simp [h])) eo
  self := fun _ _ _ _ x hQ => iter_rt x.2.1 hQ
theorem nolen_rt : typeLookup (.type "reversed") "__len__" = pure none := by rw [typeLookup_type, builtinLookup_eq_fast]; kernel_rfl
theorem hint_rt : typeLookup (.type "reversed") "__length_hint__" = pure (some (.builtin "reversed.__length_hint__")) := by rw [typeLookup_type, builtinLookup_eq_fast]; kernel_rfl
theorem slot_rt_hint : Slot "reversed" "__length_hint__" "reversed.__length_hint__" :=
  .of (owner := "reversed") (n := "__length_hint__") (by rw [typeLookup_type, builtinLookup_eq_fast]; kernel_rfl) (by decide +kernel) (by decide +kernel) (by decide +kernel)
    (by first | exact .inl (by decide +kernel) | exact .inr (by decide +kernel)) (by rw [isSubtype_type]; kernel_rfl)
theorem entry_rt_hint : entryFor table "reversed.__length_hint__" = some Builtin.«reversed.__length_hint__» := entryFor_of_tree (by kernel_rfl)
theorem args_rt_hint (a : Value) : argsOk "reversed.__length_hint__" ⟨[a], []⟩ := by
  unfold argsOk; rw [signature?_of (id := "reversed.__length_hint__") (n := ['_', '_', 't', 'n', 'i', 'h', '_', 'h', 't', 'g', 'n', 'e', 'l', '_', '_']) (o := ['d', 'e', 's', 'r', 'e', 'v', 'e', 'r']) (by kernel_rfl) owner_rt]; kernel_rfl
theorem bind_rt_hint (self : Value) : bindSpecial (.builtin "reversed.__length_hint__") self = pure (.builtin "reversed.__length_hint__", [self]) := by
  have h : typeOf (.builtin "reversed.__length_hint__") = pure (.type "method_descriptor") := by show builtinType _ = _; rw [builtinType_eq_fast]; kernel_rfl
  unfold bindSpecial
  rw [h]
  rfl
theorem call_rt_hint {prog : Program} {w : World} {A : Around} {E : Value → Shared → Prop} {s : Shared} {it l : Addr} {items : Array Value} {Q : Value → Shared → Prop} (hit : IsRt s.heap it l ((items.size : Int) - 1)) (hl : s.heap.IsTuple l items) (hn : items.size ≤ sizeLine)
    (h : ∀ t tk, Q (.int (items.size : Nat) t) { s with toks := tk }) : wpAny (model prog w) A (call (.builtin "reversed.__length_hint__") [.ref it]) Q E s := by
  refine wpAny_call_entry slot_rt_hint hit.typeIs entry_rt_hint ?_ (args_rt_hint _)
  obtain ⟨o, ho, hc, hd⟩ := id hit
  unfold Builtin.«reversed.__length_hint__»
  refine wpAny_bind (wpAny_of_eq (a := Value.ref it) rfl ?_)
  refine wpAny_bind (wpAny_field ho hd (x := .ref l) rfl ?_)
  rw [if_neg (show ¬ ((Value.ref l == Value.none) = true) from Bool.false_ne_true)]
  have hz : ((items.size : Nat) : Int) < 2 ^ 63 := by rw [sizeLine_eq] at hn; omega
  refine wpAny_bind (len_tuple hl hz ?_)
  refine wpAny_bind (wpAny_of_eq (a := some ((items.size : Nat) : Int)) rfl ?_)
  refine wpAny_bind (wpAny_field (s := { s with toks := s.toks + 1 + 1 }) ho hd (x := rawInt ((items.size : Int) - 1)) rfl ?_)
  show wpAny _ _ (if (items.size : Int) < (items.size : Int) - 1 + 1 then _ else _) _ _ _
  rw [if_neg (by omega)]
  rw [show (items.size : Int) - 1 + 1 = (items.size : Nat) by omega]
  refine wpAny_bind (wpAny_mkInt ?_)
  exact wpAny_pure ⟨_, rfl, h _ _⟩
section
variable {prog : Program} {w : World} {A : Around} {E : Value → Shared → Prop} {s : Shared}
theorem extend_rt {R : Result → Shared → Prop} {it l S : Addr} {items : Array Value} {res : Value} {c0 : Nat} (hh : A.handled = none) (hit : IsRt s.heap it l ((items.size : Int) - 1)) (hl : s.heap.IsTuple l items) (hne : l ≠ it) (hn : items.size ≤ sizeLine)
    (hS : s.heap.get? S = some { cls := .type "list", data := .seq #[] c0 }) (hSi : S ≠ it) (hSl : S ≠ l)
    (hR : ∀ h' tk acc c', (∀ b o, b ≠ S → b ≠ it → s.heap.get? b = some o → h'.get? b = some o) → h'.get? S = some { cls := .type "list", dict := none, data := .seq acc c', slots := #[] } →
      ItemsOf (fun i v => items[items.size - 1 - i]? = some v) acc items.size → R (.ok (.ret res)) { s with heap := h', toks := tk }) :
    wpAny (model prog w) A.in1 (Builtin.List.listExtendWith (.ref S) (.ref it) res)
      (fun fin s' => match fin with | .done f => R (.ok f) s' | .again c' => c'.quiet = true ∧ codeAny (model prog w) A c' R s') (fun e s' => R (.error e) s') s := by
  have W := (walks_tupRev (prog := prog) (w := w) (A := A.in1) hh it l hne items hn).toS
  have hSf : S ∉ [it, l] := by simp only [List.mem_cons, List.not_mem_nil, or_false, not_or]; exact ⟨hSi, hSl⟩
  have hT : s.TypeIs (.ref it) "reversed" := IsRt.typeIs hit
  have h1 : Builtin.List.listSameRef (.ref S) (.ref it) = false := by simp [Builtin.List.listSameRef, hSi]
  unfold Builtin.List.listExtendWith
  refine wpAny_bind (wpAny_typeOf hT ?_); rw [if_neg (by rw [h1]; decide)]
  refine wpAny_bind (iter_rt hit ?_); refine wpAny_bind (wpAny_holding ?_)
  unfold Builtin.List.listLengthHint
  refine wpAny_bind (wpAny_specialOf hT nolen_rt ?_); show wpAny _ A.in1 (specialOf (Value.ref it) (Str.ofString "__length_hint__") >>= _) _ _ s
  refine wpAny_bind (wpAny_specialOf hT hint_rt ?_); generalize hid : ("reversed.__length_hint__" : String) = id0
  wp_delta
  rw [show splitId id0 = some ("reversed", "__length_hint__") from by subst hid; decide +kernel]; subst hid
  refine wpAny_bind (wpAny_isInstance (b := true) hT (by rw [isSubtype_type]; kernel_rfl) ?_)
  rw [if_neg (by decide), if_neg (by decide +kernel)]
  refine wpAny_bind (wpAny_rule ?_)
  rw [bind_rt_hint]
  refine wpAny_bind (wpAny_pure ?_)
  refine wpAny_bind (wpAny_attempt (call_rt_hint hit hl hn fun t tk => ?_))
  have fi : Builtin.List.listFitsIndex ((items.size : Nat) : Int) = true := by
    rw [sizeLine_eq] at hn
    unfold Builtin.List.listFitsIndex
    simp only [Bool.and_eq_true, decide_eq_true_eq]
    omega
  have nl : Builtin.List.listTooLong ((items.size : Nat) : Int).toNat = false := by
    rw [Int.toNat_natCast]
    exact notLongL hn
  have ea : asInt? (Value.int ((items.size : Nat) : Int) t) = pure (some ((items.size : Nat) : Int)) := rfl
  dsimp only
  rw [ea]
  refine wpAny_bind ?_
  refine wpAny_pure ?_
  dsimp only
  rw [fi, if_neg (show ¬ ((!true) = true) by decide), if_neg (by omega), nl, if_neg Bool.false_ne_true]
  refine wpAny_pure ?_
  have e0 : ((items.size : Nat) : Int) - 1 - ((0 : Nat) : Int) = (items.size : Int) - 1 := by omega
  by_cases hz : items.size = 0
  · rw [if_neg (by rw [hz]; decide)]
    refine wpAny_pure ⟨plainId_quiet F.plain_extend_loop _, codeAny_extend_loopS W hn S hSf res items.size 0 _ _ _ rfl (Nat.zero_le _) ⟨Nat.zero_le _, by rw [e0]; exact hit, hl⟩ hS (ItemsOf.nil _) fun s' acc' c' hm hS' hacc => ?_⟩
    rw [Moved.eq_with hm]
    refine hR s'.heap s'.toks acc' c' (fun b o hbS hbi e => hm.heap b o (fun hmem => ?_) e) hS' hacc
    rcases List.mem_cons.mp hmem with e' | hmem
    · exact hbS e'
    · exact hbi (List.mem_singleton.mp hmem)
  · have nz : ((((items.size : Nat) : Int) != 0) || [Value.type "set"].any fun _ => false) = true := by
      rw [bne_iff_ne.mpr (by omega)]; rfl
    rw [if_pos (by rw [show (((items.size : Nat) : Int) != 0) = true from bne_iff_ne.mpr (by omega)]; rfl)]
    refine wpAny_bind (wpAny_rule ?_)
    refine wpAny_bind ?_
    show wpAny _ A.in1 (updateSeq S (·.push .none) >>= fun _ => updateSeq S (·.pop)) _ _ _
    refine wpAny_bind (wpAny_updateSeq hS rfl ?_ (Nat.zero_le _) (by show 1 ≤ sizeLine + 1; exact Nat.le_add_left _ _))
    have hS₂ := Heap.get?_update_self (Obj.mapSeq (·.push Value.none)) hS rfl
    refine wpAny_updateSeq hS₂ rfl ?_ (by show 1 ≤ sizeLine; rw [sizeLine_eq]; decide) (Nat.zero_le _)
    have hS₃ := Heap.get?_update_self (Obj.mapSeq (·.pop)) hS₂ rfl
    have oth : ∀ b o, b ≠ S → s.heap.get? b = some o → ((s.heap.update S (Obj.mapSeq (·.push Value.none))).update S (Obj.mapSeq (·.pop))).get? b = some o :=
      fun b o hb e => (Heap.get?_update_other _ _ (Ne.symm hb)).trans ((Heap.get?_update_other _ _ (Ne.symm hb)).trans e)
    refine wpAny_pure ⟨plainId_quiet F.plain_extend_loop _, codeAny_extend_loopS W hn S hSf res items.size 0 _ _ _ rfl (Nat.zero_le _) ⟨Nat.zero_le _, by rw [e0]; exact hit.at fun o e => oth it o (Ne.symm hSi) e, ?_⟩ hS₃ (ItemsOf.nil _) fun s' acc' c' hm hS' hacc => ?_⟩
    · exact hl.at fun o e => oth l o (Ne.symm hSl) e
    rw [Moved.eq_with hm]
    refine hR s'.heap s'.toks acc' c' (fun b o hbS hbi e => hm.heap b o (fun hmem => ?_) (oth b o hbS e)) hS' hacc
    rcases List.mem_cons.mp hmem with e' | hmem
    · exact hbS e'
    · exact hbi (List.mem_singleton.mp hmem)
theorem call_list_rt {it l : Addr} {items : Array Value} {Q : Value → Shared → Prop} (hh : A.handled = none) (hit : IsRt s.heap it l ((items.size : Int) - 1)) (hl : s.heap.IsTuple l items) (hne : l ≠ it) (hn : items.size ≤ sizeLine)
    (hQ : ∀ h' tk acc c', (∀ b o, b ≠ it → s.heap.get? b = some o → h'.get? b = some o) → h'.get? s.heap.objs.size = some { cls := .type "list", dict := none, data := .seq acc c', slots := #[] } →
      ItemsOf (fun i v => items[items.size - 1 - i]? = some v) acc items.size → Q (.ref s.heap.objs.size) { s with heap := h', toks := tk }) :
    wpAny (model prog w) A (call (.type "list") [.ref it]) Q E s := by
  refine callType_codes (Q₁ := fun obj s₁ => obj = .ref s.heap.objs.size ∧ s₁ = { s with heap := s.heap.push { cls := .type "list", data := .seq #[] } }) PySem.F.called_list (PySem.F.typeCall_list_1 _) PySem.F.entry_list_init (code_list_new _ ⟨rfl, rfl⟩) fun obj s₁ h₁ => ?_
  obtain ⟨rfl, rfl⟩ := h₁
  have hS : (s.heap.push { cls := .type "list", data := .seq #[] }).get? s.heap.objs.size = some { cls := .type "list", data := .seq #[] } := Heap.get?_push_size _ rfl
  refine ⟨⟨_, hS, rfl⟩, PySem.F.args_list_init_2 _ _, ?_⟩
  obtain ⟨oi, hoi, _⟩ := id hit
  obtain ⟨ol, hol, _⟩ := id hl
  have nSi : s.heap.objs.size ≠ it := Nat.ne_of_gt (Heap.lt_size hoi)
  have nSl : s.heap.objs.size ≠ l := Nat.ne_of_gt (Heap.lt_size hol)
  have k0 : ∀ b o, s.heap.get? b = some o → ((s.heap.push { cls := .type "list", data := .seq #[] }).update s.heap.objs.size (Obj.mapSeq (fun _ => (#[] : Array Value)))).get? b = some o :=
    fun b o e => (Heap.get?_update_other _ _ (Nat.ne_of_gt (Heap.lt_size e))).trans (Heap.get?_push_of_some _ e)
  show wpAny _ _ (do let old ← Builtin.List.listItems (.ref s.heap.objs.size); Builtin.List.listUpdate (.ref s.heap.objs.size) (fun _ => #[]); letGo old.toList.reverse; Builtin.List.listExtendWith (.ref s.heap.objs.size) (.ref it) .none) _ _ _
  refine wpAny_bind ?_; unfold Builtin.List.listItems
  refine wpAny_bind (wpAny_seqItems hS rfl (wpAny_pure ?_))
  show wpAny _ _ (updateSeq s.heap.objs.size (fun _ => #[]) >>= fun _ => letGo (#[] : Array Value).toList.reverse >>= fun _ => Builtin.List.listExtendWith (.ref s.heap.objs.size) (.ref it) .none) _ _ _
  refine wpAny_bind (wpAny_updateSeq hS rfl ?_)
  refine wpAny_bind (wpAny_letGo ?_)
  refine extend_rt (A := A.in1) (l := l) (items := items) hh (hit.at fun o e => k0 _ _ e) ?_ hne hn (Heap.get?_update_self (Obj.mapSeq (fun _ => (#[] : Array Value))) hS rfl) nSi nSl fun h' tk acc c' hk hS' hacc => ?_
  · obtain ⟨o, ho, hc⟩ := id hl
    exact ⟨o, k0 _ _ ho, hc⟩
  · exact ⟨rfl, hQ h' tk acc c' (fun b o hb e => hk b o (Nat.ne_of_lt (Heap.lt_size e)) hb (k0 _ _ e)) hS' hacc⟩
end
def tListRevT (K : PySem.W.Frag) (te : TE) : TE := fun σ H Q => te σ H fun v H1 => ∃ (a : Addr) (xs : List V), v = .ref a ∧ SqT K H1 a xs ∧ ∀ q, H1 q = none → Q (.ref q) (upd H1 q (.lst xs.reverse))
theorem pe_listRevT {X : Cx} {e : Expr} {te : TE} {p p2 pos pos2 : Pos} (hc : X.calm = true) (hg : Gl X "list") (hm : X.mg "list" = none) (hg2 : Gl X "reversed") (hm2 : X.mg "reversed" = none) (he : PE X e te)
    (hs : starEach [e] X.env = (false, eval e X.env) :: starEach [] X.env := by rfl)
    (hs2 : starEach [.Call (.Name "reversed" p2) [e] [] pos2] X.env = (false, eval (.Call (.Name "reversed" p2) [e] [] pos2) X.env) :: starEach [] X.env := by rfl) :
    PE X (.Call (.Name "list" p) [.Call (.Name "reversed" p2) [e] [] pos2] [] pos) (tListRevT X.K te) := by
  refine ⟨fun pins s σ H Q I h => ?_⟩
  refine Call_ (ld_blt I hg hm boot_list (callWith_type1 (args_cons (Call_ (ld_blt I hg2 hm2 boot_reversed (callWith_type1 (args_cons (thn (he.run pins s σ H _ I h) fun u s1 ⟨v, H1, I1, r1, q1⟩ => args_nil ?_) hs) hs rfl))) hs2) hs2 rfl))
  obtain ⟨a, xs, ev, hq, q⟩ := q1
  subst ev
  obtain rfl : u = Value.ref a := r1
  obtain ⟨its, rv, p', hz⟩ := I1.tuple hq
  have p' : s1.heap.IsTuple a its.toArray := p'
  have hn : its.toArray.size ≤ sizeLine := by rw [List.size_toArray, ← rv.length]; exact hz
  have hz' := hn
  rw [sizeLine_eq] at hz'
  refine call_reversed_tup p' (fun A E Q k => len_tuple p' (by omega) k) (args_nil ?_)
  have k0 : ∀ b o, s1.heap.get? b = some o → (s1.heap.push (rtObj a ((its.toArray.size : Int) - 1))).get? b = some o := fun b o e => Heap.get?_push_of_some _ e
  obtain ⟨ol, hol, _⟩ := id p'
  have hne : a ≠ s1.heap.objs.size := Nat.ne_of_lt (Heap.lt_size hol)
  refine call_list_rt (s := { s1 with heap := s1.heap.push (rtObj a ((its.toArray.size : Int) - 1)), toks := s1.toks + 1 + 1 }) (I1.ok.hd hc) ⟨_, Heap.get?_push_size _ rfl, rfl, rfl⟩ (p'.at fun o e => k0 _ _ e) hne hn fun h' tk acc c' hk hS' hi => ?_
  have kk : ∀ b o, s1.heap.get? b = some o → h'.get? b = some o := fun b o e => hk b o (Nat.ne_of_lt (Heap.lt_size e)) (k0 b o e)
  have hsz : (s1.heap.push (rtObj a ((its.toArray.size : Int) - 1))).objs.size = s1.heap.objs.size + 1 := Heap.size_push ..
  have fresh : s1.heap.objs.size ≤ (s1.heap.push (rtObj a ((its.toArray.size : Int) - 1))).objs.size := by rw [hsz]; exact Nat.le_succ _
  refine ⟨.ref _, upd H1 _ (.lst xs.reverse), I1.laid (t' := tk) kk fresh (show ObjOk X.prog X.w _ _ _ (.lst xs.reverse) from ⟨by rw [List.length_reverse]; exact hz, acc.toList, c', vals_rev rv hi, ?_⟩), rfl, q _ (I1.hok.fresh fresh)⟩
  rw [Array.toArray_toList]
  exact hS'
end Own
namespace Own
open PySem PySem.Spec PyProof.Rows L2 RT HT

/-! ### the variables of a clause -/
def sides (c : List Lit) : List Ter := c.flatMap fun x => [x.2.1, x.2.2]
theorem sides_app (a b : List Lit) : sides (a ++ b) = sides a ++ sides b := List.flatMap_append
theorem sides_snoc (a : List Lit) (x : Lit) : sides (a ++ [x]) = sides a ++ [x.2.1, x.2.2] := by rw [sides_app]; rfl
def clVars (c : List Lit) : List Key := Ter.intos [] (sides c)
theorem sides_size {c : List Lit} {n : Nat} (h : ∀ x ∈ c, x.2.1.size ≤ n ∧ x.2.2.size ≤ n) : Ter.sizes (sides c) ≤ c.length * (2 * n) := by
  induction c with
  | nil => exact Nat.zero_le _
  | cons x r ih =>
    have h1 := h x List.mem_cons_self
    have h2 := ih fun y hy => h y (List.mem_cons_of_mem _ hy)
    show Ter.sizes ([x.2.1, x.2.2] ++ sides r) ≤ (r.length + 1) * (2 * n)
    rw [Ter.sizes_app, Nat.succ_mul]
    show x.2.1.size + (x.2.2.size + 0) + _ ≤ _
    omega
theorem sides_wf {W : Str → Nat → Prop} {U : Key → Prop} : ∀ {c : List Lit}, (∀ x ∈ c, x.2.1.wf W U ∧ x.2.2.wf W U) → Ter.wfs W U (sides c)
  | [], _ => trivial
  | x :: r, h => ⟨(h x List.mem_cons_self).1, (h x List.mem_cons_self).2, sides_wf (c := r) fun y hy => h y (List.mem_cons_of_mem _ hy)⟩
theorem addK_sub {acc : List Key} {k x : Key} (h : x ∈ acc) : x ∈ addK acc k := by
  unfold addK
  split
  · exact h
  · exact List.mem_append_left _ h
theorem addK_mem (acc : List Key) (k : Key) : k ∈ addK acc k := by
  unfold addK
  split
  · exact hasK_iff.mp (by assumption)
  · exact List.mem_append_right _ (List.mem_singleton.mpr rfl)
theorem addK_nd {acc : List Key} {k : Key} (h : acc.Nodup) : (addK acc k).Nodup := by
  unfold addK
  split
  · exact h
  · rename_i c
    exact nd_snoc h fun z => c (hasK_iff.mpr z)
mutual
theorem into_sub : ∀ (t : Ter) (acc : List Key), ∀ x ∈ acc, x ∈ Ter.into acc t
  | .var k, acc, x, h => addK_sub h
  | .ap f as, acc, x, h => intos_sub as acc x h
theorem intos_sub : ∀ (ts : List Ter) (acc : List Key), ∀ x ∈ acc, x ∈ Ter.intos acc ts
  | [], acc, x, h => h
  | t :: r, acc, x, h => intos_sub r _ x (into_sub t acc x h)
end
mutual
theorem into_nd : ∀ (t : Ter) (acc : List Key), acc.Nodup → (Ter.into acc t).Nodup
  | .var k, acc, h => addK_nd h
  | .ap f as, acc, h => intos_nd as acc h
theorem intos_nd : ∀ (ts : List Ter) (acc : List Key), acc.Nodup → (Ter.intos acc ts).Nodup
  | [], acc, h => h
  | t :: r, acc, h => intos_nd r _ (into_nd t acc h)
end
def anySym (_ : Str) (_ : Nat) : Prop := True
/-- all variables of the term are among these -/
def Ter.inK (ks : List Key) (t : Ter) : Prop := t.wf anySym (· ∈ ks)
def Ter.insK (ks : List Key) (ts : List Ter) : Prop := Ter.wfs anySym (· ∈ ks) ts
mutual
theorem into_in : ∀ (t : Ter) (acc ks : List Key), (∀ x ∈ Ter.into acc t, x ∈ ks) → Ter.inK ks t
  | .var k, acc, ks, h => h k (addK_mem acc k)
  | .ap f as, acc, ks, h => ⟨trivial, intos_in as acc ks h⟩
theorem intos_in : ∀ (ts : List Ter) (acc ks : List Key), (∀ x ∈ Ter.intos acc ts, x ∈ ks) → Ter.insK ks ts
  | [], acc, ks, h => trivial
  | t :: r, acc, ks, h => ⟨into_in t acc ks fun x hx => h x (intos_sub r _ x hx), intos_in r _ ks h⟩
end
theorem clVars_nd (c : List Lit) : (clVars c).Nodup := intos_nd _ _ List.nodup_nil
theorem insK_app {ks : List Key} : ∀ {as bs : List Ter}, Ter.insK ks (as ++ bs) → Ter.insK ks as ∧ Ter.insK ks bs
  | [], _, h => ⟨trivial, h⟩
  | a :: r, bs, h => ⟨⟨h.1, (insK_app (as := r) h.2).1⟩, (insK_app (as := r) h.2).2⟩
theorem sides_in {ks : List Key} : ∀ {c : List Lit}, Ter.insK ks (sides c) → ∀ x ∈ c, Ter.inK ks x.2.1 ∧ Ter.inK ks x.2.2
  | [], _, _, h => by cases h
  | y :: r, h, x, hx => by
    have h : Ter.inK ks y.2.1 ∧ Ter.inK ks y.2.2 ∧ Ter.insK ks (sides r) := h
    rcases List.mem_cons.mp hx with rfl | hx
    · exact ⟨h.1, h.2.1⟩
    · exact sides_in h.2.2 x hx
theorem clVars_in (c : List Lit) : ∀ x ∈ c, Ter.inK (clVars c) x.2.1 ∧ Ter.inK (clVars c) x.2.2 := sides_in (intos_in _ [] _ fun _ h => h)
/-! ### numbering -/
def idxK : List Key → Key → Nat
  | [], _ => 0
  | a :: r, k => if a = k then 0 else idxK r k + 1
def numK : Nat → List Key → List (Key × V)
  | _, [] => []
  | n, k :: r => (k, V.int (n : Nat)) :: numK (n + 1) r
theorem numK_len : ∀ (ks : List Key) (n : Nat), (numK n ks).length = ks.length
  | [], _ => rfl
  | _ :: r, n => congrArg (· + 1) (numK_len r (n + 1))
theorem numK_snoc (k : Key) : ∀ (ks : List Key) (n : Nat), numK n (ks ++ [k]) = numK n ks ++ [(k, V.int ((n + ks.length : Nat) : Int))]
  | [], n => rfl
  | a :: r, n => by
    show (a, V.int (n : Nat)) :: numK (n + 1) (r ++ [k]) = (a, V.int (n : Nat)) :: (numK (n + 1) r ++ _)
    rw [numK_snoc k r (n + 1)]
    congr 3
    simp only [List.length_cons]
    rw [show n + 1 + r.length = n + (r.length + 1) by omega]
theorem numK_none {k : Key} : ∀ {ks : List Key} {n : Nat}, k ∉ ks → valV (numK n ks) k = none
  | [], _, _ => rfl
  | a :: r, n, h => by
    have h1 : ¬ a = k := fun z => h (by rw [z]; exact List.mem_cons_self)
    show valV ((a, V.int (n : Nat)) :: numK (n + 1) r) k = none
    rw [valV_neg h1]
    exact numK_none fun z => h (List.mem_cons_of_mem _ z)
theorem numK_val {k : Key} : ∀ {ks : List Key} {n : Nat}, k ∈ ks → valV (numK n ks) k = some (.int ((n + idxK ks k : Nat) : Int))
  | [], _, h => by cases h
  | a :: r, n, h => by
    show valV ((a, V.int (n : Nat)) :: numK (n + 1) r) k = _
    by_cases c : a = k
    · rw [valV_pos c]
      show some (V.int (n : Nat)) = _
      rw [show idxK (a :: r) k = 0 from if_pos c]
      rfl
    · rw [valV_neg c, numK_val (ks := r) ((List.mem_cons.mp h).resolve_left fun z => c z.symm), show idxK (a :: r) k = idxK r k + 1 from if_neg c]
      rw [show n + 1 + idxK r k = n + (idxK r k + 1) by omega]
theorem idxK_lt {k : Key} : ∀ {ks : List Key}, k ∈ ks → idxK ks k < ks.length
  | [], h => by cases h
  | a :: r, h => by
    show (if a = k then 0 else idxK r k + 1) < r.length + 1
    by_cases c : a = k
    · rw [if_pos c]; omega
    · rw [if_neg c]
      have := idxK_lt (ks := r) ((List.mem_cons.mp h).resolve_left fun z => c z.symm)
      omega
theorem idxK_get {k : Key} : ∀ {ks : List Key}, k ∈ ks → ks[idxK ks k]? = some k
  | [], h => by cases h
  | a :: r, h => by
    by_cases c : a = k
    · rw [show idxK (a :: r) k = 0 from if_pos c, c]; rfl
    · rw [show idxK (a :: r) k = idxK r k + 1 from if_neg c]
      show r[idxK r k]? = some k
      exact idxK_get ((List.mem_cons.mp h).resolve_left fun z => c z.symm)
theorem idxK_first {k : Key} : ∀ {ks : List Key} {m : Nat}, m < idxK ks k → ks[m]? ≠ some k
  | [], _, h => by cases h
  | a :: r, m, h => by
    by_cases c : a = k
    · rw [show idxK (a :: r) k = 0 from if_pos c] at h; omega
    · rw [show idxK (a :: r) k = idxK r k + 1 from if_neg c] at h
      cases m with
      | zero => intro z; exact c (Option.some.inj z)
      | succ m => exact idxK_first (ks := r) (m := m) (by omega)
theorem idxK_inj {ks : List Key} {a b : Key} (ha : a ∈ ks) (hb : b ∈ ks) (h : idxK ks a = idxK ks b) : a = b := by
  have h1 := idxK_get ha
  have h2 := idxK_get hb
  rw [h, h2] at h1
  exact (Option.some.inj h1).symm
def nf (ks : List Key) (k : Key) : Key := .inl ((idxK ks k : Nat) : Int)
theorem nf_inj {ks : List Key} {a b : Key} (ha : a ∈ ks) (hb : b ∈ ks) (h : nf ks a = nf ks b) : a = b := idxK_inj ha hb (by
  have : ((idxK ks a : Nat) : Int) = ((idxK ks b : Nat) : Int) := Sum.inl.inj h
  omega)
mutual
def Ter.num (ks : List Key) : Ter → Ter
  | .var k => .var (nf ks k)
  | .ap f as => .ap f (Ter.nums ks as)
def Ter.nums (ks : List Key) : List Ter → List Ter
  | [] => []
  | a :: r => a.num ks :: Ter.nums ks r
end
theorem nums_len (ks : List Key) : ∀ as : List Ter, (Ter.nums ks as).length = as.length
  | [] => rfl
  | _ :: r => congrArg (· + 1) (nums_len ks r)
theorem nums_app (ks : List Key) : ∀ as bs : List Ter, Ter.nums ks (as ++ bs) = Ter.nums ks as ++ Ter.nums ks bs
  | [], _ => rfl
  | a :: r, bs => congrArg (a.num ks :: ·) (nums_app ks r bs)
mutual
theorem num_size (ks : List Key) : ∀ t : Ter, (t.num ks).size = t.size ∧ (t.num ks).nest = t.nest
  | .var _ => ⟨rfl, rfl⟩
  | .ap f as => by
    obtain ⟨h1, h2⟩ := nums_size ks as
    exact ⟨by show Ter.sizes _ + 1 = Ter.sizes as + 1; rw [h1], by show Ter.nests _ + 1 = Ter.nests as + 1; rw [h2]⟩
theorem nums_size (ks : List Key) : ∀ ts : List Ter, Ter.sizes (Ter.nums ks ts) = Ter.sizes ts ∧ Ter.nests (Ter.nums ks ts) = Ter.nests ts
  | [] => ⟨rfl, rfl⟩
  | t :: r => by
    obtain ⟨h1, h2⟩ := num_size ks t
    obtain ⟨h3, h4⟩ := nums_size ks r
    exact ⟨by show (t.num ks).size + Ter.sizes (Ter.nums ks r) = t.size + Ter.sizes r; rw [h1, h3], by show max (t.num ks).nest (Ter.nests (Ter.nums ks r)) = max t.nest (Ter.nests r); rw [h2, h4]⟩
end
mutual
theorem num_wf {W : Str → Nat → Prop} {U : Key → Prop} {ks : List Key} (hk : ks.length ≤ 900) : ∀ t : Ter, t.wf W U → Ter.inK ks t → (t.num ks).wf W numVar
  | .var k, _, h => ⟨_, rfl, by omega, by have := idxK_lt (show k ∈ ks from h); omega⟩
  | .ap f as, h, g => ⟨by rw [nums_len]; exact h.1, nums_wf hk as h.2 g.2⟩
theorem nums_wf {W : Str → Nat → Prop} {U : Key → Prop} {ks : List Key} (hk : ks.length ≤ 900) : ∀ ts : List Ter, Ter.wfs W U ts → Ter.insK ks ts → Ter.wfs W numVar (Ter.nums ks ts)
  | [], _, _ => trivial
  | t :: r, h, g => ⟨num_wf hk t h.1 g.1, nums_wf hk r h.2 g.2⟩
end
/-! equality of terms stays -/
mutual
theorem eT_num {ks : List Key} : ∀ t u : Ter, t.wf anySym anyNum → u.wf anySym anyNum → Ter.inK ks t → Ter.inK ks u → eT (t.num ks) (u.num ks) = eT t u
  | .var a, .var b, ha, hb, ia, ib => by
    obtain ⟨x, rfl⟩ := ha
    obtain ⟨y, rfl⟩ := hb
    show ((idxK ks (.inl x) : Int) == (idxK ks (.inl y) : Int)) = (x == y)
    by_cases c : x = y
    · rw [c]; rw [beq_self_eq_true, beq_self_eq_true]
    · rw [beq_eq_false_iff_ne.mpr c]
      refine beq_eq_false_iff_ne.mpr fun z => c ?_
      have := idxK_inj (show (.inl x : Key) ∈ ks from ia) (show (.inl y : Key) ∈ ks from ib) (by omega)
      exact Sum.inl.inj this
  | .var a, .ap g bs, ha, _, _, _ => by
    obtain ⟨x, rfl⟩ := ha
    rfl
  | .ap f as, .var b, _, hb, _, _ => by
    obtain ⟨x, rfl⟩ := hb
    rfl
  | .ap f as, .ap g bs, ha, hb, ia, ib => by
    show ((f == g) && PyData.eqvAll (Ter.dats (Ter.nums ks as)) (Ter.dats (Ter.nums ks bs))) = ((f == g) && PyData.eqvAll (Ter.dats as) (Ter.dats bs))
    rw [eT_nums as bs ha.2 hb.2 ia.2 ib.2]
theorem eT_nums {ks : List Key} : ∀ ts us : List Ter, Ter.wfs anySym anyNum ts → Ter.wfs anySym anyNum us → Ter.insK ks ts → Ter.insK ks us → PyData.eqvAll (Ter.dats (Ter.nums ks ts)) (Ter.dats (Ter.nums ks us)) = PyData.eqvAll (Ter.dats ts) (Ter.dats us)
  | [], [], _, _, _, _ => rfl
  | [], _ :: _, _, _, _, _ => rfl
  | _ :: _, [], _, _, _, _ => rfl
  | t :: r, u :: s, ha, hb, ia, ib => by
    show (eT (t.num ks) (u.num ks) && _) = (eT t u && _)
    rw [eT_num t u ha.1 hb.1 ia.1 ib.1, eT_nums r s ha.2 hb.2 ia.2 ib.2]
end
theorem isT_num {ks : List Key} {t : Ter} (h : t.wf anySym anyNum) (i : Ter.inK ks t) : isTrueT (t.num ks) = isTrueT t := eT_num (ks := ks) t trueT h ⟨trivial, trivial⟩ i ⟨trivial, trivial⟩
def litNum (ks : List Key) (x : Lit) : Lit := (x.1, x.2.1.num ks, x.2.2.num ks)
def litW (x : Lit) : Prop := x.2.1.wf anySym anyNum ∧ x.2.2.wf anySym anyNum
def litIn (ks : List Key) (x : Lit) : Prop := Ter.inK ks x.2.1 ∧ Ter.inK ks x.2.2
theorem alike_num {ks : List Key} {x y : Lit} (hx : litW x) (hy : litW y) (ix : litIn ks x) (iy : litIn ks y) : alikeL (litNum ks x) (litNum ks y) = alikeL x y := by
  unfold alikeL
  show ((x.1 == y.1) && ((eT (x.2.1.num ks) (y.2.1.num ks) && eT (x.2.2.num ks) (y.2.2.num ks)) || (!isTrueT (x.2.2.num ks) && (!isTrueT (y.2.2.num ks) && (eT (x.2.1.num ks) (y.2.2.num ks) && eT (x.2.2.num ks) (y.2.1.num ks)))))) = _
  rw [eT_num _ _ hx.1 hy.1 ix.1 iy.1, eT_num _ _ hx.2 hy.2 ix.2 iy.2, eT_num _ _ hx.1 hy.2 ix.1 iy.2, eT_num _ _ hx.2 hy.1 ix.2 iy.1, isT_num hx.2 ix.2, isT_num hy.2 iy.2]
/-! ### the normal form -/
def keepL : List Lit → List Lit → List Lit
  | acc, [] => acc
  | acc, x :: r => if acc.any (alikeL x) = true then keepL acc r else keepL (acc ++ [x]) r
theorem keepL_at {c : List Lit} {i : Nat} {x : Lit} (acc : List Lit) (h : c[i]? = some x) : keepL acc (c.drop i) = if acc.any (alikeL x) = true then keepL acc (c.drop (i + 1)) else keepL (acc ++ [x]) (c.drop (i + 1)) := by
  have hi := (List.getElem?_eq_some_iff.mp h).1
  have e : c.drop i = x :: c.drop (i + 1) := by rw [List.drop_eq_getElem_cons hi]; rw [List.getElem?_eq_getElem hi] at h; cases h; rfl
  rw [e]
  rfl
def numC (c : List Lit) : List Lit := c.map (litNum (clVars c))
def normL (c : List Lit) : List Lit := numC (keepL [] c)
theorem keepL_sub : ∀ (c acc : List Lit), ∀ x ∈ keepL acc c, x ∈ acc ∨ x ∈ c
  | [], acc, x, h => .inl h
  | y :: r, acc, x, h => by
    unfold keepL at h
    split at h
    · rcases keepL_sub r acc x h with h | h
      · exact .inl h
      · exact .inr (List.mem_cons_of_mem _ h)
    · rcases keepL_sub r _ x h with h | h
      · rcases List.mem_append.mp h with h | h
        · exact .inl h
        · rw [List.mem_singleton.mp h]; exact .inr List.mem_cons_self
      · exact .inr (List.mem_cons_of_mem _ h)
theorem keepL_len : ∀ (c acc : List Lit), (keepL acc c).length ≤ acc.length + c.length
  | [], acc => Nat.le_refl _
  | y :: r, acc => by
    unfold keepL
    split
    · have := keepL_len r acc
      simp only [List.length_cons]; omega
    · have := keepL_len r (acc ++ [y])
      rw [List.length_append, List.length_singleton] at this
      simp only [List.length_cons]; omega
/-- no literal is like an earlier one -/
def Apart (c : List Lit) : Prop := c.Pairwise fun a b => alikeL b a = false
theorem keepL_apart : ∀ (c acc : List Lit), Apart acc → Apart (keepL acc c)
  | [], acc, h => h
  | y :: r, acc, h => by
    unfold keepL
    split
    · exact keepL_apart r acc h
    · rename_i z
      refine keepL_apart r _ (List.pairwise_append.mpr ⟨h, List.pairwise_singleton _ _, fun a ha b hb => ?_⟩)
      cases List.mem_singleton.mp hb
      cases e : alikeL y a with
      | false => rfl
      | true => exact absurd (List.any_eq_true.mpr ⟨a, ha, e⟩) z
theorem keepL_id : ∀ (c acc : List Lit), Apart (acc ++ c) → keepL acc c = acc ++ c
  | [], acc, _ => (List.append_nil acc).symm
  | y :: r, acc, h => by
    have n : ¬ acc.any (alikeL y) = true := fun z => by
      obtain ⟨a, ha, e⟩ := List.any_eq_true.mp z
      have := (List.pairwise_append.mp h).2.2 a ha y List.mem_cons_self
      rw [this] at e
      cases e
    unfold keepL
    rw [if_neg n, keepL_id r (acc ++ [y]) (by rw [List.append_assoc]; exact h), List.append_assoc]
    rfl
mutual
theorem into_num {ks : List Key} : ∀ (t : Ter) (acc : List Key), (∀ x ∈ acc, x ∈ ks) → Ter.inK ks t → Ter.into (acc.map (nf ks)) (t.num ks) = (Ter.into acc t).map (nf ks)
  | .var k, acc, ha, hk => by
    show addK (acc.map (nf ks)) (nf ks k) = (addK acc k).map (nf ks)
    have e : hasK (acc.map (nf ks)) (nf ks k) = hasK acc k := by
      cases c : hasK acc k with
      | true => exact hasK_iff.mpr (List.mem_map_of_mem (hasK_iff.mp c))
      | false =>
        cases d : hasK (acc.map (nf ks)) (nf ks k) with
        | false => rfl
        | true =>
          obtain ⟨y, hy, e⟩ := List.mem_map.mp (hasK_iff.mp d)
          have := nf_inj (ha y hy) hk e
          rw [this] at hy
          rw [hasK_iff.mpr hy] at c
          cases c
    unfold addK
    rw [e]
    split
    · rfl
    · rw [List.map_append]; rfl
  | .ap f as, acc, ha, h => intos_num as acc ha h.2
theorem intos_num {ks : List Key} : ∀ (ts : List Ter) (acc : List Key), (∀ x ∈ acc, x ∈ ks) → Ter.insK ks ts → Ter.intos (acc.map (nf ks)) (Ter.nums ks ts) = (Ter.intos acc ts).map (nf ks)
  | [], acc, ha, _ => rfl
  | t :: r, acc, ha, h => by
    show Ter.intos (Ter.into (acc.map (nf ks)) (t.num ks)) (Ter.nums ks r) = (Ter.intos (Ter.into acc t) r).map (nf ks)
    rw [into_num t acc ha h.1, intos_num r _ (fun x hx => into_of ha h.1 x hx) h.2]
theorem into_of {ks : List Key} {t : Ter} {acc : List Key} (ha : ∀ x ∈ acc, x ∈ ks) (h : Ter.inK ks t) : ∀ x ∈ Ter.into acc t, x ∈ ks := into_all (W := anySym) (U := (· ∈ ks)) (R := (· ∈ ks)) (fun _ z => z) t acc h ha
end
theorem sides_num (ks : List Key) : ∀ c : List Lit, sides (c.map (litNum ks)) = Ter.nums ks (sides c)
  | [] => rfl
  | x :: r => by
    show x.2.1.num ks :: x.2.2.num ks :: sides (r.map (litNum ks)) = x.2.1.num ks :: x.2.2.num ks :: Ter.nums ks (sides r)
    rw [sides_num ks r]
theorem clVars_num (c : List Lit) : clVars (numC c) = (clVars c).map (nf (clVars c)) := by
  show Ter.intos [] (sides (c.map (litNum (clVars c)))) = _
  rw [sides_num]
  exact intos_num (sides c) [] (fun _ h => by cases h) (intos_in _ [] _ fun _ h => h)
theorem idxK_map {f : Key → Key} {k : Key} : ∀ {ks : List Key}, (∀ a ∈ ks, f a = f k → a = k) → idxK (ks.map f) (f k) = idxK ks k
  | [], _ => rfl
  | a :: r, h => by
    show (if f a = f k then 0 else idxK (r.map f) (f k) + 1) = if a = k then 0 else idxK r k + 1
    by_cases c : a = k
    · rw [if_pos c, if_pos (by rw [c])]
    · rw [if_neg c, if_neg fun z => c (h a List.mem_cons_self z), idxK_map fun b hb => h b (List.mem_cons_of_mem _ hb)]
mutual
theorem num_num {ks : List Key} : ∀ t : Ter, Ter.inK ks t → (t.num ks).num (ks.map (nf ks)) = t.num ks
  | .var k, h => by
    show Ter.var (.inl ((idxK (ks.map (nf ks)) (nf ks k) : Nat) : Int)) = Ter.var (.inl ((idxK ks k : Nat) : Int))
    rw [idxK_map fun a ha e => nf_inj ha h e]
  | .ap f as, h => by
    show Ter.ap f (Ter.nums (ks.map (nf ks)) (Ter.nums ks as)) = Ter.ap f (Ter.nums ks as)
    rw [nums_nums as h.2]
theorem nums_nums {ks : List Key} : ∀ ts : List Ter, Ter.insK ks ts → Ter.nums (ks.map (nf ks)) (Ter.nums ks ts) = Ter.nums ks ts
  | [], _ => rfl
  | t :: r, h => by
    show (t.num ks).num (ks.map (nf ks)) :: Ter.nums (ks.map (nf ks)) (Ter.nums ks r) = t.num ks :: Ter.nums ks r
    rw [num_num t h.1, nums_nums r h.2]
end
theorem numC_numC (c : List Lit) : numC (numC c) = numC c := by
  show (numC c).map (litNum (clVars (numC c))) = numC c
  rw [clVars_num]
  show (c.map (litNum (clVars c))).map (litNum ((clVars c).map (nf (clVars c)))) = c.map (litNum (clVars c))
  rw [List.map_map]
  refine List.map_congr_left fun x hx => ?_
  obtain ⟨h1, h2⟩ := clVars_in c x hx
  show (x.1, (x.2.1.num (clVars c)).num ((clVars c).map (nf (clVars c))), (x.2.2.num (clVars c)).num ((clVars c).map (nf (clVars c)))) = (x.1, x.2.1.num (clVars c), x.2.2.num (clVars c))
  rw [num_num _ h1, num_num _ h2]
theorem norm_norm {c : List Lit} (h : ∀ x ∈ c, litW x) : normL (normL c) = normL c := by
  have hk : ∀ x ∈ keepL [] c, litW x := fun x hx => by
    rcases keepL_sub c [] x hx with z | z
    · cases z
    · exact h x z
  have ap := keepL_apart c [] .nil
  have ap2 : Apart (normL c) := by
    show ((keepL [] c).map (litNum (clVars (keepL [] c)))).Pairwise _
    refine List.pairwise_map.mpr (ap.imp_of_mem fun {a b} ha hb e => ?_)
    rw [alike_num (hk b hb) (hk a ha) (clVars_in _ b hb) (clVars_in _ a ha)]
    exact e
  show numC (keepL [] (normL c)) = normL c
  rw [keepL_id (normL c) [] ap2]
  exact numC_numC (keepL [] c)
end Own
namespace Own
open PySem PySem.Spec PyProof.Rows L2 RT HT

/-- a statement that no way reaches -/
theorem ps_no {X : Cx} {st : Stmt} : PS X st (fun _ _ _ => False) := ⟨fun _ _ _ _ _ _ h => h.elim⟩
/-! ### the deck: a list with the script's copy in it -/
structure Dek (H : Hp) (d c : Addr) : Prop where
  ex : ∃ (ns : List Int) (i : Nat) (e s : Int), H d = some (.lst [.ref c, .int (i : Nat), .int e, .int s]) ∧ H c = some (.lst (ns.map V.int)) ∧ c ≠ d
theorem Dek.same {H H' : Hp} {d c : Addr} (h : Dek H d c) (m : Same H H') : Dek H' d c := by
  obtain ⟨ns, i, r, s, e, e2, n⟩ := h.ex
  exact ⟨ns, i, r, s, m _ _ e, m _ _ e2, n⟩
theorem Dek.lst {H : Hp} {d c : Addr} (h : Dek H d c) : ∃ xs, H d = some (.lst xs) := by
  obtain ⟨ns, i, r, s, e, e2, n⟩ := h.ex
  exact ⟨_, e⟩
theorem Dek.ne {H : Hp} {d c p : Addr} (h : Dek H d c) (n : H p = none) : p ≠ d := by
  obtain ⟨xs, e⟩ := h.lst
  exact fun z => by rw [z, e] at n; cases n
theorem Dek.nec {H : Hp} {d c p : Addr} (h : Dek H d c) (n : H p = none) : p ≠ c := by
  obtain ⟨ns, i, r, s, e, e2, _⟩ := h.ex
  exact fun z => by rw [z, e2] at n; cases n
theorem Dek.tups {H H' : Hp} {d c : Addr} (h : Dek H d c) (b : But d H H') : Tups H H' := by
  obtain ⟨xs, e⟩ := h.lst
  exact b.tups e
theorem Dek.but {H H' : Hp} {d c p : Addr} (h : Dek H d c) (b : But p H H') (n1 : d ≠ p) (n2 : c ≠ p) : Dek H' d c := by
  obtain ⟨ns, i, r, s, e, e2, n⟩ := h.ex
  exact ⟨ns, i, r, s, b _ _ n1 e, b _ _ n2 e2, n⟩
/-! ### the menus of names -/
abbrev MENUS : List (List Str) := [["a", "b", "c", "f", "g", "p", "q"], ["c", "a", "b", "g", "f", "q", "p"], ["k1", "zero", "aB_", "suc", "mul", "big", "at0"], ["a", "aa", "aaa", "f1", "f10", "p", "pp"]]
theorem menu_len : ∀ m ∈ MENUS, m.length = 7 := by decide +kernel
theorem menu_nd : ∀ m ∈ MENUS, m.Nodup := by decide +kernel
theorem menu_ok : ∀ m ∈ MENUS, ∀ x ∈ m, PyData.strOk x = true ∧ x.length ≤ 40 ∧ (x == ("true" : Str)) = false := by decide +kernel
/-- the symbols of a term over these names -/
def symW (ws : List Str) (f : Str) (n : Nat) : Prop := ((∃ i : Nat, i < 3 ∧ ws[i]? = some f) ∧ n = 0) ∨ (ws[3]? = some f ∧ n = 1) ∨ (ws[4]? = some f ∧ n = 2)
/-- .. and true -/
def symWT (ws : List Str) (f : Str) (n : Nat) : Prop := symW ws f n ∨ (f = "true" ∧ n = 0)
def natVar (k : Key) : Prop := ∃ i : Int, k = .inl i ∧ 0 ≤ i
theorem symW_mem {ws : List Str} {f : Str} {n : Nat} (h : symW ws f n) : f ∈ ws := by
  rcases h with ⟨⟨i, _, e⟩, _⟩ | ⟨e, _⟩ | ⟨e, _⟩ <;> exact List.mem_of_getElem? e
theorem symWT_ok {ws : List Str} (hm : ws ∈ MENUS) {f : Str} {n : Nat} (h : symWT ws f n) : PyData.strOk f = true := by
  rcases h with h | ⟨rfl, _⟩
  · exact (menu_ok ws hm f (symW_mem h)).1
  · decide +kernel
/-! ### weights -/
def wtOf (W : List (Str × Int)) (f : Str) : Int := ((W.find? fun e => decide (e.1 = f)).map (·.2)).getD 1
mutual
def Ter.wt (W : List (Str × Int)) : Ter → Int
  | .var _ => 1
  | .ap f as => wtOf W f + Ter.wts W as
def Ter.wts (W : List (Str × Int)) : List Ter → Int
  | [] => 0
  | a :: r => a.wt W + Ter.wts W r
end
theorem wts_app (W : List (Str × Int)) : ∀ as bs : List Ter, Ter.wts W (as ++ bs) = Ter.wts W as + Ter.wts W bs
  | [], bs => (Int.zero_add _).symm
  | a :: r, bs => by
    show a.wt W + Ter.wts W (r ++ bs) = a.wt W + Ter.wts W r + Ter.wts W bs
    rw [wts_app W r bs]; omega
theorem wts_sum (W : List (Str × Int)) : ∀ as : List Ter, (as.map (Ter.wt W)).sum = Ter.wts W as
  | [] => rfl
  | a :: r => by
    show a.wt W + (r.map (Ter.wt W)).sum = a.wt W + Ter.wts W r
    rw [wts_sum W r]
def wkv (W : List (Str × Int)) : List (Key × V) := W.map fun e => ((.inr e.1 : Key), V.int e.2)
theorem wkv_val (f : Str) : ∀ W : List (Str × Int), (valV (wkv W) (.inr f)).getD (V.int 1) = .int (wtOf W f)
  | [] => rfl
  | e :: r => by
    show (valV (((.inr e.1 : Key), V.int e.2) :: wkv r) (.inr f)).getD (V.int 1) = _
    unfold wtOf
    rw [List.find?_cons]
    by_cases h : e.1 = f
    · rw [valV_pos (congrArg Sum.inr h), decide_eq_true h]; rfl
    · rw [valV_neg (fun z => h (Sum.inr.inj z)), decide_eq_false h]; exact wkv_val f r
theorem wkv_app (W : List (Str × Int)) (f : Str) (n : Int) : wkv (W ++ [(f, n)]) = wkv W ++ [((.inr f : Key), V.int n)] := by unfold wkv; rw [List.map_append]; rfl
theorem wkv_none {f : Str} : ∀ {W : List (Str × Int)}, f ∉ W.map (·.1) → valV (wkv W) (.inr f) = none
  | [], _ => rfl
  | e :: r, h => by
    show valV (((.inr e.1 : Key), V.int e.2) :: wkv r) (.inr f) = none
    rw [valV_neg fun z => h (by rw [← Sum.inr.inj z]; exact List.mem_cons_self)]
    exact wkv_none fun z => h (List.mem_cons_of_mem _ z)
theorem wkv_len (W : List (Str × Int)) : (wkv W).length = W.length := List.length_map _
/-! ### counts of variables -/
mutual
def Ter.cnt (k : Key) : Ter → Int
  | .var x => if x = k then 1 else 0
  | .ap _ as => Ter.cnts k as
def Ter.cnts (k : Key) : List Ter → Int
  | [] => 0
  | a :: r => a.cnt k + Ter.cnts k r
end
theorem cnts_app (k : Key) : ∀ as bs : List Ter, Ter.cnts k (as ++ bs) = Ter.cnts k as + Ter.cnts k bs
  | [], bs => (Int.zero_add _).symm
  | a :: r, bs => by
    show a.cnt k + Ter.cnts k (r ++ bs) = a.cnt k + Ter.cnts k r + Ter.cnts k bs
    rw [cnts_app k r bs]; omega
def ckv (C : List (Key × Int)) : List (Key × V) := C.map fun e => (e.1, V.int e.2)
def lookC (C : List (Key × Int)) (k : Key) : Int := ((C.find? fun e => decide (e.1 = k)).map (·.2)).getD 0
theorem ckv_val (k : Key) : ∀ C : List (Key × Int), (valV (ckv C) k).getD (V.int 0) = .int (lookC C k)
  | [] => rfl
  | e :: r => by
    show (valV ((e.1, V.int e.2) :: ckv r) k).getD (V.int 0) = _
    unfold lookC
    rw [List.find?_cons]
    by_cases h : e.1 = k
    · rw [valV_pos h, decide_eq_true h]; rfl
    · rw [valV_neg h, decide_eq_false h]; exact ckv_val k r
def putC (C : List (Key × Int)) (k : Key) (n : Int) : List (Key × Int) := if (C.any fun e => decide (e.1 = k)) = true then C.map fun e => if e.1 = k then (e.1, n) else e else C ++ [(k, n)]
theorem ckv_put (C : List (Key × Int)) (k : Key) (n : Int) : putK (ckv C) k (V.int n) = ckv (putC C k n) := by
  unfold putC putK ckv
  have e : ((C.map fun e => (e.1, V.int e.2)).any fun kv => decide (kv.1 = k)) = C.any fun kv => decide (kv.1 = k) := by rw [List.any_map]; rfl
  rw [e]
  split
  · rw [List.map_map, List.map_map]
    refine List.map_congr_left fun x _ => ?_
    show (if x.1 = k then (x.1, V.int n) else (x.1, V.int x.2)) = ((if x.1 = k then (x.1, n) else x).1, V.int (if x.1 = k then (x.1, n) else x).2)
    by_cases c : x.1 = k
    · rw [if_pos c, if_pos c]
    · rw [if_neg c, if_neg c]
  · rw [List.map_append]; rfl
theorem lookC_put (k j : Key) (n : Int) : ∀ C : List (Key × Int), lookC (putC C k n) j = if j = k then n else lookC C j := fun C => by
  have h1 := ckv_val j (putC C k n)
  have h2 := ckv_val j C
  rw [← ckv_put, valV_put] at h1
  by_cases c : j = k
  · rw [if_pos c] at h1 ⊢
    exact (V.int.inj h1).symm
  · rw [if_neg c, h2] at h1
    rw [if_neg c]
    exact (V.int.inj h1).symm
theorem putC_len (C : List (Key × Int)) (k : Key) (n : Int) : (putC C k n).length ≤ C.length + 1 := by
  unfold putC
  split
  · rw [List.length_map]; omega
  · rw [List.length_append, List.length_singleton]
    exact Nat.le_refl _
theorem putC_nd {C : List (Key × Int)} {k : Key} {n : Int} (h : (C.map (·.1)).Nodup) : ((putC C k n).map (·.1)).Nodup := by
  unfold putC
  split
  · have e : (C.map fun e => if e.1 = k then (e.1, n) else e).map (·.1) = C.map (·.1) := by
      rw [List.map_map]
      refine List.map_congr_left fun x _ => ?_
      show (if x.1 = k then (x.1, n) else x).1 = x.1
      split <;> rfl
    rw [e]; exact h
  · rename_i c
    rw [List.map_append]
    refine nd_snoc h fun z => c ?_
    obtain ⟨e, he, ek⟩ := List.mem_map.mp z
    exact List.any_eq_true.mpr ⟨e, he, decide_eq_true ek⟩
theorem nodup_sub {α : Type} [DecidableEq α] : ∀ (l m : List α), l.Nodup → (∀ x ∈ l, x ∈ m) → l.length ≤ m.length
  | [], _, _, _ => Nat.zero_le _
  | a :: r, m, nd, h => by
    have nd : a ∉ r ∧ r.Nodup := List.nodup_cons.mp nd
    have ha := h a List.mem_cons_self
    have h1 := nodup_sub r (m.erase a) nd.2 fun x hx => (List.mem_erase_of_ne (fun z => nd.1 (by rw [← z]; exact hx))).mpr (h x (List.mem_cons_of_mem _ hx))
    rw [List.length_erase_of_mem ha] at h1
    have : 0 < m.length := List.length_pos_of_mem ha
    show r.length + 1 ≤ m.length
    omega
end Own
namespace Own
open PySem PySem.Spec PyProof.Rows L2 RT HT
theorem iteNo {c : Bool} {A B : Prop} (hc : c = false) (h : B) : if c = true then A else B := by rw [hc]; exact iteF h
theorem iteYe {c : Bool} {A B : Prop} (hc : c = true) (h : A) : if c = true then A else B := by rw [hc]; exact iteT h
theorem val_not {k : Key} : ∀ {kvs : List (Key × V)}, k ∉ kvs.map (·.1) → valV kvs k = none
  | [], _ => rfl
  | (a, v) :: r, h => by
    rw [valV_neg (fun z => h (by rw [← z]; exact List.mem_cons_self))]
    exact val_not fun z => h (List.mem_cons_of_mem _ z)
theorem nodup_take {α : Type} {l : List α} {i : Nat} {x : α} (nd : l.Nodup) (h : l[i]? = some x) : x ∉ l.take i := fun z => by
  have e : l = l.take i ++ l.drop i := (List.take_append_drop i l).symm
  rw [e] at nd
  refine (List.nodup_append.mp nd).2.2 x z x ?_ rfl
  have : (l.drop i)[0]? = some x := by rw [List.getElem?_drop]; exact h
  exact List.mem_of_getElem? this
/-! ### ranks -/
def rkv : Nat → List Str → List (Key × V)
  | _, [] => []
  | n, x :: r => ((.inr x : Key), V.int (n : Nat)) :: rkv (n + 1) r
theorem rkv_snoc (y : Str) : ∀ (xs : List Str) (n : Nat), rkv n (xs ++ [y]) = rkv n xs ++ [((.inr y : Key), V.int ((n + xs.length : Nat)))]
  | [], n => rfl
  | x :: r, n => by
    show ((.inr x : Key), V.int (n : Nat)) :: rkv (n + 1) (r ++ [y]) = ((.inr x : Key), V.int (n : Nat)) :: (rkv (n + 1) r ++ [((.inr y : Key), V.int ((n + (r.length + 1) : Nat)))])
    rw [rkv_snoc y r (n + 1), show n + 1 + r.length = n + (r.length + 1) by omega]
theorem rkv_keys : ∀ (xs : List Str) (n : Nat), (rkv n xs).map (·.1) = xs.map fun x => (.inr x : Key)
  | [], _ => rfl
  | x :: r, n => congrArg ((.inr x : Key) :: ·) (rkv_keys r (n + 1))
theorem rkv_none {x : Str} {xs : List Str} (n : Nat) (h : x ∉ xs) : valV (rkv n xs) (.inr x) = none := val_not fun z => by
  rw [rkv_keys] at z
  obtain ⟨y, hy, e⟩ := List.mem_map.mp z
  exact h (by rw [← Sum.inr.inj e]; exact hy)
theorem rkv_len : ∀ (xs : List Str) (n : Nat), (rkv n xs).length = xs.length
  | [], _ => rfl
  | x :: r, n => congrArg (· + 1) (rkv_len r (n + 1))
end Own
namespace Own
open PySem PySem.Spec PyProof.Rows L2 RT HT
/-! ### list(d.values()) -/
def tListVals (td : TE) : TE := fun σ H Q => td σ H fun x H1 => ∃ a kvs, x = V.ref a ∧ H1 a = some (.dK kvs) ∧ ∀ p, H1 p = none → Q (.ref p) (upd H1 p (.lst (kvs.map (·.2))))
theorem vals_at {xs : List V} : ∀ {us : List Value}, us.length = xs.length → (∀ (j : Nat) (u : Value), us[j]? = some u → ∃ x, xs[j]? = some x ∧ RelV x u) → Vals xs us := by
  induction xs with
  | nil =>
    intro us h _
    cases us with
    | nil => exact .nil
    | cons u r => cases h
  | cons x xs ih =>
    intro us h k
    cases us with
    | nil => cases h
    | cons u r =>
      obtain ⟨y, h1, h2⟩ := k 0 u rfl
      cases (Option.some.inj (show some x = some y from h1))
      exact .cons h2 (ih (Nat.succ.inj h) fun j v e => k (j + 1) v (by simpa using e))
theorem pe_listVals {X : Cx} {o : Expr} {p pos apos mpos : Pos} {td : TE} (hc : X.calm = true) (hg : Gl X "list") (hm : X.mg "list" = none) (hd : PE X o td) (hbase : attributeBase o "values" X.env (eval o X.env) = eval o X.env := by rfl) (hline : (apos.endLine == mpos.line) = true := by rfl)
    (hse : starEach [Expr.Call (.Attribute o "values" apos) [] [] mpos] X.env = (false, eval (Expr.Call (.Attribute o "values" apos) [] [] mpos) X.env) :: starEach [] X.env := by rfl) :
    PE X (.Call (.Name "list" p) [.Call (.Attribute o "values" apos) [] [] mpos] [] pos) (tListVals td) := by
  refine ⟨fun pins s σ H Q I h => ?_⟩
  refine Call_ (ld_blt I hg hm boot_list (callWith_type1 (args_cons (wpAny_Call_method0_late hbase hline (thn (hd.run pins s σ H _ I h) fun v s1 ⟨x, H1, I1, r1, a, kvs, ex, ha, q⟩ => ?_)) hse) hse rfl))
  subst ex
  obtain rfl : v = Value.ref a := r1
  obtain ⟨z, hsys, vs, rel, dof⟩ := dk_of I1.hok ha
  obtain ⟨ep, dat⟩ := dof.dictAt
  have dat' := dat
  obtain ⟨ob, es, ho, ex, hdat, hko, hpr, hnd⟩ := dat'
  refine ⟨"dict", "dict.values", F.plainAttrs_dict, F.slot_dict_values, F.type_dict_values, ⟨ob, ho, ex.1⟩, fun b e => ?_, Calls.callWith_builtin rfl (PySem.evalArgs_none ?_)⟩
  · cases e
    exact ⟨ob, ho, ex.2.1⟩
  refine call_meetsIn F.slot_dict_values ⟨ob, ho, ex.1⟩ F.entry_dict_values (F.args_dict_values_1 _) (meets_dict_values (mixKind X.prog X.w) a hsys) ⟨⟨vs, dof⟩, ?_⟩
  have k1 : ∀ b u, s1.heap.get? b = some u → (s1.heap.push { cls := .type "dict_values", data := .fields #[.ref a] }).get? b = some u := fun b u e => Heap.get?_push_of_some _ e
  have dat1 : (s1.heap.push { cls := .type "dict_values", data := .fields #[.ref a] }).DictAt (mixKind X.prog X.w) a vs ep := dat.keep k1
  have I2 : Inv X pins σ H1 { s1 with heap := s1.heap.push { cls := .type "dict_values", data := .fields #[.ref a] } } := I1.kept (t' := s1.toks) k1
  refine args_nil ?_
  refine PySem.W.kdl_call (PySem.W.kdl_values (knd := mixKind X.prog X.w) (r := s1.heap.objs.size) (d := a) (kvs := vs) (ep := ep)) (I2.ok.hd hc) ⟨⟨_, Heap.get?_push_size _ rfl, rfl, rfl⟩, dat1⟩ (by rw [← rel.length]; exact Nat.le_of_lt_succ (Nat.lt_succ_of_le z)) fun h' tk acc c' hk hD hacc => ?_
  have hv : Vals (kvs.map (·.2)) acc.toList := by
    refine vals_at (by rw [Array.length_toList, List.length_map, hacc.1, ← rel.length]) fun j u e => ?_
    obtain ⟨k, hk2⟩ := hacc.2 j u (by rw [← Array.getElem?_toList]; exact e)
    obtain ⟨x, h1, h2⟩ := KV.at' rel hk2
    exact ⟨x, by rw [List.getElem?_map, h1]; rfl, h2⟩
  exact ⟨.ref _, upd H1 _ (.lst (kvs.map (·.2))), I2.laid (t' := tk) hk (Nat.le_refl _) (show ObjOk X.prog X.w _ _ _ (.lst (kvs.map (·.2))) from ⟨by rw [List.length_map]; exact z, acc.toList, c', hv, by rw [Array.toArray_toList]; exact hD⟩), rfl, q _ (I2.hok.fresh (Nat.le_refl _))⟩
/-! ### min(list of ints, default=d) -/
def minI (d : Int) : List Int → Int
  | [] => d
  | x :: xs => PySem.W.minOf x xs
def rMinDf (K : PySem.W.Frag) : List V → List V → Hp → VK → Prop := fun vs zs H Q => ∃ (a : Addr) (ns : List Int) (d : Int), vs = [V.ref a] ∧ zs = [.int d] ∧ SqL K H a (ns.map V.int) ∧ Q (.int (minI d ns)) H
theorem cr_minDf {X : Cx} (hc : X.calm = true) (hu : X.A.units + 1 < cLine) : CallRK X (.builtin "min") ["default"] (rMinDf X.K) := by
  intro pins s σ H vs zs us ws Q I r r2 h
  obtain ⟨a, ns, d, rfl, rfl, hs, q⟩ := h
  obtain ⟨its, rv, hl, _⟩ := I.list hs
  rw [Vals.ref1 r]
  cases r2 with
  | cons rd rr =>
    cases rr
    have hd : ∀ {v : Value} {n : Int}, RelV (.int n) v → ∃ t, v = .int n t := fun h => h
    obtain ⟨td, rfl⟩ := hd rd
    obtain ⟨as, ra⟩ := Dp.readsAll I (ns.map PyData.int) (ns.map V.int) its (dp_ints ns) rv
    refine PySem.W.min_list_datum_default (α := Int) (xs := ns) (I.ok.hd hc) hl.isList ⟨as, ra⟩ hu (fun e h' tk hk => ?_) (fun y ys i v h' tk e hi hh hk => ?_)
    · subst e
      exact ⟨.int d, H, I.kept hk, ⟨_, rfl⟩, q⟩
    · subst e
      obtain ⟨bs, rb⟩ := hh
      have hv : ∀ {d : PyData}, Reads h' v d bs → d = .int (PySem.W.minOf y ys) → ∃ t, v = .int (PySem.W.minOf y ys) t := fun r e => by
        subst e
        cases r
        exact ⟨_, rfl⟩
      obtain ⟨t, hv⟩ := hv rb rfl
      rw [hv]
      exact ⟨.int _, H, I.kept hk, ⟨_, rfl⟩, q⟩
/-! ### > of alike data -/
def rGtD (K : PySem.W.Frag) : R2 := fun x y H Q => ∃ d e, Dp K H x d ∧ Dp K H y e ∧ PySem.W.alike d e = true ∧ d ≠ .none ∧ min d.depth e.depth ≤ 60 ∧ Q (.bl (PySem.W.dataLt e d)) H
theorem op_gtD {X : Cx} (room : X.A.units + 65 < cLine) : OpR X (compareOp .Gt) (rGtD X.K) := by
  intro pn t τ G p r vp vr Q J kp kr
  rintro ⟨d, e, h1, h2, al, nn, dl, q⟩
  obtain ⟨_, g1⟩ := Dp.reads J d p vp h1 kp
  obtain ⟨_, g2⟩ := Dp.reads J e r vr h2 kr
  exact PySem.W.gt_data g1 g2 al nn (by omega) ⟨.bl _, G, J, rfl, q⟩
end Own
namespace Own
open PySem PySem.Spec PyProof.Rows L2 RT HT
/-! ### ranks -/
def idxP : List Str → Str → Option Nat
  | [], _ => none
  | y :: r, x => if y = x then some 0 else (idxP r x).map (· + 1)
theorem rkv_val (x : Str) : ∀ (ps : List Str) (n : Nat), valV (rkv n ps) (.inr x) = (idxP ps x).map fun i => V.int ((n + i : Nat))
  | [], _ => rfl
  | y :: r, n => by
    show valV (((.inr y : Key), V.int (n : Nat)) :: rkv (n + 1) r) (.inr x) = ((if y = x then some 0 else (idxP r x).map (· + 1))).map _
    by_cases c : y = x
    · rw [valV_pos (congrArg Sum.inr c), if_pos c]; rfl
    · rw [valV_neg (fun z => c (Sum.inr.inj z)), if_neg c, rkv_val x r (n + 1), Option.map_map]
      cases idxP r x with
      | none => rfl
      | some i => show some (V.int _) = some (V.int _); rw [show n + 1 + i = n + (i + 1) by omega]
theorem idxP_some {x : Str} : ∀ {ps : List Str} {i : Nat}, idxP ps x = some i → ps[i]? = some x ∧ ∀ m, m < i → ps[m]? ≠ some x
  | [], _, h => by cases h
  | y :: r, i, h => by
    have h : (if y = x then some 0 else (idxP r x).map (· + 1)) = some i := h
    by_cases c : y = x
    · rw [if_pos c] at h
      cases h
      exact ⟨by rw [c]; rfl, fun m hm => absurd hm (Nat.not_lt_zero m)⟩
    · rw [if_neg c] at h
      obtain ⟨j, hj, rfl⟩ := Option.map_eq_some_iff.mp h
      obtain ⟨h1, h2⟩ := idxP_some hj
      refine ⟨h1, fun m hm => ?_⟩
      cases m with
      | zero => exact fun z => c (Option.some.inj z)
      | succ k => exact h2 k (by omega)
theorem idxP_mem {x : Str} : ∀ {ps : List Str}, (idxP ps x).isSome = true ↔ x ∈ ps
  | [] => ⟨fun h => (by cases h), fun h => (by cases h)⟩
  | y :: r => by
    show (if y = x then some 0 else (idxP r x).map (· + 1)).isSome = true ↔ _
    by_cases c : y = x
    · rw [if_pos c]
      exact ⟨fun _ => by rw [c]; exact List.mem_cons_self, fun _ => rfl⟩
    · rw [if_neg c, Option.isSome_map, idxP_mem]
      exact ⟨List.mem_cons_of_mem _, fun h => by
        rcases List.mem_cons.mp h with h | h
        · exact absurd h.symm c
        · exact h⟩
def rnk (ps : List Str) (x : Str) : List PyData := if x = "true" then [.int 0, .int 0, .str ""] else match idxP ps x with
  | some i => [.int 1, .int (i : Nat), .str ""]
  | none => [.int 2, .int 0, .str x]
/-- the law's word for it -/
def lhi (ps : List Str) (f g : Str) : Bool := if f = g then false else if f = "true" ∨ g = "true" then decide (g = "true") else
  match idxP ps f, idxP ps g with
  | some i, some j => decide (j < i)
  | some _, none => false
  | none, some _ => true
  | none, none => decide (g.cps.toList < f.cps.toList)
theorem lt3 (a b c d : Int) (s t : Str) : PySem.W.dataLt (.tuple [.int a, .int b, .str s]) (.tuple [.int c, .int d, .str t]) = if a = c then (if b = d then decide (s.cps.toList < t.cps.toList) else decide (b < d)) else decide (a < c) := by
  have z : PyProof.Rows.lexLt PyProof.Rows.itemOrd (PySem.W.keyToksAll []) (PySem.W.keyToksAll []) = false := lex_irrefl _
  have ei : ∀ x y : Int, (PyData.eqv (.int x) (.int y) = true) ↔ x = y := fun x y => by
    show (decide (x = y) = true) ↔ _
    exact decide_eq_true_iff
  have es : ∀ x y : Str, (PyData.eqv (.str x) (.str y) = true) ↔ x = y := fun x y => by
    show ((x == y) = true) ↔ _
    exact beq_iff_eq
  rw [PySem.W.dataLt_tuple, PySem.W.dataLt_cons rfl]
  by_cases h1 : a = c
  · rw [if_pos ((ei _ _).mpr h1), if_pos h1, PySem.W.dataLt_cons rfl]
    by_cases h2 : b = d
    · rw [if_pos ((ei _ _).mpr h2), if_pos h2, PySem.W.dataLt_cons rfl]
      by_cases h3 : s = t
      · rw [if_pos ((es _ _).mpr h3), z, h3]
        exact (decide_eq_false (List.lt_irrefl _)).symm
      · rw [if_neg (fun q => h3 ((es _ _).mp q)), PySem.W.dataLt_str]
    · rw [if_neg (fun q => h2 ((ei _ _).mp q)), if_neg h2, PySem.W.dataLt_int]
  · rw [if_neg (fun q => h1 ((ei _ _).mp q)), if_neg h1, PySem.W.dataLt_int]
theorem hi_lhi (ps : List Str) (f g : Str) : PySem.W.dataLt (.tuple (rnk ps g)) (.tuple (rnk ps f)) = lhi ps f g := by
  unfold rnk lhi
  by_cases e : f = g
  · subst e
    rw [if_pos rfl]
    exact PySem.W.dataLt_self _
  · rw [if_neg e]
    by_cases cf : f = "true"
    · have cg : ¬ g = "true" := fun z => e (cf.trans z.symm)
      rw [if_neg cg, if_pos cf, if_pos (.inl cf), decide_eq_false cg]
      cases idxP ps g with
      | some j => show PySem.W.dataLt (.tuple [.int 1, .int (j : Nat), .str ""]) (.tuple [.int 0, .int 0, .str ""]) = _; rw [lt3, if_neg (by decide)]; rfl
      | none => show PySem.W.dataLt (.tuple [.int 2, .int 0, .str g]) (.tuple [.int 0, .int 0, .str ""]) = _; rw [lt3, if_neg (by decide)]; rfl
    · rw [if_neg cf]
      by_cases cg : g = "true"
      · rw [if_pos cg, if_pos (.inr cg), decide_eq_true cg]
        cases idxP ps f with
        | some j => show PySem.W.dataLt (.tuple [.int 0, .int 0, .str ""]) (.tuple [.int 1, .int (j : Nat), .str ""]) = _; rw [lt3, if_neg (by decide)]; rfl
        | none => show PySem.W.dataLt (.tuple [.int 0, .int 0, .str ""]) (.tuple [.int 2, .int 0, .str f]) = _; rw [lt3, if_neg (by decide)]; rfl
      · rw [if_neg cg, if_neg (fun h => h.elim cf cg)]
        cases hf : idxP ps f with
        | some i =>
          cases hg : idxP ps g with
          | some j =>
            show PySem.W.dataLt (.tuple [.int 1, .int (j : Nat), .str ""]) (.tuple [.int 1, .int (i : Nat), .str ""]) = decide (j < i)
            rw [lt3, if_pos rfl]
            by_cases c : (j : Int) = (i : Nat)
            · have : j = i := by omega
              subst this
              rw [if_pos rfl, decide_eq_false (List.lt_irrefl _), decide_eq_false (Nat.lt_irrefl _)]
            · rw [if_neg c]
              exact decide_eq_decide.mpr (by omega)
          | none => show PySem.W.dataLt (.tuple [.int 2, .int 0, .str g]) (.tuple [.int 1, .int (i : Nat), .str ""]) = _; rw [lt3, if_neg (by decide)]; rfl
        | none =>
          cases hg : idxP ps g with
          | some j => show PySem.W.dataLt (.tuple [.int 1, .int (j : Nat), .str ""]) (.tuple [.int 2, .int 0, .str f]) = _; rw [lt3, if_neg (by decide)]; rfl
          | none => show PySem.W.dataLt (.tuple [.int 2, .int 0, .str g]) (.tuple [.int 2, .int 0, .str f]) = _; rw [lt3, if_pos rfl, if_pos rfl]
theorem lhi_not {ps : List Str} {f g : Str} (h : lhi ps f g = true) : lhi ps g f = false := by
  rw [← hi_lhi] at h ⊢
  cases c : PySem.W.dataLt (.tuple (rnk ps f)) (.tuple (rnk ps g)) with
  | false => rfl
  | true => exact absurd (lex_trans (O := PyProof.Rows.itemOrd) _ _ _ c h) (by rw [lex_irrefl]; decide)
theorem idxP_inj {ps : List Str} {f g : Str} {i : Nat} (h1 : idxP ps f = some i) (h2 : idxP ps g = some i) : f = g := Option.some.inj ((idxP_some h1).1.symm.trans (idxP_some h2).1)
theorem lhi_or {ps : List Str} {f g : Str} (e : f ≠ g) (h : lhi ps f g = false) : lhi ps g f = true := by
  unfold lhi at h ⊢
  rw [if_neg e] at h
  rw [if_neg e.symm]
  by_cases c : f = "true" ∨ g = "true"
  · rw [if_pos c] at h
    rw [if_pos c.symm]
    exact decide_eq_true (c.elim id fun z => absurd z (of_decide_eq_false h))
  · rw [if_neg c] at h
    rw [if_neg (fun z => c z.symm)]
    cases hf : idxP ps f with
    | some i =>
      cases hg : idxP ps g with
      | some j =>
        rw [hf, hg] at h
        have h : ¬ j < i := of_decide_eq_false h
        have : i ≠ j := fun z => e (idxP_inj hf (by rw [hg, z]))
        exact decide_eq_true (by omega)
      | none => rfl
    | none =>
      cases hg : idxP ps g with
      | some j => rw [hf, hg] at h; exact absurd h Bool.noConfusion
      | none =>
        rw [hf, hg] at h
        have h : ¬ g.cps.toList < f.cps.toList := of_decide_eq_false h
        refine decide_eq_true ?_
        have le : f.cps.toList ≤ g.cps.toList := List.not_lt.mp h
        refine Classical.byContradiction fun n => e ?_
        exact PySem.W.str_of_cps (List.le_antisymm le (List.not_lt.mp n))
end Own
namespace Own
open PySem PySem.Spec PyProof.Rows L2 RT HT
/-! ### the ordering of terms -/
def cge (a b : Ter) : Prop := ∀ k, b.cnt k ≤ a.cnt k
def fdiff : List Ter → List Ter → Option (Ter × Ter)
  | a :: r, b :: s => if eT a b = true then fdiff r s else some (a, b)
  | _, _ => none
theorem fdiff_comm : ∀ as bs : List Ter, fdiff bs as = (fdiff as bs).map fun p => (p.2, p.1)
  | [], [] => rfl
  | [], _ :: _ => rfl
  | _ :: _, [] => rfl
  | a :: r, b :: s => by
    show (if eT b a = true then fdiff s r else some (b, a)) = (if eT a b = true then fdiff r s else some (a, b)).map _
    rw [eT_comm b a]
    by_cases c : eT a b = true
    · rw [if_pos c, if_pos c]; exact fdiff_comm r s
    · rw [if_neg c, if_neg c]; rfl
theorem fdiff_ne : ∀ {as bs : List Ter} {p : Ter × Ter}, fdiff as bs = some p → eT p.1 p.2 = false
  | [], [], _, h => by cases h
  | [], _ :: _, _, h => by cases h
  | _ :: _, [], _, h => by cases h
  | a :: r, b :: s, p, h => by
    have h : (if eT a b = true then fdiff r s else some (a, b)) = some p := h
    by_cases c : eT a b = true
    · rw [if_pos c] at h; exact fdiff_ne h
    · rw [if_neg c] at h
      cases h
      exact Bool.eq_false_iff.mpr c
def grs (ps : List Str) (g : Ter → Ter → Prop) : Ter → Ter → Prop
  | .ap f as, .ap h bs => if f = h then (match fdiff as bs with
    | some p => g p.1 p.2
    | none => False) else lhi ps f h = true
  | _, _ => False
def gre (W : List (Str × Int)) (ps : List Str) : Nat → Ter → Ter → Prop
  | 0, _, _ => False
  | n + 1, a, b => cge a b ∧ (if a.wt W = b.wt W then grs ps (gre W ps n) a b else b.wt W < a.wt W)
theorem grs_v (ps : List Str) (g : Ter → Ter → Prop) (k : Key) (b : Ter) : grs ps g (.var k) b = False := by cases b <;> rfl
theorem grs_w (ps : List Str) (g : Ter → Ter → Prop) (k : Key) (b : Ter) : grs ps g b (.var k) = False := by cases b <;> rfl
theorem gre_not (W : List (Str × Int)) (ps : List Str) : ∀ (n : Nat) (a b : Ter), gre W ps n a b → ¬ gre W ps n b a
  | 0, _, _, h => h.elim
  | n + 1, a, b, h => fun h' => by
    obtain ⟨_, h⟩ := h
    obtain ⟨_, h'⟩ := h'
    by_cases e : a.wt W = b.wt W
    · rw [if_pos e] at h
      rw [if_pos e.symm] at h'
      cases a with
      | var k => rw [grs_v] at h; exact h
      | ap f as =>
        cases b with
        | var k => rw [grs_w] at h; exact h
        | ap g bs =>
          have h : if f = g then (match fdiff as bs with
            | some p => gre W ps n p.1 p.2
            | none => False) else lhi ps f g = true := h
          have h' : if g = f then (match fdiff bs as with
            | some p => gre W ps n p.1 p.2
            | none => False) else lhi ps g f = true := h'
          by_cases c : f = g
          · rw [if_pos c] at h
            rw [if_pos c.symm, fdiff_comm as bs] at h'
            cases z : fdiff as bs with
            | none => rw [z] at h; exact h
            | some p =>
              rw [z] at h h'
              exact gre_not W ps n p.1 p.2 h h'
          · rw [if_neg c] at h
            rw [if_neg (fun z => c z.symm), lhi_not h] at h'
            cases h'
    · rw [if_neg e] at h
      rw [if_neg (fun z => e z.symm)] at h'
      omega
open Classical in
noncomputable def cmpS (W : List (Str × Int)) (ps : List Str) (n : Nat) (a b : Ter) : Str := if eT a b = true then "equal" else if gre W ps n a b then "greater" else if gre W ps n b a then "less" else "incomparable"
noncomputable def symS (W : List (Str × Int)) (ps : List Str) (n : Nat) : Ter → Ter → Str
  | .ap f as, .ap g bs => if f = g then (match fdiff as bs with
    | some p => cmpS W ps n p.1 p.2
    | none => "incomparable") else if lhi ps f g = true then "greater" else "less"
  | _, _ => "incomparable"
theorem symS_ap (W : List (Str × Int)) (ps : List Str) (n : Nat) (f g : Str) (as bs : List Ter) : symS W ps n (.ap f as) (.ap g bs) = (if f = g then (match fdiff as bs with
    | some p => cmpS W ps n p.1 p.2
    | none => ("incomparable" : Str)) else if lhi ps f g = true then ("greater" : Str) else ("less" : Str) : Str) := rfl
noncomputable def rawS (W : List (Str × Int)) (ps : List Str) (n : Nat) (a b : Ter) : Str := if a.wt W = b.wt W then symS W ps n a b else if b.wt W < a.wt W then "greater" else "less"
theorem str_gl : ("greater" : Str) ≠ "less" := by decide +kernel
theorem str_ig : ("incomparable" : Str) ≠ "greater" := by decide +kernel
theorem str_il : ("incomparable" : Str) ≠ "less" := by decide +kernel
/-- what the sides of a comparison of weight and symbols say -/
theorem raw_cases (W : List (Str × Int)) (ps : List Str) (n : Nat) (a b : Ter) : (rawS W ps n a b = "greater" ∧ (gre W ps (n + 1) a b ↔ cge a b) ∧ ¬ gre W ps (n + 1) b a) ∨ (rawS W ps n a b = "less" ∧ (gre W ps (n + 1) b a ↔ cge b a) ∧ ¬ gre W ps (n + 1) a b) ∨ (rawS W ps n a b = "incomparable" ∧ ¬ gre W ps (n + 1) a b ∧ ¬ gre W ps (n + 1) b a) := by
  unfold rawS
  by_cases e : a.wt W = b.wt W
  · rw [if_pos e]
    have g1 : gre W ps (n + 1) a b ↔ cge a b ∧ grs ps (gre W ps n) a b := by
      show (cge a b ∧ (if a.wt W = b.wt W then _ else _)) ↔ _
      rw [if_pos e]
    have g2 : gre W ps (n + 1) b a ↔ cge b a ∧ grs ps (gre W ps n) b a := by
      show (cge b a ∧ (if b.wt W = a.wt W then _ else _)) ↔ _
      rw [if_pos e.symm]
    cases a with
    | var k =>
      rw [grs_v] at g1
      rw [grs_w] at g2
      exact .inr (.inr ⟨by cases b <;> rfl, fun h => (g1.mp h).2, fun h => (g2.mp h).2⟩)
    | ap f as =>
      cases b with
      | var k =>
        rw [grs_w] at g1
        rw [grs_v] at g2
        exact .inr (.inr ⟨rfl, fun h => (g1.mp h).2, fun h => (g2.mp h).2⟩)
      | ap g bs =>
        rw [symS_ap]
        by_cases c : f = g
        · have g1 : gre W ps (n + 1) (.ap f as) (.ap g bs) ↔ cge (.ap f as) (.ap g bs) ∧ (match fdiff as bs with
            | some p => gre W ps n p.1 p.2
            | none => False) := by
            have g1 : _ ↔ _ ∧ (if f = g then _ else _) := g1
            rw [if_pos c] at g1; exact g1
          have g2 : gre W ps (n + 1) (.ap g bs) (.ap f as) ↔ cge (.ap g bs) (.ap f as) ∧ (match fdiff bs as with
            | some p => gre W ps n p.1 p.2
            | none => False) := by
            have g2 : _ ↔ _ ∧ (if g = f then _ else _) := g2
            rw [if_pos c.symm] at g2; exact g2
          rw [if_pos c]
          rw [fdiff_comm as bs] at g2
          cases z : fdiff as bs with
          | none =>
            rw [z] at g1 g2
            exact .inr (.inr ⟨rfl, fun h => (g1.mp h).2, fun h => (g2.mp h).2⟩)
          | some p =>
            rw [z] at g1 g2
            have g1 : gre W ps (n + 1) (.ap f as) (.ap g bs) ↔ cge (.ap f as) (.ap g bs) ∧ gre W ps n p.1 p.2 := g1
            have g2 : gre W ps (n + 1) (.ap g bs) (.ap f as) ↔ cge (.ap g bs) (.ap f as) ∧ gre W ps n p.2 p.1 := g2
            have ne := fdiff_ne z
            show (cmpS W ps n p.1 p.2 = _ ∧ _) ∨ (cmpS W ps n p.1 p.2 = _ ∧ _) ∨ (cmpS W ps n p.1 p.2 = _ ∧ _)
            unfold cmpS
            rw [if_neg (by rw [ne]; exact Bool.false_ne_true)]
            by_cases h1 : gre W ps n p.1 p.2
            · have h2 := gre_not W ps n _ _ h1
              rw [if_pos h1]
              exact .inl ⟨rfl, ⟨fun h => (g1.mp h).1, fun h => g1.mpr ⟨h, h1⟩⟩, fun h => h2 (g2.mp h).2⟩
            · rw [if_neg h1]
              by_cases h2 : gre W ps n p.2 p.1
              · rw [if_pos h2]
                exact .inr (.inl ⟨rfl, ⟨fun h => (g2.mp h).1, fun h => g2.mpr ⟨h, h2⟩⟩, fun h => h1 (g1.mp h).2⟩)
              · rw [if_neg h2]
                exact .inr (.inr ⟨rfl, fun h => h1 (g1.mp h).2, fun h => h2 (g2.mp h).2⟩)
        · have g1 : gre W ps (n + 1) (.ap f as) (.ap g bs) ↔ cge (.ap f as) (.ap g bs) ∧ lhi ps f g = true := by
            have g1 : _ ↔ _ ∧ (if f = g then _ else _) := g1
            rw [if_neg c] at g1; exact g1
          have g2 : gre W ps (n + 1) (.ap g bs) (.ap f as) ↔ cge (.ap g bs) (.ap f as) ∧ lhi ps g f = true := by
            have g2 : _ ↔ _ ∧ (if g = f then _ else _) := g2
            rw [if_neg (fun z => c z.symm)] at g2; exact g2
          rw [if_neg c]
          cases hh : lhi ps f g with
          | true =>
            rw [if_pos rfl]
            exact .inl ⟨rfl, ⟨fun h => (g1.mp h).1, fun h => g1.mpr ⟨h, hh⟩⟩, fun h => by rw [lhi_not hh] at g2; exact Bool.false_ne_true (g2.mp h).2⟩
          | false =>
            rw [if_neg Bool.false_ne_true]
            have h2 := lhi_or c hh
            exact .inr (.inl ⟨rfl, ⟨fun h => (g2.mp h).1, fun h => g2.mpr ⟨h, h2⟩⟩, fun h => by rw [hh] at g1; exact Bool.false_ne_true (g1.mp h).2⟩)
  · have g1 : gre W ps (n + 1) a b ↔ cge a b ∧ b.wt W < a.wt W := by
      show (cge a b ∧ (if a.wt W = b.wt W then _ else _)) ↔ _
      rw [if_neg e]
    have g2 : gre W ps (n + 1) b a ↔ cge b a ∧ a.wt W < b.wt W := by
      show (cge b a ∧ (if b.wt W = a.wt W then _ else _)) ↔ _
      rw [if_neg (fun z => e z.symm)]
    rw [if_neg e]
    by_cases c : b.wt W < a.wt W
    · rw [if_pos c]
      exact .inl ⟨rfl, ⟨fun h => (g1.mp h).1, fun h => g1.mpr ⟨h, c⟩⟩, fun h => by have := (g2.mp h).2; omega⟩
    · rw [if_neg c]
      exact .inr (.inl ⟨rfl, ⟨fun h => (g2.mp h).1, fun h => g2.mpr ⟨h, by omega⟩⟩, fun h => by have := (g1.mp h).2; omega⟩)
theorem cmp_raw {W : List (Str × Int)} {ps : List Str} {n : Nat} {a b : Ter} (h : eT a b = false) :
    (rawS W ps n a b = "greater" → cmpS W ps (n + 1) a b = (open Classical in if cge a b then "greater" else "incomparable")) ∧ (rawS W ps n a b = "less" → cmpS W ps (n + 1) a b = (open Classical in if cge b a then "less" else "incomparable")) ∧
    (rawS W ps n a b ≠ "greater" → rawS W ps n a b ≠ "less" → cmpS W ps (n + 1) a b = rawS W ps n a b) := by
  unfold cmpS
  rw [if_neg (by rw [h]; exact Bool.false_ne_true)]
  rcases raw_cases W ps n a b with ⟨e, g1, g2⟩ | ⟨e, g1, g2⟩ | ⟨e, g1, g2⟩
  · rw [e]
    refine ⟨fun _ => ?_, fun z => absurd z str_gl, fun z => absurd rfl z⟩
    by_cases c : cge a b
    · rw [if_pos (g1.mpr c), if_pos c]
    · rw [if_neg (fun z => c (g1.mp z)), if_neg g2, if_neg c]
  · rw [e]
    refine ⟨fun z => absurd z.symm str_gl, fun _ => ?_, fun _ z => absurd rfl z⟩
    rw [if_neg g2]
    by_cases c : cge b a
    · rw [if_pos (g1.mpr c), if_pos c]
    · rw [if_neg (fun z => c (g1.mp z)), if_neg c]
  · rw [e]
    refine ⟨fun z => absurd z str_ig, fun z => absurd z str_il, fun _ _ => ?_⟩
    rw [if_neg g1, if_neg g2]
end Own
namespace Own
open PySem PySem.Spec PyProof.Rows L2 RT HT
theorem minOf_neg : ∀ (ys : List Int) (y : Int), PySem.W.minOf y ys < 0 ↔ y < 0 ∨ ∃ x ∈ ys, x < 0
  | [], y => ⟨fun h => .inl h, fun h => h.elim id fun ⟨x, hx, _⟩ => nomatch hx⟩
  | z :: r, y => by
    have e : PySem.W.minOf y (z :: r) = PySem.W.minOf (if decide (z < y) = true then z else y) r := rfl
    rw [e, minOf_neg r]
    constructor
    · rintro (h | ⟨x, hx, h⟩)
      · by_cases c : z < y
        · rw [if_pos (decide_eq_true c)] at h
          exact .inr ⟨z, List.mem_cons_self, h⟩
        · rw [if_neg (by rw [decide_eq_false c]; exact Bool.false_ne_true)] at h
          exact .inl h
      · exact .inr ⟨x, List.mem_cons_of_mem _ hx, h⟩
    · rintro (h | ⟨x, hx, h⟩)
      · by_cases c : z < y
        · rw [if_pos (decide_eq_true c)]; exact .inl (by omega)
        · rw [if_neg (by rw [decide_eq_false c]; exact Bool.false_ne_true)]; exact .inl h
      · rcases List.mem_cons.mp hx with rfl | hx
        · by_cases c : x < y
          · rw [if_pos (decide_eq_true c)]; exact .inl h
          · rw [if_neg (by rw [decide_eq_false c]; exact Bool.false_ne_true)]; exact .inl (by omega)
        · exact .inr ⟨x, hx, h⟩
theorem maxOf_pos : ∀ (ys : List Int) (y : Int), 0 < PySem.W.maxOf y ys ↔ 0 < y ∨ ∃ x ∈ ys, 0 < x
  | [], y => ⟨fun h => .inl h, fun h => h.elim id fun ⟨x, hx, _⟩ => nomatch hx⟩
  | z :: r, y => by
    have e : PySem.W.maxOf y (z :: r) = PySem.W.maxOf (if decide (y < z) = true then z else y) r := rfl
    rw [e, maxOf_pos r]
    constructor
    · rintro (h | ⟨x, hx, h⟩)
      · by_cases c : y < z
        · rw [if_pos (decide_eq_true c)] at h
          exact .inr ⟨z, List.mem_cons_self, h⟩
        · rw [if_neg (by rw [decide_eq_false c]; exact Bool.false_ne_true)] at h
          exact .inl h
      · exact .inr ⟨x, List.mem_cons_of_mem _ hx, h⟩
    · rintro (h | ⟨x, hx, h⟩)
      · by_cases c : y < z
        · rw [if_pos (decide_eq_true c)]; exact .inl (by omega)
        · rw [if_neg (by rw [decide_eq_false c]; exact Bool.false_ne_true)]; exact .inl h
      · rcases List.mem_cons.mp hx with rfl | hx
        · by_cases c : y < x
          · rw [if_pos (decide_eq_true c)]; exact .inl h
          · rw [if_neg (by rw [decide_eq_false c]; exact Bool.false_ne_true)]; exact .inl (by omega)
        · exact .inr ⟨x, hx, h⟩
theorem minI_neg (ns : List Int) : minI 0 ns < 0 ↔ ∃ x ∈ ns, x < 0 := by
  cases ns with
  | nil => exact ⟨fun h => absurd h (Int.lt_irrefl 0), fun ⟨x, hx, _⟩ => nomatch hx⟩
  | cons y r =>
    show PySem.W.minOf y r < 0 ↔ _
    rw [minOf_neg]
    exact ⟨fun h => h.elim (fun h => ⟨y, List.mem_cons_self, h⟩) fun ⟨x, hx, h⟩ => ⟨x, List.mem_cons_of_mem _ hx, h⟩, fun ⟨x, hx, h⟩ => by
      rcases List.mem_cons.mp hx with rfl | hx
      · exact .inl h
      · exact .inr ⟨x, hx, h⟩⟩
theorem maxI_pos (ns : List Int) : 0 < maxI 0 ns ↔ ∃ x ∈ ns, 0 < x := by
  cases ns with
  | nil => exact ⟨fun h => absurd h (Int.lt_irrefl 0), fun ⟨x, hx, _⟩ => nomatch hx⟩
  | cons y r =>
    show 0 < PySem.W.maxOf y r ↔ _
    rw [maxOf_pos]
    exact ⟨fun h => h.elim (fun h => ⟨y, List.mem_cons_self, h⟩) fun ⟨x, hx, h⟩ => ⟨x, List.mem_cons_of_mem _ hx, h⟩, fun ⟨x, hx, h⟩ => by
      rcases List.mem_cons.mp hx with rfl | hx
      · exact .inl h
      · exact .inr ⟨x, hx, h⟩⟩
theorem lookC_mem : ∀ {Cs : List (Key × Int)} {e : Key × Int}, (Cs.map (·.1)).Nodup → e ∈ Cs → lookC Cs e.1 = e.2
  | [], _, _, h => nomatch h
  | p :: r, e, nd, h => by
    have nd : p.1 ∉ r.map (·.1) ∧ (r.map (·.1)).Nodup := List.nodup_cons.mp nd
    unfold lookC
    rw [List.find?_cons]
    rcases List.mem_cons.mp h with rfl | h
    · rw [decide_eq_true rfl]; rfl
    · rw [decide_eq_false (fun z : p.1 = e.1 => nd.1 (by rw [z]; exact List.mem_map_of_mem h))]
      exact lookC_mem nd.2 h
theorem lookC_ex {Cs : List (Key × Int)} {k : Key} (h : lookC Cs k ≠ 0) : ∃ e ∈ Cs, e.1 = k ∧ e.2 = lookC Cs k := by
  unfold lookC at h ⊢
  cases z : Cs.find? fun e => decide (e.1 = k) with
  | none => rw [z] at h; exact absurd rfl h
  | some e => exact ⟨e, List.mem_of_find?_eq_some z, of_decide_eq_true (p := e.1 = k) (List.find?_some (p := fun e : Key × Int => decide (e.1 = k)) z), rfl⟩
/-- the surplus of a comparison -/
theorem surplus {Cs : List (Key × Int)} (nd : (Cs.map (·.1)).Nodup) {a b : Ter} (h : ∀ k, lookC Cs k = a.cnt k - b.cnt k) : (minI 0 (Cs.map (·.2)) < 0 ↔ ¬ cge a b) ∧ (0 < maxI 0 (Cs.map (·.2)) ↔ ¬ cge b a) := by
  rw [minI_neg, maxI_pos]
  refine ⟨⟨fun ⟨x, hx, lt⟩ g => ?_, fun g => ?_⟩, ⟨fun ⟨x, hx, lt⟩ g => ?_, fun g => ?_⟩⟩
  · obtain ⟨e, he, rfl⟩ := List.mem_map.mp hx
    have := lookC_mem nd he
    have := h e.1
    have := g e.1
    omega
  · obtain ⟨k, hk⟩ := Classical.not_forall.mp g
    have := h k
    obtain ⟨e, he, _, e2⟩ := lookC_ex (Cs := Cs) (k := k) (by omega)
    exact ⟨e.2, List.mem_map_of_mem he, by omega⟩
  · obtain ⟨e, he, rfl⟩ := List.mem_map.mp hx
    have := lookC_mem nd he
    have := h e.1
    have := g e.1
    omega
  · obtain ⟨k, hk⟩ := Classical.not_forall.mp g
    have := h k
    obtain ⟨e, he, _, e2⟩ := lookC_ex (Cs := Cs) (k := k) (by omega)
    exact ⟨e.2, List.mem_map_of_mem he, by omega⟩
/-- symbols with one arity each -/
structure SymF (S : Str → Nat → Prop) : Prop where
  fn : ∀ f n m, S f n → S f m → n = m
  ok : ∀ f n, S f n → PyData.strOk f = true
theorem SymF.fine {S : Str → Nat → Prop} (F : SymF S) {t : Ter} (h : t.wf S natVar) : t.wf symFine keyFine := wf_mono (fun f n h => F.ok f n h) (fun k h => by obtain ⟨i, rfl, _⟩ := h; trivial) t h
theorem symF_T {ws : List Str} (hm : ws ∈ MENUS) : SymF (symWT ws) := by
  have l7 := menu_len ws hm
  have nd := menu_nd ws hm
  have inj : ∀ {i j : Nat} {f : Str}, ws[i]? = some f → ws[j]? = some f → i = j := fun {i j f} h1 h2 => (List.getElem?_inj (List.getElem?_eq_some_iff.mp h1).1 nd).mp (h1.trans h2.symm)
  have tr : ∀ {i : Nat}, ws[i]? ≠ some "true" := fun {i} h => by
    have := (menu_ok ws hm _ (List.mem_of_getElem? h)).2.2
    exact absurd this (by decide +kernel)
  refine ⟨fun f n m h1 h2 => ?_, fun f n h => symWT_ok hm h⟩
  rcases h1 with (⟨⟨i, hi, e1⟩, rfl⟩ | ⟨e1, rfl⟩ | ⟨e1, rfl⟩) | ⟨rfl, rfl⟩
  · rcases h2 with (⟨_, rfl⟩ | ⟨e2, rfl⟩ | ⟨e2, rfl⟩) | ⟨rfl, rfl⟩
    · rfl
    · have := inj e1 e2; omega
    · have := inj e1 e2; omega
    · rfl
  · rcases h2 with (⟨⟨j, hj, e2⟩, rfl⟩ | ⟨e2, rfl⟩ | ⟨e2, rfl⟩) | ⟨rfl, rfl⟩
    · have := inj e1 e2; omega
    · rfl
    · have := inj e1 e2; omega
    · exact absurd e1 tr
  · rcases h2 with (⟨⟨j, hj, e2⟩, rfl⟩ | ⟨e2, rfl⟩ | ⟨e2, rfl⟩) | ⟨rfl, rfl⟩
    · have := inj e1 e2; omega
    · have := inj e1 e2; omega
    · rfl
    · exact absurd e1 tr
  · rcases h2 with (⟨⟨j, hj, e2⟩, rfl⟩ | ⟨e2, rfl⟩ | ⟨e2, rfl⟩) | ⟨_, rfl⟩
    · rfl
    · exact absurd e2 tr
    · exact absurd e2 tr
    · rfl
end Own
namespace Own
open PySem PySem.Spec PyProof.Rows L2 RT HT
mutual
theorem eT_eq : ∀ a b : Ter, eT a b = true → a = b
  | .var (.inl i), .var (.inl j), h => by
    have h : decide (i = j) = true := h
    rw [of_decide_eq_true h]
  | .var (.inr x), .var (.inr y), h => by
    have h : (x == y) = true := h
    rw [beq_iff_eq.mp h]
  | .var (.inl _), .var (.inr _), h => by cases (show false = true from h)
  | .var (.inr _), .var (.inl _), h => by cases (show false = true from h)
  | .var (.inl _), .ap _ _, h => by cases (show false = true from h)
  | .var (.inr _), .ap _ _, h => by cases (show false = true from h)
  | .ap _ _, .var (.inl _), h => by cases (show false = true from h)
  | .ap _ _, .var (.inr _), h => by cases (show false = true from h)
  | .ap f as, .ap g bs, h => by
    have h : ((f == g) && PyData.eqvAll (Ter.dats as) (Ter.dats bs)) = true := h
    rw [Bool.and_eq_true] at h
    rw [beq_iff_eq.mp h.1, eTs_eq as bs h.2]
theorem eTs_eq : ∀ as bs : List Ter, PyData.eqvAll (Ter.dats as) (Ter.dats bs) = true → as = bs
  | [], [], _ => rfl
  | [], _ :: _, h => by cases (show false = true from h)
  | _ :: _, [], h => by cases (show false = true from h)
  | a :: r, b :: s, h => by
    have h : (eT a b && PyData.eqvAll (Ter.dats r) (Ter.dats s)) = true := h
    rw [Bool.and_eq_true] at h
    rw [eT_eq a b h.1, eTs_eq r s h.2]
end
theorem eT_iff (a b : Ter) : eT a b = true ↔ a = b := ⟨eT_eq a b, fun h => by rw [h]; exact eT_refl b⟩
theorem fdiff_none : ∀ {as bs : List Ter}, as.length = bs.length → fdiff as bs = none → as = bs
  | [], [], _, _ => rfl
  | [], _ :: _, h, _ => by cases h
  | _ :: _, [], h, _ => by cases h
  | a :: r, b :: s, l, h => by
    have h : (if eT a b = true then fdiff r s else some (a, b)) = none := h
    by_cases c : eT a b = true
    · rw [if_pos c] at h
      rw [eT_eq a b c, fdiff_none (Nat.succ.inj l) h]
    · rw [if_neg c] at h; cases h
theorem fdiff_mem : ∀ {as bs : List Ter} {p : Ter × Ter}, fdiff as bs = some p → p.1 ∈ as ∧ p.2 ∈ bs
  | [], [], _, h => by cases h
  | [], _ :: _, _, h => by cases h
  | _ :: _, [], _, h => by cases h
  | a :: r, b :: s, p, h => by
    have h : (if eT a b = true then fdiff r s else some (a, b)) = some p := h
    by_cases c : eT a b = true
    · rw [if_pos c] at h
      obtain ⟨h1, h2⟩ := fdiff_mem h
      exact ⟨List.mem_cons_of_mem _ h1, List.mem_cons_of_mem _ h2⟩
    · rw [if_neg c] at h
      cases h
      exact ⟨List.mem_cons_self, List.mem_cons_self⟩
theorem gre_irr (W : List (Str × Int)) (ps : List Str) (n : Nat) (a : Ter) : ¬ gre W ps n a a := fun h => gre_not W ps n a a h h
/-- terms without variables -/
def noKey (_ : Key) : Prop := False
mutual
theorem gnd_cnt {S : Str → Nat → Prop} (k : Key) : ∀ t : Ter, t.wf S noKey → t.cnt k = 0
  | .var _, h => h.elim
  | .ap _ as, h => gnds_cnt k as h.2
theorem gnds_cnt {S : Str → Nat → Prop} (k : Key) : ∀ ts : List Ter, Ter.wfs S noKey ts → Ter.cnts k ts = 0
  | [], _ => rfl
  | a :: r, h => by
    show a.cnt k + Ter.cnts k r = 0
    rw [gnd_cnt k a h.1, gnds_cnt k r h.2]; rfl
end
theorem gnd_cge {S : Str → Nat → Prop} {a b : Ter} (ha : a.wf S noKey) (hb : b.wf S noKey) : cge a b := fun k => by rw [gnd_cnt k a ha, gnd_cnt k b hb]; exact Int.le_refl 0
theorem gre_total (W : List (Str × Int)) (ps : List Str) {S : Str → Nat → Prop} (SF : SymF S) : ∀ (n : Nat) (a b : Ter), a.wf S noKey → b.wf S noKey → a.nest ≤ n → a ≠ b → gre W ps n a b ∨ gre W ps n b a
  | 0, .var _, _, h, _, _, _ => h.elim
  | 0, .ap _ _, _, _, _, h, _ => absurd h (Nat.not_succ_le_zero _)
  | _ + 1, .var _, _, h, _, _, _ => h.elim
  | _ + 1, .ap _ _, .var _, _, h, _, _ => h.elim
  | n + 1, .ap f as, .ap g bs, ha, hb, hn, ne => by
    have hn : Ter.nests as + 1 ≤ n + 1 := hn
    have c1 := gnd_cge ha hb
    have c2 := gnd_cge hb ha
    by_cases e : (Ter.ap f as).wt W = (Ter.ap g bs).wt W
    · have u1 : gre W ps (n + 1) (.ap f as) (.ap g bs) ↔ grs ps (gre W ps n) (.ap f as) (.ap g bs) := by
        show (cge _ _ ∧ (if _ then _ else _)) ↔ _
        rw [if_pos e]; exact ⟨fun h => h.2, fun h => ⟨c1, h⟩⟩
      have u2 : gre W ps (n + 1) (.ap g bs) (.ap f as) ↔ grs ps (gre W ps n) (.ap g bs) (.ap f as) := by
        show (cge _ _ ∧ (if _ then _ else _)) ↔ _
        rw [if_pos e.symm]; exact ⟨fun h => h.2, fun h => ⟨c2, h⟩⟩
      rw [u1, u2]
      show (if f = g then _ else _) ∨ (if g = f then _ else _)
      by_cases c : f = g
      · rw [if_pos c, if_pos c.symm, fdiff_comm as bs]
        cases z : fdiff as bs with
        | none => exact absurd (by rw [c, fdiff_none (SF.fn g _ _ (c ▸ ha.1) hb.1) z]) ne
        | some p =>
          obtain ⟨m1, m2⟩ := fdiff_mem z
          obtain ⟨i, hi⟩ := List.mem_iff_getElem?.mp m1
          obtain ⟨j, hj⟩ := List.mem_iff_getElem?.mp m2
          have := nest_le_of hi
          exact gre_total W ps SF n p.1 p.2 (wfs_get ha.2 hi) (wfs_get hb.2 hj) (by omega) (fun y => by have := fdiff_ne z; rw [y, eT_refl] at this; cases this)
      · rw [if_neg c, if_neg (fun z => c z.symm)]
        cases h : lhi ps f g with
        | true => exact .inl rfl
        | false => exact .inr (lhi_or c h)
    · by_cases l : (Ter.ap g bs).wt W < (Ter.ap f as).wt W
      · refine .inl ⟨c1, ?_⟩
        rw [if_neg e]; exact l
      · refine .inr ⟨c2, ?_⟩
        rw [if_neg (fun z => e z.symm)]; omega
theorem lhi_trans {ps : List Str} {f g h : Str} (a : lhi ps f g = true) (b : lhi ps g h = true) : lhi ps f h = true := by
  rw [← hi_lhi] at a b ⊢
  exact lex_trans (O := PyProof.Rows.itemOrd) _ _ _ b a
def lexG (g : Ter → Ter → Prop) (as bs : List Ter) : Prop := match fdiff as bs with
  | some p => g p.1 p.2
  | none => False
theorem lexG_trans {g : Ter → Ter → Prop} (tr : ∀ a b c, g a b → g b c → g a c) (ir : ∀ a, ¬ g a a) : ∀ as bs cs : List Ter, lexG g as bs → lexG g bs cs → lexG g as cs
  | [], [], _, h, _ => h.elim
  | [], _ :: _, _, h, _ => h.elim
  | _ :: _, [], _, h, _ => h.elim
  | _ :: _, _ :: _, [], _, h => h.elim
  | a :: r, b :: s, c :: u, h1, h2 => by
    unfold lexG at h1 h2 ⊢
    have e1 : fdiff (a :: r) (b :: s) = if eT a b = true then fdiff r s else some (a, b) := rfl
    have e2 : fdiff (b :: s) (c :: u) = if eT b c = true then fdiff s u else some (b, c) := rfl
    have e3 : fdiff (a :: r) (c :: u) = if eT a c = true then fdiff r u else some (a, c) := rfl
    rw [e1] at h1
    rw [e2] at h2
    rw [e3]
    by_cases c1 : eT a b = true
    · have := eT_eq a b c1
      subst this
      rw [if_pos c1] at h1
      by_cases c2 : eT a c = true
      · rw [if_pos c2] at h2 ⊢
        exact lexG_trans tr ir r s u h1 h2
      · rw [if_neg c2] at h2 ⊢
        exact h2
    · rw [if_neg c1] at h1
      by_cases c2 : eT b c = true
      · have := eT_eq b c c2
        subst this
        rw [if_neg c1]
        exact h1
      · rw [if_neg c2] at h2
        have g3 := tr a b c h1 h2
        have c3 : ¬ eT a c = true := fun z => by
          have := eT_eq a c z
          subst this
          exact ir a g3
        rw [if_neg c3]
        exact g3
theorem gre_trans (W : List (Str × Int)) (ps : List Str) : ∀ (n : Nat) (a b c : Ter), gre W ps n a b → gre W ps n b c → gre W ps n a c
  | 0, _, _, _, h, _ => h.elim
  | n + 1, a, b, c, h1, h2 => by
    obtain ⟨c1, h1⟩ := h1
    obtain ⟨c2, h2⟩ := h2
    refine ⟨fun k => Int.le_trans (c2 k) (c1 k), ?_⟩
    by_cases e1 : a.wt W = b.wt W
    · rw [if_pos e1] at h1
      by_cases e2 : b.wt W = c.wt W
      · rw [if_pos e2] at h2
        rw [if_pos (e1.trans e2)]
        cases a with
        | var k => rw [grs_v] at h1; exact h1.elim
        | ap f as =>
          cases b with
          | var k => rw [grs_w] at h1; exact h1.elim
          | ap g bs =>
            cases c with
            | var k => rw [grs_w] at h2; exact h2.elim
            | ap h cs =>
              have h1 : if f = g then lexG (gre W ps n) as bs else lhi ps f g = true := h1
              have h2 : if g = h then lexG (gre W ps n) bs cs else lhi ps g h = true := h2
              show if f = h then lexG (gre W ps n) as cs else lhi ps f h = true
              by_cases k1 : f = g
              · rw [if_pos k1] at h1
                by_cases k2 : g = h
                · rw [if_pos k2] at h2
                  rw [if_pos (k1.trans k2)]
                  exact lexG_trans (gre_trans W ps n) (gre_irr W ps n) as bs cs h1 h2
                · rw [if_neg k2] at h2
                  rw [k1, if_neg k2]; exact h2
              · rw [if_neg k1] at h1
                by_cases k2 : g = h
                · rw [if_pos k2] at h2
                  rw [← k2, if_neg k1]; exact h1
                · rw [if_neg k2] at h2
                  have t := lhi_trans h1 h2
                  have k3 : ¬ f = h := fun z => by
                    rw [z] at t
                    have := lhi_not t
                    rw [t] at this
                    cases this
                  rw [if_neg k3]; exact t
      · rw [if_neg e2] at h2
        rw [if_neg (by omega)]; omega
    · rw [if_neg e1] at h1
      by_cases e2 : b.wt W = c.wt W
      · rw [if_neg (by omega)]; omega
      · rw [if_neg e2] at h2
        rw [if_neg (by omega)]; omega
/-! ### what compare says of ground terms -/
theorem cmp_gnd (W : List (Str × Int)) (ps : List Str) {S : Str → Nat → Prop} (SF : SymF S) {n : Nat} {a b : Ter} (ha : a.wf S noKey) (hb : b.wf S noKey) (hn : a.nest ≤ n) : (cmpS W ps n a b = "equal" ∧ a = b ∧ cmpS W ps n b a = "equal") ∨ (cmpS W ps n a b = "greater" ∧ a ≠ b ∧ gre W ps n a b ∧ cmpS W ps n b a = "less") ∨ (cmpS W ps n a b = "less" ∧ a ≠ b ∧ gre W ps n b a ∧ cmpS W ps n b a = "greater") := by
  unfold cmpS
  have cc : eT b a = eT a b := eT_comm b a
  by_cases c : eT a b = true
  · have c' : eT b a = true := cc.trans c
    rw [if_pos c, if_pos c']
    exact .inl ⟨rfl, eT_eq a b c, rfl⟩
  · have c' : ¬ eT b a = true := fun z => c (cc.symm.trans z)
    rw [if_neg c, if_neg c']
    have ne : a ≠ b := fun z => c ((eT_iff a b).mpr z)
    by_cases g : gre W ps n a b
    · have g2 := gre_not W ps n a b g
      rw [if_pos g, if_neg g2, if_pos g]
      exact .inr (.inl ⟨rfl, ne, g, rfl⟩)
    · have g2 : gre W ps n b a := (gre_total W ps SF n a b ha hb hn ne).resolve_left g
      rw [if_neg g, if_pos g2, if_pos g2]
      exact .inr (.inr ⟨rfl, ne, g2, rfl⟩)
theorem str_eg : ("equal" : Str) ≠ "greater" := by decide +kernel
theorem str_el : ("equal" : Str) ≠ "less" := by decide +kernel
end Own
namespace Own
open PySem PySem.Spec PyProof.Rows L2 RT HT
/-! ### sums over a term's symbols and variables -/
mutual
def Ter.lin (w : Str → Int) (v : Key → Int) : Ter → Int
  | .var k => v k
  | .ap f as => w f + Ter.lins w v as
def Ter.lins (w : Str → Int) (v : Key → Int) : List Ter → Int
  | [] => 0
  | a :: r => a.lin w v + Ter.lins w v r
end
mutual
theorem wt_lin (W : List (Str × Int)) : ∀ t : Ter, t.wt W = t.lin (wtOf W) fun _ => 1
  | .var _ => rfl
  | .ap f as => congrArg (wtOf W f + ·) (wts_lin W as)
theorem wts_lin (W : List (Str × Int)) : ∀ ts : List Ter, Ter.wts W ts = Ter.lins (wtOf W) (fun _ => 1) ts
  | [] => rfl
  | a :: r => by
    show a.wt W + Ter.wts W r = a.lin _ _ + Ter.lins _ _ r
    rw [wt_lin W a, wts_lin W r]
end
mutual
theorem cnt_lin (k : Key) : ∀ t : Ter, t.cnt k = t.lin (fun _ => 0) fun x => if x = k then 1 else 0
  | .var _ => rfl
  | .ap f as => by
    show Ter.cnts k as = 0 + Ter.lins _ _ as
    rw [cnts_lin k as, Int.zero_add]
theorem cnts_lin (k : Key) : ∀ ts : List Ter, Ter.cnts k ts = Ter.lins (fun _ => 0) (fun x => if x = k then 1 else 0) ts
  | [] => rfl
  | a :: r => by
    show a.cnt k + Ter.cnts k r = a.lin _ _ + Ter.lins _ _ r
    rw [cnt_lin k a, cnts_lin k r]
end
/-! terms for variables -/
mutual
def Ter.bind (s : Key → Ter) : Ter → Ter
  | .var k => s k
  | .ap f as => .ap f (Ter.binds s as)
def Ter.binds (s : Key → Ter) : List Ter → List Ter
  | [] => []
  | a :: r => a.bind s :: Ter.binds s r
end
mutual
theorem lin_bind (w : Str → Int) (v : Key → Int) (s : Key → Ter) : ∀ t : Ter, (t.bind s).lin w v = t.lin w fun k => (s k).lin w v
  | .var _ => rfl
  | .ap f as => congrArg (w f + ·) (lins_bind w v s as)
theorem lins_bind (w : Str → Int) (v : Key → Int) (s : Key → Ter) : ∀ ts : List Ter, Ter.lins w v (Ter.binds s ts) = Ter.lins w (fun k => (s k).lin w v) ts
  | [] => rfl
  | a :: r => by
    show (a.bind s).lin w v + Ter.lins w v (Ter.binds s r) = a.lin w _ + Ter.lins w _ r
    rw [lin_bind w v s a, lins_bind w v s r]
end
def sumK (g : Key → Int) : List Key → Int
  | [] => 0
  | k :: r => g k + sumK g r
theorem sumK_add (g h : Key → Int) : ∀ L : List Key, sumK (fun k => g k + h k) L = sumK g L + sumK h L
  | [] => rfl
  | k :: r => by
    show g k + h k + sumK _ r = g k + sumK g r + (h k + sumK h r)
    rw [sumK_add g h r]; omega
theorem sumK_zero : ∀ L : List Key, sumK (fun _ => 0) L = 0
  | [] => rfl
  | _ :: r => by show (0 : Int) + sumK _ r = 0; rw [sumK_zero r]; rfl
theorem sumK_congr {g h : Key → Int} : ∀ {L : List Key}, (∀ k ∈ L, g k = h k) → sumK g L = sumK h L
  | [], _ => rfl
  | k :: r, e => by
    show g k + sumK g r = h k + sumK h r
    rw [e k List.mem_cons_self, sumK_congr fun x hx => e x (List.mem_cons_of_mem _ hx)]
theorem sumK_nonneg {g : Key → Int} : ∀ {L : List Key}, (∀ k ∈ L, 0 ≤ g k) → 0 ≤ sumK g L
  | [], _ => Int.le_refl 0
  | k :: r, h => Int.add_nonneg (h k List.mem_cons_self) (sumK_nonneg fun x hx => h x (List.mem_cons_of_mem _ hx))
theorem sumK_one (v : Key → Int) (x : Key) : ∀ {L : List Key}, L.Nodup → x ∈ L → sumK (fun k => (if x = k then (1 : Int) else 0) * v k) L = v x
  | [], _, h => nomatch h
  | k :: r, nd, h => by
    have nd : k ∉ r ∧ r.Nodup := List.nodup_cons.mp nd
    show (if x = k then (1 : Int) else 0) * v k + sumK _ r = v x
    by_cases c : x = k
    · subst c
      rw [if_pos rfl, Int.one_mul, sumK_congr (h := fun _ => 0) (fun y hy => by
        have : x ≠ y := fun z => nd.1 (by rw [z]; exact hy)
        rw [if_neg this, Int.zero_mul]), sumK_zero, Int.add_zero]
    · rw [if_neg c, Int.zero_mul, Int.zero_add]
      rcases List.mem_cons.mp h with h | h
      · exact absurd h c
      · exact sumK_one v x nd.2 h
mutual
/-- its variables lie in L -/
def Ter.varsIn (L : List Key) : Ter → Prop
  | .var k => k ∈ L
  | .ap _ as => Ter.varsIns L as
def Ter.varsIns (L : List Key) : List Ter → Prop
  | [] => True
  | a :: r => a.varsIn L ∧ Ter.varsIns L r
end
mutual
theorem lin_sum (w : Str → Int) (v : Key → Int) {L : List Key} (nd : L.Nodup) : ∀ t : Ter, t.varsIn L → t.lin w v = (t.lin w fun _ => 0) + sumK (fun k => t.cnt k * v k) L
  | .var x, h => by
    show v x = 0 + sumK (fun k => (if x = k then (1 : Int) else 0) * v k) L
    rw [sumK_one v x nd h, Int.zero_add]
  | .ap f as, h => by
    show w f + Ter.lins w v as = w f + Ter.lins w (fun _ => 0) as + sumK (fun k => Ter.cnts k as * v k) L
    rw [lins_sum w v nd as h]; omega
theorem lins_sum (w : Str → Int) (v : Key → Int) {L : List Key} (nd : L.Nodup) : ∀ ts : List Ter, Ter.varsIns L ts → Ter.lins w v ts = Ter.lins w (fun _ => 0) ts + sumK (fun k => Ter.cnts k ts * v k) L
  | [], _ => by
    show (0 : Int) = 0 + sumK (fun k => (0 : Int) * v k) L
    rw [sumK_congr (h := fun _ => 0) (fun k _ => Int.zero_mul (v k)), sumK_zero]; rfl
  | a :: r, h => by
    show a.lin w v + Ter.lins w v r = (a.lin w _ + Ter.lins w _ r) + sumK (fun k => (a.cnt k + Ter.cnts k r) * v k) L
    rw [lin_sum w v nd a h.1, lins_sum w v nd r h.2, sumK_congr (g := fun k => (a.cnt k + Ter.cnts k r) * v k) (h := fun k => a.cnt k * v k + Ter.cnts k r * v k) (fun k _ => Int.add_mul _ _ _), sumK_add]
    omega
end
/-- what is counted no less often weighs no less where every variable weighs more -/
theorem lin_mono (w : Str → Int) {v0 v1 : Key → Int} (hv : ∀ k, v0 k ≤ v1 k) {L : List Key} (nd : L.Nodup) {a b : Ter} (ha : a.varsIn L) (hb : b.varsIn L) (g : cge a b) : a.lin w v0 - b.lin w v0 ≤ a.lin w v1 - b.lin w v1 := by
  rw [lin_sum w v0 nd a ha, lin_sum w v0 nd b hb, lin_sum w v1 nd a ha, lin_sum w v1 nd b hb]
  have h : 0 ≤ sumK (fun k => (a.cnt k - b.cnt k) * (v1 k - v0 k)) L := sumK_nonneg fun k _ => Int.mul_nonneg (by have := g k; omega) (by have := hv k; omega)
  have e : sumK (fun k => a.cnt k * v1 k + b.cnt k * v0 k) L = sumK (fun k => (a.cnt k - b.cnt k) * (v1 k - v0 k) + (a.cnt k * v0 k + b.cnt k * v1 k)) L := sumK_congr fun k _ => by
    rw [Int.sub_mul, Int.mul_sub, Int.mul_sub]; omega
  rw [sumK_add, sumK_add, sumK_add] at e
  omega
end Own
namespace Own
open PySem PySem.Spec PyProof.Rows L2 RT HT
theorem keys_in (ks : List Key) : ∃ L : List Key, L.Nodup ∧ ∀ k ∈ ks, k ∈ L := by
  induction ks with
  | nil => exact ⟨[], List.nodup_nil, fun _ h => (nomatch h)⟩
  | cons k r ih =>
    obtain ⟨L, nd, h⟩ := ih
    by_cases c : k ∈ L
    · exact ⟨L, nd, fun x hx => by
        rcases List.mem_cons.mp hx with rfl | hx
        · exact c
        · exact h x hx⟩
    · exact ⟨k :: L, List.nodup_cons.mpr ⟨c, nd⟩, fun x hx => by
        rcases List.mem_cons.mp hx with rfl | hx
        · exact List.mem_cons_self
        · exact List.mem_cons_of_mem _ (h x hx)⟩
mutual
def Ter.keysL : Ter → List Key
  | .var k => [k]
  | .ap _ as => Ter.keysLs as
def Ter.keysLs : List Ter → List Key
  | [] => []
  | a :: r => a.keysL ++ Ter.keysLs r
end
mutual
theorem varsIn_of {L : List Key} : ∀ t : Ter, (∀ k ∈ t.keysL, k ∈ L) → t.varsIn L
  | .var k, h => h k (List.mem_singleton.mpr rfl)
  | .ap _ as, h => varsIns_of as h
theorem varsIns_of {L : List Key} : ∀ ts : List Ter, (∀ k ∈ Ter.keysLs ts, k ∈ L) → Ter.varsIns L ts
  | [], _ => trivial
  | a :: r, h => ⟨varsIn_of a fun k hk => h k (List.mem_append.mpr (.inl hk)), varsIns_of r fun k hk => h k (List.mem_append.mpr (.inr hk))⟩
end
theorem vars_two (a b : Ter) : ∃ L : List Key, L.Nodup ∧ a.varsIn L ∧ b.varsIn L := by
  obtain ⟨L, nd, h⟩ := keys_in (a.keysL ++ b.keysL)
  exact ⟨L, nd, varsIn_of a fun k hk => h k (List.mem_append.mpr (.inl hk)), varsIn_of b fun k hk => h k (List.mem_append.mpr (.inr hk))⟩
mutual
theorem lin_zero : ∀ t : Ter, t.lin (fun _ => 0) (fun _ => 0) = 0
  | .var _ => rfl
  | .ap _ as => by
    show (0 : Int) + Ter.lins _ _ as = 0
    rw [lins_zero as]; rfl
theorem lins_zero : ∀ ts : List Ter, Ter.lins (fun _ => 0) (fun _ => 0) ts = 0
  | [] => rfl
  | a :: r => by
    show a.lin _ _ + Ter.lins _ _ r = 0
    rw [lin_zero a, lins_zero r]; rfl
end
mutual
theorem wt_one {W : List (Str × Int)} (h : ∀ f, 1 ≤ wtOf W f) : ∀ t : Ter, 1 ≤ t.wt W
  | .var _ => Int.le_refl 1
  | .ap f as => by
    have := h f
    have := wts_nn h as
    show 1 ≤ wtOf W f + Ter.wts W as
    omega
theorem wts_nn {W : List (Str × Int)} (h : ∀ f, 1 ≤ wtOf W f) : ∀ ts : List Ter, 0 ≤ Ter.wts W ts
  | [] => Int.le_refl 0
  | a :: r => by
    have := wt_one h a
    have := wts_nn h r
    show 0 ≤ a.wt W + Ter.wts W r
    omega
end
theorem cnt_bind (k : Key) (s : Key → Ter) (t : Ter) : (t.bind s).cnt k = t.lin (fun _ => 0) fun x => (s x).cnt k := by
  rw [cnt_lin, lin_bind]
  exact congrArg (fun v => t.lin (fun _ => 0) v) (funext fun x => (cnt_lin k (s x)).symm)
theorem wt_bind (W : List (Str × Int)) (s : Key → Ter) (t : Ter) : (t.bind s).wt W = t.lin (wtOf W) fun x => (s x).wt W := by
  rw [wt_lin, lin_bind]
  exact congrArg (fun v => t.lin (wtOf W) v) (funext fun x => (wt_lin W (s x)).symm)
theorem cge_bind {a b : Ter} (s : Key → Ter) (g : cge a b) : cge (a.bind s) (b.bind s) := fun k => by
  obtain ⟨L, nd, ha, hb⟩ := vars_two a b
  rw [cnt_bind, cnt_bind]
  have := lin_mono (fun _ => 0) (v0 := fun _ => 0) (v1 := fun x => (s x).cnt k) (fun x => cnt_pos0 k (s x)) nd ha hb g
  rw [lin_zero, lin_zero] at this
  omega
where
  cnt_pos0 (k : Key) : ∀ t : Ter, 0 ≤ t.cnt k := fun t => by
    have rec_ : ∀ n : Nat, ∀ t : Ter, t.size ≤ n → 0 ≤ t.cnt k := fun n => by
      induction n with
      | zero => exact fun t h => absurd t.size_pos (by omega)
      | succ n ih =>
        intro t h
        cases t with
        | var x =>
          show (0 : Int) ≤ if x = k then 1 else 0
          split <;> decide
        | ap f as =>
          have h : Ter.sizes as + 1 ≤ n + 1 := h
          have all : ∀ bs : List Ter, Ter.sizes bs ≤ n → 0 ≤ Ter.cnts k bs := fun bs => by
            induction bs with
            | nil => exact fun _ => Int.le_refl 0
            | cons a r ih2 =>
              intro hb
              have hb : a.size + Ter.sizes r ≤ n := hb
              exact Int.add_nonneg (ih a (by omega)) (ih2 (by omega))
          exact all as (by omega)
    exact rec_ t.size t (Nat.le_refl _)
theorem wt_mono {W : List (Str × Int)} (hW : ∀ f, 1 ≤ wtOf W f) {a b : Ter} (s : Key → Ter) (g : cge a b) : a.wt W - b.wt W ≤ (a.bind s).wt W - (b.bind s).wt W := by
  obtain ⟨L, nd, ha, hb⟩ := vars_two a b
  rw [wt_bind, wt_bind, wt_lin, wt_lin]
  exact lin_mono (wtOf W) (v0 := fun _ => 1) (v1 := fun x => (s x).wt W) (fun x => wt_one hW (s x)) nd ha hb g
theorem fdiff_bind {g : Ter → Ter → Prop} (ir : ∀ a, ¬ g a a) (s : Key → Ter) : ∀ {as bs : List Ter} {p : Ter × Ter}, fdiff as bs = some p → g (p.1.bind s) (p.2.bind s) → fdiff (Ter.binds s as) (Ter.binds s bs) = some (p.1.bind s, p.2.bind s)
  | [], [], _, h, _ => by cases h
  | [], _ :: _, _, h, _ => by cases h
  | _ :: _, [], _, h, _ => by cases h
  | a :: r, b :: u, p, h, hg => by
    have h : (if eT a b = true then fdiff r u else some (a, b)) = some p := h
    show (if eT (a.bind s) (b.bind s) = true then fdiff (Ter.binds s r) (Ter.binds s u) else some (a.bind s, b.bind s)) = _
    by_cases c : eT a b = true
    · rw [if_pos c] at h
      rw [if_pos ((eT_iff _ _).mpr (congrArg (Ter.bind s) (eT_eq a b c)))]
      exact fdiff_bind ir s h hg
    · rw [if_neg c] at h
      cases h
      have n : ¬ eT (a.bind s) (b.bind s) = true := fun z => by
        have e := eT_eq _ _ z
        have hg : g (a.bind s) (b.bind s) := hg
        rw [e] at hg
        exact ir _ hg
      rw [if_neg n]
/-- greater stays greater after a substitution -/
theorem gre_bind {W : List (Str × Int)} {ps : List Str} (hW : ∀ f, 1 ≤ wtOf W f) (s : Key → Ter) : ∀ (n : Nat) {a b : Ter}, gre W ps n a b → gre W ps n (a.bind s) (b.bind s)
  | 0, _, _, h => h.elim
  | n + 1, a, b, h => by
    obtain ⟨c, h⟩ := h
    refine ⟨cge_bind s c, ?_⟩
    have m := wt_mono hW s c
    by_cases e : a.wt W = b.wt W
    · rw [if_pos e] at h
      by_cases e2 : (a.bind s).wt W = (b.bind s).wt W
      · rw [if_pos e2]
        cases a with
        | var k => rw [grs_v] at h; exact h.elim
        | ap f as =>
          cases b with
          | var k => rw [grs_w] at h; exact h.elim
          | ap g bs =>
            have h : if f = g then lexG (gre W ps n) as bs else lhi ps f g = true := h
            show if f = g then lexG (gre W ps n) (Ter.binds s as) (Ter.binds s bs) else lhi ps f g = true
            by_cases k1 : f = g
            · rw [if_pos k1] at h ⊢
              unfold lexG at h ⊢
              cases z : fdiff as bs with
              | none => rw [z] at h; exact h.elim
              | some p =>
                rw [z] at h
                have g2 := gre_bind hW s n h
                rw [fdiff_bind (gre_irr W ps n) s z g2]
                exact g2
            · rw [if_neg k1] at h ⊢
              exact h
      · rw [if_neg e2]; omega
    · rw [if_neg e] at h
      rw [if_neg (by omega)]; omega
/-- the fuel does not matter where it suffices -/
theorem gre_up {W : List (Str × Int)} {ps : List Str} : ∀ (n : Nat) {a b : Ter}, gre W ps n a b → gre W ps (n + 1) a b
  | 0, _, _, h => h.elim
  | n + 1, a, b, h => by
    obtain ⟨c, h⟩ := h
    refine ⟨c, ?_⟩
    by_cases e : a.wt W = b.wt W
    · rw [if_pos e] at h ⊢
      cases a with
      | var k => rw [grs_v] at h; exact h.elim
      | ap f as =>
        cases b with
        | var k => rw [grs_w] at h; exact h.elim
        | ap g bs =>
          have h : if f = g then lexG (gre W ps n) as bs else lhi ps f g = true := h
          show if f = g then lexG (gre W ps (n + 1)) as bs else lhi ps f g = true
          by_cases k1 : f = g
          · rw [if_pos k1] at h ⊢
            unfold lexG at h ⊢
            cases z : fdiff as bs with
            | none => rw [z] at h; exact h.elim
            | some p => rw [z] at h; exact gre_up n h
          · rw [if_neg k1] at h ⊢; exact h
    · rw [if_neg e] at h ⊢; exact h
theorem gre_down {W : List (Str × Int)} {ps : List Str} : ∀ (n : Nat) {a b : Ter}, gre W ps (n + 1) a b → a.nest ≤ n → gre W ps n a b
  | 0, a, _, _, hn => by
    cases a with
    | var k => exact absurd hn (by show ¬ (1 ≤ 0); omega)
    | ap f as => exact absurd hn (by show ¬ (_ + 1 ≤ 0); omega)
  | n + 1, a, b, h, hn => by
    obtain ⟨c, h⟩ := h
    refine ⟨c, ?_⟩
    by_cases e : a.wt W = b.wt W
    · rw [if_pos e] at h ⊢
      cases a with
      | var k => rw [grs_v] at h; exact h.elim
      | ap f as =>
        cases b with
        | var k => rw [grs_w] at h; exact h.elim
        | ap g bs =>
          have hn : Ter.nests as + 1 ≤ n + 1 := hn
          have h : if f = g then lexG (gre W ps (n + 1)) as bs else lhi ps f g = true := h
          show if f = g then lexG (gre W ps n) as bs else lhi ps f g = true
          by_cases k1 : f = g
          · rw [if_pos k1] at h ⊢
            unfold lexG at h ⊢
            cases z : fdiff as bs with
            | none => rw [z] at h; exact h.elim
            | some p =>
              rw [z] at h
              obtain ⟨i, hi⟩ := List.mem_iff_getElem?.mp (fdiff_mem z).1
              have := nest_le_of hi
              exact gre_down n h (by omega)
          · rw [if_neg k1] at h ⊢; exact h
    · rw [if_neg e] at h ⊢; exact h
/-- .. and within a symbol: as its only, first or second argument -/
theorem gre_ctx {W : List (Str × Int)} {ps : List Str} {n : Nat} {a b : Ter} (h : gre W ps n a b) (f : Str) (l r : List Ter) : gre W ps (n + 1) (.ap f (l ++ a :: r)) (.ap f (l ++ b :: r)) := by
  have ne : ¬ eT a b = true := fun z => by rw [eT_eq a b z] at h; exact gre_irr W ps n b h
  have c : cge a b := by
    cases n with
    | zero => exact h.elim
    | succ n => exact h.1
  have w : b.wt W ≤ a.wt W := by
    cases n with
    | zero => exact h.elim
    | succ n =>
      obtain ⟨_, h⟩ := h
      by_cases e : a.wt W = b.wt W
      · omega
      · rw [if_neg e] at h; omega
  have fd : fdiff (l ++ a :: r) (l ++ b :: r) = some (a, b) := by
    induction l with
    | nil => show (if eT a b = true then _ else some (a, b)) = _; rw [if_neg ne]
    | cons x u ih => show (if eT x x = true then fdiff (u ++ a :: r) (u ++ b :: r) else _) = _; rw [if_pos (eT_refl x)]; exact ih
  refine ⟨fun k => ?_, ?_⟩
  · show Ter.cnts k (l ++ b :: r) ≤ Ter.cnts k (l ++ a :: r)
    rw [cnts_app, cnts_app]
    have := c k
    show Ter.cnts k l + (b.cnt k + Ter.cnts k r) ≤ Ter.cnts k l + (a.cnt k + Ter.cnts k r)
    omega
  · have e1 : (Ter.ap f (l ++ a :: r)).wt W = wtOf W f + (Ter.wts W l + (a.wt W + Ter.wts W r)) := congrArg (wtOf W f + ·) (wts_app W l (a :: r))
    have e2 : (Ter.ap f (l ++ b :: r)).wt W = wtOf W f + (Ter.wts W l + (b.wt W + Ter.wts W r)) := congrArg (wtOf W f + ·) (wts_app W l (b :: r))
    by_cases e : (Ter.ap f (l ++ a :: r)).wt W = (Ter.ap f (l ++ b :: r)).wt W
    · rw [if_pos e]
      show if f = f then lexG (gre W ps n) (l ++ a :: r) (l ++ b :: r) else _
      rw [if_pos rfl]
      unfold lexG
      rw [fd]; exact h
    · rw [if_neg e]; omega
theorem cmp_of_gre {W : List (Str × Int)} {ps : List Str} {n : Nat} {a b : Ter} (h : gre W ps n a b) : cmpS W ps n a b = "greater" ∧ cmpS W ps n b a = "less" := by
  have ne : ¬ eT a b = true := fun z => by rw [eT_eq a b z] at h; exact gre_irr W ps n b h
  have ne' : ¬ eT b a = true := fun z => ne ((eT_comm a b).trans z)
  unfold cmpS
  rw [if_neg ne, if_neg ne', if_pos h, if_neg (gre_not W ps n a b h), if_pos h]
  exact ⟨rfl, rfl⟩
theorem gre_of_cmp {W : List (Str × Int)} {ps : List Str} {n : Nat} {a b : Ter} (h : cmpS W ps n a b = "greater") : gre W ps n a b := by
  unfold cmpS at h
  by_cases c : eT a b = true
  · rw [if_pos c] at h; exact absurd h str_eg
  · rw [if_neg c] at h
    by_cases g : gre W ps n a b
    · exact g
    · rw [if_neg g] at h
      by_cases g2 : gre W ps n b a
      · rw [if_pos g2] at h; exact absurd h.symm str_gl
      · rw [if_neg g2] at h; exact absurd h str_ig
theorem gre_of_less {W : List (Str × Int)} {ps : List Str} {n : Nat} {a b : Ter} (h : cmpS W ps n a b = "less") : gre W ps n b a := by
  unfold cmpS at h
  by_cases c : eT a b = true
  · rw [if_pos c] at h; exact absurd h str_el
  · rw [if_neg c] at h
    by_cases g : gre W ps n a b
    · rw [if_pos g] at h; exact absurd h str_gl
    · rw [if_neg g] at h
      by_cases g2 : gre W ps n b a
      · exact g2
      · rw [if_neg g2] at h; exact absurd h str_il
end Own
namespace Own
open PySem PySem.Spec PyProof.Rows L2 RT HT
theorem cnts_get {k : Key} : ∀ {as : List Ter} {i : Nat} {a : Ter}, (∀ t ∈ as, 0 ≤ t.cnt k) → as[i]? = some a → a.cnt k ≤ Ter.cnts k as
  | [], _, _, _, h => by cases h
  | b :: r, 0, a, p, h => by
    cases h
    have : 0 ≤ Ter.cnts k r := by
      clear p
      have := cge_bind.cnt_pos0 k (.ap "" r)
      exact this
    show b.cnt k ≤ b.cnt k + Ter.cnts k r
    omega
  | b :: r, i + 1, a, p, h => by
    have := cnts_get (as := r) (i := i) (fun t ht => p t (List.mem_cons_of_mem _ ht)) h
    have := p b List.mem_cons_self
    show a.cnt k ≤ b.cnt k + Ter.cnts k r
    omega
theorem wts_get {W : List (Str × Int)} (hW : ∀ f, 1 ≤ wtOf W f) : ∀ {as : List Ter} {i : Nat} {a : Ter}, as[i]? = some a → a.wt W ≤ Ter.wts W as
  | [], _, _, h => by cases h
  | b :: r, 0, a, h => by
    cases h
    have := wts_nn hW r
    show b.wt W ≤ b.wt W + Ter.wts W r
    omega
  | b :: r, i + 1, a, h => by
    have := wts_get hW (as := r) (i := i) h
    have := wt_one hW b
    show a.wt W ≤ b.wt W + Ter.wts W r
    omega
/-- a subterm counts and weighs no more, a proper one weighs less -/
theorem at_less {W : List (Str × Int)} (hW : ∀ f, 1 ≤ wtOf W f) : ∀ (q : List Int) (t u : Ter), t.at q = some u → cge t u ∧ u.wt W ≤ t.wt W ∧ (q ≠ [] → u.wt W < t.wt W)
  | [], t, u, h => by
    have h : some t = some u := by cases t <;> exact h
    cases h
    exact ⟨fun k => Int.le_refl _, Int.le_refl _, fun z => absurd rfl z⟩
  | n :: r, .var k, u, h => by cases h
  | n :: r, .ap f as, u, h => by
    have h : ((Ter.ap f as).step n).bind (fun u' => u'.at r) = some u := h
    cases es : (Ter.ap f as).step n with
    | none => rw [es] at h; cases h
    | some a =>
      rw [es] at h
      obtain ⟨_, h2⟩ := step_ap es
      obtain ⟨c, w, _⟩ := at_less hW r a u h
      have wl := wts_get hW h2
      have := hW f
      have e : (Ter.ap f as).wt W = wtOf W f + Ter.wts W as := rfl
      refine ⟨fun k => Int.le_trans (c k) (cnts_get (fun t _ => cge_bind.cnt_pos0 k t) h2), by omega, fun _ => by omega⟩
theorem gre_at {W : List (Str × Int)} {ps : List Str} (hW : ∀ f, 1 ≤ wtOf W f) (n : Nat) {q : List Int} {t u : Ter} (h : t.at q = some u) (hq : q ≠ []) : gre W ps (n + 1) t u := by
  obtain ⟨c, _, w⟩ := at_less hW q t u h
  have w := w hq
  refine ⟨c, ?_⟩
  rw [if_neg (by omega)]; exact w
theorem gre_var {W : List (Str × Int)} {ps : List Str} (hW : ∀ f, 1 ≤ wtOf W f) (n : Nat) {k : Key} {f : Str} {as : List Ter} (h : (Ter.ap f as).cnt k ≠ 0) : gre W ps (n + 1) (.ap f as) (.var k) := by
  have p := cge_bind.cnt_pos0 k (.ap f as)
  have w1 := hW f
  have w2 : 1 ≤ Ter.wts W as := by
    cases as with
    | nil => exact absurd rfl h
    | cons a r =>
      have := wt_one hW a
      have := wts_nn hW r
      show 1 ≤ a.wt W + Ter.wts W r
      omega
  have e : (Ter.ap f as).wt W = wtOf W f + Ter.wts W as := rfl
  have e2 : (Ter.var k).wt W = 1 := rfl
  refine ⟨fun x => ?_, ?_⟩
  · show (if k = x then (1 : Int) else 0) ≤ _
    by_cases c : k = x
    · subst c; rw [if_pos rfl]; omega
    · rw [if_neg c]; exact cge_bind.cnt_pos0 x (.ap f as)
  · rw [if_neg (by omega)]; omega
theorem wtOf_one {W : List (Str × Int)} (h : ∀ e ∈ W, 1 ≤ e.2) (f : Str) : 1 ≤ wtOf W f := by
  unfold wtOf
  cases z : W.find? fun e => decide (e.1 = f) with
  | none => exact Int.le_refl 1
  | some e => exact h e (List.mem_of_find?_eq_some z)
mutual
theorem bind_size {s : Key → Ter} {m : Nat} (h : ∀ k, (s k).size ≤ m) (h1 : 1 ≤ m) : ∀ t : Ter, (t.bind s).size ≤ t.size * m
  | .var k => by
    have := h k
    show (s k).size ≤ 1 * m
    omega
  | .ap f as => by
    have := binds_size h h1 as
    show Ter.sizes (Ter.binds s as) + 1 ≤ (Ter.sizes as + 1) * m
    rw [Nat.add_mul]
    omega
theorem binds_size {s : Key → Ter} {m : Nat} (h : ∀ k, (s k).size ≤ m) (h1 : 1 ≤ m) : ∀ ts : List Ter, Ter.sizes (Ter.binds s ts) ≤ Ter.sizes ts * m
  | [] => Nat.zero_le _
  | a :: r => by
    have := bind_size h h1 a
    have := binds_size h h1 r
    show (a.bind s).size + Ter.sizes (Ter.binds s r) ≤ (a.size + Ter.sizes r) * m
    rw [Nat.add_mul]
    omega
end
mutual
theorem bind_nest {s : Key → Ter} {m : Nat} (h : ∀ k, (s k).nest ≤ m) : ∀ t : Ter, (t.bind s).nest ≤ t.nest + m
  | .var k => by
    have := h k
    show (s k).nest ≤ 1 + m
    omega
  | .ap f as => by
    have := binds_nest h as
    show Ter.nests (Ter.binds s as) + 1 ≤ Ter.nests as + 1 + m
    omega
theorem binds_nest {s : Key → Ter} {m : Nat} (h : ∀ k, (s k).nest ≤ m) : ∀ ts : List Ter, Ter.nests (Ter.binds s ts) ≤ Ter.nests ts + m
  | [] => Nat.zero_le _
  | a :: r => by
    have := bind_nest h a
    have := binds_nest h r
    show max (a.bind s).nest (Ter.nests (Ter.binds s r)) ≤ max a.nest (Ter.nests r) + m
    omega
end
theorem binds_len (s : Key → Ter) : ∀ ts : List Ter, (Ter.binds s ts).length = ts.length
  | [] => rfl
  | _ :: r => congrArg (· + 1) (binds_len s r)
mutual
theorem bind_wf {S : Str → Nat → Prop} {U : Key → Prop} {s : Key → Ter} (h : ∀ k, U k → (s k).wf S U) : ∀ t : Ter, t.wf S U → (t.bind s).wf S U
  | .var k, w => h k w
  | .ap f as, w => ⟨by rw [binds_len]; exact w.1, binds_wf h as w.2⟩
theorem binds_wf {S : Str → Nat → Prop} {U : Key → Prop} {s : Key → Ter} (h : ∀ k, U k → (s k).wf S U) : ∀ ts : List Ter, Ter.wfs S U ts → Ter.wfs S U (Ter.binds s ts)
  | [], _ => trivial
  | a :: r, w => ⟨bind_wf h a w.1, binds_wf h r w.2⟩
end
end Own
/-! list.remove of data that is no number: the first equal one goes -/
namespace L2
open PySem PySem.Spec PyProof.Rows
section
variable {X : Cx}
def rRemD (K : PySem.W.Frag) : V → List V → Hp → VK → Prop := fun x xs0 H Q => ∃ (l : Addr) (y : V) (xs : List V) (d : PyData) (ds : List PyData) (j : Nat) (z : PyData), x = V.ref l ∧ xs0 = [y] ∧ H l = some (.lst xs) ∧ DpAll K H xs ds ∧ Dp K H y d ∧
  SeqAt.shaped (.list ds) = true ∧ SeqAt.shaped d = true ∧ ds[j]? = some z ∧ PyData.eqv z d = true ∧ (∀ (m : Nat) (z' : PyData), m < j → ds[m]? = some z' → PyData.eqv z' d = false) ∧ Q .non (upd H l (.lst (xs.eraseIdx j)))
theorem mt_removeD (hu : X.A.units + 65 < cLine) : MtM X "list.remove" (rRemD X.K) := by
  intro pins s σ H x xs0 v us Q I rx rxs h
  obtain ⟨l, y, xs, d, ds, j, z, rfl, rfl, hH, hds, hy, sl, sd, hz, hzj, hno, q⟩ := h
  cases rx
  obtain ⟨uy, rfl, ry⟩ := rxs.one
  obtain ⟨bs, r1⟩ := Dp.reads I d y uy hy ry
  have hxs : PyData.canLayAll0 ds = true := SeqAt.canLay_of_shaped sl
  have hroom : X.A.units + 1 + min (PyData.depthAll ds) d.depth < cLine := room_in_shaped sd hu
  obtain ⟨zz, its, n, r, hl, e⟩ := I.lstM hH
  obtain ⟨as, h4⟩ := Dp.readsAll I ds xs its hds r
  have hn : its.length = ds.length := SeqAt.ReadsAll.length ds its as h4
  have hmap : its.map (SeqAt.readOf s.heap) = ds := SeqAt.readsAll_map ds its as hxs h4
  have hvl := r.length
  obtain ⟨hjd, _⟩ := List.getElem?_eq_some_iff.mp hz
  have hjl : j < its.length := by omega
  have hj : j < its.toArray.size := by simpa using hjl
  have at_ : ∀ (m : Nat) (hm : m < its.toArray.size) (z' : PyData), ds[m]? = some z' → SeqAt.readOf s.heap its.toArray[m] = z' := by
    intro m hm z' hz'
    have hml : m < its.length := by simpa using hm
    rw [← hmap, List.getElem?_map, List.getElem?_eq_getElem hml] at hz'
    have e1 : SeqAt.readOf s.heap its[m] = z' := Option.some.inj (show some (SeqAt.readOf s.heap its[m]) = some z' from hz')
    simpa using e1
  refine call_meets PySem.F.slot_list_remove ⟨_, e, rfl⟩ PySem.F.entry_list_remove (PySem.F.args_list_remove_2 _ _)
    (SeqAt.list_removeAt l its.toArray n none #[] uy (fun u => PyData.eqv (SeqAt.readOf s.heap u) d) j hj ?_ ?_ (by rw [List.size_toArray]; omega)) ⟨e, SeqAt.items_eqAt (vs := its.toArray) (show ReadsAll s.heap its.toArray.toList ds as from h4) r1 hxs (SeqAt.canLay_of_shaped sd) hroom, ?_⟩
  · show PyData.eqv (SeqAt.readOf s.heap its.toArray[j]) d = true
    rw [at_ j hj z hz]
    exact hzj
  · intro m hm hmj
    have hmd : m < ds.length := by omega
    have hz' : ds[m]? = some ds[m] := List.getElem?_eq_getElem hmd
    show PyData.eqv (SeqAt.readOf s.heap its.toArray[m]) d = false
    rw [at_ m hm _ hz']
    exact hno m _ hmj hz'
  · have rr := r.eraseIdx j
    refine ⟨.non, _, I.lset (its' := its.eraseIdx j) (t' := s.toks) hH e ?_ rr ?_, rfl, q⟩
    · show its.toArray.eraseIdxIfInBounds j = (its.eraseIdx j).toArray
      rw [List.eraseIdxIfInBounds_toArray]
    · rw [List.length_eraseIdx]
      split <;> omega
end
end L2
/-! multisets, compared: what both have goes, one against one -/
namespace Own
open PySem
section
variable {α : Type}
def wcom (e : α → α → Bool) : List α → List α → List α × List α
  | [], r => ([], r)
  | x :: xs, r => if r.any (e x) = true then wcom e xs (r.eraseP (e x)) else (x :: (wcom e xs r).1, (wcom e xs r).2)
structure Eqv (e : α → α → Bool) : Prop where
  refl : ∀ x, e x x = true
  symm : ∀ x y, e x y = true → e y x = true
  trans : ∀ x y z, e x y = true → e y z = true → e x z = true
theorem Eqv.cong {e : α → α → Bool} (E : Eqv e) {x y : α} (h : e x y = true) (z : α) : e x z = e y z := by
  by_cases c : e y z = true
  · rw [c, E.trans _ _ _ h c]
  · rw [Bool.not_eq_true] at c
    rw [c]
    by_cases d : e x z = true
    · rw [E.trans _ _ _ (E.symm _ _ h) d] at c; cases c
    · rw [Bool.not_eq_true] at d; exact d
theorem Eqv.comm {e : α → α → Bool} (E : Eqv e) (x y : α) : e x y = e y x := by
  by_cases c : e x y = true
  · rw [c, E.symm _ _ c]
  · rw [Bool.not_eq_true] at c
    by_cases d : e y x = true
    · rw [E.symm _ _ d] at c; cases c
    · rw [Bool.not_eq_true] at d; rw [c, d]
theorem count_eraseP {e : α → α → Bool} (E : Eqv e) (x z : α) : ∀ l : List α, l.any (e x) = true → (l.eraseP (e x)).countP (e z) + (if e z x = true then 1 else 0) = l.countP (e z)
  | [], h => by cases h
  | y :: r, h => by
    by_cases c : e x y = true
    · rw [List.eraseP_cons_of_pos c, List.countP_cons]
      have : e z x = e z y := by rw [E.comm z x, E.comm z y, E.cong c]
      rw [this]
    · rw [List.eraseP_cons_of_neg c, List.countP_cons, List.countP_cons]
      have h' : r.any (e x) = true := by
        rw [List.any_cons] at h
        rw [Bool.not_eq_true] at c
        rw [c] at h; exact h
      have := count_eraseP E x z r h'
      omega
theorem count_any {e : α → α → Bool} (x : α) (l : List α) : 0 < l.countP (e x) ↔ l.any (e x) = true := by
  rw [List.countP_pos_iff, List.any_eq_true]
theorem wcom_sum {e : α → α → Bool} (E : Eqv e) (z : α) : ∀ f s : List α, (wcom e f s).1.countP (e z) + s.countP (e z) = f.countP (e z) + (wcom e f s).2.countP (e z)
  | [], s => by show 0 + _ = 0 + _; rfl
  | x :: xs, s => by
    unfold wcom
    by_cases c : s.any (e x) = true
    · rw [if_pos c]
      have h1 := wcom_sum E z xs (s.eraseP (e x))
      have h2 := count_eraseP E x z s c
      rw [List.countP_cons]
      omega
    · rw [if_neg c]
      have h1 := wcom_sum E z xs s
      show (x :: (wcom e xs s).1).countP (e z) + _ = _ + (wcom e xs s).2.countP (e z)
      rw [List.countP_cons, List.countP_cons]
      omega
/-- what is left on the right: not more than there was -/
theorem wcom_le {e : α → α → Bool} (E : Eqv e) (z : α) : ∀ f s : List α, (wcom e f s).2.countP (e z) ≤ s.countP (e z)
  | [], s => Nat.le_refl _
  | x :: xs, s => by
    unfold wcom
    by_cases c : s.any (e x) = true
    · rw [if_pos c]
      have h1 := wcom_le E z xs (s.eraseP (e x))
      have h2 := count_eraseP E x z s c
      omega
    · rw [if_neg c]
      exact wcom_le E z xs s
theorem wcom_zero {e : α → α → Bool} (E : Eqv e) (z : α) : ∀ f s : List α, (wcom e f s).1.countP (e z) = 0 ∨ (wcom e f s).2.countP (e z) = 0
  | [], s => .inl rfl
  | x :: xs, s => by
    unfold wcom
    by_cases c : s.any (e x) = true
    · rw [if_pos c]; exact wcom_zero E z xs _
    · rw [if_neg c]
      show (x :: (wcom e xs s).1).countP (e z) = 0 ∨ (wcom e xs s).2.countP (e z) = 0
      by_cases d : e z x = true
      · refine .inr ?_
        have h1 := wcom_le E z xs s
        have h0 : s.countP (e z) = 0 := by
          have : ¬ 0 < s.countP (e z) := fun g => c (by
            have g := (count_any z s).mp g
            rw [List.any_eq_true] at g ⊢
            obtain ⟨y, hy, g⟩ := g
            exact ⟨y, hy, by rw [← E.cong d]; exact g⟩)
          omega
        omega
      · rw [List.countP_cons, if_neg d]
        exact wcom_zero E z xs s
theorem wcom_c1 {e : α → α → Bool} (E : Eqv e) (f s : List α) (z : α) : (wcom e f s).1.countP (e z) = f.countP (e z) - s.countP (e z) := by
  have h1 := wcom_sum E z f s
  have h2 := wcom_le E z f s
  rcases wcom_zero E z f s with h | h <;> omega
theorem wcom_c2 {e : α → α → Bool} (E : Eqv e) (f s : List α) (z : α) : (wcom e f s).2.countP (e z) = s.countP (e z) - f.countP (e z) := by
  have h1 := wcom_sum E z f s
  have h2 := wcom_le E z f s
  rcases wcom_zero E z f s with h | h <;> omega
theorem wcom_len {e : α → α → Bool} : ∀ f s : List α, (wcom e f s).1.length + s.length = f.length + (wcom e f s).2.length
  | [], s => by show 0 + _ = 0 + _; rfl
  | x :: xs, s => by
    unfold wcom
    by_cases c : s.any (e x) = true
    · rw [if_pos c]
      have h1 := wcom_len (e := e) xs (s.eraseP (e x))
      obtain ⟨y, hy, g⟩ := List.any_eq_true.mp c
      have h2 := List.length_eraseP_of_mem hy g
      have h3 : 0 < s.length := List.length_pos_of_mem hy
      rw [List.length_cons]
      omega
    · rw [if_neg c]
      have h1 := wcom_len (e := e) xs s
      show (x :: (wcom e xs s).1).length + _ = _ + (wcom e xs s).2.length
      rw [List.length_cons, List.length_cons]
      omega
theorem wcom_m1 {e : α → α → Bool} : ∀ (f s : List α), ∀ x ∈ (wcom e f s).1, x ∈ f
  | [], _, x, h => by cases h
  | y :: xs, s, x, h => by
    unfold wcom at h
    by_cases c : s.any (e y) = true
    · rw [if_pos c] at h; exact List.mem_cons_of_mem _ (wcom_m1 xs _ x h)
    · rw [if_neg c] at h
      rcases List.mem_cons.mp h with rfl | h
      · exact List.mem_cons_self
      · exact List.mem_cons_of_mem _ (wcom_m1 xs _ x h)
theorem wcom_m2 {e : α → α → Bool} : ∀ (f s : List α), ∀ x ∈ (wcom e f s).2, x ∈ s
  | [], _, x, h => h
  | y :: xs, s, x, h => by
    unfold wcom at h
    by_cases c : s.any (e y) = true
    · rw [if_pos c] at h; exact List.mem_of_mem_eraseP (wcom_m2 xs _ x h)
    · rw [if_neg c] at h; exact wcom_m2 xs _ x h
/-- each of the second list has a greater one in the first -/
def Dom (G : α → α → Prop) (l r : List α) : Prop := ∀ t ∈ r, ∃ s ∈ l, G s t
open Classical in
noncomputable def cmpM (G : α → α → Prop) (l r : List α) : Str := if l = [] ∧ r = [] then "equal" else if l ≠ [] ∧ Dom G l r then "greater" else if r ≠ [] ∧ Dom G r l then "less" else "incomparable"
/-- the same classes in both -/
def SameC (e : α → α → Bool) (l l' : List α) : Prop := ∀ z, l.any (e z) = true ↔ l'.any (e z) = true
theorem SameC.symm {e : α → α → Bool} {l l' : List α} (h : SameC e l l') : SameC e l' l := fun z => (h z).symm
theorem SameC.nil {e : α → α → Bool} (E : Eqv e) {l l' : List α} (h : SameC e l l') : l = [] → l' = [] := fun z => by
  cases l' with
  | nil => rfl
  | cons y r =>
    have := (h y).mpr (by rw [List.any_cons, E.refl]; rfl)
    rw [z] at this; cases this
theorem sameC_of {e : α → α → Bool} {l l' : List α} (h : ∀ z, l.countP (e z) = 0 ↔ l'.countP (e z) = 0) : SameC e l l' := fun z => by
  rw [← count_any, ← count_any]
  have := h z
  omega
structure Resp (e : α → α → Bool) (G : α → α → Prop) : Prop where
  l : ∀ x x' y, e x x' = true → G x y → G x' y
  r : ∀ x y y', e y y' = true → G x y → G x y'
theorem Dom.cong {e : α → α → Bool} (E : Eqv e) {G : α → α → Prop} (R : Resp e G) {l l' r r' : List α} (hl : SameC e l l') (hr : SameC e r r') (h : Dom G l r) : Dom G l' r' := fun t ht => by
  have h1 := (hr t).mpr (List.any_eq_true.mpr ⟨t, ht, E.refl t⟩)
  obtain ⟨t0, h0, e0⟩ := List.any_eq_true.mp h1
  obtain ⟨s, hs, g⟩ := h t0 h0
  have h2 := (hl s).mp (List.any_eq_true.mpr ⟨s, hs, E.refl s⟩)
  obtain ⟨s', hs', e'⟩ := List.any_eq_true.mp h2
  exact ⟨s', hs', R.l _ _ _ e' (R.r _ _ _ (E.symm _ _ e0) g)⟩
theorem cmpM_cong {e : α → α → Bool} (E : Eqv e) {G : α → α → Prop} (R : Resp e G) {l l' r r' : List α} (hl : SameC e l l') (hr : SameC e r r') : cmpM G l r = cmpM G l' r' := by
  have n1 : l = [] ↔ l' = [] := ⟨hl.nil E, hl.symm.nil E⟩
  have n2 : r = [] ↔ r' = [] := ⟨hr.nil E, hr.symm.nil E⟩
  have d1 : Dom G l r ↔ Dom G l' r' := ⟨fun h => h.cong E R hl hr, fun h => h.cong E R hl.symm hr.symm⟩
  have d2 : Dom G r l ↔ Dom G r' l' := ⟨fun h => h.cong E R hr hl, fun h => h.cong E R hr.symm hl.symm⟩
  have a1 : (l = [] ∧ r = []) ↔ (l' = [] ∧ r' = []) := by rw [n1, n2]
  have a2 : (l ≠ [] ∧ Dom G l r) ↔ (l' ≠ [] ∧ Dom G l' r') := by rw [d1]; exact ⟨fun h => ⟨fun z => h.1 (n1.mpr z), h.2⟩, fun h => ⟨fun z => h.1 (n1.mp z), h.2⟩⟩
  have a3 : (r ≠ [] ∧ Dom G r l) ↔ (r' ≠ [] ∧ Dom G r' l') := by rw [d2]; exact ⟨fun h => ⟨fun z => h.1 (n2.mpr z), h.2⟩, fun h => ⟨fun z => h.1 (n2.mp z), h.2⟩⟩
  unfold cmpM
  by_cases c1 : l = [] ∧ r = []
  · rw [if_pos c1, if_pos (a1.mp c1)]
  · rw [if_neg c1, if_neg (fun z => c1 (a1.mpr z))]
    by_cases c2 : l ≠ [] ∧ Dom G l r
    · rw [if_pos c2, if_pos (a2.mp c2)]
    · rw [if_neg c2, if_neg (fun z => c2 (a2.mpr z))]
      by_cases c3 : r ≠ [] ∧ Dom G r l
      · rw [if_pos c3, if_pos (a3.mp c3)]
      · rw [if_neg c3, if_neg (fun z => c3 (a3.mpr z))]
/-- of a list of things there is one that none of them exceeds -/
theorem top_of {G : α → α → Prop} (irr : ∀ x, ¬ G x x) (tr : ∀ x y z, G x y → G y z → G x z) : ∀ (l : List α), l ≠ [] → ∃ m ∈ l, ∀ y ∈ l, ¬ G y m
  | [], h => absurd rfl h
  | [x], _ => ⟨x, List.mem_cons_self, fun y hy => by rw [List.mem_singleton.mp hy]; exact irr x⟩
  | x :: y :: r, _ => by
    obtain ⟨m, hm, h⟩ := top_of irr tr (y :: r) (by intro z; cases z)
    by_cases c : G x m
    · refine ⟨x, List.mem_cons_self, fun z hz g => ?_⟩
      rcases List.mem_cons.mp hz with rfl | hz
      · exact irr _ g
      · exact h z hz (tr _ _ _ g c)
    · refine ⟨m, List.mem_cons_of_mem _ hm, fun z hz g => ?_⟩
      rcases List.mem_cons.mp hz with rfl | hz
      · exact c g
      · exact h z hz g
theorem dom_not {G : α → α → Prop} (irr : ∀ x, ¬ G x x) (tr : ∀ x y z, G x y → G y z → G x z) {l r : List α} (h1 : Dom G l r) (h2 : Dom G r l) (h : l ≠ [] ∨ r ≠ []) : False := by
  have hr : r ≠ [] := by
    rcases h with h | h
    · intro z
      cases l with
      | nil => exact h rfl
      | cons x l =>
        obtain ⟨t, ht, _⟩ := h2 x List.mem_cons_self
        rw [z] at ht; cases ht
    · exact h
  obtain ⟨m, hm, hno⟩ := top_of irr tr r hr
  obtain ⟨s, hs, g⟩ := h1 m hm
  obtain ⟨t, ht, g'⟩ := h2 s hs
  exact hno t ht (tr _ _ _ g' g)
theorem cmpM_eq {G : α → α → Prop} {l r : List α} : cmpM G l r = "equal" ↔ l = [] ∧ r = [] := by
  unfold cmpM
  by_cases c : l = [] ∧ r = []
  · rw [if_pos c]; exact ⟨fun _ => c, fun _ => rfl⟩
  · rw [if_neg c]
    refine ⟨fun h => ?_, fun h => absurd h c⟩
    split at h
    · cases h
    · split at h <;> cases h
theorem cmpM_gt {G : α → α → Prop} {l r : List α} : cmpM G l r = "greater" ↔ l ≠ [] ∧ Dom G l r := by
  unfold cmpM
  by_cases c : l = [] ∧ r = []
  · rw [if_pos c]; exact ⟨fun h => (by cases h), fun h => absurd c.1 h.1⟩
  · rw [if_neg c]
    by_cases d : l ≠ [] ∧ Dom G l r
    · rw [if_pos d]; exact ⟨fun _ => d, fun _ => rfl⟩
    · rw [if_neg d]
      refine ⟨fun h => ?_, fun h => absurd h d⟩
      split at h <;> cases h
theorem cmpM_lt {G : α → α → Prop} (irr : ∀ x, ¬ G x x) (tr : ∀ x y z, G x y → G y z → G x z) {l r : List α} : cmpM G l r = "less" ↔ r ≠ [] ∧ Dom G r l := by
  unfold cmpM
  by_cases c : l = [] ∧ r = []
  · rw [if_pos c]; exact ⟨fun h => (by cases h), fun h => absurd c.2 h.1⟩
  · rw [if_neg c]
    by_cases d : l ≠ [] ∧ Dom G l r
    · rw [if_pos d]; exact ⟨fun h => (by cases h), fun h => (dom_not irr tr d.2 h.2 (.inl d.1)).elim⟩
    · rw [if_neg d]
      by_cases e : r ≠ [] ∧ Dom G r l
      · rw [if_pos e]; exact ⟨fun _ => e, fun _ => rfl⟩
      · rw [if_neg e]; exact ⟨fun h => (by cases h), fun h => absurd h e⟩
theorem cmpM_swap {e : α → α → Bool} (E : Eqv e) {G : α → α → Prop} (irr : ∀ x, ¬ G x x) (tr : ∀ x y z, G x y → G y z → G x z) (R : Resp e G) (f s : List α) : cmpM G (wcom e f s).1 (wcom e f s).2 = "less" ↔ cmpM G (wcom e s f).1 (wcom e s f).2 = "greater" := by
  have h1 : SameC e (wcom e f s).2 (wcom e s f).1 := sameC_of fun z => by rw [wcom_c2 E, wcom_c1 E]
  have h2 : SameC e (wcom e f s).1 (wcom e s f).2 := sameC_of fun z => by rw [wcom_c1 E, wcom_c2 E]
  rw [cmpM_lt irr tr, cmpM_gt]
  refine ⟨fun h => ⟨fun z => h.1 (h1.symm.nil E z), h.2.cong E R h1 h2⟩, fun h => ⟨fun z => h.1 (h1.nil E z), h.2.cong E R h1.symm h2.symm⟩⟩
end
end Own
/-! literals and clauses, compared -/
namespace Own
open PySem PySem.Spec PyProof.Rows L2 HT
theorem eqvT : Eqv eT := ⟨eT_refl, fun x y h => by rw [eT_comm]; exact h, fun x y z h g => by rw [eT_iff] at *; rw [h, g]⟩
def bagL (x : Lit) : List Ter := if x.1 = true then [x.2.1, x.2.2] else [x.2.1, x.2.1, x.2.2, x.2.2]
def pairL (x : Lit) : List Ter := [x.2.1, x.2.2]
theorem resp_gre (W : List (Str × Int)) (ps : List Str) (n : Nat) : Resp eT (gre W ps n) := ⟨fun x x' y h g => by rw [eT_iff] at h; rw [← h]; exact g, fun x y y' h g => by rw [eT_iff] at h; rw [← h]; exact g⟩
noncomputable def litO (W : List (Str × Int)) (ps : List Str) (n : Nat) (x y : Lit) : Str := cmpM (gre W ps n) (wcom eT (bagL x) (bagL y)).1 (wcom eT (bagL x) (bagL y)).2
theorem bag_count (x : Lit) (z : Ter) : (bagL x).countP (eT z) = (if x.1 = true then 1 else 2) * (pairL x).countP (eT z) := by
  unfold bagL pairL
  by_cases c : x.1 = true
  · rw [if_pos c, if_pos c, Nat.one_mul]
  · rw [if_neg c, if_neg c]
    rw [List.countP_cons, List.countP_cons, List.countP_cons, List.countP_cons, List.countP_cons, List.countP_cons, List.countP_nil]
    omega
/-- of literals of one sign the pairs tell -/
theorem litO_pair {W : List (Str × Int)} {ps : List Str} {n : Nat} {x y : Lit} (h : x.1 = y.1) : cmpM (gre W ps n) (wcom eT (pairL x) (pairL y)).1 (wcom eT (pairL x) (pairL y)).2 = litO W ps n x y := by
  refine cmpM_cong eqvT (resp_gre W ps n) (sameC_of fun z => ?_) (sameC_of fun z => ?_)
  · rw [wcom_c1 eqvT, wcom_c1 eqvT, bag_count, bag_count, h, ← Nat.mul_sub]
    split <;> omega
  · rw [wcom_c2 eqvT, wcom_c2 eqvT, bag_count, bag_count, h, ← Nat.mul_sub]
    split <;> omega
/-- as the law has it: what is left of the second one against the first -/
theorem litO_law {W : List (Str × Int)} {ps : List Str} {n : Nat} (x y : Lit) : cmpM (gre W ps n) (wcom eT (bagL x) (bagL y)).1 (wcom eT (bagL y) (bagL x)).1 = litO W ps n x y :=
  cmpM_cong eqvT (resp_gre W ps n) (fun z => Iff.rfl) (sameC_of fun z => by rw [wcom_c1 eqvT, wcom_c2 eqvT])
def sameL (x y : Lit) : Bool := (x.1 == y.1) && ((eT y.2.1 x.2.1 && eT y.2.2 x.2.2) || (eT y.2.1 x.2.2 && eT y.2.2 x.2.1))
theorem sameL_iff (x y : Lit) : sameL x y = true ↔ x.1 = y.1 ∧ ((y.2.1 = x.2.1 ∧ y.2.2 = x.2.2) ∨ (y.2.1 = x.2.2 ∧ y.2.2 = x.2.1)) := by
  unfold sameL
  rw [Bool.and_eq_true, Bool.or_eq_true, Bool.and_eq_true, Bool.and_eq_true, beq_iff_eq, eT_iff, eT_iff, eT_iff, eT_iff]
theorem eqvL : Eqv sameL := by
  refine ⟨fun x => ?_, fun x y h => ?_, fun x y z h g => ?_⟩
  · rw [sameL_iff]; exact ⟨rfl, .inl ⟨rfl, rfl⟩⟩
  · rw [sameL_iff] at *
    obtain ⟨h0, h1 | h1⟩ := h
    · exact ⟨h0.symm, .inl ⟨h1.1.symm, h1.2.symm⟩⟩
    · exact ⟨h0.symm, .inr ⟨h1.2.symm, h1.1.symm⟩⟩
  · rw [sameL_iff] at *
    obtain ⟨h0, h1⟩ := h
    obtain ⟨g0, g1⟩ := g
    refine ⟨h0.trans g0, ?_⟩
    rcases h1 with h1 | h1 <;> rcases g1 with g1 | g1
    · exact .inl ⟨g1.1.trans h1.1, g1.2.trans h1.2⟩
    · exact .inr ⟨g1.1.trans h1.2, g1.2.trans h1.1⟩
    · exact .inr ⟨g1.1.trans h1.1, g1.2.trans h1.2⟩
    · exact .inl ⟨g1.1.trans h1.2, g1.2.trans h1.1⟩
theorem same_bag {x y : Lit} (h : sameL x y = true) (z : Ter) : (bagL x).countP (eT z) = (bagL y).countP (eT z) := by
  rw [sameL_iff] at h
  obtain ⟨h0, h1⟩ := h
  rw [bag_count, bag_count, h0]
  congr 1
  unfold pairL
  rw [List.countP_cons, List.countP_cons, List.countP_nil, List.countP_cons, List.countP_cons, List.countP_nil]
  rcases h1 with h1 | h1
  · rw [h1.1, h1.2]
  · rw [h1.1, h1.2]; omega
open Classical in
theorem pair_perm {a b c d : Ter} (h : ∀ z, [a, b].countP (eT z) = [c, d].countP (eT z)) : (c = a ∧ d = b) ∨ (c = b ∧ d = a) := by
  have ind : ∀ z u v : Ter, [u, v].countP (eT z) = (if z = u then 1 else 0) + (if z = v then 1 else 0) := fun z u v => by
    rw [List.countP_cons, List.countP_cons, List.countP_nil]
    have e : ∀ w, (if eT z w = true then 1 else 0 : Nat) = if z = w then 1 else 0 := fun w => by
      by_cases g : z = w
      · rw [if_pos g, if_pos ((eT_iff _ _).mpr g)]
      · rw [if_neg g, if_neg (fun y => g ((eT_iff _ _).mp y))]
    rw [e, e]; omega
  have h1 := h c
  have h2 := h d
  have h3 := h a
  rw [ind, ind] at h1 h2 h3
  rw [if_pos rfl] at h1
  by_cases p : c = a
  · refine .inl ⟨p, ?_⟩
    subst p
    rw [if_pos rfl] at h1 h3
    by_cases q : d = b
    · exact q
    · rw [if_neg q] at h2
      rw [if_pos (rfl : d = d)] at h2
      by_cases r : d = c
      · subst r
        rw [if_pos rfl] at h1
        by_cases t : d = b
        · exact t
        · rw [if_neg t] at h1; omega
      · rw [if_neg r] at h2; omega
  · rw [if_neg p] at h1
    by_cases q : c = b
    · refine .inr ⟨q, ?_⟩
      by_cases r : d = a
      · exact r
      · rw [if_pos rfl, if_neg (show ¬ a = c from fun z => p z.symm), if_neg (show ¬ a = d from fun z => r z.symm)] at h3
        omega
    · rw [if_neg q] at h1; omega
theorem litO_eq {W : List (Str × Int)} {ps : List Str} {n : Nat} (x y : Lit) : litO W ps n x y = "equal" ↔ sameL x y = true := by
  unfold litO
  rw [cmpM_eq]
  refine ⟨fun h => ?_, fun h => ?_⟩
  · have hc : ∀ z, (bagL x).countP (eT z) = (bagL y).countP (eT z) := fun z => by
      have h1 := wcom_c1 eqvT (bagL x) (bagL y) z
      have h2 := wcom_c2 eqvT (bagL x) (bagL y) z
      rw [h.1] at h1
      rw [h.2] at h2
      rw [List.countP_nil] at h1 h2
      omega
    have hl := wcom_len (e := eT) (bagL x) (bagL y)
    rw [h.1, h.2] at hl
    have hs : x.1 = y.1 := by
      unfold bagL at hl
      by_cases a : x.1 = true <;> by_cases b : y.1 = true
      · rw [a, b]
      · rw [if_pos a, if_neg b] at hl
        simp only [List.length_cons, List.length_nil] at hl
        omega
      · rw [if_neg a, if_pos b] at hl
        simp only [List.length_cons, List.length_nil] at hl
        omega
      · rw [Bool.not_eq_true] at a b
        rw [a, b]
    rw [sameL_iff]
    refine ⟨hs, ?_⟩
    have hp : ∀ z, (pairL x).countP (eT z) = (pairL y).countP (eT z) := fun z => by
      have := hc z
      rw [bag_count, bag_count, hs] at this
      split at this <;> omega
    exact pair_perm hp
  · have c1 : ∀ z, (wcom eT (bagL x) (bagL y)).1.countP (eT z) = 0 := fun z => by rw [wcom_c1 eqvT, same_bag h z]; omega
    have c2 : ∀ z, (wcom eT (bagL x) (bagL y)).2.countP (eT z) = 0 := fun z => by rw [wcom_c2 eqvT, same_bag h z]; omega
    exact ⟨(sameC_of (e := eT) (l := []) (l' := (wcom eT (bagL x) (bagL y)).1) fun z => by rw [c1 z, List.countP_nil]).nil eqvT rfl, (sameC_of (e := eT) (l := []) (l' := (wcom eT (bagL x) (bagL y)).2) fun z => by rw [c2 z, List.countP_nil]).nil eqvT rfl⟩
theorem litO_same {W : List (Str × Int)} {ps : List Str} {n : Nat} {x x' y y' : Lit} (h : sameL x x' = true) (g : sameL y y' = true) : litO W ps n x y = litO W ps n x' y' :=
  cmpM_cong eqvT (resp_gre W ps n) (sameC_of fun z => by rw [wcom_c1 eqvT, wcom_c1 eqvT, same_bag h z, same_bag g z]) (sameC_of fun z => by rw [wcom_c2 eqvT, wcom_c2 eqvT, same_bag h z, same_bag g z])
def GL (W : List (Str × Int)) (ps : List Str) (n : Nat) (x y : Lit) : Prop := litO W ps n x y = "greater"
theorem resp_GL (W : List (Str × Int)) (ps : List Str) (n : Nat) : Resp sameL (GL W ps n) := ⟨fun x x' y h g => (litO_same h (eqvL.refl y)).symm.trans g, fun x y y' h g => (litO_same (eqvL.refl x) h).symm.trans g⟩
theorem litO_less {W : List (Str × Int)} {ps : List Str} {n : Nat} (x y : Lit) : litO W ps n x y = "less" ↔ GL W ps n y x := cmpM_swap eqvT (gre_irr W ps n) (gre_trans W ps n) (resp_gre W ps n) _ _
noncomputable def clO (W : List (Str × Int)) (ps : List Str) (n : Nat) (c d : List Lit) : Str := cmpM (GL W ps n) (wcom sameL c d).1 (wcom sameL c d).2
/-- as the law has it: the second clause's literals, each against the first's -/
theorem clO_law {W : List (Str × Int)} {ps : List Str} {n : Nat} (c d : List Lit) : cmpM (GL W ps n) (wcom sameL d c).2 (wcom sameL d c).1 = clO W ps n c d :=
  cmpM_cong eqvL (resp_GL W ps n) (sameC_of fun z => by rw [wcom_c2 eqvL, wcom_c1 eqvL]) (sameC_of fun z => by rw [wcom_c1 eqvL, wcom_c2 eqvL])
end Own
/-! maximal and selected literals -/
namespace Own
open PySem PySem.Spec PyProof.Rows L2 HT
def overL (W : List (Str × Int)) (ps : List Str) (st : Bool) (y x : Lit) : Prop := litO W ps 8 y x = "greater" ∨ (st = true ∧ litO W ps 8 y x = "equal")
def topL (W : List (Str × Int)) (ps : List Str) (c : List Lit) (i : Nat) (st : Bool) : Prop := ∀ j, j ≠ i → ∀ x y, c[i]? = some x → c[j]? = some y → ¬ overL W ps st y x
noncomputable def topB (W : List (Str × Int)) (ps : List Str) (c : List Lit) (i : Nat) (st : Bool) : Bool := @decide (topL W ps c i st) (Classical.propDecidable _)
theorem topB_iff {W : List (Str × Int)} {ps : List Str} {c : List Lit} {i : Nat} {st : Bool} : topB W ps c i st = true ↔ topL W ps c i st := by
  unfold topB
  exact @decide_eq_true_iff _ (Classical.propDecidable _)
theorem topB_false {W : List (Str × Int)} {ps : List Str} {c : List Lit} {i : Nat} {st : Bool} (h : ¬ topL W ps c i st) : topB W ps c i st = false := Bool.eq_false_iff.mpr fun z => h (topB_iff.mp z)
def wtL (W : List (Str × Int)) (x : Lit) : Int := x.2.1.wt W + x.2.2.wt W
def negAt (c : List Lit) (k : Nat) : Bool := match c[k]? with
  | some x => !x.1
  | none => false
def negs (c : List Lit) (n : Nat) : List Nat := (List.range n).filter (negAt c)
theorem negs_succ (c : List Lit) (n : Nat) : negs c (n + 1) = negs c n ++ (if negAt c n = true then [n] else []) := by
  unfold negs
  rw [List.range_succ, List.filter_append]
  congr 1
  by_cases h : negAt c n = true
  · rw [if_pos h, List.filter_cons_of_pos h]; rfl
  · rw [if_neg h, List.filter_cons_of_neg h]; rfl
def hvS (W : List (Str × Int)) (c : List Lit) (acc : Option Nat × Int) (k : Nat) : Option Nat × Int := match c[k]? with
  | some x => if acc.2 < wtL W x then (some k, wtL W x) else acc
  | none => acc
def heavy (W : List (Str × Int)) (c : List Lit) (n : Nat) : Option Nat × Int := (negs c n).foldl (hvS W c) (none, 0)
noncomputable def firstTop (W : List (Str × Int)) (ps : List Str) (c : List Lit) (n : Nat) : Option Nat := (negs c n).find? fun k => topB W ps c k false
noncomputable def selO (W : List (Str × Int)) (ps : List Str) (c : List Lit) (sel : Int) : Option Nat := if sel = 1 then (heavy W c c.length).1 else if sel = 2 then firstTop W ps c c.length else none
theorem heavy_succ (W : List (Str × Int)) (c : List Lit) (n : Nat) : heavy W c (n + 1) = if negAt c n = true then hvS W c (heavy W c n) n else heavy W c n := by
  unfold heavy
  rw [negs_succ, List.foldl_append]
  split <;> rfl
theorem firstTop_succ (W : List (Str × Int)) (ps : List Str) (c : List Lit) (n : Nat) : firstTop W ps c (n + 1) = (firstTop W ps c n).or (if negAt c n = true ∧ topB W ps c n false = true then some n else none) := by
  unfold firstTop
  rw [negs_succ, List.find?_append]
  congr 1
  by_cases h : negAt c n = true
  · rw [if_pos h]
    by_cases g : topB W ps c n false = true
    · rw [if_pos ⟨h, g⟩, List.find?_cons_of_pos (p := fun k => topB W ps c k false) g]
    · rw [if_neg (fun z => g z.2), List.find?_cons_of_neg (p := fun k => topB W ps c k false) g]; rfl
  · rw [if_neg h, if_neg (fun z => h z.1)]; rfl
def optV : Option Nat → V
  | none => .non
  | some k => .int (k : Nat)
def bindL (s : Key → Ter) (x : Lit) : Lit := (x.1, x.2.1.bind s, x.2.2.bind s)
noncomputable def eligB (W : List (Str × Int)) (ps : List Str) (c : List Lit) (i : Nat) (s : Key → Ter) (sel : Int) (st : Bool) : Bool := match selO W ps c sel with
  | some k => decide (k = i)
  | none => topB W ps (c.map (bindL s)) i st
end Own
/-! {e} in an f-string: a text, an int, or True or False -/
namespace L2
open PySem PySem.Spec PyProof.Rows
section
variable {X : Cx}
def tFmtA (te : TE) : TE := fun σ H Q => te σ H fun x H1 => (∃ y : Str, x = .str y ∧ y.length ≤ sizeLine ∧ Q (.str y) H1) ∨ (∃ i : Int, x = .int i ∧ i.natAbs.log2 < 1920 ∧ Q (.str (toString i)) H1) ∨ ∃ b : Bool, x = .bl b ∧ Q (.str (if b then "True" else "False")) H1
theorem pe_fmtA {e : Expr} {te : TE} {pos : Pos} (he : PE X e te) : PE X (.FormattedValue e (-1) none pos) (tFmtA te) := by
  refine ⟨fun pins s σ H Q I h => ?_⟩
  refine wpAny_FormattedValue_plain (thn (he.run pins s σ H _ I h) fun v s1 hv => ?_)
  obtain ⟨x, H1, I1, r1, q⟩ := hv
  rcases q with ⟨y, rfl, hz, q⟩ | ⟨i, rfl, hz, q⟩ | ⟨b, rfl, q⟩
  · obtain ⟨t, rfl⟩ := r1
    exact wpAny_formatField_str ⟨.str y, H1, I1, ⟨t, rfl⟩, q⟩ ⟨.str y, H1, I1.tok _, ⟨_, rfl⟩, q⟩ hz
  · obtain ⟨t, rfl⟩ := r1
    exact wpAny_formatField_int hz ⟨.str (toString i), H1, I1.tok _, ⟨_, rfl⟩, q⟩
  · cases r1
    exact wpAny_formatField_bool ⟨.str (if b then "True" else "False"), H1, I1.tok _, ⟨_, rfl⟩, q⟩
end
end L2
namespace K15
open PySem PySem.Spec PyProof.Rows L2 Own HT
def topS (i : Nat) : Stmt := PySem.Challenge.pw_elenchus_k15_symbols_and_variables_of_fo.main.body.getD i (.Pass ⟨0, 0, 0, 0⟩)
abbrev s__wall : Stmt := topS 0
abbrev s_is_integer : Stmt := topS 4
abbrev s_decimal : Stmt := topS 5
abbrev s_worded : Stmt := topS 7
abbrev s_ElenchusError : Stmt := topS 8
abbrev s_UnknownSymbol : Stmt := topS 9
abbrev s_KindError : Stmt := topS 10
abbrev s_ArityError : Stmt := topS 11
abbrev s_TooLarge : Stmt := topS 12
abbrev s_is_variable : Stmt := topS 15
abbrev s_variables_of : Stmt := topS 16
abbrev s_Signature : Stmt := topS 19
abbrev s_formula_signature : Stmt := topS 20
abbrev s_clause_signature : Stmt := topS 21
abbrev s_add_literal : Stmt := topS 22
abbrev s_add_functions : Stmt := topS 23
abbrev s_parts : Stmt := topS 24
abbrev s_free_variables : Stmt := topS 25
abbrev s_first_free_variables : Stmt := topS 26
abbrev s_formula_literals : Stmt := topS 27
abbrev s__law_draws : Stmt := topS 29
abbrev s__law_take : Stmt := topS 30
abbrev s__law_words : Stmt := topS 31
abbrev s__law_variable : Stmt := topS 32
abbrev s__law_term : Stmt := topS 33
abbrev s__law_named : Stmt := topS 34
abbrev s__law_atom : Stmt := topS 35
abbrev s__law_formula : Stmt := topS 36
abbrev s__law_literal : Stmt := topS 37
abbrev s__law_clause : Stmt := topS 38
abbrev s__law_same : Stmt := topS 39
abbrev s__law_sides : Stmt := topS 40
abbrev s__law_symbols : Stmt := topS 41
abbrev s__law_signature : Stmt := topS 42
abbrev s__law_names : Stmt := topS 43
abbrev s__law_free : Stmt := topS 44
abbrev s__law_told : Stmt := topS 45
abbrev s_law : Stmt := topS 46
structure Df (K : PySem.W.Frag) (mg : Str → Option Value) (x : Str) (st : Stmt) (ps : List Str) (f : Addr) (fd : FuncData) : Prop where
  F : Fun K x x st f fd
  b : Binds K fd ps []
  m : mg x = some (.ref f)
section
variable {P : Program} {w : World} {K : PySem.W.Frag} {mg : Str → Option Value} {base : Heap}
/-! ### is_variable -/
def spIsVar : Sp := fun vs H Q _ => ∃ v t, vs = [v] ∧ TmAt H v t ∧ Q (.bl t.isVar) H
theorem sc_is_variable : FnScope ["term"] ["term"] (defScope s_is_variable) := ⟨rfl, rfl, rfl, by decide +kernel, rfl, by decide +kernel, by decide +kernel⟩
theorem ok_is_variable {f : Addr} {fd : FuncData} (D : Df K mg "is_variable" s_is_variable ["term"] f fd) (mi : mg "isinstance" = none) (mt : mg "tuple" = none) : FnOk P w K mg base CX0 1 f fd ["term"] spIsVar := by
  refine D.F.ok sc_is_variable (fun vs H Q E h => ?_) (fun cdv A outer s H vs Q E hr h => ?_)
  · obtain ⟨v, t, rfl, _⟩ := h; rfl
  obtain ⟨v, t, rfl, ht, q⟩ := h
  refine ⟨_, pss_one (ps_ret (pe_not (pe_callB call_isiTer (by rfl) mi (by decide +kernel) (pa_cons (pv 0) (pa_cons (pe_bltn (v := .ty "tuple") (by rfl) mt (by decide +kernel) rfl) pa_nil))))), ?_⟩
  refine ⟨v, rfl, v, t, rfl, ht, _, rfl, ?_⟩
  rw [Bool.not_not]
  exact q
end

section
variable {P : Program} {w : World} {K : PySem.W.Frag} {mg : Str → Option Value} {base : Heap}
/-! ### _law_draws -/
def spDraws (K : PySem.W.Frag) : Sp := fun vs H Q _ => ∃ (a : Addr) (ns : List Int), vs = [.ref a] ∧ SqL K H a (ns.map V.int) ∧ ns.length ≤ 63 ∧ ∀ (p : Addr) (H' : Hp), Same H H' → H p = none → Ints H' p → Q (.ref p) H'
theorem sc_law_draws : FnScope ["_law_script", "_law_draws_here", "_law_cell", "_law_number", "_law_first", "_law_k", "_law_seed"] ["_law_script"] (defScope s__law_draws) := ⟨rfl, rfl, rfl, by decide +kernel, rfl, by decide +kernel, by decide +kernel⟩
theorem ok_law_draws {f : Addr} {fd : FuncData} (D : Df K mg "_law_draws" s__law_draws ["_law_script"] f fd) (mabs : mg "abs" = none) (mint : mg "int" = none) (mr : mg "range" = none) (ml : mg "len" = none) (mli : mg "list" = none) (mrev : mg "reversed" = none) : FnOk P w K mg base CX0 1 f fd ["_law_script"] (spDraws K) := by
  refine D.F.ok sc_law_draws (fun vs H Q E h => ?_) (fun cdv A outer s H vs Q E hr h => ?_)
  · obtain ⟨a, ns, rfl, _⟩ := h; rfl
  obtain ⟨a, ns, rfl, hS, hn, q⟩ := h
  have nd := sc_law_draws.nd
  refine ⟨_, pss_cons (ps_set (i := 1) nd rfl (.inl rfl) (pe_lst pa_nil))
    (pss_cons (ps_for PassesOwn.never rfl (pi_list (pv 0)) (pg_name (i := 2) nd rfl (.inl rfl))
      (pss_cons (ps_set (i := 3) nd rfl (.inl rfl) (pe_callB call_abs (by rfl) mabs (by decide +kernel) (pa_cons (pv 2) pa_nil)))
      (C8.pss_cut (ps_if (pt_cmpR op_lt (pv 3) (pe_op op_pow pe_int pe_int) (nomark _))
        (pss_cons (ps_set (i := 4) nd rfl (.inl rfl) (pe_op op_mod (pe_callTy call_int1 (by rfl) mint (by decide +kernel) (pa_cons (pe_op op_add (pe_op op_mul (pv 3) pe_int) pe_int) pa_nil)) pe_int))
        (pss_cons (ps_expr (pe_bm PySem.F.plainAttrs_list PySem.F.slot_list_append PySem.F.type_list_append mt_append (pv 1) (pa_cons (pe_op op_mod (pe_callTy call_int1 (by rfl) mint (by decide +kernel) (pa_cons (pe_op op_add (pe_op op_mul (pv 4) pe_int) (pv 3)) pa_nil)) pe_int) pa_nil)))
        (pss_cons (ps_expr (pe_bm PySem.F.plainAttrs_list PySem.F.slot_list_append PySem.F.type_list_append mt_append (pv 1) (pa_cons (pe_op op_mod (pe_callTy call_int1 (by rfl) mint (by decide +kernel) (pa_cons (pe_op op_add (pv 4) (pe_op op_fdiv (pv 3) pe_int)) pa_nil)) pe_int) pa_nil)))
        (pss_one (ps_set (i := 3) nd rfl (.inl rfl) pe_int))))) pss_nil)
      (pss_one (ps_for PassesOwn.never rfl (pi_range1 (by rfl) mr (pa_cons pe_int pa_nil)) (pg_name (i := 5) nd rfl (.inl rfl))
        (pss_one (ps_if (pt_cmpR op_gt (pv 3) pe_int (nomark _))
          (pss_cons (ps_expr (pe_bm PySem.F.plainAttrs_list PySem.F.slot_list_append PySem.F.type_list_append mt_append (pv 1) (pa_cons (pe_op op_mod (pe_callTy call_int1 (by rfl) mint (by decide +kernel) (pa_cons (pv 3) pa_nil)) pe_int) pa_nil)))
          (pss_one (ps_set (i := 3) nd rfl (.inl rfl) (pe_op op_fdiv (pv 3) pe_int)))) pss_nil)))))))
    (pss_cons (ps_set (i := 6) nd rfl (.inl rfl) pe_int)
    (C8.pss_cut (ps_if (pt_cmpR op_gt (pe_callB call_len_seq (by rfl) ml PySem.boot_len (pa_cons (pv 0) pa_nil)) pe_int (nomark _))
      (pss_one (ps_set (i := 6) nd rfl (.inl rfl) (pe_op op_add pe_int (pe_callB call_abs (by rfl) mabs (by decide +kernel) (pa_cons (pe_ix ix_list (pv 0) pe_int (fun _ _ => rfl)) pa_nil))))) pss_nil)
    (pss_cons (ps_for PassesOwn.never rfl (pi_range1 (by rfl) mr (pa_cons pe_int pa_nil)) (pg_name (i := 5) nd rfl (.inl rfl))
      (pss_cons (ps_set (i := 6) nd rfl (.inl rfl) (pe_op op_mod (pe_callTy call_int1 (by rfl) mint (by decide +kernel) (pa_cons (pe_op op_add (pe_op op_mul (pv 6) pe_int) pe_int) pa_nil)) pe_int))
      (pss_one (ps_expr (pe_bm PySem.F.plainAttrs_list PySem.F.slot_list_append PySem.F.type_list_append mt_append (pv 1) (pa_cons (pe_op op_fdiv (pv 6) pe_int) pa_nil))))))
    (pss_one (ps_ret (pe_listRev rfl (by rfl) mli (by rfl) mrev (pv 1)))))))), ?_⟩
  refine ⟨Nat.zero_le _, fun d nd' => ?_⟩
  have hz : ∀ {n : Nat}, n ≤ 100000 → n < sizeLine := fun h => Nat.lt_of_le_of_lt h (by decide)
  -- one more int at d
  have app : ∀ {H2 : Hp} {ms : List Int} {m : Int}, Same H H2 → H2 d = some (.lst (ms.map V.int)) → Same H (upd H2 d (.lst ((ms ++ [m]).map V.int))) ∧ (upd H2 d (.lst ((ms ++ [m]).map V.int))) d = some (.lst ((ms ++ [m]).map V.int)) := fun sm e => ⟨But.same nd' sm But.upd, upd_same⟩
  have e1 : ∀ (ms : List Int) (m : Int), (ms.map V.int) ++ [V.int m] = (ms ++ [m]).map V.int := fun ms m => by rw [List.map_append]; rfl
  refine ⟨.ref a, rfl, a, rfl, ⟨_, (same_new nd' _).seq hS⟩, for_list (xs := ns.map V.int) (fun i σ H2 => ∃ (ms : List Int) (y2 y3 y4 y5 : Option V), σ = [some (.ref a), some (.ref d), y2, y3, y4, y5, none] ∧ Same H H2 ∧ H2 d = some (.lst (ms.map V.int)) ∧ ms.length ≤ 62 * i)
    ⟨[], none, none, none, none, rfl, same_new nd' _, upd_same, Nat.zero_le _⟩ (fun i σ H2 _ h => ?_) (fun i x σ H2 hx h => ?_) (fun σ H2 h => ?_)⟩
  · obtain ⟨_, _, _, _, _, _, sm, _⟩ := h
    exact sm.seq hS
  · -- one cell
    obtain ⟨ms, y2, y3, y4, y5, rfl, sm, ed, lm⟩ := h
    have hi : i < 63 := by
      have := (List.getElem?_eq_some_iff.mp hx).1
      rw [List.length_map] at this
      omega
    obtain ⟨n, rfl⟩ : ∃ n, x = V.int n := by
      rw [List.getElem?_map] at hx
      cases e : ns[i]? with
      | none => rw [e] at hx; cases hx
      | some n => rw [e] at hx; exact ⟨n, (Option.some.inj hx).symm⟩
    refine ⟨_, rfl, n, rfl, ?_⟩
    generalize (if n < 0 then -n else n) = m
    refine ⟨fun σ H3 => ∃ (ms : List Int) (m : Int) (y4 : Option V), σ = [some (.ref a), some (.ref d), some (.int n), some (.int m), y4, y5, none] ∧ Same H H3 ∧ H3 d = some (.lst (ms.map V.int)) ∧ ms.length ≤ 62 * i + 2, ?_, fun σ H3 h => ?_⟩
    · refine ⟨_, rfl, _, _, rfl, rfl, ⟨by decide, by decide, by decide⟩, _, _, rfl, rfl, _, rfl, ite2 (fun _ => ?_) (fun _ => ?_)⟩
      · refine ⟨_, rfl, _, _, rfl, rfl, .inr ⟨by decide, by decide⟩, _, _, rfl, rfl, .inl ⟨_, rfl, _, _, rfl, rfl, (by show (0 : Int) < 2147483647; decide), ?_⟩⟩
        refine ⟨.ref d, rfl, tyl ed, _, rfl, _, _, rfl, rfl, .inr ⟨by decide, by decide⟩, _, rfl, _, _, rfl, rfl, .inl ⟨_, rfl, _, _, rfl, rfl, (by show (0 : Int) < 2147483629; decide), ?_⟩⟩
        refine ⟨d, _, _, rfl, rfl, ed, hz (by rw [List.length_map]; omega), ?_⟩
        rw [e1]
        obtain ⟨sm2, ed2⟩ := app (m := ((m * 48271 + 11) % 2147483647 * 69621 + m) % 2147483629) sm ed
        refine ⟨.ref d, rfl, tyl ed2, _, rfl, _, rfl, _, _, rfl, rfl, ⟨by decide, by decide⟩, _, _, rfl, rfl, .inl ⟨_, rfl, _, _, rfl, rfl, (by show (0 : Int) < 1000003; decide), ?_⟩⟩
        refine ⟨d, _, _, rfl, rfl, ed2, hz (by rw [List.length_map, List.length_append, List.length_singleton]; omega), ?_⟩
        rw [e1]
        obtain ⟨sm3, ed3⟩ := app (m := ((m * 48271 + 11) % 2147483647 + m / 7) % 1000003) sm2 ed2
        exact ⟨_, 0, _, rfl, sm3, ed3, by rw [List.length_append, List.length_append, List.length_singleton, List.length_singleton]; omega⟩
      · exact ⟨ms, m, y4, rfl, sm, ed, by omega⟩
    · obtain ⟨ms, m, y4, rfl, sm, ed, lm2⟩ := h
      refine ⟨60, rfl, by decide, by decide, for_range (n := 60) (fun j σ H3 => ∃ (ms : List Int) (m : Int) (y5 : Option V), σ = [some (.ref a), some (.ref d), some (.int n), some (.int m), y4, y5, none] ∧ Same H H3 ∧ H3 d = some (.lst (ms.map V.int)) ∧ ms.length ≤ 62 * i + 2 + j)
        ⟨ms, m, y5, rfl, sm, ed, lm2⟩ (fun j σ H3 hj h => ?_) (fun σ H3 h => ?_)⟩
      · obtain ⟨ms, m, y5, rfl, sm, ed, lm3⟩ := h
        refine ⟨_, rfl, _, _, rfl, rfl, _, rfl, ite2 (fun _ => ?_) (fun _ => ?_)⟩
        · refine ⟨.ref d, rfl, tyl ed, _, rfl, .inl ⟨_, rfl, _, _, rfl, rfl, (by show (0 : Int) < 997; decide), ?_⟩⟩
          refine ⟨d, _, _, rfl, rfl, ed, hz (by rw [List.length_map]; omega), ?_⟩
          rw [e1]
          obtain ⟨sm2, ed2⟩ := app (m := m % 997) sm ed
          refine ⟨_, rfl, _, _, rfl, rfl, ⟨by decide, by decide⟩, ?_⟩
          exact ⟨_, _, _, rfl, sm2, ed2, by rw [List.length_append, List.length_singleton]; omega⟩
        · exact ⟨ms, m, _, rfl, sm, ed, by omega⟩
      · obtain ⟨ms, m, y5, rfl, sm, ed, lm3⟩ := h
        exact ⟨ms, _, _, _, _, rfl, sm, ed, by omega⟩
  · -- behind the cells
    obtain ⟨ms, y2, y3, y4, y5, rfl, sm, ed, lm⟩ := h
    rw [List.length_map] at lm
    refine ⟨fun σ H3 => ∃ (z : Int), σ = [some (.ref a), some (.ref d), y2, y3, y4, y5, some (.int z)] ∧ H3 = H2, ?_, fun σ H3 h => ?_⟩
    · refine ⟨.ref a, rfl, a, _, rfl, .inl (sm.seq hS), _, _, rfl, rfl, _, rfl, ite2 (fun c => ?_) (fun _ => ⟨_, rfl, rfl⟩)⟩
      have c := of_decide_eq_true c
      rw [List.length_map] at c
      obtain ⟨x, r, rfl⟩ : ∃ x r, ns = x :: r := by
        cases ns with
        | nil => exact absurd c (by decide)
        | cons x r => exact ⟨x, r, rfl⟩
      exact ⟨.ref a, rfl, a, _, 0, .int x, rfl, rfl, sm.seq hS, atI_nat (j := 0) rfl, x, rfl, _, _, rfl, rfl, _, rfl, rfl⟩
    · obtain ⟨z, rfl, rfl⟩ := h
      refine ⟨60, rfl, by decide, by decide, for_range (n := 60) (fun j σ H3 => ∃ (ms : List Int) (z : Int) (y5 : Option V), σ = [some (.ref a), some (.ref d), y2, y3, y4, y5, some (.int z)] ∧ Same H H3 ∧ H3 d = some (.lst (ms.map V.int)) ∧ ms.length ≤ 3906 + j)
        ⟨ms, z, y5, rfl, sm, ed, by omega⟩ (fun j σ H3 hj h => ?_) (fun σ H3 h => ?_)⟩
      · obtain ⟨ms, z, y5, rfl, sm, ed, lm3⟩ := h
        refine ⟨_, rfl, _, _, rfl, rfl, .inr ⟨by decide, by decide⟩, _, _, rfl, rfl, .inl ⟨_, rfl, _, _, rfl, rfl, (by show (0 : Int) < 2147483647; decide), ?_⟩⟩
        refine ⟨.ref d, rfl, tyl ed, _, rfl, _, _, rfl, rfl, ⟨by decide, by decide⟩, ?_⟩
        refine ⟨d, _, _, rfl, rfl, ed, hz (by rw [List.length_map]; omega), ?_⟩
        rw [e1]
        obtain ⟨sm2, ed2⟩ := app (m := (z * 48271 + 69621) % 2147483647 / 5) sm ed
        exact ⟨_, _, _, rfl, sm2, ed2, by rw [List.length_append, List.length_singleton]; omega⟩
      · obtain ⟨ms, z, y5, rfl, sm, ed, lm3⟩ := h
        refine ⟨.ref d, rfl, d, _, rfl, .inl (.inl ed), fun p np => ?_⟩
        have s3 := same_new np (.lst (ms.map V.int).reverse)
        exact q p _ (sm.trans s3) (sm.free np) ⟨ms.reverse, by rw [List.length_reverse]; omega, by rw [upd_same, List.map_reverse]⟩
/-! ### _law_take -/
def spTake : Sp := fun vs H Q _ => ∃ (d : Addr) (b : Int), vs = [.ref d, .int b] ∧ Ints H d ∧ 0 < b ∧ ∀ (r : Int) (H' : Hp), 0 ≤ r → r < b → But d H H' → Ints H' d → Q (.int r) H'
theorem sc_law_take : FnScope ["_law_draws_here", "_law_bound"] ["_law_draws_here", "_law_bound"] (defScope s__law_take) := ⟨rfl, rfl, rfl, by decide +kernel, rfl, by decide +kernel, by decide +kernel⟩
theorem ok_law_take {f : Addr} {fd : FuncData} (D : Df K mg "_law_take" s__law_take ["_law_draws_here", "_law_bound"] f fd) (ml : mg "len" = none) (mint : mg "int" = none) : FnOk P w K mg base CX0 1 f fd ["_law_draws_here", "_law_bound"] spTake := by
  refine D.F.ok sc_law_take (fun vs H Q E h => ?_) (fun cdv A outer s H vs Q E hr h => ?_)
  · obtain ⟨d, b, rfl, _⟩ := h; rfl
  obtain ⟨d, b, rfl, ⟨ms, lm, ed⟩, hb, q⟩ := h
  refine ⟨_, pss_cons (ps_if (pt_cmpR op_eq (pe_callB call_len_seq (by rfl) ml PySem.boot_len (pa_cons (pv 0) pa_nil)) pe_int (nomark _)) (pss_one (ps_ret pe_int)) pss_nil)
    (pss_one (ps_ret (pe_op op_mod (pe_callTy call_int1 (by rfl) mint (by decide +kernel) (pa_cons (pe_bm0 PySem.F.plainAttrs_list PySem.F.slot_list_pop PySem.F.type_list_pop mt_popL (pv 0)) pa_nil)) (pv 1)))), ?_⟩
  refine ⟨.ref d, rfl, d, _, rfl, .inl (.inl (.inl ed)), rfl, _, rfl, ite2 (fun c => ?_) (fun c => ?_)⟩
  · exact q 0 H (Int.le_refl 0) hb (But.refl d H) ⟨ms, lm, ed⟩
  · have hm : ms ≠ [] := fun z => by
      subst z
      exact c (decide_eq_true rfl)
    obtain ⟨ms', m, rfl⟩ : ∃ ms' m, ms = ms' ++ [m] := ⟨_, _, (List.dropLast_concat_getLast hm).symm⟩
    rw [List.map_append] at ed
    refine ⟨.ref d, rfl, tyl ed, d, ms'.map V.int, .int m, rfl, rfl, ed, .inl ⟨m, rfl, .int b, rfl, _, _, rfl, rfl, hb, ?_⟩⟩
    exact q _ _ (Int.emod_nonneg _ (by omega)) (Int.emod_lt_of_pos _ hb) But.upd ⟨ms', by rw [List.length_append] at lm; omega, upd_same⟩
/-! ### _law_words -/
def spWords : Sp := fun vs H Q _ => ∃ (d : Addr) (n : Nat), vs = [.ref d, .int n] ∧ Ints H d ∧ n ≤ 9 ∧ ∀ (p : Addr) (ws : List Str) (H' : Hp), But d H H' → H p = none → Ints H' d → H' p = some (.lst (ws.map V.str)) → ws.length = n → Words ws → Q (.ref p) H'
theorem sc_law_words : FnScope ["_law_draws_here", "_law_many", "_law_letters", "_law_signs", "_law_words_here", "_law_k", "_law_word", "_law_j"] ["_law_draws_here", "_law_many"] (defScope s__law_words) := ⟨rfl, rfl, rfl, by decide +kernel, rfl, by decide +kernel, by decide +kernel⟩
theorem ok_law_words {f fT : Addr} {fd fdT : FuncData} (D : Df K mg "_law_words" s__law_words ["_law_draws_here", "_law_many"] f fd) (DT : Df K mg "_law_take" s__law_take ["_law_draws_here", "_law_bound"] fT fdT) (G : FnOk P w K mg base CX0 1 fT fdT ["_law_draws_here", "_law_bound"] spTake) (mr : mg "range" = none) : FnOk P w K mg base CX0 2 f fd ["_law_draws_here", "_law_many"] spWords := by
  refine D.F.ok sc_law_words (fun vs H Q E h => ?_) (fun cdv A outer s H vs Q E hr h => ?_)
  · obtain ⟨d, n, rfl, _⟩ := h; rfl
  obtain ⟨d, n, rfl, hI, hn, q⟩ := h
  have nd := sc_law_words.nd
  refine ⟨_, pss_cons (ps_set (i := 2) nd rfl (.inl rfl) pe_str) (pss_cons (ps_set (i := 3) nd rfl (.inl rfl) (pe_op op_add_str (pv 2) pe_str)) (pss_cons (ps_set (i := 4) nd rfl (.inl rfl) (pe_lst pa_nil))
    (pss_cons (ps_for PassesOwn.never rfl (pi_range1 (by rfl) mr (pa_cons (pv 1) pa_nil)) (pg_name (i := 5) nd rfl (.inl rfl))
      (pss_cons (ps_set (i := 6) nd rfl (.inl rfl) (pe_item_str (pv 2) (pe_call G hr (by rfl) DT.m DT.F.kp DT.b .nil pass0 (pa_cons (pv 0) (pa_cons pe_int pa_nil))) (fun _ _ => rfl)))
      (pss_cons (ps_for PassesOwn.never rfl (pi_range1 (by rfl) mr (pa_cons (pe_call G hr (by rfl) DT.m DT.F.kp DT.b .nil pass0 (pa_cons (pv 0) (pa_cons pe_int pa_nil))) pa_nil)) (pg_name (i := 7) nd rfl (.inl rfl))
        (pss_one (ps_set (i := 6) nd rfl (.inl rfl) (pe_op op_add_str (pv 6) (pe_item_str (pv 3) (pe_call G hr (by rfl) DT.m DT.F.kp DT.b .nil pass0 (pa_cons (pv 0) (pa_cons pe_int pa_nil))) (fun _ _ => rfl))))))
      (pss_cons (ps_for PassesOwn.never rfl (pi_range1 (by rfl) mr (pa_cons pe_int pa_nil)) (pg_name (i := 7) nd rfl (.inl rfl))
        (pss_one (ps_if (PW.pt (pw_or (pt_cmpR op_in_seq (pv 6) (pv 4) (by rfl)) (pw_or1 (pt_cmpR op_in_seq (pv 6) (pe_lst (pa_cons pe_str (pa_cons pe_str (pa_cons pe_str (pa_cons pe_str (pa_cons pe_str (pa_cons pe_str pa_nil))))))) (by rfl)))))
          (pss_one (ps_set (i := 6) nd rfl (.inl rfl) (pe_op op_add_str (pv 6) pe_str))) pss_nil)))
      (pss_one (ps_expr (pe_bm PySem.F.plainAttrs_list PySem.F.slot_list_append PySem.F.type_list_append mt_append (pv 4) (pa_cons (pv 6) pa_nil))))))))
    (pss_one (ps_ret (pv 4)))))), ?_⟩
  have hz : ∀ {n : Nat}, n ≤ 100000 → n ≤ sizeLine := fun h => Nat.le_trans h (by decide)
  refine ⟨_, rfl, _, _, rfl, rfl, hz (by decide +kernel), ?_⟩
  refine ⟨Nat.zero_le _, fun p np => ?_⟩
  have hpd : p ≠ d := hI.ne np
  refine ⟨.int n, rfl, (n : Int), rfl, by omega, by omega, for_range (n := (n : Int).toNat) (fun i σ H2 => ∃ (ws : List Str) (y5 y6 y7 : Option V), σ = [some (.ref d), some (.int n), some (.str LET), some (.str SGN), some (.ref p), y5, y6, y7] ∧ But d H H2 ∧ Ints H2 d ∧ H2 p = some (.lst (ws.map V.str)) ∧ ws.length = i ∧ Words ws)
    ⟨[], none, none, none, rfl, (same_new np _).but, hI.same (same_new np _), upd_same, rfl, ⟨(fun _ h => by cases h), List.nodup_nil, (fun _ h => by cases h)⟩⟩ (fun i σ H2 hi h => ?_) (fun σ H2 h => ?_)⟩
  · obtain ⟨ws, y5, y6, y7, rfl, b2, hI2, ep, lw, hw⟩ := h
    have hi9 : i < 9 := by omega
    refine ⟨_, rfl, _, rfl, d, 26, rfl, hI2, by decide, fun r H3 r0 r1 b3 hI3 => ?_⟩
    obtain ⟨c, hc, c1, c2⟩ := let_at (i := r.toNat) (by omega)
    refine ⟨LET, r, c, rfl, rfl, r0, by omega, by rw [let_len]; omega, hc, ?_⟩
    have ep3 := b3 p _ hpd ep
    -- the further signs
    refine ⟨_, rfl, d, 4, rfl, hI3, by decide, fun m H4 m0 m1 b4 hI4 => ?_⟩
    refine ⟨m, rfl, by omega, by omega, for_range (n := m.toNat) (fun j σ H5 => ∃ (x : Str) (y7 : Option V), σ = [some (.ref d), some (.int n), some (.str LET), some (.str SGN), some (.ref p), some (.int (0 + (i : Int))), some (.str x), y7] ∧ But d H2 H5 ∧ Ints H5 d ∧ WordIn x (1 + j))
      ⟨_, y7, rfl, b3.trans b4, hI4, word1 c1 c2⟩ (fun j σ H5 hj h => ?_) (fun σ H5 h => ?_)⟩
    · obtain ⟨x, y7, rfl, b5, hI5, wx⟩ := h
      refine ⟨_, rfl, _, rfl, _, rfl, d, 63, rfl, hI5, by decide, fun r H6 r0 r1 b6 hI6 => ?_⟩
      obtain ⟨c, hc, c1⟩ := sgn_at (i := r.toNat) (by omega)
      refine ⟨SGN, r, c, rfl, rfl, r0, by omega, by rw [sgn_len]; omega, hc, ?_⟩
      have l1 := wx.len
      refine ⟨_, _, rfl, rfl, hz (by show x.length + 1 ≤ 100000; omega), ?_⟩
      exact ⟨_, _, rfl, b5.trans b6, hI6, by rw [← Nat.add_assoc]; exact wx.add (by show (chOk c && true) = true; rw [c1]; rfl) (Nat.le_refl 1)⟩
    · obtain ⟨x, y7, rfl, b5, hI5, wx⟩ := h
      have ep5 := b5 p _ hpd ep
      -- made longer where it is taken
      refine ⟨30, rfl, by decide, by decide, for_range (n := 30) (fun j σ H6 => ∃ (x : Str) (y7 : Option V), σ = [some (.ref d), some (.int n), some (.str LET), some (.str SGN), some (.ref p), some (.int (0 + (i : Int))), some (.str x), y7] ∧ But d H2 H6 ∧ Ints H6 d ∧ WordIn x (4 + j) ∧ ((x ∉ ws ∧ x ∉ RES) ∨ longer (ws ++ RES) x.length + j ≤ (ws ++ RES).length))
        ⟨x, y7, rfl, b5, hI5, ⟨wx.head, wx.all, by have := wx.len; omega⟩, .inr (longer_le _ _)⟩ (fun j σ H6 hj h => ?_) (fun σ H6 h => ?_)⟩
      · obtain ⟨x, y7, rfl, b6, hI6, wx, hx⟩ := h
        have ep6 := b6 p _ hpd ep
        have longerx : ∀ (y : Str) H7 y7, But d H2 H7 → Ints H7 d → y ∈ ws ++ RES → y = x → ∃ (x' : Str) (y7' : Option V), ([some (.ref d), some (.int n), some (.str LET), some (.str SGN), some (.ref p), some (.int (0 + (i : Int))), some (.str (x ++ ("x" : Str))), y7] : L2.St) = [some (.ref d), some (.int n), some (.str LET), some (.str SGN), some (.ref p), some (.int (0 + (i : Int))), some (.str x'), y7'] ∧ But d H2 H7 ∧ Ints H7 d ∧ WordIn x' (4 + (j + 1)) ∧ ((x' ∉ ws ∧ x' ∉ RES) ∨ longer (ws ++ RES) x'.length + (j + 1) ≤ (ws ++ RES).length) := fun y H7 y7 b7 hI7 hy e => by
          subst e
          refine ⟨_, _, rfl, b7, hI7, ?_, .inr ?_⟩
          · rw [← Nat.add_assoc]
            exact wx.add (by decide +kernel) (by decide +kernel)
          · have l1 : (y ++ ("x" : Str)).length = y.length + 1 := by
              rw [app_len]
              have : ("x" : Str).length = 1 := by decide +kernel
              omega
            have l2 := longer_lt hy
            rw [l1]
            rcases hx with ⟨z1, z2⟩ | hx
            · exact absurd hy (fun z => (List.mem_append.mp z).elim z1 z2)
            · omega
        refine ⟨_, rfl, _, rfl, p, _, rfl, .inl (.inl (.inl ep6)), rfl, flat_strs ws, _, rfl, ?_⟩
        refine ite2 (fun c => ?_) (fun c => ?_)
        · have lx := wx.len
          refine iteT ?_
          refine ⟨_, rfl, _, _, rfl, rfl, hz (by have : ("x" : Str).length = 1 := by decide +kernel
                                                 omega), ?_⟩
          exact longerx x H6 _ b6 hI6 (List.mem_append_left _ ((inV_str x ws).mp c)) rfl
        · refine ⟨_, rfl, by show 6 ≤ sizeLine; decide, fun t nt => ?_⟩
          refine ⟨t, RES.map V.str, rfl, .inl (.inl (.inl upd_same)), rfl, flat_strs RES, _, rfl, ?_⟩
          have htd : t ≠ d := hI6.ne nt
          have b7 : But d H2 (upd H6 t (.lst (RES.map V.str))) := b6.trans (same_new nt _).but
          have hI7 := hI6.same (same_new nt (.lst (RES.map V.str)))
          refine ite2 (fun c2 => ?_) (fun c2 => ?_)
          · have lx := wx.len
            refine ⟨_, rfl, _, _, rfl, rfl, hz (by have : ("x" : Str).length = 1 := by decide +kernel
                                                   omega), ?_⟩
            exact longerx x _ _ b7 hI7 (List.mem_append_right _ ((inV_str x RES).mp c2)) rfl
          · refine ⟨x, _, rfl, b7, hI7, ⟨wx.head, wx.all, by have := wx.len; omega⟩, .inl ⟨fun z => c ((inV_str x ws).mpr z), fun z => c2 ((inV_str x RES).mpr z)⟩⟩
      · obtain ⟨x, y7, rfl, b6, hI6, wx, hx⟩ := h
        have ep6 := b6 p _ hpd ep
        have free : x ∉ ws ∧ x ∉ RES := by
          rcases hx with hx | hx
          · exact hx
          · rw [List.length_append] at hx
            have : RES.length = 6 := rfl
            omega
        refine ⟨.ref p, rfl, tyl ep6, _, rfl, p, _, _, rfl, rfl, ep6, Nat.lt_of_le_of_lt (show (ws.map V.str).length ≤ 1000 by rw [List.length_map]; omega) (by decide), ?_⟩
        rw [show ws.map V.str ++ [V.str x] = (ws ++ [x]).map V.str by rw [List.map_append]; rfl]
        refine ⟨ws ++ [x], _, _, _, rfl, ?_, ?_, upd_same, by rw [List.length_append, List.length_singleton, lw], ?_⟩
        · exact fun b o nb e => by
            have hbp : b ≠ p := ne_of_none e np
            rw [upd_ne hbp]
            exact b6 b o nb (b2 b o nb e)
        · exact hI6.of_but But.upd hpd.symm
        · refine ⟨fun y hy => ?_, ?_, fun y hy => ?_⟩
          · rcases List.mem_append.mp hy with hy | hy
            · exact hw.ok y hy
            · rw [List.mem_singleton.mp hy]; exact wx.ok (by omega)
          · exact nd_snoc hw.nd free.1
          · rcases List.mem_append.mp hy with hy | hy
            · exact hw.res y hy
            · rw [List.mem_singleton.mp hy]; exact free.2
  · obtain ⟨ws, y5, y6, y7, rfl, b2, hI2, ep, lw, hw⟩ := h
    exact ⟨.ref p, rfl, q p ws H2 b2 np hI2 ep (by omega) hw⟩
end

section
variable {P : Program} {w : World} {K : PySem.W.Frag} {mg : Str → Option Value} {base : Heap}
/-! ### _law_variable -/
def spLVar : Sp := fun vs H Q _ => ∃ (d : Addr), vs = [.ref d] ∧ Ints H d ∧ ∀ (r : Int) (H' : Hp), 0 ≤ r → r < 900 → But d H H' → Ints H' d → Q (.int r) H'
theorem sc_law_variable : FnScope ["_law_draws_here"] ["_law_draws_here"] (defScope s__law_variable) := ⟨rfl, rfl, rfl, by decide +kernel, rfl, by decide +kernel, by decide +kernel⟩
theorem ok_law_variable {f fT : Addr} {fd fdT : FuncData} (D : Df K mg "_law_variable" s__law_variable ["_law_draws_here"] f fd) (DT : Df K mg "_law_take" s__law_take ["_law_draws_here", "_law_bound"] fT fdT) (G : FnOk P w K mg base CX0 1 fT fdT ["_law_draws_here", "_law_bound"] spTake) : FnOk P w K mg base CX0 2 f fd ["_law_draws_here"] spLVar := by
  refine D.F.ok sc_law_variable (fun vs H Q E h => ?_) (fun cdv A outer s H vs Q E hr h => ?_)
  · obtain ⟨d, rfl, _⟩ := h; rfl
  obtain ⟨d, rfl, hI, q⟩ := h
  refine ⟨_, pss_cons (ps_if (pt_cmpR op_eq (pe_call G hr (by rfl) DT.m DT.F.kp DT.b .nil pass0 (pa_cons (pv 0) (pa_cons pe_int pa_nil))) pe_int (nomark _)) (pss_one (ps_ret (pe_call G hr (by rfl) DT.m DT.F.kp DT.b .nil pass0 (pa_cons (pv 0) (pa_cons pe_int pa_nil))))) pss_nil)
    (pss_one (ps_ret (pe_call G hr (by rfl) DT.m DT.F.kp DT.b .nil pass0 (pa_cons (pv 0) (pa_cons pe_int pa_nil))))), ?_⟩
  refine ⟨_, rfl, d, 8, rfl, hI, by decide, fun r H1 _ _ b1 hI1 => ?_⟩
  refine ⟨rfl, _, rfl, ite2 (fun _ => ?_) (fun _ => ?_)⟩
  · exact ⟨_, rfl, d, 900, rfl, hI1, by decide, fun r H2 h0 h1 b2 hI2 => q r H2 h0 h1 (b1.trans b2) hI2⟩
  · exact ⟨_, rfl, d, 4, rfl, hI1, by decide, fun r H2 h0 h1 b2 hI2 => q r H2 h0 (by omega) (b1.trans b2) hI2⟩
/-! ### _law_term -/
def spTerm (n : Nat) : Sp := fun vs H Q _ => ∃ (d l : Addr) (ws : List Str) (k : Nat), vs = [.ref d, .ref l, .int k] ∧ Ints H d ∧ H l = some (.lst (ws.map V.str)) ∧ l ≠ d ∧ 6 ≤ ws.length ∧ k < n ∧
  ∀ (v : V) (t : Ter) (H' : Hp), But d H H' → Ints H' d → TmAt H' v t → t.wf (symOf ws) numVar → t.size ≤ 4 ^ (k + 1) → t.nest ≤ k + 1 → Q v H'
theorem sc_law_term : FnScope ["_law_draws_here", "_law_words_here", "_law_depth", "_law_kind", "_law_arguments", "_law_k"] ["_law_draws_here", "_law_words_here", "_law_depth"] (defScope s__law_term) := ⟨rfl, rfl, rfl, by decide +kernel, rfl, by decide +kernel, by decide +kernel⟩
theorem ok_law_term1 {f fT fV : Addr} {fd fdT fdV : FuncData} (D : Df K mg "_law_term" s__law_term ["_law_draws_here", "_law_words_here", "_law_depth"] f fd) (DT : Df K mg "_law_take" s__law_take ["_law_draws_here", "_law_bound"] fT fdT) (GT : FnOk P w K mg base CX0 1 fT fdT ["_law_draws_here", "_law_bound"] spTake)
    (DV : Df K mg "_law_variable" s__law_variable ["_law_draws_here"] fV fdV) (GV : FnOk P w K mg base CX0 2 fV fdV ["_law_draws_here"] spLVar) (mr : mg "range" = none) (mt : mg "tuple" = none) {n : Nat} (G : FnOk P w K mg base CX0 (n + 2) f fd ["_law_draws_here", "_law_words_here", "_law_depth"] (spTerm n)) : FnOk P w K mg base CX0 (n + 2 + 1) f fd ["_law_draws_here", "_law_words_here", "_law_depth"] (spTerm (n + 1)) := by
  refine D.F.ok sc_law_term (fun vs H Q E h => ?_) (fun cdv A outer s H vs Q E hr h => ?_)
  · obtain ⟨d, l, ws, k, rfl, _⟩ := h; rfl
  obtain ⟨d, l, ws, k, rfl, hI, hW, nl, lw, hk, q⟩ := h
  have nd := sc_law_term.nd
  have hr1 : Room 1 _ := hr.mono (by omega)
  have hr2 : Room 2 _ := hr.mono (by omega)
  refine ⟨_, pss_cons (ps_set (i := 3) nd rfl (.inl rfl) (pe_call GT hr1 (by rfl) DT.m DT.F.kp DT.b .nil pass0 (pa_cons (pv 0) (pa_cons pe_int pa_nil))))
    (C8.pss_cut (ps_if (PW.pt (pw_and (pt_cmpR op_eq (pv 2) pe_int (nomark _)) (pw_and1 (pt_cmpR op_gt (pv 3) pe_int (nomark _))))) (pss_one (ps_set (i := 3) nd rfl (.inl rfl) (pe_op op_sub (pv 3) pe_int))) pss_nil)
    (pss_cons (ps_if (pt_cmpR op_eq (pv 3) pe_int (nomark _)) (pss_one (ps_ret (pe_call GV hr2 (by rfl) DV.m DV.F.kp DV.b .nil pass0 (pa_cons (pv 0) pa_nil)))) pss_nil)
    (pss_cons (ps_if (pt_cmpR op_lt (pv 3) pe_int (nomark _)) (pss_one (ps_ret (pe_tup (pa_cons (pe_ix ix_list (pv 1) (pe_op op_sub (pv 3) pe_int) (fun _ _ => rfl)) pa_nil)))) pss_nil)
    (pss_cons (ps_setLc (i := 4) (own := [("_law_k", 5)]) (g := gName 5) (tt := tYes) (te := tCall (spTerm n) [] E0 (tCons (tVar 0) (tCons (tVar 1) (tCons (tOp (rI0 fun i j => .int (i - j)) (tVar 2) (tC (.int 1))) tNil)))) rfl nd rfl rfl (sw_true rfl rfl rfl (by decide +kernel)) (pi_range1 (by rfl) mr (pa_cons (pe_op op_sub (pv 3) pe_int) pa_nil))
        (blkOk_by (N := ["_law_draws_here", "_law_words_here", "_law_depth", "_law_kind", "_law_arguments", "_law_k"]) (sc := defScope s__law_term) (by decide +kernel)) (fun _ _ _ _ _ => pg_name (i := 5) nd rfl (Or.inl rfl)) (fun _ _ _ _ _ => pts_nil)
        (fun _ _ _ _ _ => pe_call G hr (by rfl) D.m D.F.kp D.b .nil pass0 (pa_cons (pv 0) (pa_cons (pv 1) (pa_cons (pe_op op_sub (pv 2) pe_int) pa_nil)))))
    (pss_one (ps_ret (pe_op op_catT (pe_tup (pa_cons (pe_ix ix_list (pv 1) (pe_op op_sub (pv 3) pe_int) (fun _ _ => rfl)) pa_nil)) (pe_callTy call_tuple_of (by rfl) mt (by decide +kernel) (pa_cons (pv 4) pa_nil))))))))), ?_⟩
  refine ⟨_, rfl, d, 7, rfl, hI, by decide, fun r H1 r0 r1 b1 hI1 => ?_⟩
  have hW1 := b1 l _ nl hW
  have p4 := pow4 k
  have p5 : 4 ^ (k + 1) = 4 ^ k * 4 := Nat.pow_succ 4 k
  -- the word at a kind
  have word : ∀ (c : Int), 1 ≤ c → c < 7 → ∃ x, atI (ws.map V.str) (c - 1) = some (.str x) ∧ ws[(c - 1).toNat]? = some x := fun c c1 c7 => by
    have h : (c - 1).toNat < ws.length := by omega
    have g := List.getElem?_eq_getElem h
    generalize ws[(c - 1).toNat] = x at g
    exact ⟨x, at_of (j := (c - 1).toNat) (by omega) (by rw [List.getElem?_map, g]; rfl), g⟩
  refine ⟨fun σ H2 => H2 = H1 ∧ ∃ c : Int, σ = [some (.ref d), some (.ref l), some (.int k), some (.int c), none, none] ∧ 0 ≤ c ∧ c < 7 ∧ (k = 0 → c ≤ 3), ?_, fun σ H2 h => ?_⟩
  · refine ⟨_, rfl, rfl, _, rfl, ?_⟩
    refine ite2 (fun c => ?_) (fun c => ?_)
    · have ck : (k : Int) = 0 := V.int.inj (of_decide_eq_true c)
      refine ⟨_, rfl, _, _, rfl, rfl, _, rfl, ite2 (fun c2 => ?_) (fun c2 => ?_)⟩
      · have c2 := of_decide_eq_true c2
        exact ⟨_, rfl, _, _, rfl, rfl, rfl, r - 4, rfl, by omega, by omega, fun _ => by omega⟩
      · have c2 : ¬ ((3 : Int) < r) := fun z => c2 (decide_eq_true z)
        exact ⟨rfl, r, rfl, r0, r1, fun _ => by omega⟩
    · have ck : ¬ (k : Int) = 0 := fun z => c (decide_eq_true (congrArg V.int z))
      exact ⟨rfl, r, rfl, r0, r1, fun z => absurd (by omega) ck⟩
  obtain ⟨rfl, c, rfl, c0, c7, ck⟩ := h
  refine ⟨_, rfl, rfl, _, rfl, ite2 (fun z => ?_) (fun z => ?_)⟩
  · exact ⟨_, rfl, d, rfl, hI1, fun r H3 h0 h9 b3 hI3 => q (.int r) (.var (.inl r)) H3 (b1.trans b3) hI3 (.int r) ⟨r, rfl, h0, h9⟩ (by show 1 ≤ _; omega) (by show 1 ≤ _; omega)⟩
  have z : ¬ c = 0 := fun y => z (decide_eq_true (congrArg V.int y))
  refine ⟨_, rfl, _, _, rfl, rfl, _, rfl, ite2 (fun y => ?_) (fun y => ?_)⟩
  · have y := of_decide_eq_true y
    obtain ⟨x, hx, hx2⟩ := word c (by omega) (by omega)
    refine ⟨_, rfl, _, rfl, _, _, rfl, rfl, l, _, _, _, rfl, rfl, .inl (.inl hW1), hx, by show 1 ≤ sizeLine; decide, fun p np => ?_⟩
    have s2 := same_new np (.tup [.str x])
    exact q (.ref p) (.ap x []) _ (b1.trans s2.but) (hI1.same s2) (.ap upd_same .nil) ⟨⟨(c - 1).toNat, by omega, hx2, by show 0 = _; omega⟩, trivial⟩ (by show 0 + 1 ≤ _; omega) (by show 0 + 1 ≤ _; omega)
  have y : ¬ c < 4 := fun x => y (decide_eq_true x)
  obtain ⟨m, em⟩ : ∃ m : Nat, c = (m : Int) + 3 := ⟨(c - 3).toNat, by omega⟩
  have hk1 : 1 ≤ k := by
    rcases Nat.eq_zero_or_pos k with e | e
    · exact absurd (ck e) (by omega)
    · exact e
  have p6 : 4 ^ k = 4 ^ (k - 1) * 4 := by rw [← Nat.pow_succ]; congr 1; omega
  refine ⟨_, rfl, _, _, rfl, rfl, c - 3, rfl, by omega, by omega, fun a na => ?_⟩
  have ka : a ≠ d := hI1.ne na
  have etn : (c - 3).toNat = m := by omega
  rw [etn]
  refine lc_range (lo := 0) (n := m) (fun i H3 => ∃ acc ts, But d H2 H3 ∧ Ints H3 d ∧ H3 a = some (.lst acc) ∧ TmAll H3 acc ts ∧ ts.length = i ∧ Ter.wfs (symOf ws) numVar ts ∧ Ter.sizes ts ≤ i * 4 ^ k ∧ Ter.nests ts ≤ k) ⟨[], [], (same_new na _).but, hI1.same (same_new na _), upd_same, .nil, rfl, trivial, Nat.zero_le _, Nat.zero_le _⟩ (fun i H3 hi h => ?_) (fun H3 h => ?_)
  · obtain ⟨acc, ts, b3, hI3, ea, ha, lt, hw, hs, hn⟩ := h
    refine ⟨rfl, ?_⟩
    refine ⟨_, rfl, _, rfl, _, rfl, _, _, rfl, rfl, ?_⟩
    refine ⟨d, l, ws, k - 1, by show [V.ref d, V.ref l, V.int ((k : Int) - 1)] = _; rw [show (k : Int) - 1 = ((k - 1 : Nat) : Int) by omega], hI3, b3 l _ nl hW1, nl, lw, by omega, fun v t H4 b4 hI4 hv hwf hsz hne => ?_⟩
    have ek : k - 1 + 1 = k := by omega
    rw [ek] at hsz hne
    have m4 := b4.tupsI hI3
    have ea4 := b4 a _ ka ea
    have la := ha.len
    have b5 : But a H4 (upd H4 a (.lst (acc ++ [v]))) := But.upd
    have m5 := b5.tups ea4
    refine ⟨acc, ea4, Nat.lt_of_le_of_lt (show acc.length ≤ 100 by omega) (by decide), acc ++ [v], ts ++ [t], ?_, hI4.of_but b5 ka.symm, upd_same, (TmAll.mono (m4.trans m5) _ _ ha).app (.cons (TmAt.mono m5 _ _ hv) .nil), by rw [List.length_append, List.length_singleton, lt], wfs_app hw ⟨hwf, trivial⟩, ?_, ?_⟩
    · exact fun b o nb e => by
        rw [upd_ne (ne_of_none e na)]
        exact b4 b o nb (b3 b o nb e)
    · rw [sizes_snoc, Nat.succ_mul]
      omega
    · rw [nests_snoc]
      omega
  · obtain ⟨acc, ts, b3, hI3, ea, ha, lt, hw, hs, hn⟩ := h
    obtain ⟨x, hx, hx2⟩ := word c (by omega) (by omega)
    have la := ha.len
    have hW3 := b3 l _ nl hW1
    refine ⟨_, rfl, _, rfl, _, _, rfl, rfl, l, _, _, _, rfl, rfl, .inl (.inl hW3), hx, by show 1 ≤ sizeLine; decide, fun p np => ?_⟩
    have s4 := same_new np (.tup [.str x])
    refine ⟨_, rfl, a, acc, rfl, .inl ⟨.inl (.inl (s4 _ _ ea)), fun r nr => ?_⟩⟩
    have s5 := same_new nr (.tup acc)
    refine ⟨p, r, [.str x], acc, rfl, rfl, .inl (.inl (s5 _ _ upd_same)), .inl (.inl upd_same), by simp, Nat.le_trans (show 1 + acc.length ≤ 100 by omega) (by decide), fun z => ?_, fun _ u nu => ?_⟩
    · subst z
      rw [List.length_nil] at la
      omega
    have s6 := same_new nu (.tup ([.str x] ++ acc))
    have sa := (s4.trans s5).trans s6
    have m3 := sa.tups
    refine q (.ref u) (.ap x ts) _ (b1.trans (b3.trans sa.but)) (hI3.same sa) (.ap upd_same (TmAll.mono m3 _ _ ha)) ⟨⟨(c - 1).toNat, by omega, hx2, by omega⟩, hw⟩ ?_ ?_
    · show Ter.sizes ts + 1 ≤ _
      have : m * 4 ^ k ≤ 3 * 4 ^ k := Nat.mul_le_mul_right _ (by omega)
      omega
    · show Ter.nests ts + 1 ≤ _
      omega
theorem ok_law_term {f fT fV : Addr} {fd fdT fdV : FuncData} (D : Df K mg "_law_term" s__law_term ["_law_draws_here", "_law_words_here", "_law_depth"] f fd) (DT : Df K mg "_law_take" s__law_take ["_law_draws_here", "_law_bound"] fT fdT) (GT : FnOk P w K mg base CX0 1 fT fdT ["_law_draws_here", "_law_bound"] spTake)
    (DV : Df K mg "_law_variable" s__law_variable ["_law_draws_here"] fV fdV) (GV : FnOk P w K mg base CX0 2 fV fdV ["_law_draws_here"] spLVar) (mr : mg "range" = none) (mt : mg "tuple" = none) : ∀ n : Nat, FnOk P w K mg base CX0 (n + 2) f fd ["_law_draws_here", "_law_words_here", "_law_depth"] (spTerm n)
  | 0 => by
    have no : ∀ vs H Q E, ¬ spTerm 0 vs H Q E := fun vs H Q E h => by
      obtain ⟨d, l, ws, k, _, _, _, _, _, hk, _⟩ := h
      omega
    exact ⟨fun vs H Q E h => absurd h (no vs H Q E), fun A outer s H args us vs Q E _ _ _ _ h => absurd h (no vs H Q E)⟩
  | n + 1 => ok_law_term1 D DT GT DV GV mr mt (ok_law_term D DT GT DV GV mr mt n)
end

section
variable {P : Program} {w : World} {K : PySem.W.Frag} {mg : Str → Option Value} {base : Heap}
/-! ### _law_same: the same data on both sides -/
def spSame (K : PySem.W.Frag) (n : Nat) : Sp := fun vs H Q _ => ∃ (v u : V) (x : PyData), vs = [v, u] ∧ Dp K H v x ∧ Dp K H u x ∧ fitsD n x ∧ Q (.bl true) H
theorem sc_law_same : FnScope ["_law_value", "_law_due", "_law_k"] ["_law_value", "_law_due"] (defScope s__law_same) := ⟨rfl, rfl, rfl, by decide +kernel, rfl, by decide +kernel, by decide +kernel⟩
theorem ok_law_same1 {f : Addr} {fd : FuncData} (D : Df K mg "_law_same" s__law_same ["_law_value", "_law_due"] f fd) (mi : mg "isinstance" = none) (mt : mg "tuple" = none) (mli : mg "list" = none) (ml : mg "len" = none) (mr : mg "range" = none) (mb : mg "bool" = none) (mint : mg "int" = none) (ms : mg "str" = none) {n : Nat}
    (G : FnOk P w K mg base CX0 n f fd ["_law_value", "_law_due"] (spSame K n)) : FnOk P w K mg base CX0 (n + 1) f fd ["_law_value", "_law_due"] (spSame K (n + 1)) := by
  refine D.F.ok sc_law_same (fun vs H Q E h => ?_) (fun cdv A outer s H vs Q E hr h => ?_)
  · obtain ⟨v, u, x, rfl, _⟩ := h; rfl
  obtain ⟨v, u, x, rfl, hv, hu, hd, q⟩ := h
  have nd := sc_law_same.nd
  refine ⟨_, pss_cons (ps_if (PW.pt (pw_or (pt_val (pe_callB call_isiDat (by rfl) mi (by decide +kernel) (pa_cons (pv 1) (pa_cons (pe_bltn (v := .ty "tuple") (by rfl) mt (by decide +kernel) rfl) pa_nil)))) (pw_or1 (pt_val (pe_callB call_isiDat (by rfl) mi (by decide +kernel) (pa_cons (pv 1) (pa_cons (pe_bltn (v := .ty "list") (by rfl) mli (by decide +kernel) rfl) pa_nil)))))))
      (pss_cons (ps_if (PW.pt (pw_or (pt_cmpR op_ne (pe_callB call_isiDat (by rfl) mi (by decide +kernel) (pa_cons (pv 1) (pa_cons (pe_bltn (v := .ty "tuple") (by rfl) mt (by decide +kernel) rfl) pa_nil))) (pe_callB call_isiDat (by rfl) mi (by decide +kernel) (pa_cons (pv 0) (pa_cons (pe_bltn (v := .ty "tuple") (by rfl) mt (by decide +kernel) rfl) pa_nil))) (nomark _))
          (pw_or1 (pt_cmpR op_ne (pe_callB call_isiDat (by rfl) mi (by decide +kernel) (pa_cons (pv 1) (pa_cons (pe_bltn (v := .ty "list") (by rfl) mli (by decide +kernel) rfl) pa_nil))) (pe_callB call_isiDat (by rfl) mi (by decide +kernel) (pa_cons (pv 0) (pa_cons (pe_bltn (v := .ty "list") (by rfl) mli (by decide +kernel) rfl) pa_nil))) (nomark _)))))
        (pss_one (ps_ret pe_bl)) pss_nil)
      (pss_cons (ps_if (pt_cmpR op_ne (pe_callB call_len_seq (by rfl) ml PySem.boot_len (pa_cons (pv 0) pa_nil)) (pe_callB call_len_seq (by rfl) ml PySem.boot_len (pa_cons (pv 1) pa_nil)) (nomark _)) (pss_one (ps_ret pe_bl)) pss_nil)
      (pss_cons (ps_for PassesOwn.never rfl (pi_range1 (by rfl) mr (pa_cons (pe_callB call_len_seq (by rfl) ml PySem.boot_len (pa_cons (pv 1) pa_nil)) pa_nil)) (pg_name (i := 2) nd rfl (.inl rfl))
        (pss_one (ps_if (pt_not (pt_val (pe_call G hr (by rfl) D.m D.F.kp D.b .nil pass0 (pa_cons (pe_ix ix_lt (pv 0) (pv 2) (fun _ _ => rfl)) (pa_cons (pe_ix ix_lt (pv 1) (pv 2) (fun _ _ => rfl)) pa_nil))))) (pss_one (ps_ret pe_bl)) pss_nil)))
      (pss_one (ps_ret pe_bl))))) pss_nil)
    (pss_cons (ps_if (pt_cmpR op_ne (pe_callB call_isiDat (by rfl) mi (by decide +kernel) (pa_cons (pv 1) (pa_cons (pe_bltn (v := .ty "bool") (by rfl) mb (by decide +kernel) rfl) pa_nil))) (pe_callB call_isiDat (by rfl) mi (by decide +kernel) (pa_cons (pv 0) (pa_cons (pe_bltn (v := .ty "bool") (by rfl) mb (by decide +kernel) rfl) pa_nil))) (nomark _)) (pss_one (ps_ret pe_bl)) pss_nil)
    (pss_cons (ps_if (PW.pt (pw_or (pt_cmpR op_ne (pe_callB call_isiDat (by rfl) mi (by decide +kernel) (pa_cons (pv 1) (pa_cons (pe_bltn (v := .ty "int") (by rfl) mint (by decide +kernel) rfl) pa_nil))) (pe_callB call_isiDat (by rfl) mi (by decide +kernel) (pa_cons (pv 0) (pa_cons (pe_bltn (v := .ty "int") (by rfl) mint (by decide +kernel) rfl) pa_nil))) (nomark _))
        (pw_or1 (pt_cmpR op_ne (pe_callB call_isiDat (by rfl) mi (by decide +kernel) (pa_cons (pv 1) (pa_cons (pe_bltn (v := .ty "str") (by rfl) ms (by decide +kernel) rfl) pa_nil))) (pe_callB call_isiDat (by rfl) mi (by decide +kernel) (pa_cons (pv 0) (pa_cons (pe_bltn (v := .ty "str") (by rfl) ms (by decide +kernel) rfl) pa_nil))) (nomark _)))))
      (pss_one (ps_ret pe_bl)) pss_nil)
    (pss_one (ps_ret (pe_cmpR op_eq (pv 0) (pv 1) (nomark _)))))), ?_⟩
  have ns : ∀ b : Bool, (!decide (V.bl b = V.bl b)) = false := fun b => by rw [decide_eq_true rfl]; rfl
  by_cases hs : (isTupD x || isListD x) = true
  · -- a sequence: item by item
    obtain ⟨a, b, xs, ys, ds, rfl, rfl, ha, hb, hxs, hys, hf⟩ : ∃ (a b : Addr) (xs ys : List V) (ds : List PyData), v = .ref a ∧ u = .ref b ∧ (SqL K H a xs ∨ SqT K H a xs) ∧ (SqL K H b ys ∨ SqT K H b ys) ∧ DpAll K H xs ds ∧ DpAll K H ys ds ∧ (ds.length ≤ 1000000 ∧ ∀ d ∈ ds, fitsD n d) := by
      cases hv with
      | lst h1 h2 =>
        cases hu with
        | lst h3 h4 => exact ⟨_, _, _, _, _, rfl, rfl, .inl h1, .inl h3, h2, h4, hd⟩
      | tup h1 h2 =>
        cases hu with
        | tup h3 h4 => exact ⟨_, _, _, _, _, rfl, rfl, .inr h1, .inr h3, h2, h4, hd⟩
      | _ => exact absurd (show false = true from hs) Bool.false_ne_true
    have l1 := Dp.len hxs
    have l2 := Dp.len hys
    have lz := hf.1
    refine ⟨_, rfl, _, x, "tuple", _, rfl, hu, k_tup x, _, rfl, ?_⟩
    refine ite2 (fun _ => ?g1) (fun c => ⟨_, rfl, _, x, "list", _, rfl, hu, k_list x, _, rfl, ?g2⟩)
    case' g2 =>
      rw [show isListD x = true by
        cases h : isTupD x with
        | true => exact absurd h c
        | false => rw [h] at hs; exact hs]
      refine iteT ?_
    all_goals
      refine ⟨_, rfl, _, x, "tuple", _, rfl, hu, k_tup x, _, rfl, _, x, "tuple", _, rfl, hv, k_tup x, rfl, _, rfl, ?_⟩
      rw [ns]
      refine iteF ⟨_, rfl, _, x, "list", _, rfl, hu, k_list x, _, rfl, _, x, "list", _, rfl, hv, k_list x, rfl, _, rfl, ?_⟩
      rw [ns]
      refine iteF ⟨_, rfl, a, xs, rfl, ha, _, rfl, b, ys, rfl, hb, rfl, _, rfl, iteNS (by rw [l1, l2]) ?_⟩
      refine ⟨_, rfl, b, ys, rfl, hb, (ys.length : Nat), rfl, by omega, by omega, for_range (n := ((ys.length : Nat) : Int).toNat) (fun i σ H2 => ∃ y, σ = [some (.ref a), some (.ref b), y] ∧ H2 = H) ⟨none, rfl, rfl⟩ (fun i σ H2 hi h => ?_) (fun σ H2 h => ?_)⟩
      · obtain ⟨y, rfl, rfl⟩ := h
        have hi : i < ys.length := by omega
        have e1 : xs[i]? = some xs[i] := List.getElem?_eq_getElem (by omega)
        have e2 : ys[i]? = some ys[i] := List.getElem?_eq_getElem hi
        obtain ⟨d1, q1, w1⟩ := Dp.get hxs e1
        obtain ⟨d2, q2, w2⟩ := Dp.get hys e2
        have e3 : d1 = d2 := Option.some.inj (q1.symm.trans q2)
        subst e3
        have e4 : (0 : Int) + (i : Nat) = (i : Nat) := Int.zero_add _
        refine ⟨_, rfl, _, rfl, a, xs, _, _, rfl, rfl, ha, at_of e4 e1, _, rfl, _, rfl, b, ys, _, _, rfl, rfl, hb, at_of e4 e2, ?_⟩
        exact ⟨_, _, d1, rfl, w1, w2, hf.2 d1 (List.mem_of_getElem? q1), _, rfl, iteF ⟨_, rfl, rfl⟩⟩
      · obtain ⟨y, rfl, rfl⟩ := h
        exact q
  · have h1 : isTupD x = false := by
      cases h : isTupD x with
      | true => rw [h] at hs; exact absurd rfl hs
      | false => rfl
    have h2 : isListD x = false := by
      cases h : isListD x with
      | true => rw [h, Bool.or_true] at hs; exact absurd rfl hs
      | false => rfl
    refine ⟨_, rfl, _, x, "tuple", _, rfl, hu, k_tup x, _, rfl, ?_⟩
    rw [h1]
    refine iteF ⟨_, rfl, _, x, "list", _, rfl, hu, k_list x, _, rfl, ?_⟩
    rw [h2]
    refine iteF ?_
    refine ⟨_, rfl, _, x, "bool", _, rfl, hu, k_bool x, _, rfl, _, x, "bool", _, rfl, hv, k_bool x, rfl, _, rfl, ?_⟩
    rw [ns]
    refine iteF ⟨_, rfl, _, x, "int", _, rfl, hu, k_int x, _, rfl, _, x, "int", _, rfl, hv, k_int x, rfl, _, rfl, ?_⟩
    rw [ns]
    refine iteF ⟨_, rfl, _, x, "str", _, rfl, hu, k_str x, _, rfl, _, x, "str", _, rfl, hv, k_str x, rfl, _, rfl, ?_⟩
    rw [ns]
    refine iteF ?_
    cases hv with
    | lst _ _ => cases h2
    | tup _ _ => cases h1
    | non =>
      cases hu
      exact ⟨_, rfl, _, rfl, rfl, q⟩
    | bl b =>
      cases hu
      exact ⟨_, rfl, _, rfl, rfl, by rw [decide_eq_true rfl]; exact q⟩
    | int b =>
      cases hu
      exact ⟨_, rfl, _, rfl, rfl, by rw [decide_eq_true rfl]; exact q⟩
    | str b =>
      cases hu
      exact ⟨_, rfl, _, rfl, rfl, by rw [decide_eq_true rfl]; exact q⟩
theorem ok_law_same {f : Addr} {fd : FuncData} (D : Df K mg "_law_same" s__law_same ["_law_value", "_law_due"] f fd) (mi : mg "isinstance" = none) (mt : mg "tuple" = none) (mli : mg "list" = none) (ml : mg "len" = none) (mr : mg "range" = none) (mb : mg "bool" = none) (mint : mg "int" = none) (ms : mg "str" = none) :
    ∀ n : Nat, FnOk P w K mg base CX0 n f fd ["_law_value", "_law_due"] (spSame K n)
  | 0 => by
    have no : ∀ vs H Q E, ¬ spSame K 0 vs H Q E := fun vs H Q E h => by
      obtain ⟨v, u, x, _, _, _, hf, _⟩ := h
      exact hf
    exact ⟨fun vs H Q E h => absurd h (no vs H Q E), fun A outer s H args us vs Q E _ _ _ _ h => absurd h (no vs H Q E)⟩
  | n + 1 => ok_law_same1 D mi mt mli ml mr mb mint ms (ok_law_same D mi mt mli ml mr mb mint ms n)
end

section
variable {P : Program} {w : World} {K : PySem.W.Frag} {mg : Str → Option Value} {base : Heap}
/-! ### is_integer, decimal, worded -/
def PIECE10 : Int := 10000000000000000000000000000000000000000000000000000000000000000
def spIsD (K : PySem.W.Frag) : Sp := fun vs H Q _ => ∃ (v : V) (d : PyData), vs = [v] ∧ Dp K H v d ∧ Q (.bl (isIntD d && !isBoolD d)) H
theorem sc_is_integer : FnScope ["value"] ["value"] (defScope s_is_integer) := ⟨rfl, rfl, rfl, by decide +kernel, rfl, by decide +kernel, by decide +kernel⟩
theorem ok_is_integer {f : Addr} {fd : FuncData} (D : Df K mg "is_integer" s_is_integer ["value"] f fd) (m_isinstance : mg "isinstance" = none) (m_int : mg "int" = none) (m_bool : mg "bool" = none) : FnOk P w K mg base CX0 1 f fd ["value"] (spIsD K) := by
  refine D.F.ok sc_is_integer (fun vs H Q E h => ?_) (fun cdv A outer s H vs Q E hr h => ?_)
  · obtain ⟨x, d, rfl, _⟩ := h; rfl
  obtain ⟨v, d, rfl, hd, q⟩ := h
  refine ⟨_, (pss_one (ps_ret (pe_and (pe_callB call_isiDat (by rfl) m_isinstance (by decide +kernel) (pa_cons (pv 0) (pa_cons (pe_bltn (v := .ty "int") (by rfl) m_int (by decide +kernel) rfl) pa_nil))) (pe_one (pe_not (pe_callB call_isiDat (by rfl) m_isinstance (by decide +kernel) (pa_cons (pv 0) (pa_cons (pe_bltn (v := .ty "bool") (by rfl) m_bool (by decide +kernel) rfl) pa_nil)))))))), ?_⟩
  refine ⟨_, rfl, _, d, "int", _, rfl, hd, k_int _, isIntD d, rfl, ?_⟩
  cases hi : isIntD d with
  | false => rw [hi] at q; exact q
  | true => rw [hi] at q; exact ⟨_, rfl, _, d, "bool", _, rfl, hd, k_bool _, _, rfl, q⟩
def spDec : Sp := fun vs H Q _ => ∃ n : Int, vs = [.int n] ∧ 0 ≤ n ∧ n < PIECE10 ∧ Q (.str (toString n)) H
theorem sc_decimal : FnScope ["number", "powers", "power", "pieces", "divisor", "half", "piece"] ["number"] (defScope s_decimal) := ⟨rfl, rfl, rfl, by decide +kernel, rfl, by decide +kernel, by decide +kernel⟩
theorem log_small {n : Int} (h0 : 0 ≤ n) (h1 : n < PIECE10) : n.natAbs.log2 < 1920 := by
  have h2 : n.natAbs < 2 ^ 1919 := Nat.lt_of_lt_of_le (show n.natAbs < 10000000000000000000000000000000000000000000000000000000000000000 by unfold PIECE10 at h1; omega) (by decide +kernel)
  by_cases z : n.natAbs = 0
  · rw [z]; decide
  · have := (Nat.log2_lt z).mpr h2; omega
theorem ok_decimal {f : Addr} {fd : FuncData} {tP : Tok} (D : Df K mg "decimal" s_decimal ["number"] f fd) (gP : mg "PIECE" = some (.int PIECE10 tP)) (m_str : mg "str" = none) : FnOk P w K mg base CX0 1 f fd ["number"] spDec := by
  refine D.F.ok sc_decimal (fun vs H Q E h => ?_) (fun cdv A outer s H vs Q E hr h => ?_)
  · obtain ⟨x, rfl, _⟩ := h; rfl
  obtain ⟨n, rfl, h0, h1, q⟩ := h
  refine ⟨_, (pss_cons (ps_if (pt_cmpR op_lt (pv 0) pe_int (nomark _)) (pss_one ps_no) pss_nil) (pss_cons (ps_if (pt_cmpR op_lt (pv 0) (pe_glob (v := .int PIECE10) (by rfl) gP ⟨_, rfl⟩) (nomark _)) (pss_one (ps_ret (pe_callTy call_str_int (by rfl) m_str (by decide +kernel) (pa_cons (pv 0) pa_nil)))) pss_nil) (pss_cons ps_no (pss_cons ps_no (pss_cons ps_no (pss_cons ps_no (pss_cons ps_no (pss_one ps_no)))))))), ?_⟩
  refine ⟨_, rfl, _, _, rfl, rfl, _, rfl, iteNo (decide_eq_false (by omega)) ?_⟩
  refine ⟨_, rfl, _, _, rfl, rfl, _, rfl, ?_⟩
  rw [decide_eq_true h1]
  exact iteT ⟨_, rfl, _, rfl, log_small h0 h1, q⟩
/-- the words of a value: an int's digits, a text itself -/
def Wrd (v : V) (m : Str) : Prop := (∃ n : Int, v = .int n ∧ 0 ≤ n ∧ n < PIECE10 ∧ m = toString n) ∨ (v = .str m ∧ m.length ≤ 100000)
def spWrd : Sp := fun vs H Q _ => ∃ (v : V) (m : Str), vs = [v] ∧ Wrd v m ∧ Q (.str m) H
theorem sc_worded : FnScope ["value", "part"] ["value"] (defScope s_worded) := ⟨rfl, rfl, rfl, by decide +kernel, rfl, by decide +kernel, by decide +kernel⟩
theorem ok_worded {f fI fD : Addr} {fd dI dD : FuncData} (D : Df K mg "worded" s_worded ["value"] f fd) (DI : Df K mg "is_integer" s_is_integer ["value"] fI dI) (GI : FnOk P w K mg base CX0 1 fI dI ["value"] (spIsD K)) (DD : Df K mg "decimal" s_decimal ["number"] fD dD) (GD : FnOk P w K mg base CX0 1 fD dD ["number"] spDec)
    (m_isinstance : mg "isinstance" = none) (m_tuple : mg "tuple" = none) : FnOk P w K mg base CX0 2 f fd ["value"] spWrd := by
  refine D.F.ok sc_worded (fun vs H Q E h => ?_) (fun cdv A outer s H vs Q E hr h => ?_)
  · obtain ⟨x, m, rfl, _⟩ := h; rfl
  obtain ⟨v, m, rfl, hv, q⟩ := h
  have r1 := hr
  refine ⟨_, (pss_cons (ps_if (pt_val (pe_call GI r1 (by rfl) DI.m DI.F.kp DI.b .nil pass0 (pa_cons (pv 0) pa_nil))) (pss_one (ps_ret (pe_call GD r1 (by rfl) DD.m DD.F.kp DD.b .nil pass0 (pa_cons (pv 0) pa_nil)))) pss_nil) (pss_cons (ps_if (pt_val (pe_callB call_isiDat (by rfl) m_isinstance (by decide +kernel) (pa_cons (pv 0) (pa_cons (pe_bltn (v := .ty "tuple") (by rfl) m_tuple (by decide +kernel) rfl) pa_nil)))) (pss_one ps_no) pss_nil) (pss_one (ps_ret (pe_joined1 (pe_fmtA (pv 0))))))), ?_⟩
  rcases hv with ⟨n, rfl, h0, h1, rfl⟩ | ⟨rfl, hz⟩
  · refine ⟨_, rfl, _, .int n, rfl, .int n, _, rfl, iteT ⟨_, rfl, n, rfl, h0, h1, q⟩⟩
  · refine ⟨_, rfl, _, .str m, rfl, .str m, _, rfl, iteF ?_⟩
    refine ⟨_, rfl, _, .str m, "tuple", _, rfl, .str m, k_tup _, _, rfl, iteF ?_⟩
    exact ⟨_, rfl, .inl ⟨m, rfl, by rw [sizeLine_eq]; omega, q⟩⟩
end

section
variable {P : Program} {w : World} {K : PySem.W.Frag} {mg : Str → Option Value} {base : Heap}
def okW : List V → Hp → Prop := fun ws _ => ∃ x : Str, ws = [.str x] ∧ x.length ≤ 1000
/-- what an exception class must have, for the defs that raise and catch it -/
structure ExcC (P : Program) (w : World) (K : PySem.W.Frag) (mg : Str → Option Value) (base : Heap) (x : Str) (fs ps : List Str) (ok : List V → Hp → Prop) (C fI : Addr) (fd : FuncData) : Prop where
  gC : mg x = some (.ref C)
  oex : OexC K C
  iC : PySem.W.findIn K (.ref C) "__init__" = some (some (.ref fI))
  tI : PySem.W.typeIn K (.ref fI) = some (.type "function")
  ok : FnOk P w K mg base CX0 3 fI fd ps (spInit C fs ok)
  b : Binds K fd ps []
  err : ErrC K C
  te : PySem.W.exmOne K (.ref C) (.ref C) = some true
abbrev initU : Stmt := clsAt s_UnknownSymbol 0
theorem sc_initU : NdefX.NScope ["self", "symbol", "__class__"] ["self", "symbol"] ["__class__"] (defScope initU) := NdefX.nscope_by (by decide +kernel)
theorem ok_initU {C fI cc cda fW : Addr} {fd dW : FuncData} (T : InitC P K mg C fI cc cda "__init__" "UnknownSymbol.__init__" (defArgs initU) (defBody initU) (defScope initU) fd) (hn : PySem.W.findIn K (.ref C) "symbol" = some none) (DW : Df K mg "worded" s_worded ["value"] fW dW) (GW : FnOk P w K mg base CX0 2 fW dW ["value"] spWrd) :
    FnOk P w K mg base CX0 3 fI fd ["self", "symbol"] (spInit C ["symbol"] okW) := by
  obtain ⟨oc, od, dV, kV, doc, pm, an, ct, osl, rfl, l⟩ := T.fn
  refine init_of (N := ["self", "symbol", "__class__"]) l T.code T.cell sc_initU (fun vs H Q E h => ?_) (fun A outer s H vs Q E hr h => ?_)
  · obtain ⟨a, ws, rfl, hl, _⟩ := h
    show ws.length + 1 = 2
    rw [hl]
    rfl
  obtain ⟨a, ws, rfl, hl, hx, ⟨x, rfl, hz⟩, q⟩ := h
  refine ⟨_, pssAt_cons (ps_superAt (T.supX rfl) T.sup (pa_cons (pe_joined (.cons pe_str (.cons (pe_fmt (pe_call GW hr (by rfl) DW.m DW.F.kp DW.b .nil pass0 (pa_cons (pv 1) pa_nil))) .nil))) pa_nil)) (pss_one (ps_ost (pv 0) (pv 1))), ?_⟩
  refine ⟨a, rfl, hx, ?_⟩
  have fin : ∀ m : Str, tJs [] m [some (.ref a), some (.str x), some (.ref C)] H fun out H1 => (fun vs H1 => vs.length ≤ 1000 ∧ H1 a = some (exo a C none) ∧ tOst K "symbol" (tVar 0) (tVar 1) { nx := fun _ H2 => Q .non H2, rt := Q } [some (.ref a), some (.str x), some (.ref C)] H1) [V.str out] H1 := fun m => by
    refine ⟨by show 1 ≤ 1000; decide, hx, ?_⟩
    exact ⟨.str x, rfl, .ref a, rfl, a, C, rfl, T.sup.oex, hn, .inl ⟨hx, fun dx nx ne => q _ dx (fun c h1 h2 => by rw [upd_ne h1, upd_ne h2]) nx ne upd_same (by rw [upd_ne ne]; exact upd_same)⟩⟩

  have e1 : (Str.empty ++ ("unknown symbol " : Str)).length ≤ 60 := by decide +kernel
  exact ⟨_, rfl, by show ("unknown symbol " : Str).length ≤ sizeLine; decide +kernel, _, rfl, .str x, x, rfl, .inr ⟨rfl, by omega⟩, .inl ⟨x, rfl, by rw [sizeLine_eq]; omega, _, rfl, by rw [app_len, sizeLine_eq]; omega, fin _⟩⟩
abbrev initK : Stmt := clsAt s_KindError 0
theorem sc_initK : NdefX.NScope ["self", "symbol", "__class__"] ["self", "symbol"] ["__class__"] (defScope initK) := NdefX.nscope_by (by decide +kernel)
theorem ok_initK {C fI cc cda : Addr} {fd : FuncData} (T : InitC P K mg C fI cc cda "__init__" "KindError.__init__" (defArgs initK) (defBody initK) (defScope initK) fd) (hn : PySem.W.findIn K (.ref C) "symbol" = some none) :
    FnOk P w K mg base CX0 1 fI fd ["self", "symbol"] (spInit C ["symbol"] okW) := by
  obtain ⟨oc, od, dV, kV, doc, pm, an, ct, osl, rfl, l⟩ := T.fn
  refine init_of (N := ["self", "symbol", "__class__"]) l T.code T.cell sc_initK (fun vs H Q E h => ?_) (fun A outer s H vs Q E hr h => ?_)
  · obtain ⟨a, ws, rfl, hl, _⟩ := h
    show ws.length + 1 = 2
    rw [hl]
    rfl
  obtain ⟨a, ws, rfl, hl, hx, ⟨x, rfl, hz⟩, q⟩ := h
  refine ⟨_, pssAt_cons (ps_superAt (T.supX rfl) T.sup (pa_cons (pe_joined (.cons (pe_fmt (pv 1)) (.cons pe_str .nil))) pa_nil)) (pss_one (ps_ost (pv 0) (pv 1))), ?_⟩
  refine ⟨a, rfl, hx, ?_⟩
  have fin : ∀ m : Str, tJs [] m [some (.ref a), some (.str x), some (.ref C)] H fun out H1 => (fun vs H1 => vs.length ≤ 1000 ∧ H1 a = some (exo a C none) ∧ tOst K "symbol" (tVar 0) (tVar 1) { nx := fun _ H2 => Q .non H2, rt := Q } [some (.ref a), some (.str x), some (.ref C)] H1) [V.str out] H1 := fun m => by
    refine ⟨by show 1 ≤ 1000; decide, hx, ?_⟩
    exact ⟨.str x, rfl, .ref a, rfl, a, C, rfl, T.sup.oex, hn, .inl ⟨hx, fun dx nx ne => q _ dx (fun c h1 h2 => by rw [upd_ne h1, upd_ne h2]) nx ne upd_same (by rw [upd_ne ne]; exact upd_same)⟩⟩

  have e1 : (Str.empty : Str).length ≤ 60 := by decide +kernel
  have e2 : (" is both a function and a predicate" : Str).length ≤ 60 := by decide +kernel
  exact ⟨.str x, rfl, .inl ⟨x, rfl, by rw [sizeLine_eq]; omega, _, rfl, by rw [app_len, sizeLine_eq]; omega, _, rfl, by rw [app_len, app_len, sizeLine_eq]; omega, fin _⟩⟩
abbrev initL : Stmt := clsAt s_TooLarge 0
theorem sc_initL : NdefX.NScope ["self", "limit", "__class__"] ["self", "limit"] ["__class__"] (defScope initL) := NdefX.nscope_by (by decide +kernel)
theorem ok_initL {C fI cc cda : Addr} {fd : FuncData} (T : InitC P K mg C fI cc cda "__init__" "TooLarge.__init__" (defArgs initL) (defBody initL) (defScope initL) fd) (hn : PySem.W.findIn K (.ref C) "limit" = some none) :
    FnOk P w K mg base CX0 1 fI fd ["self", "limit"] (spInit C ["limit"] okW) := by
  obtain ⟨oc, od, dV, kV, doc, pm, an, ct, osl, rfl, l⟩ := T.fn
  refine init_of (N := ["self", "limit", "__class__"]) l T.code T.cell sc_initL (fun vs H Q E h => ?_) (fun A outer s H vs Q E hr h => ?_)
  · obtain ⟨a, ws, rfl, hl, _⟩ := h
    show ws.length + 1 = 2
    rw [hl]
    rfl
  obtain ⟨a, ws, rfl, hl, hx, ⟨x, rfl, hz⟩, q⟩ := h
  refine ⟨_, pssAt_cons (ps_superAt (T.supX rfl) T.sup (pa_cons (pe_joined (.cons pe_str (.cons (pe_fmt (pv 1)) .nil))) pa_nil)) (pss_one (ps_ost (pv 0) (pv 1))), ?_⟩
  refine ⟨a, rfl, hx, ?_⟩
  have fin : ∀ m : Str, tJs [] m [some (.ref a), some (.str x), some (.ref C)] H fun out H1 => (fun vs H1 => vs.length ≤ 1000 ∧ H1 a = some (exo a C none) ∧ tOst K "limit" (tVar 0) (tVar 1) { nx := fun _ H2 => Q .non H2, rt := Q } [some (.ref a), some (.str x), some (.ref C)] H1) [V.str out] H1 := fun m => by
    refine ⟨by show 1 ≤ 1000; decide, hx, ?_⟩
    exact ⟨.str x, rfl, .ref a, rfl, a, C, rfl, T.sup.oex, hn, .inl ⟨hx, fun dx nx ne => q _ dx (fun c h1 h2 => by rw [upd_ne h1, upd_ne h2]) nx ne upd_same (by rw [upd_ne ne]; exact upd_same)⟩⟩

  have e1 : (Str.empty ++ ("too large: " : Str)).length ≤ 60 := by decide +kernel
  exact ⟨_, rfl, by show ("too large: " : Str).length ≤ sizeLine; decide +kernel, .str x, rfl, .inl ⟨x, rfl, by rw [sizeLine_eq]; omega, _, rfl, by rw [app_len, sizeLine_eq]; omega, fin _⟩⟩
/-! ### ArityError(symbol, expected, found) -/
def okA : List V → Hp → Prop := fun ws _ => ∃ (x : Str) (m n : Int), ws = [.str x, .int m, .int n] ∧ x.length ≤ 1000 ∧ 0 ≤ m ∧ m ≤ 9 ∧ 0 ≤ n ∧ n ≤ 9
theorem dig_len {n : Int} (h0 : 0 ≤ n) (h1 : n ≤ 9) : ((toString n : String) : Str).length ≤ 5 ∧ n.natAbs.log2 < 1920 := by
  have h : n = 0 ∨ n = 1 ∨ n = 2 ∨ n = 3 ∨ n = 4 ∨ n = 5 ∨ n = 6 ∨ n = 7 ∨ n = 8 ∨ n = 9 := by omega
  rcases h with rfl | rfl | rfl | rfl | rfl | rfl | rfl | rfl | rfl | rfl <;> exact ⟨by decide +kernel, by decide +kernel⟩
abbrev initA : Stmt := clsAt s_ArityError 0
theorem sc_initA : NdefX.NScope ["self", "symbol", "expected", "found", "__class__"] ["self", "symbol", "expected", "found"] ["__class__"] (defScope initA) := NdefX.nscope_by (by decide +kernel)
theorem ok_initA {C fI cc cda fW : Addr} {fd dW : FuncData} (T : InitC P K mg C fI cc cda "__init__" "ArityError.__init__" (defArgs initA) (defBody initA) (defScope initA) fd) (h1 : PySem.W.findIn K (.ref C) "symbol" = some none) (h2 : PySem.W.findIn K (.ref C) "expected" = some none) (h3 : PySem.W.findIn K (.ref C) "found" = some none) (DW : Df K mg "worded" s_worded ["value"] fW dW) (GW : FnOk P w K mg base CX0 2 fW dW ["value"] spWrd) :
    FnOk P w K mg base CX0 3 fI fd ["self", "symbol", "expected", "found"] (spInit C ["symbol", "expected", "found"] okA) := by
  obtain ⟨oc, od, dV, kV, doc, pm, an, ct, osl, rfl, l⟩ := T.fn
  refine init_of (N := ["self", "symbol", "expected", "found", "__class__"]) l T.code T.cell sc_initA (fun vs H Q E h => ?_) (fun A outer s H vs Q E hr h => ?_)
  · obtain ⟨a, ws, rfl, hl, _⟩ := h
    show ws.length + 1 = 4
    rw [hl]
    rfl
  obtain ⟨a, ws, rfl, hl, hx, ⟨x, m, n, rfl, hz, hm0, hm1, hn0, hn1⟩, q⟩ := h
  refine ⟨_, pssAt_cons (ps_superAt (T.supX rfl) T.sup (pa_cons (pe_joined (.cons (pe_fmt (pv 1)) (.cons pe_str (.cons (pe_fmt (pe_call GW hr (by rfl) DW.m DW.F.kp DW.b .nil pass0 (pa_cons (pv 2) pa_nil))) (.cons pe_str (.cons (pe_fmt (pe_call GW hr (by rfl) DW.m DW.F.kp DW.b .nil pass0 (pa_cons (pv 3) pa_nil))) .nil)))))) pa_nil)) (pss_cons (ps_ost (pv 0) (pv 1)) (pss_cons (ps_ost (pv 0) (pv 2)) (pss_one (ps_ost (pv 0) (pv 3))))), ?_⟩
  refine ⟨a, rfl, hx, ?_⟩
  have e1 : (Str.empty : Str).length ≤ 60 := by decide +kernel
  have e2 : (" has " : Str).length ≤ 60 := by decide +kernel
  have e3 : (" arguments, not " : Str).length ≤ 60 := by decide +kernel
  obtain ⟨lm, bm⟩ := dig_len hm0 hm1
  obtain ⟨ln, bn⟩ := dig_len hn0 hn1
  have wm : Wrd (.int m) (toString m) := .inl ⟨m, rfl, hm0, by unfold PIECE10; omega, rfl⟩
  have wn : Wrd (.int n) (toString n) := .inl ⟨n, rfl, hn0, by unfold PIECE10; omega, rfl⟩
  refine ⟨.str x, rfl, .inl ⟨x, rfl, by rw [sizeLine_eq]; omega, _, rfl, by rw [app_len, sizeLine_eq]; omega, _, rfl, by rw [app_len, app_len, sizeLine_eq]; omega, _, rfl, .int m, _, rfl, wm, .inl ⟨_, rfl, by rw [sizeLine_eq]; omega, _, rfl, by rw [app_len, app_len, app_len, sizeLine_eq]; omega,
    _, rfl, by rw [app_len, app_len, app_len, app_len, sizeLine_eq]; omega, _, rfl, .int n, _, rfl, wn, .inl ⟨_, rfl, by rw [sizeLine_eq]; omega, _, rfl, by rw [app_len, app_len, app_len, app_len, app_len, sizeLine_eq]; omega, ?_⟩⟩⟩⟩
  refine ⟨by show 1 ≤ 1000; decide, hx, ?_⟩
  refine ⟨.str x, rfl, .ref a, rfl, a, C, rfl, T.sup.oex, h1, .inl ⟨hx, fun dx nx ne => ?_⟩⟩
  refine ⟨.int m, rfl, .ref a, rfl, a, C, rfl, T.sup.oex, h2, .inr ⟨dx, _, upd_same, (by rw [upd_ne ne]; exact upd_same), by show 1 ≤ 900; decide, ?_⟩⟩
  refine ⟨.int n, rfl, .ref a, rfl, a, C, rfl, T.sup.oex, h3, .inr ⟨dx, _, (by rw [upd_ne ne.symm]; exact upd_same), upd_same, by show 2 ≤ 900; decide, ?_⟩⟩
  exact q _ dx (fun c g1 g2 => by rw [upd_ne g2, upd_ne g2, upd_ne g1, upd_ne g2]) nx ne (by rw [upd_ne ne.symm, upd_ne ne.symm]; exact upd_same) upd_same
end

section
variable {P : Program} {w : World} {K : PySem.W.Frag} {mg : Str → Option Value} {base : Heap}
/-! ### variables_of -/
def spVarsOf (K : PySem.W.Frag) : Sp := fun vs H Q _ => ∃ (a : Addr) (xs : List V) (ts : List Ter), vs = [.ref a] ∧ SqL K H a xs ∧ TmAll H xs ts ∧ Ter.sizes ts ≤ 1000000 ∧
  ∀ (p : Addr) (H' : Hp), Same H H' → H p = none → H' p = some (.lst ((Ter.intos [] ts).map kV)) → Q (.ref p) H'
theorem sc_variables_of : FnScope ["terms", "found", "waiting", "part"] ["terms"] (defScope s_variables_of) := ⟨rfl, rfl, rfl, by decide +kernel, rfl, by decide +kernel, by decide +kernel⟩
theorem ok_variables_of {f fV : Addr} {fd fdV : FuncData} (D : Df K mg "variables_of" s_variables_of ["terms"] f fd) (DV : Df K mg "is_variable" s_is_variable ["term"] fV fdV) (G : FnOk P w K mg base CX0 1 fV fdV ["term"] spIsVar) (ml : mg "list" = none) : FnOk P w K mg base CX0 2 f fd ["terms"] (spVarsOf K) := by
  refine D.F.ok sc_variables_of (fun vs H Q E h => ?_) (fun cdv A outer s H vs Q E hr h => ?_)
  · obtain ⟨a, xs, ts, rfl, _⟩ := h; rfl
  obtain ⟨a, xs, ts, rfl, ha, ht, hz, q⟩ := h
  refine ⟨_, pss_cons (ps_set (i := 1) sc_variables_of.nd rfl (.inl rfl) pe_dnewK) (pss_cons (ps_set (i := 2) sc_variables_of.nd rfl (.inl rfl) (pe_revL (pv 0)))
    (pss_cons (ps_while PassesOwn.never (pt_truth (pv 2) (by intro _; rfl))
      (pss_cons (ps_set (i := 3) sc_variables_of.nd rfl (.inl rfl) (pe_bm0 PySem.F.plainAttrs_list PySem.F.slot_list_pop PySem.F.type_list_pop mt_popL (pv 2)))
      (pss_one (ps_if (pt_val (pe_call G hr (by rfl) DV.m DV.F.kp DV.b .nil pass0 (pa_cons (pv 3) pa_nil)))
        (pss_one (ps_dput (hu_of hr) (pv 1) (pv 3) pe_bl rfl))
        (pss_one (ps_expr (pe_bm PySem.F.plainAttrs_list PySem.F.slot_list_extend PySem.F.type_list_extend mt_extendT (pv 2) (pa_cons (pe_slBack (pv 3)) pa_nil))))))))
    (pss_one (ps_ret (pe_callTy (call_listD rfl) (by rfl) ml (by decide +kernel) (pa_cons (pv 1) pa_nil)))))), ?_⟩
  intro d nd
  have s0 := same_new nd (.dK [])
  refine ⟨.ref a, rfl, a, xs, rfl, s0.seq ha, fun l nl => ?_⟩
  have s1 := s0.trans (same_new nl (.lst xs.reverse))
  have nld : l ≠ d := (ne_of_none (show upd H d (.dK []) d = some _ from upd_same) nl).symm
  refine ⟨fun m σ H' => ∃ (acc : List Key) (vs : List V) (us : List Ter) (y : Option V), σ = [some (.ref a), some (.ref d), some (.ref l), y] ∧ Same H H' ∧ H' d = some (.dK (acc.map yes)) ∧ H' l = some (.lst vs) ∧ TmAll H' vs us ∧ Ter.intos acc us.reverse = Ter.intos [] ts ∧ acc.length + Ter.sizes us ≤ Ter.sizes ts ∧ m = Ter.sizes us,
    ⟨_, [], xs.reverse, ts.reverse, none, rfl, s1, by rw [upd_ne nld.symm]; exact upd_same, upd_same, (TmAll.mono s1.tups _ _ ht).rev, by rw [List.reverse_reverse], ?_, rfl⟩, fun m σ H' hW => ?_⟩
  · have e : ∀ us : List Ter, Ter.sizes us.reverse = Ter.sizes us := fun us => by
      induction us with
      | nil => rfl
      | cons b r ih =>
        rw [List.reverse_cons, Ter.sizes_app, ih]
        show Ter.sizes r + (b.size + 0) = b.size + Ter.sizes r
        omega
    rw [e]
    show 0 + _ ≤ _
    omega
  obtain ⟨acc, vs, us, y, rfl, sm, ed, el, hu, ei, hl, rfl⟩ := hW
  have nl0 : H l = none := s0.free nl
  refine ⟨.ref l, rfl, _, tru_l el, ?_⟩
  refine ite2 (fun c => ?_) (fun c => ?_)
  · have hv : vs ≠ [] := fun z => by subst z; exact absurd c (by decide)
    obtain ⟨vs', u, us', tu, rfl, rfl, ha', hx⟩ := hu.last hv
    rw [Ter.sizes_app] at hl
    have ez : Ter.sizes [tu] = tu.size := by show tu.size + 0 = tu.size; omega
    rw [ez] at hl
    have su := tu.size_pos
    have er : (us' ++ [tu]).reverse = tu :: us'.reverse := by rw [List.reverse_append]; rfl
    rw [er] at ei
    have ei : Ter.intos (Ter.into acc tu) us'.reverse = Ter.intos [] ts := ei
    refine ⟨fun σ' H2 => ∃ (acc : List Key) (vs : List V) (us : List Ter) (y : Option V), σ' = [some (.ref a), some (.ref d), some (.ref l), y] ∧ Same H H2 ∧ H2 d = some (.dK (acc.map yes)) ∧ H2 l = some (.lst vs) ∧ TmAll H2 vs us ∧ Ter.intos acc us.reverse = Ter.intos [] ts ∧ acc.length + Ter.sizes us ≤ Ter.sizes ts ∧ Ter.sizes us < Ter.sizes (us' ++ [tu]),
      fun σ' H2 hN => ?_, ?_⟩
    · obtain ⟨a2, v2, u2, y2, e1, e2, e3, e4, e5, e6, e7, e8⟩ := hN
      exact ⟨_, e8, a2, v2, u2, y2, e1, e2, e3, e4, e5, e6, e7, rfl⟩
    have b1 : But l H' (upd H' l (.lst vs')) := But.upd
    have t1 := b1.tups el
    have hx1 := TmAt.mono t1 _ _ hx
    have ha1 := TmAll.mono t1 _ _ ha'
    have sm1 := But.same nl0 sm b1
    have ed1 := b1 d _ nld.symm ed
    have l1 := ha1.len
    have l3 := Ter.sizes_len us'
    refine ⟨.ref l, rfl, tyl el, l, vs', u, rfl, rfl, el, ?_⟩
    refine ⟨u, rfl, u, tu, rfl, hx1, _, rfl, ?_⟩
    have lt : Ter.sizes us' < Ter.sizes (us' ++ [tu]) := by rw [Ter.sizes_app, ez]; omega
    cases hx1 with
    | int i =>
      refine iteT ⟨.ref d, rfl, .int i, rfl, d, _, rfl, DPut.k (k := Sum.inl i) ed1 (by rw [List.length_map]; exact small6' (by omega)), ?_⟩
      rw [put_yes]
      have b2 : But d (upd H' l (.lst vs')) (upd (upd H' l (.lst vs')) d (.dK ((addK acc (.inl i)).map yes))) := But.upd
      have t2 : Tups _ _ := tups_updD (o := .dK ((addK acc (.inl i)).map yes)) ed1
      have al := addK_len acc (.inl i)
      have e1 : (Ter.var (.inl i)).size = 1 := rfl
      exact ⟨_, vs', us', _, rfl, But.same nd sm1 b2, upd_same, b2 l _ nld upd_same, TmAll.mono t2 _ _ ha1, ei, by omega, lt⟩
    | str x =>
      refine iteT ⟨.ref d, rfl, .str x, rfl, d, _, rfl, DPut.k (k := Sum.inr x) ed1 (by rw [List.length_map]; exact small6' (by omega)), ?_⟩
      rw [put_yes]
      have b2 : But d (upd H' l (.lst vs')) (upd (upd H' l (.lst vs')) d (.dK ((addK acc (.inr x)).map yes))) := But.upd
      have t2 : Tups _ _ := tups_updD (o := .dK ((addK acc (.inr x)).map yes)) ed1
      have al := addK_len acc (.inr x)
      have e1 : (Ter.var (.inr x)).size = 1 := rfl
      exact ⟨_, vs', us', _, rfl, But.same nd sm1 b2, upd_same, b2 l _ nld upd_same, TmAll.mono t2 _ _ ha1, ei, by omega, lt⟩
    | @ap p g zs as e hs =>
      refine iteF ?_
      have l2 := hs.len
      have l4 := Ter.sizes_len as
      have es : (Ter.ap g as).size = Ter.sizes as + 1 := rfl
      rw [es] at hl
      refine ⟨.ref l, rfl, tyl upd_same, .ref p, rfl, p, .str g, zs, rfl, .inl (.inl e), fun r nr => ?_⟩
      have s2 := same_new nr (.tup zs.reverse)
      refine ⟨l, r, vs', zs.reverse, rfl, rfl, s2 _ _ upd_same, .inl (.inl upd_same), small6 (by rw [List.length_reverse]; omega), ?_⟩
      have b2 : But l (upd (upd H' l (.lst vs')) r (.tup zs.reverse)) _ := But.upd (o := .lst (vs' ++ zs.reverse))
      have t2 := s2.tups.trans (b2.tups (s2 _ _ upd_same))
      have e9 : Ter.sizes as.reverse = Ter.sizes as := by
        have e : ∀ us : List Ter, Ter.sizes us.reverse = Ter.sizes us := fun us => by
          induction us with
          | nil => rfl
          | cons b r ih =>
            rw [List.reverse_cons, Ter.sizes_app, ih]
            show Ter.sizes r + (b.size + 0) = b.size + Ter.sizes r
            omega
        exact e as
      refine ⟨acc, vs' ++ zs.reverse, us' ++ as.reverse, _, rfl, But.same nl0 (sm1.trans s2) b2, b2 d _ nld.symm (s2 _ _ ed1), upd_same, (TmAll.mono t2 _ _ ha1).app (TmAll.mono t2 _ _ hs).rev, ?_, ?_, ?_⟩
      · rw [List.reverse_append, List.reverse_reverse, intos_app]
        exact ei
      · rw [Ter.sizes_app, e9]; omega
      · rw [Ter.sizes_app, Ter.sizes_app, ez, es, e9]; omega
  · have hv : vs = [] := by
      cases vs with
      | nil => rfl
      | cons x r => exact absurd rfl c
    subst hv
    cases hu
    have ei : acc = Ter.intos [] ts := ei
    refine ⟨.ref d, rfl, d, acc.map yes, rfl, .inl ed, fun p np => ?_⟩
    have s3 := same_new np (.lst ((acc.map yes).map fun kv => kV kv.1))
    refine q p _ (sm.trans s3) (sm.free np) ?_
    rw [upd_same, yes_keys, ei]
end

end K15
namespace K15
open PySem PySem.Spec PyProof.Rows L2 Own HT
-- bumped
section
variable {P : Program} {w : World} {K : PySem.W.Frag} {mg : Str → Option Value} {base : Heap}
/-! ### what a signature holds -/
abbrev Ent := Str × Bool × Nat
def kS : Bool → Str
  | true => "predicate"
  | false => "function"
theorem kS_ne : ¬ (("predicate" : Str) = "function") := by decide +kernel
theorem kS_dec (a b : Bool) : decide (V.str (kS a) = V.str (kS b)) = decide (a = b) := by
  cases a <;> cases b
  · exact (decide_eq_true rfl).trans (decide_eq_true rfl).symm
  · exact (decide_eq_false fun z => kS_ne (V.str.inj z).symm).trans (decide_eq_false fun z => by cases z).symm
  · exact (decide_eq_false fun z => kS_ne (V.str.inj z)).trans (decide_eq_false fun z => by cases z).symm
  · exact (decide_eq_true rfl).trans (decide_eq_true rfl).symm
def kkv (l : List Ent) : List (Key × V) := l.map fun e => ((.inr e.1 : Key), V.str (kS e.2.1))
def akv (l : List Ent) : List (Key × V) := l.map fun e => ((.inr e.1 : Key), V.int (e.2.2 : Int))
def entOf (l : List Ent) (x : Str) : Option Ent := l.find? fun e => decide (e.1 = x)
theorem val_map (g : Ent → V) (x : Str) : ∀ l : List Ent, valV (l.map fun e => ((.inr e.1 : Key), g e)) (.inr x) = (entOf l x).map g
  | [] => rfl
  | e :: r => by
    unfold entOf
    rw [List.map_cons, List.find?_cons]
    by_cases h : e.1 = x
    · rw [valV_pos (congrArg Sum.inr h), decide_eq_true h]; rfl
    · rw [valV_neg (fun z => h (Sum.inr.inj z)), decide_eq_false h]; exact val_map g x r
theorem putK_same {kvs : List (Key × V)} {k : Key} {v : V} (nd : (kvs.map (·.1)).Nodup) (h : valV kvs k = some v) : putK kvs k v = kvs := by
  unfold putK
  rw [if_pos (by rw [valV_any, h]; rfl)]
  conv => rhs; rw [← List.map_id kvs]
  refine List.map_congr_left fun kv hm => ?_
  by_cases e : kv.1 = k
  · rw [if_pos e]
    have g := val_of_mem nd hm
    rw [e, h] at g
    cases g
    rfl
  · rw [if_neg e]; rfl
theorem ent_some {l : List Ent} {x : Str} {e : Ent} (h : entOf l x = some e) : e ∈ l ∧ e.1 = x := ⟨List.mem_of_find?_eq_some h, of_decide_eq_true (p := e.1 = x) (List.find?_some (p := fun e : Ent => decide (e.1 = x)) h)⟩
theorem ent_none {l : List Ent} {x : Str} (h : entOf l x = none) : x ∉ l.map (·.1) := fun z => by
  obtain ⟨e, he, rfl⟩ := List.mem_map.mp z
  have := List.find?_eq_none.mp h e he
  exact this (decide_eq_true rfl)
theorem ent_mem : ∀ {l : List Ent} {e : Ent}, (l.map (·.1)).Nodup → e ∈ l → entOf l e.1 = some e
  | [], _, _, h => by cases h
  | p :: r, e, hn, h => by
    have hn : p.1 ∉ r.map (·.1) ∧ (r.map (·.1)).Nodup := List.nodup_cons.mp hn
    unfold entOf
    rw [List.find?_cons]
    rcases List.mem_cons.mp h with rfl | h
    · rw [decide_eq_true rfl]
    · rw [decide_eq_false (fun z : p.1 = e.1 => hn.1 (by rw [z]; exact List.mem_map_of_mem h))]
      exact ent_mem hn.2 h
theorem nd_keys (g : Ent → V) {l : List Ent} (nd : (l.map (·.1)).Nodup) : ((l.map fun e => ((.inr e.1 : Key), g e)).map (·.1)).Nodup := by
  have e : (l.map fun e => ((.inr e.1 : Key), g e)).map (·.1) = (l.map (·.1)).map (fun x => (.inr x : Key)) := by
    rw [List.map_map, List.map_map]; rfl
  rw [e]
  exact List.Pairwise.map _ (fun a b h z => h (Sum.inr.inj z)) nd
/-- what an adding does -/
inductive Due
  | ok | large | kind | arity (m : Nat)
def due (l : List Ent) (x : Str) (b : Bool) (n : Nat) : Due :=
  if 8 < n then .large else match entOf l x with
  | none => .ok
  | some e => if e.2.1 = b then (if e.2.2 = n then .ok else .arity e.2.2) else .kind
def addE (l : List Ent) (x : Str) (b : Bool) (n : Nat) : List Ent := match entOf l x with
  | none => l ++ [(x, b, n)]
  | some _ => l
theorem addE_len (l : List Ent) (x : Str) (b : Bool) (n : Nat) : (addE l x b n).length ≤ l.length + 1 := by
  unfold addE
  cases entOf l x with
  | none => rw [List.length_append]; exact Nat.le_refl _
  | some e => exact Nat.le_succ _
def entOk (e : Ent) : Prop := e.1.length ≤ 40 ∧ e.2.2 ≤ 9
/-- the attributes, in the order in which they are stored -/
def flds (d e : Addr) : List (Str × V) := putF "_arities" (.ref e) (putF "_kinds" (.ref d) [])
theorem flds_kinds (d e : Addr) : (flds d e).lookup ("_kinds" : Str) = some (.ref d) := by
  unfold flds
  rw [lookup_putF, if_neg (by decide +kernel), lookup_putF, if_pos rfl]
theorem flds_arities (d e : Addr) : (flds d e).lookup ("_arities" : Str) = some (.ref e) := by
  unfold flds
  rw [lookup_putF, if_pos rfl]
theorem flds_no (d e : Addr) {m : Str} (h1 : ¬ m = "_arities") (h2 : ¬ m = "_kinds") : (flds d e).lookup m = none := by
  unfold flds
  rw [lookup_putF, if_neg h1, lookup_putF, if_neg h2]
  rfl
/-- a Signature stands at p, its dicts at dk and da; it has the symbols of l -/
structure SigAt (C : Addr) (H : Hp) (p dk da : Addr) (l : List Ent) : Prop where
  ob : ∃ dx, H p = some (.ins C dx (flds dk da))
  ka : H dk = some (.dK (kkv l))
  aa : H da = some (.dK (akv l))
  ne : dk ≠ da
  nd : (l.map (·.1)).Nodup
  ok : ∀ e ∈ l, entOk e
theorem SigAt.keep {C : Addr} {H H' : Hp} {p dk da : Addr} {l : List Ent} (S : SigAt C H p dk da l) (m : ∀ b, b = p ∨ b = dk ∨ b = da → ∀ o, H b = some o → H' b = some o) : SigAt C H' p dk da l := by
  obtain ⟨⟨dx, h1⟩, h2, h3, h4, h5, h6⟩ := S
  exact ⟨⟨dx, m _ (.inl rfl) _ h1⟩, m _ (.inr (.inl rfl)) _ h2, m _ (.inr (.inr rfl)) _ h3, h4, h5, h6⟩
theorem SigAt.same {C : Addr} {H H' : Hp} {p dk da : Addr} {l : List Ent} (S : SigAt C H p dk da l) (m : Same H H') : SigAt C H' p dk da l := S.keep fun b _ o e => m b o e
def But2 (d e : Addr) (H H' : Hp) : Prop := ∀ b o, b ≠ d → b ≠ e → H b = some o → H' b = some o
/-- the class, and what else its defs read -/
structure SigT (K : PySem.W.Frag) (mg : Str → Option Value) (C : Addr) : Prop where
  cl : Cls K C
  nK : NoAttr K C "_kinds"
  nA : NoAttr K C "_arities"
  gC : mg "Signature" = some (.ref C)
abbrev stInit : Stmt := clsAt s_Signature 0
abbrev stAddF : Stmt := clsAt s_Signature 1
abbrev stAddP : Stmt := clsAt s_Signature 2
abbrev stAdd : Stmt := clsAt s_Signature 3
abbrev stFuns : Stmt := clsAt s_Signature 4
abbrev stPreds : Stmt := clsAt s_Signature 5
abbrev stPairs : Stmt := clsAt s_Signature 6
abbrev stArity : Stmt := clsAt s_Signature 7
abbrev stIsP : Stmt := clsAt s_Signature 8
abbrev stCont : Stmt := clsAt s_Signature 9
abbrev stLen : Stmt := clsAt s_Signature 10
def spSInit (C : Addr) : Sp := fun vs H Q _ => ∃ (p dx : Addr), vs = [.ref p] ∧ H p = some (.ins C dx []) ∧ ∀ (d e : Addr) (H' : Hp), H d = none → H e = none → SigAt C H' p d e [] → But p H H' → Q .non H'
theorem sc_sinit : FnScope ["self"] ["self"] (defScope stInit) := ⟨rfl, rfl, rfl, by decide +kernel, rfl, by decide +kernel, by decide +kernel⟩
theorem ok_sinit {f C : Addr} {fd : FuncData} (F : Fun K "__init__" "Signature.__init__" stInit f fd) (T : SigT K mg C) : FnOk P w K mg base CX0 1 f fd ["self"] (spSInit C) := by
  refine F.ok sc_sinit (fun vs H Q E h => ?_) (fun cdv A outer s H vs Q E hr h => ?_)
  · obtain ⟨p, dx, rfl, _⟩ := h; rfl
  obtain ⟨p, dx, rfl, hp, q⟩ := h
  refine ⟨_, (pss_cons (ps_fld (pv 0) pe_dnewK rfl)
    (pss_one (ps_fld (pv 0) pe_dnewK rfl))), ?_⟩
  intro d hd
  have npd : p ≠ d := ne_of_none hp hd
  refine ⟨_, rfl, p, C, dx, [], rfl, (by rw [upd_ne npd]; exact hp), T.cl, T.nK, (by show 0 < 1000; decide), ?_⟩
  intro e he
  have npe : p ≠ e := fun z => by rw [← z, upd_same] at he; cases he
  have nde : d ≠ e := fun z => by rw [← z, upd_ne npd.symm, upd_same] at he; cases he
  have he0 : H e = none := by rw [upd_ne npe.symm, upd_ne nde.symm] at he; exact he
  refine ⟨_, rfl, p, C, dx, _, rfl, (by rw [upd_ne npe]; exact upd_same), T.cl, T.nA, (by show 1 < 1000; decide), ?_⟩
  refine q d e _ hd he0 ⟨⟨dx, upd_same⟩, ?_, ?_, nde, List.nodup_nil, fun _ h => by cases h⟩ fun b o hb h => ?_
  · rw [upd_ne npd.symm, upd_ne nde, upd_ne npd.symm]; exact upd_same
  · rw [upd_ne npe.symm]; exact upd_same
  · rw [upd_ne hb, upd_ne (ne_of_none h he0), upd_ne hb, upd_ne (ne_of_none h hd)]; exact h
/-! ### adding a symbol -/
def AddQ (CL CK CA C p dk da : Addr) (l : List Ent) (x : Str) (b : Bool) (n : Nat) (H : Hp) (Q : VK) (E : XK) : Due → Prop
  | .ok => ∀ H', SigAt C H' p dk da (addE l x b n) → But2 dk da H H' → Q .non H'
  | .large => ∀ d H', Same H H' → H d = none → H' d = some (.xd [("limit", .str "arguments")]) → E (.ref CL) (some d) H'
  | .kind => ∀ d H', Same H H' → H d = none → H' d = some (.xd [("symbol", .str x)]) → E (.ref CK) (some d) H'
  | .arity m => ∀ d H', Same H H' → H d = none → H' d = some (.xd [("found", .int (n : Nat)), ("expected", .int (m : Nat)), ("symbol", .str x)]) → E (.ref CA) (some d) H'
def AddIn (CL CK CA C p dk da : Addr) (l : List Ent) (x : Str) (b : Bool) (n : Nat) (H : Hp) (Q : VK) (E : XK) : Prop :=
  SigAt C H p dk da l ∧ l.length ≤ 100 ∧ x.length ≤ 40 ∧ n ≤ 9 ∧ ((x = "true" ∧ n ≤ 8 ∧ Q .non H) ∨ (x ≠ "true" ∧ AddQ CL CK CA C p dk da l x b n H Q E (due l x b n)))
def spAdd (CL CK CA C : Addr) : Sp := fun vs H Q E => ∃ p dk da l x b n, vs = [.ref p, .str x, .str (kS b), .int (n : Nat)] ∧ AddIn CL CK CA C p dk da l x b n H Q E
theorem monoA {P Q : List V → Hp → Prop} (hm : ∀ vs H, P vs H → Q vs H) {σ : L2.St} {H : Hp} (h : tCons (tVar 1) (tCons (tDGet (tFld K (tVar 0) "_arities") (tVar 1)) (tCons (tVar 3) tNil)) σ H P) : tCons (tVar 1) (tCons (tDGet (tFld K (tVar 0) "_arities") (tVar 1)) (tCons (tVar 3) tNil)) σ H Q := by
  obtain ⟨v, hv, u, hu, a, C, dx, fs, y, e1, e2, e3, e4, e5, z, hz, c, r, e6, e7, v3, h3, q⟩ := h
  exact ⟨v, hv, u, hu, a, C, dx, fs, y, e1, e2, e3, e4, e5, z, hz, c, r, e6, e7, v3, h3, hm _ _ q⟩
theorem sc_add : FnScope ["self", "symbol", "kind", "arity"] ["self", "symbol", "kind", "arity"] (defScope stAdd) := ⟨rfl, rfl, rfl, by decide +kernel, rfl, by decide +kernel, by decide +kernel⟩
theorem ok_add {f C CL CK CA fL fK fA aT : Addr} {fd fdL fdK fdA : FuncData} {tG : Tok} (F : Fun K "_add_symbol" "Signature._add_symbol" stAdd f fd) (T : SigT K mg C) (gG : mg "GREATEST_ARITY" = some (.int 8 tG)) (gT : mg "TRUE" = some (.ref aT)) (hT : ∀ H, SqT K H aT [.str "true"])
    (TL : ExcC P w K mg base "TooLarge" ["limit"] ["self", "limit"] okW CL fL fdL) (TK : ExcC P w K mg base "KindError" ["symbol"] ["self", "symbol"] okW CK fK fdK) (TA : ExcC P w K mg base "ArityError" ["symbol", "expected", "found"] ["self", "symbol", "expected", "found"] okA CA fA fdA) :
    FnOk P w K mg base (L2N.CX P w) 5 f fd ["self", "symbol", "kind", "arity"] (spAdd CL CK CA C) := by
  refine F.okN sc_add (fun vs H Q E h => ?_) (fun cdv A outer s H vs Q E hr h => ?_)
  · obtain ⟨p, dk, da, l, x, b, n, rfl, _⟩ := h; rfl
  obtain ⟨p, dk, da, l, x, b, n, rfl, S, hl, hx2, hn, q⟩ := h
  obtain ⟨⟨dx, hp⟩, hk, ha, ne, ndl, ok⟩ := id S
  have vk : valV (kkv l) (.inr x) = (entOf l x).map fun e => V.str (kS e.2.1) := val_map _ x l
  have va : valV (akv l) (.inr x) = (entOf l x).map fun e => V.int (e.2.2 : Int) := val_map _ x l
  refine ⟨_, (pss_cons (ps_if (pt_cmpR op_gt (pv 3) (pe_glob (v := .int 8) (by rfl) gG ⟨_, rfl⟩) (nomark _))
      (pss_one (ps_raiseS rfl (L2N.takes_of rfl rfl rfl rfl) TL.oex TL.iC TL.tI TL.ok hr TL.b pass0 (by rfl) TL.gC (pa_cons pe_str pa_nil) monoS))
      pss_nil)
    (pss_cons (ps_if (pt_cmpR op_eq (pv 1) (pe_ix ix_tup (pe_glob (v := .ref aT) (by rfl) gT rfl) pe_int (fun _ _ => rfl)) (nomark _))
      (pss_one ps_retN)
      pss_nil)
    (pss_cons (ps_if (pt_cmpR op_ne (pe_dget2 (hu_of hr) (pe_fld (pv 0) rfl) (pv 1) (pv 2) ⟨rfl, rfl, rfl, rfl⟩) (pv 2) (nomark _))
      (pss_one (ps_raiseS rfl (L2N.takes_of rfl rfl rfl rfl) TK.oex TK.iC TK.tI TK.ok hr TK.b pass0 (by rfl) TK.gC (pa_cons (pv 1) pa_nil) mono1))
      pss_nil)
    (pss_cons (ps_if (pt_cmpR op_ne (pe_dget2 (hu_of hr) (pe_fld (pv 0) rfl) (pv 1) (pv 3) ⟨rfl, rfl, rfl, rfl⟩) (pv 3) (nomark _))
      (pss_one (ps_raiseS rfl (L2N.takes_of rfl rfl rfl rfl) TA.oex TA.iC TA.tI TA.ok hr TA.b pass0 (by rfl) TA.gC (pa_cons (pv 1) (pa_cons (pe_dget (hu_of hr) (pe_fld (pv 0) rfl) (pv 1) (fun _ _ => rfl)) (pa_cons (pv 3) pa_nil))) monoA))
      pss_nil)
    (pss_cons (ps_dput (hu_of hr) (pe_fld (pv 0) rfl) (pv 1) (pv 2) rfl)
    (pss_one (ps_dput (hu_of hr) (pe_fld (pv 0) rfl) (pv 1) (pv 3) rfl))))))), ?_⟩
  rcases q with ⟨rfl, n8, q⟩ | ⟨hx, q⟩
  · refine ⟨_, rfl, (n : Int), 8, rfl, rfl, _, rfl, ite2 (fun c => absurd (of_decide_eq_true c) (by omega)) (fun c => ?_)⟩
    refine ⟨_, rfl, aT, _, 0, _, rfl, rfl, hT _, atI_nat (j := 0) rfl, rfl, _, rfl, ?_⟩
    rw [decide_eq_true rfl]
    exact iteT q
  refine ⟨_, rfl, (n : Int), 8, rfl, rfl, _, rfl, ite2 (fun c => ?_) (fun c => ?_)⟩
  · have c := of_decide_eq_true c
    rw [show due l x b n = .large from if_pos (by omega)] at q
    exact ⟨rfl, by show 1 ≤ 1000; decide, fun a na => ⟨_, rfl, by decide +kernel⟩, fun d nd2 => q d _ (same_new nd2 _) nd2 upd_same⟩
  have c8 : ¬ 8 < n := fun z => c (decide_eq_true (by omega))
  have hx' : decide (V.str x = V.str "true") = false := decide_eq_false fun z => hx (V.str.inj z)
  refine ⟨_, rfl, aT, _, 0, _, rfl, rfl, hT _, atI_nat (j := 0) rfl, rfl, _, rfl, ?_⟩
  rw [hx']
  refine iteF ?_
  refine ⟨_, rfl, p, C, dx, _, _, rfl, hp, T.cl, T.nK, flds_kinds _ _, dk, rfl, .inl ⟨_, .inl hk⟩, _, rfl, _, rfl, _, DGet.k (k := .inr x) hk, ?_⟩
  rw [vk]
  have put : addE l x b n = l ∨ entOf l x = none → (∀ e, entOf l x = some e → e.2.1 = b ∧ e.2.2 = n) → AddQ CL CK CA C p dk da l x b n H Q E .ok → sDPut (tFld K (tVar 0) "_kinds") (tVar 1) (tVar 2) { nx := fun σ2 H2 => sDPut (tFld K (tVar 0) "_arities") (tVar 1) (tVar 3) { nx := fun _ H3 => Q .non H3, rt := Q } σ2 H2, rt := Q } [some (.ref p), some (.str x), some (.str (kS b)), some (.int (n : Int))] H := fun _ he q => by
    have e1 : putK (kkv l) (.inr x) (.str (kS b)) = kkv (addE l x b n) ∧ putK (akv l) (.inr x) (.int (n : Int)) = akv (addE l x b n) ∧ ((addE l x b n).map (·.1)).Nodup ∧ ∀ e ∈ addE l x b n, entOk e := by
      unfold addE
      cases z : entOf l x with
      | none =>
        rw [z] at vk va
        refine ⟨?_, ?_, ?_, fun e h => ?_⟩
        · rw [putK_new _ vk]; unfold kkv; rw [List.map_append]; rfl
        · rw [putK_new _ va]; unfold akv; rw [List.map_append]; rfl
        · rw [List.map_append]
          refine List.nodup_append.mpr ⟨ndl, List.nodup_cons.mpr ⟨(nomatch ·), List.nodup_nil⟩, fun a ha c hc => ?_⟩
          cases List.mem_singleton.mp hc
          exact fun w => ent_none z (by rw [show a = x from w] at ha; exact ha)
        · rcases List.mem_append.mp h with h | h
          · exact ok e h
          · cases List.mem_singleton.mp h
            exact ⟨hx2, hn⟩
      | some e =>
        rw [z] at vk va
        obtain ⟨h1, h2⟩ := he e z
        refine ⟨putK_same (nd_keys _ ndl) (by rw [vk, ← h1]; rfl), putK_same (nd_keys _ ndl) (by rw [va, ← h2]; rfl), ndl, ok⟩
    obtain ⟨ek, ea, nd2, ok2⟩ := e1
    have npk : p ≠ dk := ne_of hp hk (by intro z; cases z)
    have npa : p ≠ da := ne_of hp ha (by intro z; cases z)
    have lk : (kkv l).length < sizeLine := small6' (by unfold kkv; rw [List.length_map]; omega)
    have la : (akv l).length < sizeLine := small6' (by unfold akv; rw [List.length_map]; omega)
    refine ⟨_, rfl, _, rfl, p, C, dx, _, _, rfl, hp, T.cl, T.nK, flds_kinds _ _, _, rfl, dk, _, rfl, DPut.k (k := .inr x) hk lk, ?_⟩
    refine ⟨_, rfl, _, rfl, p, C, dx, _, _, rfl, (by rw [upd_ne npk]; exact hp), T.cl, T.nA, flds_arities _ _, _, rfl, da, _, rfl, DPut.k (k := .inr x) (by rw [upd_ne ne.symm]; exact ha) la, ?_⟩
    refine q _ ⟨⟨dx, ?_⟩, ?_, ?_, ne, nd2, ok2⟩ fun c o h1 h2 h => ?_
    · rw [upd_ne npa, upd_ne npk]; exact hp
    · rw [upd_ne ne, upd_same, ek]
    · rw [upd_same, ea]
    · rw [upd_ne h2, upd_ne h1]; exact h
  cases z : entOf l x with
  | none =>
    have ed : due l x b n = .ok := by unfold due; rw [if_neg c8, z]
    rw [ed] at q
    refine ⟨_, rfl, rfl, _, rfl, iteNS (rfl) ?_⟩
    refine ⟨_, rfl, p, C, dx, _, _, rfl, hp, T.cl, T.nA, flds_arities _ _, da, rfl, .inl ⟨_, .inl ha⟩, _, rfl, _, rfl, _, DGet.k (k := .inr x) ha, ?_⟩
    rw [va, z]
    refine ⟨_, rfl, rfl, _, rfl, iteNS (rfl) ?_⟩
    exact put (.inr z) (fun e h => by rw [z] at h; cases h) q
  | some e =>
    obtain ⟨me, ee⟩ := ent_some z
    obtain ⟨o1, o2⟩ := ok e me
    refine ⟨_, rfl, rfl, _, rfl, ?_⟩
    show (if (!decide (V.str (kS e.2.1) = V.str (kS b))) = true then _ else _)
    rw [kS_dec]
    by_cases hb : e.2.1 = b
    · rw [decide_eq_true hb]
      refine iteF ?_
      refine ⟨_, rfl, p, C, dx, _, _, rfl, hp, T.cl, T.nA, flds_arities _ _, da, rfl, .inl ⟨_, .inl ha⟩, _, rfl, _, rfl, _, DGet.k (k := .inr x) ha, ?_⟩
      rw [va, z]
      refine ⟨_, rfl, rfl, _, rfl, ?_⟩
      show (if (!decide (V.int (e.2.2 : Int) = V.int (n : Int))) = true then _ else _)
      by_cases hm : e.2.2 = n
      · rw [decide_eq_true (congrArg (fun i : Nat => V.int (i : Int)) hm)]
        refine iteF ?_
        have ed : due l x b n = .ok := by unfold due; rw [if_neg c8, z]; show (if e.2.1 = b then (if e.2.2 = n then Due.ok else .arity e.2.2) else .kind) = _; rw [if_pos hb, if_pos hm]
        rw [ed] at q
        exact put (.inl (by unfold addE; rw [z])) (fun e' h => by rw [z] at h; cases h; exact ⟨hb, hm⟩) q
      · rw [decide_eq_false (fun y => hm (by have := V.int.inj y; omega))]
        refine iteT ?_
        have ed : due l x b n = .arity e.2.2 := by unfold due; rw [if_neg c8, z]; show (if e.2.1 = b then (if e.2.2 = n then Due.ok else .arity e.2.2) else .kind) = _; rw [if_pos hb, if_neg hm]
        rw [ed] at q
        refine ⟨_, rfl, _, rfl, p, C, dx, _, _, rfl, hp, T.cl, T.nA, flds_arities _ _, _, rfl, da, _, rfl, DGet.of (k := .inr x) ha (by rw [va, z]; rfl), _, rfl, ?_⟩
        exact ⟨rfl, by show 3 ≤ 1000; decide, fun a na => ⟨x, (e.2.2 : Nat), (n : Nat), rfl, by omega, by omega, by omega, by omega, by omega⟩, fun d nd2 => q d _ (same_new nd2 _) nd2 upd_same⟩
    · rw [decide_eq_false hb]
      refine iteT ?_
      have ed : due l x b n = .kind := by unfold due; rw [if_neg c8, z]; show (if e.2.1 = b then (if e.2.2 = n then Due.ok else .arity e.2.2) else .kind) = _; rw [if_neg hb]
      rw [ed] at q
      exact ⟨_, rfl, rfl, by show 1 ≤ 1000; decide, fun a na => ⟨x, rfl, by omega⟩, fun d nd2 => q d _ (same_new nd2 _) nd2 upd_same⟩
end

end K15
namespace K15
open PySem PySem.Spec PyProof.Rows L2 Own HT
-- bumped
section
variable {P : Program} {w : World} {K : PySem.W.Frag} {mg : Str → Option Value} {base : Heap}
/-! ### add_function, add_predicate -/
theorem AddQ.mono {CL CK CA C p dk da : Addr} {l : List Ent} {x : Str} {b : Bool} {n : Nat} {H : Hp} {Q Q' : VK} {E E' : XK} (h1 : ∀ H', Q .non H' → Q' .non H') (h2 : ∀ c d H', E c d H' → E' c d H') :
    ∀ {d : Due}, AddQ CL CK CA C p dk da l x b n H Q E d → AddQ CL CK CA C p dk da l x b n H Q' E' d
  | .ok, h => fun H' a c => h1 _ (h H' a c)
  | .large, h => fun d H' a c e => h2 _ _ _ (h d H' a c e)
  | .kind, h => fun d H' a c e => h2 _ _ _ (h d H' a c e)
  | .arity _, h => fun d H' a c e => h2 _ _ _ (h d H' a c e)
def spAddB (CL CK CA C : Addr) (b : Bool) : Sp := fun vs H Q E => ∃ p dk da l x n, vs = [.ref p, .str x, .int (n : Nat)] ∧ AddIn CL CK CA C p dk da l x b n H Q E
theorem sc_addf : FnScope ["self", "symbol", "arity"] ["self", "symbol", "arity"] (defScope stAddF) := ⟨rfl, rfl, rfl, by decide +kernel, rfl, by decide +kernel, by decide +kernel⟩
theorem sc_addp : FnScope ["self", "symbol", "arity"] ["self", "symbol", "arity"] (defScope stAddP) := ⟨rfl, rfl, rfl, by decide +kernel, rfl, by decide +kernel, by decide +kernel⟩
theorem ok_addf {f C CL CK CA fA : Addr} {fd fdA : FuncData} (F : Fun K "add_function" "Signature.add_function" stAddF f fd) (T : SigT K mg C) (M : Meth K C "_add_symbol" fA) (B : Binds K fdA ["self", "symbol", "kind", "arity"] [])
    (G : FnOk P w K mg base (L2N.CX P w) 5 fA fdA ["self", "symbol", "kind", "arity"] (spAdd CL CK CA C)) : FnOk P w K mg base (L2N.CX P w) 6 f fd ["self", "symbol", "arity"] (spAddB CL CK CA C false) := by
  refine F.okN sc_addf (fun vs H Q E h => ?_) (fun cdv A outer s H vs Q E hr h => ?_)
  · obtain ⟨p, dk, da, l, x, n, rfl, _⟩ := h; rfl
  obtain ⟨p, dk, da, l, x, n, rfl, S, hl, hx2, hn, q⟩ := h
  obtain ⟨dx, hp⟩ := S.ob
  refine ⟨_, (pss_one (ps_expr (pe_methE (pv 0) T.cl M G hr B (fun σ => L2N.passAt (L2N.takes_of rfl rfl rfl rfl) σ) (pa_cons (pv 1) (pa_cons pe_str (pa_cons (pv 2) pa_nil)))))), ?_⟩
  exact ⟨_, rfl, p, dx, _, rfl, hp, flds_no _ _ (by decide +kernel) (by decide +kernel), _, rfl, _, rfl, p, dk, da, l, x, false, n, rfl, S, hl, hx2, hn, q.imp (fun h => h) (fun h => ⟨h.1, h.2.mono (fun _ h => h) (fun _ _ _ h => h)⟩)⟩
theorem ok_addp {f C CL CK CA fA : Addr} {fd fdA : FuncData} (F : Fun K "add_predicate" "Signature.add_predicate" stAddP f fd) (T : SigT K mg C) (M : Meth K C "_add_symbol" fA) (B : Binds K fdA ["self", "symbol", "kind", "arity"] [])
    (G : FnOk P w K mg base (L2N.CX P w) 5 fA fdA ["self", "symbol", "kind", "arity"] (spAdd CL CK CA C)) : FnOk P w K mg base (L2N.CX P w) 6 f fd ["self", "symbol", "arity"] (spAddB CL CK CA C true) := by
  refine F.okN sc_addp (fun vs H Q E h => ?_) (fun cdv A outer s H vs Q E hr h => ?_)
  · obtain ⟨p, dk, da, l, x, n, rfl, _⟩ := h; rfl
  obtain ⟨p, dk, da, l, x, n, rfl, S, hl, hx2, hn, q⟩ := h
  obtain ⟨dx, hp⟩ := S.ob
  refine ⟨_, (pss_one (ps_expr (pe_methE (pv 0) T.cl M G hr B (fun σ => L2N.passAt (L2N.takes_of rfl rfl rfl rfl) σ) (pa_cons (pv 1) (pa_cons pe_str (pa_cons (pv 2) pa_nil)))))), ?_⟩
  exact ⟨_, rfl, p, dx, _, rfl, hp, flds_no _ _ (by decide +kernel) (by decide +kernel), _, rfl, _, rfl, p, dk, da, l, x, true, n, rfl, S, hl, hx2, hn, q.imp (fun h => h) (fun h => ⟨h.1, h.2.mono (fun _ h => h) (fun _ _ _ h => h)⟩)⟩
/-! ### the pairs -/
def prsOf (l : List Ent) (b : Bool) : List Pr := (l.filter fun e => decide (e.2.1 = b)).map fun e => (e.1, e.2.2)
theorem prs_take {l : List Ent} {b : Bool} {i : Nat} {e : Ent} (h : l[i]? = some e) : prsOf (l.take (i + 1)) b = prsOf (l.take i) b ++ (if e.2.1 = b then [(e.1, e.2.2)] else []) := by
  unfold prsOf
  rw [List.take_add_one, h]
  show ((l.take i ++ [e]).filter _).map _ = _
  rw [List.filter_append, List.map_append]
  by_cases c : e.2.1 = b
  · rw [if_pos c, List.filter_cons, if_pos (decide_eq_true c)]; rfl
  · rw [if_neg c, List.filter_cons, if_neg (by rw [decide_eq_false c]; decide)]; rfl
theorem prs_len (l : List Ent) (b : Bool) : (prsOf l b).length ≤ l.length := by
  unfold prsOf
  rw [List.length_map]
  exact List.length_filter_le _ _
def PrsQ (H : Hp) (l : List Ent) (b : Bool) (Q : VK) : Prop := ∀ (p : Addr) (H' : Hp) (xs : List V), Same H H' → H p = none → H' p = some (.lst xs) → PrAll H' xs (prsOf l b) → Q (.ref p) H'
def spPairs (C : Addr) : Sp := fun vs H Q _ => ∃ p dk da l b, vs = [.ref p, .str (kS b)] ∧ SigAt C H p dk da l ∧ l.length ≤ 100 ∧ PrsQ H l b Q
theorem sc_pairs : FnScope ["self", "kind", "symbol"] ["self", "kind"] (defScope stPairs) := ⟨rfl, rfl, rfl, by decide +kernel, rfl, by decide +kernel, by decide +kernel⟩
theorem ok_pairs {f C : Addr} {fd : FuncData} (F : Fun K "_pairs" "Signature._pairs" stPairs f fd) (T : SigT K mg C) : FnOk P w K mg base CX0 1 f fd ["self", "kind"] (spPairs C) := by
  refine F.ok sc_pairs (fun vs H Q E h => ?_) (fun cdv A outer s H vs Q E hr h => ?_)
  · obtain ⟨p, dk, da, l, b, rfl, _⟩ := h; rfl
  obtain ⟨p, dk, da, l, b, rfl, S, hl, q⟩ := h
  obtain ⟨⟨dx, hp⟩, hk, ha, ne, ndl, ok⟩ := id S
  have nd := sc_pairs.nd
  have npk : p ≠ dk := ne_of hp hk (by intro z; cases z)
  refine ⟨_, (pss_one (ps_ret (pe_lock (pe_lc (own := [("symbol", 2)]) (g := gName 2) (tt := tTest (tOp (rEq) (tDGet (tFld K (tVar 0) "_kinds") (tVar 2)) (tVar 1))) (te := tTup (tCons (tVar 2) (tCons (tDGet (tFld K (tVar 0) "_arities") (tVar 2)) tNil))) rfl nd (pi_keys (pe_fld (pv 0) rfl)) (blkOk_by (N := ["self", "kind", "symbol"]) (sc := defScope stPairs) (by decide +kernel)) (fun _ _ _ _ _ => (pg_name (i := 2) nd rfl (.inl rfl))) (fun _ _ _ _ _ => (pts_one (pt_cmpR op_eq (pe_dget (hu_of hr) (pe_fld (pv 0) rfl) (pv 2) (fun _ _ => rfl)) (pv 1) (nomark _)))) (fun _ _ _ _ _ => (pe_tup (pa_cons (pv 2) (pa_cons (pe_dget (hu_of hr) (pe_fld (pv 0) rfl) (pv 2) (fun _ _ => rfl)) pa_nil)))))))), ?_⟩
  refine ⟨dk, _, hk, trivial, fun od => ?_⟩
  refine ⟨_, rfl, p, C, dx, _, _, rfl, (by rw [upd_ne npk]; exact hp), T.cl, T.nK, flds_kinds _ _, dk, od, rfl, .inl ⟨kkv l, upd_same, fun D nD => ?_⟩⟩
  have nDk : D ≠ dk := fun z => by rw [z, upd_same] at nD; cases nD
  have nD0 : H D = none := by rw [upd_ne nDk] at nD; exact nD
  have lk : (kkv l).length = l.length := by unfold kkv; rw [List.length_map]
  refine lc_it walk_keys (fun i H2 => ∃ xs, But dk H H2 ∧ H2 dk = some (.frz od (.dK (kkv l))) ∧ H2 D = some (.lst xs) ∧ PrAll H2 xs (prsOf (l.take i) b)) ⟨[], ?_, ?_, upd_same, .nil⟩ (fun i H2 _ h => ?_) (fun i x H9 H2 hi h y => ?_) (fun H2 h => ?_)
  · exact but_fresh (But.upd) nD0
  · rw [upd_ne nDk.symm]; exact upd_same
  · obtain ⟨xs, _, h2, _⟩ := h; exact h2
  · obtain ⟨xs, bt, hd, hD, hA⟩ := h
    obtain ⟨rfl, k, v, hkv, rfl⟩ := y
    have hkv2 : (l[i]?).map (fun e => ((.inr e.1 : Key), V.str (kS e.2.1))) = some (k, v) := by rw [← List.getElem?_map]; exact hkv
    obtain ⟨e, he, hek⟩ : ∃ e, l[i]? = some e ∧ ((.inr e.1 : Key), V.str (kS e.2.1)) = (k, v) := Option.map_eq_some_iff.mp hkv2
    cases hek
    have eo : entOf l e.1 = some e := ent_mem ndl (List.mem_of_getElem? he)
    have vk : valV (kkv l) (.inr e.1) = some (V.str (kS e.2.1)) := (val_map _ e.1 l).trans (by rw [eo]; rfl)
    have va : valV (akv l) (.inr e.1) = some (V.int (e.2.2 : Nat)) := (val_map _ e.1 l).trans (by rw [eo]; rfl)
    have hp2 : H2 p = some (.ins C dx (flds dk da)) := bt _ _ npk hp
    have ha2 : H2 da = some (.dK (akv l)) := bt _ _ ne.symm ha
    refine ⟨rfl, ?_⟩
    refine ⟨_, rfl, p, C, dx, _, _, rfl, hp2, T.cl, T.nK, flds_kinds _ _, _, rfl, dk, _, rfl, DGet.frz (k := .inr e.1) hd vk, _, rfl, rfl, _, rfl, ?_⟩
    show (if decide (V.str (kS e.2.1) = V.str (kS b)) = true then _ else _)
    rw [kS_dec]
    have et := prs_take (b := b) he
    by_cases c : e.2.1 = b
    · rw [decide_eq_true c]
      refine iteT ?_
      rw [if_pos c] at et
      refine ⟨_, rfl, _, rfl, p, C, dx, _, _, rfl, hp2, T.cl, T.nA, flds_arities _ _, _, rfl, da, _, rfl, DGet.of (k := .inr e.1) ha2 va, by show 2 ≤ sizeLine; decide, fun t nt => ?_⟩
      have ntD : t ≠ D := fun z => by rw [z, hD] at nt; cases nt
      have ntk : t ≠ dk := fun z => by rw [z, hd] at nt; cases nt
      have s3 := same_new nt (.tup [V.str e.1, V.int (e.2.2 : Nat)])
      have hD3 : (upd H2 t (.tup [V.str e.1, V.int (e.2.2 : Nat)])) D = some (.lst xs) := s3 _ _ hD
      have lx := hA.len
      have lp := prs_len (l.take i) b
      rw [List.length_take] at lp
      refine ⟨xs, hD3, small6' (by omega), xs ++ [.ref t], ?_, ?_, upd_same, ?_⟩
      · exact but_fresh (fun c o n h => s3 _ _ (bt c o n h)) nD0
      · rw [upd_ne nDk.symm]; exact s3 _ _ hd
      · rw [et]
        have m := tups_upd (o := .lst (xs ++ [V.ref t])) hD3
        exact (hA.mono (s3.tups.trans m)).app (.cons (.mk (by rw [upd_ne ntD]; exact upd_same)) .nil)
    · rw [decide_eq_false c]
      refine iteF ?_
      rw [if_neg c, List.append_nil] at et
      exact ⟨xs, bt, hd, hD, by rw [et]; exact hA⟩
  · obtain ⟨xs, bt, hd, hD, hA⟩ := h
    rw [lk, List.take_length] at hA
    refine ⟨hd, ?_⟩
    have s4 := but_unlock hk bt
    exact q D _ xs s4 nD0 (by rw [upd_ne nDk]; exact hD) (hA.mono (tups_frz hd))
def spFuns (C : Addr) (b : Bool) : Sp := fun vs H Q _ => ∃ p dk da l, vs = [.ref p] ∧ SigAt C H p dk da l ∧ l.length ≤ 100 ∧ PrsQ H l b Q
theorem sc_funs : FnScope ["self"] ["self"] (defScope stFuns) := ⟨rfl, rfl, rfl, by decide +kernel, rfl, by decide +kernel, by decide +kernel⟩
theorem sc_preds : FnScope ["self"] ["self"] (defScope stPreds) := ⟨rfl, rfl, rfl, by decide +kernel, rfl, by decide +kernel, by decide +kernel⟩
theorem ok_funs {f C fA : Addr} {fd fdA : FuncData} (F : Fun K "functions" "Signature.functions" stFuns f fd) (T : SigT K mg C) (M : Meth K C "_pairs" fA) (B : Binds K fdA ["self", "kind"] []) (G : FnOk P w K mg base CX0 1 fA fdA ["self", "kind"] (spPairs C)) :
    FnOk P w K mg base CX0 2 f fd ["self"] (spFuns C false) := by
  refine F.ok sc_funs (fun vs H Q E h => ?_) (fun cdv A outer s H vs Q E hr h => ?_)
  · obtain ⟨p, dk, da, l, rfl, _⟩ := h; rfl
  obtain ⟨p, dk, da, l, rfl, S, hl, q⟩ := h
  obtain ⟨dx, hp⟩ := S.ob
  refine ⟨_, (pss_one (ps_ret (pe_meth (pv 0) T.cl M G hr B .nil pass0 (pa_cons pe_str pa_nil)))), ?_⟩
  exact ⟨_, rfl, p, dx, _, rfl, hp, flds_no _ _ (by decide +kernel) (by decide +kernel), p, dk, da, l, false, rfl, S, hl, q⟩
theorem ok_preds {f C fA : Addr} {fd fdA : FuncData} (F : Fun K "predicates" "Signature.predicates" stPreds f fd) (T : SigT K mg C) (M : Meth K C "_pairs" fA) (B : Binds K fdA ["self", "kind"] []) (G : FnOk P w K mg base CX0 1 fA fdA ["self", "kind"] (spPairs C)) :
    FnOk P w K mg base CX0 2 f fd ["self"] (spFuns C true) := by
  refine F.ok sc_preds (fun vs H Q E h => ?_) (fun cdv A outer s H vs Q E hr h => ?_)
  · obtain ⟨p, dk, da, l, rfl, _⟩ := h; rfl
  obtain ⟨p, dk, da, l, rfl, S, hl, q⟩ := h
  obtain ⟨dx, hp⟩ := S.ob
  refine ⟨_, (pss_one (ps_ret (pe_meth (pv 0) T.cl M G hr B .nil pass0 (pa_cons pe_str pa_nil)))), ?_⟩
  exact ⟨_, rfl, p, dx, _, rfl, hp, flds_no _ _ (by decide +kernel) (by decide +kernel), p, dk, da, l, true, rfl, S, hl, q⟩
end

end K15
namespace K15
open PySem PySem.Spec PyProof.Rows L2 Own HT
section
variable {P : Program} {w : World} {K : PySem.W.Frag} {mg : Str → Option Value} {base : Heap}
/-! ### _law_named -/
def spNamed (n : Nat) : Sp := fun vs H Q _ => ∃ (v : V) (t : Ter) (W : Str → Nat → Prop), vs = [v] ∧ TmAt H v t ∧ t.wf W numVar ∧ t.size ≤ 100000 ∧ t.nest < n ∧
  ∀ v' t' H', Same H H' → TmAt H' v' t' → t'.wf W nameVar → t'.size = t.size → t'.nest = t.nest → Q v' H'
theorem sc_law_named : FnScope ["_law_term_here", "_law_argument"] ["_law_term_here"] (defScope s__law_named) := ⟨rfl, rfl, rfl, by decide +kernel, rfl, by decide +kernel, by decide +kernel⟩
theorem ok_law_named1 {f : Addr} {fd : FuncData} (D : Df K mg "_law_named" s__law_named ["_law_term_here"] f fd) (mi : mg "isinstance" = none) (mt : mg "tuple" = none) (mint : mg "int" = none) {n : Nat} (G : FnOk P w K mg base CX0 n f fd ["_law_term_here"] (spNamed n)) : FnOk P w K mg base CX0 (n + 1) f fd ["_law_term_here"] (spNamed (n + 1)) := by
  refine D.F.ok sc_law_named (fun vs H Q E h => ?_) (fun cdv A outer s H vs Q E hr h => ?_)
  · obtain ⟨v, t, W, rfl, _⟩ := h; rfl
  obtain ⟨v, t, W, rfl, ht, hw, hz, hn, q⟩ := h
  have nd := sc_law_named.nd
  refine ⟨_, pss_cons (ps_if (pt_not (pt_val (pe_callB call_isiTer (by rfl) mi (by decide +kernel) (pa_cons (pv 0) (pa_cons (pe_bltn (v := .ty "tuple") (by rfl) mt (by decide +kernel) rfl) pa_nil)))))
      (pss_one (ps_ret (pe_ix ix_list (pe_lst (pa_cons pe_str (pa_cons pe_str (pa_cons pe_str (pa_cons pe_str (pa_cons pe_str pa_nil)))))) (pe_op op_mod (pe_callTy call_int1 (by rfl) mint (by decide +kernel) (pa_cons (pv 0) pa_nil)) pe_int) (fun _ _ => rfl)))) pss_nil)
    (pss_one (ps_ret (pe_op op_catT (pe_tup (pa_cons (pe_ix ix_tup (pv 0) pe_int (fun _ _ => rfl)) pa_nil)) (pe_callTy call_tuple_of (by rfl) mt (by decide +kernel) (pa_cons
      (pe_lc (own := [("_law_argument", 1)]) (g := gName 1) (tt := tYes) (te := tCall (spNamed n) [] E0 (tCons (tVar 1) tNil)) rfl nd (pi_tup (pe_slice sl_1 (pv 0) (po_some pe_int) po_none)) (blkOk_by (N := ["_law_term_here", "_law_argument"]) (sc := defScope s__law_named) (by decide +kernel))
        (fun _ _ _ _ _ => pg_name (i := 1) nd rfl (Or.inl rfl)) (fun _ _ _ _ _ => pts_nil) (fun _ _ _ _ _ => pe_call G hr (by rfl) D.m D.F.kp D.b .nil pass0 (pa_cons (pv 1) pa_nil))) pa_nil))))), ?_⟩
  refine ⟨v, rfl, v, t, rfl, ht, _, rfl, ?_⟩
  have var : ∀ (i : Int), ∃ x, atI (NAMES5.map V.str) (i % 5) = some (.str x) ∧ x ∈ NAMES5 := fun i => by
    have h1 := Int.emod_nonneg i (show (5 : Int) ≠ 0 by decide)
    have h2 := Int.emod_lt_of_pos i (show (0 : Int) < 5 by decide)
    have h3 : (i % 5).toNat < NAMES5.length := by show _ < 5; omega
    have g := List.getElem?_eq_getElem h3
    generalize NAMES5[(i % 5).toNat] = x at g
    exact ⟨x, at_of (j := (i % 5).toNat) (by omega) (by rw [List.getElem?_map, g]; rfl), List.mem_of_getElem? g⟩
  cases ht with
  | int i =>
    refine iteT ?_
    obtain ⟨x, hx, hm⟩ := var i
    refine ⟨by show 5 ≤ sizeLine; decide, fun l nl => ?_⟩
    have s1 := same_new nl (.lst [.str "X", .str "Y", .str "Zeta", .str "X1", .str "W_0"])
    refine ⟨_, rfl, .inl ⟨i, rfl, _, _, rfl, rfl, (by show (0 : Int) < 5; decide), ?_⟩⟩
    exact ⟨l, _, _, _, rfl, rfl, .inl (.inl upd_same), hx, q (.str x) (.var (.inr x)) _ s1 (.str x) ⟨x, rfl, hm⟩ rfl rfl⟩
  | str x =>
    obtain ⟨r, hr, _⟩ := hw
    cases hr
  | @ap a g xs as e hs =>
    refine iteF ?_
    have ls := hs.len
    have hn : Ter.nests as + 1 < n + 1 := hn
    have hz : Ter.sizes as + 1 ≤ 100000 := hz
    have la := Ter.sizes_len as
    refine ⟨_, rfl, a, _, 0, .str g, rfl, rfl, .inl (.inl e), head_at, by show 1 ≤ sizeLine; decide, fun p1 np1 => ?_⟩
    have s1 := same_new np1 (.tup [.str g])
    refine ⟨.ref a, rfl, 1, rfl, a, .str g, xs, rfl, rfl, rfl, .inl (.inl (s1 _ _ e)), fun p2 np2 => ?_⟩
    have s2 := same_new np2 (.tup xs)
    refine ⟨p2, rfl, ⟨xs, .inl (.inl upd_same)⟩, fun d nd' => ?_⟩
    have s12 := s1.trans s2
    refine walk_t (xs := xs) (fun i H2 => ∃ acc ts, Same (upd (upd H p1 (.tup [.str g])) p2 (.tup xs)) H2 ∧ H2 d = some (.lst acc) ∧ TmAll H2 acc ts ∧ ts.length = i ∧ Ter.sizes ts = Ter.sizes (as.take i) ∧ Ter.nests ts = Ter.nests (as.take i) ∧ Ter.wfs W nameVar ts) ⟨[], [], same_new nd' _, upd_same, .nil, rfl, rfl, rfl, trivial⟩ (fun i H2 _ h => ?_) (fun i x H2 hx h => ?_) (fun H2 h => ?_)
    · obtain ⟨acc, ts, sm, _⟩ := h
      exact .inl (.inl (sm _ _ upd_same))
    · obtain ⟨acc, ts, sm, ed, ha, lt, z1, z2, z3⟩ := h
      obtain ⟨t1, et, hx1⟩ := hs.get hx
      have hx2 := TmAt.mono (s12.trans sm).tups _ _ hx1
      have n1 := nest_le_of et
      have m1 := size_le_of et
      refine ⟨rfl, ?_⟩
      refine ⟨_, rfl, x, t1, W, rfl, hx2, wfs_get hw.2 et, by omega, by omega, fun v' t' H3 s3 hv' w' e1 e2 => ?_⟩
      have ed3 := s3 _ _ ed
      have b4 : But d H3 (upd H3 d (.lst (acc ++ [v']))) := But.upd
      have m4 := b4.tups ed3
      have la2 := ha.len
      have li : i < as.length := (List.getElem?_eq_some_iff.mp et).1
      have etk : as.take (i + 1) = as.take i ++ [t1] := by rw [List.take_add_one, et]; rfl
      refine ⟨acc, ed3, small6' (by omega), acc ++ [v'], ts ++ [t'], But.same nd' (sm.trans s3) b4, upd_same, (TmAll.mono (s3.tups.trans m4) _ _ ha).app (.cons (TmAt.mono m4 _ _ hv') .nil), by rw [List.length_append, List.length_singleton, lt], ?_, ?_, wfs_app z3 ⟨w', trivial⟩⟩
      · rw [sizes_snoc, etk, sizes_snoc, z1, e1]
      · rw [nests_snoc, etk, nests_snoc, z2, e2]
    · obtain ⟨acc, ts, sm, ed, ha, lt, z1, z2, z3⟩ := h
      rw [ls, List.take_length] at z1 z2
      have la2 := ha.len
      refine ⟨d, acc, rfl, .inl ⟨.inl (.inl ed), fun p3 np3 => ?_⟩⟩
      have s3 := same_new np3 (.tup acc)
      have sa := s12.trans (sm.trans s3)
      have wW : W g ts.length := by
        have : ts.length = as.length := by omega
        rw [this]
        exact hw.1
      refine ⟨p1, p3, [.str g], acc, rfl, rfl, .inl (.inl (s3 _ _ (sm _ _ (s2 _ _ upd_same)))), .inl (.inl upd_same), by simp, small6 (by show 1 + acc.length ≤ _; omega), fun z => ?_, fun _ p4 np4 => ?_⟩
      · subst z
        have t0 : ts = [] := by cases ha; rfl
        subst t0
        exact q (.ref p1) (.ap g []) _ sa (.ap (s3 _ _ (sm _ _ (s2 _ _ upd_same))) .nil) ⟨wW, trivial⟩ (by show Ter.sizes [] + 1 = Ter.sizes as + 1; rw [z1]) (by show Ter.nests [] + 1 = Ter.nests as + 1; rw [z2])
      · have s4 := same_new np4 (.tup ([.str g] ++ acc))
        exact q (.ref p4) (.ap g ts) _ (sa.trans s4) (.ap upd_same (TmAll.mono (s3.trans s4).tups _ _ ha)) ⟨wW, z3⟩ (by show Ter.sizes ts + 1 = Ter.sizes as + 1; rw [z1]) (by show Ter.nests ts + 1 = Ter.nests as + 1; rw [z2])
theorem ok_law_named {f : Addr} {fd : FuncData} (D : Df K mg "_law_named" s__law_named ["_law_term_here"] f fd) (mi : mg "isinstance" = none) (mt : mg "tuple" = none) (mint : mg "int" = none) : ∀ n : Nat, FnOk P w K mg base CX0 n f fd ["_law_term_here"] (spNamed n)
  | 0 => by
    have no : ∀ vs H Q E, ¬ spNamed 0 vs H Q E := fun vs H Q E h => by
      obtain ⟨v, t, W, _, _, _, _, hn, _⟩ := h
      omega
    exact ⟨fun vs H Q E h => absurd h (no vs H Q E), fun A outer s H args us vs Q E _ _ _ _ h => absurd h (no vs H Q E)⟩
  | n + 1 => ok_law_named1 D mi mt mint (ok_law_named D mi mt mint n)
/-! ### what the draws give -/
/-- words at l, ints at d -/
structure Drw (H : Hp) (d l : Addr) (ws : List Str) : Prop where
  hi : Ints H d
  hl : H l = some (.lst (ws.map V.str))
  ne : l ≠ d
  nine : ws.length = 9
  ok : Words ws
theorem Drw.go {H H' : Hp} {d l : Addr} {ws : List Str} (h : Drw H d l ws) (b : But d H H') (i : Ints H' d) : Drw H' d l ws := ⟨i, b l _ h.ne h.hl, h.ne, h.nine, h.ok⟩
theorem Drw.same {H H' : Hp} {d l : Addr} {ws : List Str} (h : Drw H d l ws) (b : Same H H') : Drw H' d l ws := ⟨h.hi.same b, b l _ h.hl, h.ne, h.nine, h.ok⟩
theorem Drw.word {H : Hp} {d l : Addr} {ws : List Str} (h : Drw H d l ws) {c : Int} (h0 : 0 ≤ c) (h9 : c < 9) : ∃ x, atI (ws.map V.str) c = some (.str x) ∧ x ∈ ws ∧ ws[c.toNat]? = some x := by
  have h3 : c.toNat < ws.length := by rw [h.nine]; omega
  have g := List.getElem?_eq_getElem h3
  generalize ws[c.toNat] = x at g
  exact ⟨x, at_of (j := c.toNat) (by omega) (by rw [List.getElem?_map, g]; rfl), List.mem_of_getElem? g, g⟩
/-- a predicate's word with its arity -/
def preOf (ws : List Str) (x : Str) (n : Nat) : Prop := n < 3 ∧ ws[6 + n]? = some x
def smallT (t : Ter) : Prop := t.size ≤ 200 ∧ t.nest ≤ 20
theorem smallT.n60 {t : Ter} (h : smallT t) : t.nest ≤ 60 := Nat.le_trans h.2 (by decide)
def okNm (x : Str) : Prop := x ∈ NAMES5
def atomOk (ws : List Str) (U : Key → Prop) (t : Ter) : Prop := ∃ x as, t = .ap x as ∧ preOf ws x as.length ∧ Ter.wfs (symOf ws) U as
/-- the sides of a literal -/
def litOk (ws : List Str) (U : Key → Prop) (l r : Ter) : Prop := smallT l ∧ smallT r ∧ ((r = trueT ∧ (l = trueT ∨ atomOk ws U l)) ∨ (l.wf (symOf ws) U ∧ r.wf (symOf ws) U))
theorem small_true : smallT trueT := ⟨by show 0 + 1 ≤ 200; decide, by show 0 + 1 ≤ 20; decide⟩
def _root_.Own.Fm.lits (R : Ter → Ter → Prop) (S : Str → Prop) : Fm → Prop
  | .tt _ => True
  | .eq l r => R l r
  | .neg f => f.lits R S
  | .bin _ f g => f.lits R S ∧ g.lits R S
  | .qu _ x f => S x ∧ f.lits R S
theorem z64 : (4 : Nat) ^ (2 + 1) = 64 := by decide
end

section
variable {P : Program} {w : World} {K : PySem.W.Frag} {mg : Str → Option Value} {base : Heap}
/-! ### _law_atom -/
def spAtom : Sp := fun vs H Q _ => ∃ (d l : Addr) (ws : List Str), vs = [.ref d, .ref l] ∧ Drw H d l ws ∧ ∀ v t H', But d H H' → Drw H' d l ws → TmAt H' v t → atomOk ws nameVar t → smallT t → Q v H'
theorem sc_law_atom : FnScope ["_law_draws_here", "_law_words_here", "_law_kind", "_law_k"] ["_law_draws_here", "_law_words_here"] (defScope s__law_atom) := ⟨rfl, rfl, rfl, by decide +kernel, rfl, by decide +kernel, by decide +kernel⟩
theorem ok_law_atom {f fT fM fN : Addr} {fd dT dM dN : FuncData} (D : Df K mg "_law_atom" s__law_atom ["_law_draws_here", "_law_words_here"] f fd) (DT : Df K mg "_law_take" s__law_take ["_law_draws_here", "_law_bound"] fT dT) (GT : FnOk P w K mg base CX0 1 fT dT ["_law_draws_here", "_law_bound"] spTake)
    (DM : Df K mg "_law_term" s__law_term ["_law_draws_here", "_law_words_here", "_law_depth"] fM dM) (GM : FnOk P w K mg base CX0 7 fM dM ["_law_draws_here", "_law_words_here", "_law_depth"] (spTerm 5)) (DN : Df K mg "_law_named" s__law_named ["_law_term_here"] fN dN) (GN : FnOk P w K mg base CX0 7 fN dN ["_law_term_here"] (spNamed 7))
    (mr : mg "range" = none) (mt : mg "tuple" = none) : FnOk P w K mg base CX0 8 f fd ["_law_draws_here", "_law_words_here"] spAtom := by
  refine D.F.ok sc_law_atom (fun vs H Q E h => ?_) (fun cdv A outer s H vs Q E hr h => ?_)
  · obtain ⟨d, l, ws, rfl, _⟩ := h; rfl
  obtain ⟨d, l, ws, rfl, hD, q⟩ := h
  have nd := sc_law_atom.nd
  have r1 : Room 1 _ := hr.mono (by decide)
  refine ⟨_, pss_cons (ps_set (i := 2) nd rfl (.inl rfl) (pe_call GT r1 (by rfl) DT.m DT.F.kp DT.b .nil pass0 (pa_cons (pv 0) (pa_cons pe_int pa_nil))))
    (pss_one (ps_ret (pe_op op_catT (pe_tup (pa_cons (pe_ix ix_list (pv 1) (pe_op op_add pe_int (pv 2)) (fun _ _ => rfl)) pa_nil)) (pe_callTy call_tuple_of (by rfl) mt (by decide +kernel) (pa_cons
      (pe_lc (own := [("_law_k", 3)]) (g := gName 3) (tt := tYes) (te := tCall (spNamed 7) [] E0 (tCons (tCall (spTerm 5) [] E0 (tCons (tVar 0) (tCons (tVar 1) (tCons (tC (.int 2)) tNil)))) tNil)) rfl nd (pi_range1 (by rfl) mr (pa_cons (pv 2) pa_nil)) (blkOk_by (N := ["_law_draws_here", "_law_words_here", "_law_kind", "_law_k"]) (sc := defScope s__law_atom) (by decide +kernel))
        (fun _ _ _ _ _ => pg_name (i := 3) nd rfl (Or.inl rfl)) (fun _ _ _ _ _ => pts_nil) (fun _ _ _ _ _ => pe_call GN hr (by rfl) DN.m DN.F.kp DN.b .nil pass0 (pa_cons (pe_call GM hr (by rfl) DM.m DM.F.kp DM.b .nil pass0 (pa_cons (pv 0) (pa_cons (pv 1) (pa_cons pe_int pa_nil)))) pa_nil))) pa_nil))))), ?_⟩
  refine ⟨_, rfl, d, 3, rfl, hD.hi, by decide, fun r H1 r0 r3 b1 hI1 => ?_⟩
  have hD1 := hD.go b1 hI1
  obtain ⟨x, hx, hm, hg⟩ := hD1.word (c := 6 + r) (by omega) (by omega)
  refine ⟨_, rfl, _, rfl, _, _, rfl, rfl, l, _, _, _, rfl, rfl, .inl (.inl hD1.hl), hx, by show 1 ≤ sizeLine; decide, fun p1 np1 => ?_⟩
  have s1 := same_new np1 (.tup [.str x])
  have hD2 := hD1.same s1
  refine ⟨_, rfl, r, rfl, by omega, by omega, fun c nc => ?_⟩
  have cd : c ≠ d := hD2.hi.ne nc
  have np1d : p1 ≠ d := hD1.hi.ne np1
  refine lc_range (lo := 0) (n := r.toNat) (fun i H3 => ∃ acc ts, But d (upd H1 p1 (.tup [.str x])) H3 ∧ Drw H3 d l ws ∧ H3 c = some (.lst acc) ∧ TmAll H3 acc ts ∧ ts.length = i ∧ Ter.wfs (symOf ws) nameVar ts ∧ Ter.sizes ts ≤ i * 64 ∧ Ter.nests ts ≤ 3) ⟨[], [], (same_new nc _).but, hD2.same (same_new nc _), upd_same, .nil, rfl, trivial, Nat.zero_le _, Nat.zero_le _⟩ (fun i H3 hi h => ?_) (fun H3 h => ?_)
  · obtain ⟨acc, ts, b3, hD3, ec, ha, lt, hw, hs, hn⟩ := h
    refine ⟨rfl, ?_⟩
    refine ⟨_, rfl, _, rfl, d, l, ws, 2, rfl, hD3.hi, hD3.hl, hD3.ne, by rw [hD3.nine]; decide, by decide, fun v t H4 b4 hI4 hv hwf hsz hne => ?_⟩
    have hD4 := hD3.go b4 hI4
    rw [z64] at hsz
    refine ⟨v, t, _, rfl, hv, hwf, by omega, by omega, fun v' t' H5 s5 hv' hw' e1 e2 => ?_⟩
    have ec5 := s5 _ _ (b4 c _ cd ec)
    have la := ha.len
    have b6 : But c H5 (upd H5 c (.lst (acc ++ [v']))) := But.upd
    have m6 := b6.tups ec5
    have m4 := b4.tupsI hD3.hi
    refine ⟨acc, ec5, Nat.lt_of_le_of_lt (show acc.length ≤ 100 by omega) (by decide), acc ++ [v'], ts ++ [t'], fun b o nb e => ?_, ?_, upd_same, (TmAll.mono ((m4.trans s5.tups).trans m6) _ _ ha).app (.cons (TmAt.mono m6 _ _ hv') .nil), by rw [List.length_append, List.length_singleton, lt], wfs_app hw ⟨hw', trivial⟩, ?_, ?_⟩
    · rw [upd_ne (ne_of_none e nc)]
      exact s5 _ _ (b4 b o nb (b3 b o nb e))
    · have hD5 := hD4.same s5
      exact ⟨hD5.hi.of_but b6 cd.symm, b6 l _ (fun z => by rw [z] at hD2; rw [hD2.hl] at nc; cases nc) hD5.hl, hD5.ne, hD5.nine, hD5.ok⟩
    · rw [sizes_snoc, Nat.succ_mul]; omega
    · rw [nests_snoc]; omega
  · obtain ⟨acc, ts, b3, hD3, ec, ha, lt, hw, hs, hn⟩ := h
    have la := ha.len
    have e1 : H3 p1 = some (.tup [.str x]) := b3 p1 _ np1d upd_same
    have bb : But d H H3 := b1.trans (s1.but.trans b3)
    refine ⟨c, acc, rfl, .inl ⟨.inl (.inl ec), fun p2 np2 => ?_⟩⟩
    have s2 := same_new np2 (.tup acc)
    have z : Ter.sizes ts ≤ 128 := Nat.le_trans hs (by have : r.toNat * 64 ≤ 2 * 64 := Nat.mul_le_mul_right _ (by omega); omega)
    have fm : ∀ us, us.length = r.toNat → Ter.wfs (symOf ws) nameVar us → atomOk ws nameVar (.ap x us) := fun us h0 h1 => ⟨x, us, rfl, ⟨by omega, by rw [h0, show 6 + r.toNat = (6 + r).toNat by omega]; exact hg⟩, h1⟩
    have sml : ∀ us, Ter.sizes us ≤ 128 → Ter.nests us ≤ 3 → smallT (.ap x us) := fun us h2 h3 => ⟨by show Ter.sizes us + 1 ≤ 200; omega, by show Ter.nests us + 1 ≤ 20; omega⟩
    refine ⟨p1, p2, [.str x], acc, rfl, rfl, .inl (.inl (s2 _ _ e1)), .inl (.inl upd_same), by simp, small6 (by show 1 + acc.length ≤ _; omega), fun y => ?_, fun _ p3 np3 => ?_⟩
    · subst y
      exact q (.ref p1) (.ap x []) _ (bb.trans s2.but) (hD3.same s2) (.ap (s2 _ _ e1) .nil) (fm [] (by have l0 : 0 = ts.length := la; show 0 = _; omega) trivial) (sml [] (Nat.zero_le _) (Nat.zero_le _))
    · have s3 := same_new np3 (.tup ([.str x] ++ acc))
      exact q (.ref p3) (.ap x ts) _ (bb.trans (s2.trans s3).but) (hD3.same (s2.trans s3)) (.ap upd_same (TmAll.mono (s2.trans s3).tups _ _ ha)) (fm ts lt hw) (sml ts z hn)
/-! ### _law_literal -/
def spLit : Sp := fun vs H Q _ => ∃ (d l : Addr) (ws : List Str), vs = [.ref d, .ref l] ∧ Drw H d l ws ∧ ∀ (v : V) (x : Lit) (H' : Hp), But d H H' → Drw H' d l ws → LitAt H' v x → litOk ws numVar x.2.1 x.2.2 → Q v H'
theorem sc_law_literal : FnScope ["_law_draws_here", "_law_words_here", "_law_positive", "_law_kind", "_law_arguments", "_law_left", "_law_k"] ["_law_draws_here", "_law_words_here"] (defScope s__law_literal) := ⟨rfl, rfl, rfl, by decide +kernel, rfl, by decide +kernel, by decide +kernel⟩
theorem ok_law_literal {f fT fM : Addr} {fd dT dM : FuncData} (D : Df K mg "_law_literal" s__law_literal ["_law_draws_here", "_law_words_here"] f fd) (DT : Df K mg "_law_take" s__law_take ["_law_draws_here", "_law_bound"] fT dT) (GT : FnOk P w K mg base CX0 1 fT dT ["_law_draws_here", "_law_bound"] spTake)
    (DM : Df K mg "_law_term" s__law_term ["_law_draws_here", "_law_words_here", "_law_depth"] fM dM) (GM : FnOk P w K mg base CX0 7 fM dM ["_law_draws_here", "_law_words_here", "_law_depth"] (spTerm 5)) (mr : mg "range" = none) (mt : mg "tuple" = none) : FnOk P w K mg base CX0 8 f fd ["_law_draws_here", "_law_words_here"] spLit := by
  refine D.F.ok sc_law_literal (fun vs H Q E h => ?_) (fun cdv A outer s H vs Q E hr h => ?_)
  · obtain ⟨d, l, ws, rfl, _⟩ := h; rfl
  obtain ⟨d, l, ws, rfl, hD, q⟩ := h
  have nd := sc_law_literal.nd
  have r1 : Room 1 _ := hr.mono (by decide)
  refine ⟨_, pss_cons (ps_set (i := 2) nd rfl (.inl rfl) (pe_cmpR op_eq (pe_call GT r1 (by rfl) DT.m DT.F.kp DT.b .nil pass0 (pa_cons (pv 0) (pa_cons pe_int pa_nil))) pe_int (nomark _)))
    (pss_cons (ps_set (i := 3) nd rfl (.inl rfl) (pe_call GT r1 (by rfl) DT.m DT.F.kp DT.b .nil pass0 (pa_cons (pv 0) (pa_cons pe_int pa_nil))))
    (pss_cons (ps_if (pt_cmpR op_lt (pv 3) pe_int (nomark _))
      (pss_cons (ps_setLc (i := 4) (own := [("_law_k", 6)]) (g := gName 6) (tt := tYes) (te := tCall (spTerm 5) [] E0 (tCons (tVar 0) (tCons (tVar 1) (tCons (tC (.int 2)) tNil)))) rfl nd rfl rfl (sw_true rfl rfl rfl (by decide +kernel)) (pi_range1 (by rfl) mr (pa_cons (pv 3) pa_nil)) (blkOk_by (N := ["_law_draws_here", "_law_words_here", "_law_positive", "_law_kind", "_law_arguments", "_law_left", "_law_k"]) (sc := defScope s__law_literal) (by decide +kernel))
        (fun _ _ _ _ _ => pg_name (i := 6) nd rfl (Or.inl rfl)) (fun _ _ _ _ _ => pts_nil) (fun _ _ _ _ _ => pe_call GM hr (by rfl) DM.m DM.F.kp DM.b .nil pass0 (pa_cons (pv 0) (pa_cons (pv 1) (pa_cons pe_int pa_nil)))))
      (pss_one (ps_ret (pe_tup (pa_cons (pv 2) (pa_cons (pe_op op_catT (pe_tup (pa_cons (pe_ix ix_list (pv 1) (pe_op op_add pe_int (pv 3)) (fun _ _ => rfl)) pa_nil)) (pe_callTy call_tuple_of (by rfl) mt (by decide +kernel) (pa_cons (pv 4) pa_nil))) (pa_cons (pe_tup (pa_cons pe_str pa_nil)) pa_nil))))))) pss_nil)
    (pss_cons (ps_if (PW.pt (pw_and (pt_cmpR op_eq (pv 3) pe_int (nomark _)) (pw_and1 (pt_cmpR op_eq (pe_call GT r1 (by rfl) DT.m DT.F.kp DT.b .nil pass0 (pa_cons (pv 0) (pa_cons pe_int pa_nil))) pe_int (nomark _)))))
      (pss_one (ps_ret (pe_tup (pa_cons (pv 2) (pa_cons (pe_tup (pa_cons pe_str pa_nil)) (pa_cons (pe_tup (pa_cons pe_str pa_nil)) pa_nil)))))) pss_nil)
    (pss_cons (ps_set (i := 5) nd rfl (.inl rfl) (pe_call GM hr (by rfl) DM.m DM.F.kp DM.b .nil pass0 (pa_cons (pv 0) (pa_cons (pv 1) (pa_cons pe_int pa_nil)))))
    (pss_one (ps_ret (pe_tup (pa_cons (pv 2) (pa_cons (pv 5) (pa_cons (pe_call GM hr (by rfl) DM.m DM.F.kp DM.b .nil pass0 (pa_cons (pv 0) (pa_cons (pv 1) (pa_cons pe_int pa_nil)))) pa_nil)))))))))), ?_⟩
  refine ⟨_, rfl, d, 2, rfl, hD.hi, by decide, fun r H1 _ _ b1 hI1 => ⟨rfl, ?_⟩⟩
  have hD1 := hD.go b1 hI1
  generalize hb : decide (V.int r = V.int 1) = b
  refine ⟨_, rfl, d, 8, rfl, hD1.hi, by decide, fun c H2 c0 c8 b2 hI2 => ?_⟩
  have hD2 := hD1.go b2 hI2
  have bH := b1.trans b2
  have tru : ∀ {H : Hp} {p : Addr}, H p = some (.tup [.str "true"]) → TmAt H (.ref p) trueT := fun e => .ap e .nil
  refine ⟨_, rfl, _, _, rfl, rfl, _, rfl, ite2 (fun y => ?_) (fun y => ?_)⟩
  · have y := of_decide_eq_true y
    obtain ⟨x, hx, hm, hg⟩ := hD2.word (c := 6 + c) (by omega) (by omega)
    refine ⟨_, rfl, c, rfl, by omega, by omega, fun k nk => ?_⟩
    have kd : k ≠ d := hD2.hi.ne nk
    refine lc_range (lo := 0) (n := c.toNat) (fun i H3 => ∃ acc ts, But d H2 H3 ∧ Drw H3 d l ws ∧ H3 k = some (.lst acc) ∧ TmAll H3 acc ts ∧ ts.length = i ∧ Ter.wfs (symOf ws) numVar ts ∧ Ter.sizes ts ≤ i * 64 ∧ Ter.nests ts ≤ 3) ⟨[], [], (same_new nk _).but, hD2.same (same_new nk _), upd_same, .nil, rfl, trivial, Nat.zero_le _, Nat.zero_le _⟩ (fun i H3 hi h => ?_) (fun H3 h => ?_)
    · obtain ⟨acc, ts, b3, hD3, ec, ha, lt, hw, hs, hn⟩ := h
      refine ⟨rfl, ?_⟩
      refine ⟨_, rfl, _, rfl, d, l, ws, 2, rfl, hD3.hi, hD3.hl, hD3.ne, by rw [hD3.nine]; decide, by decide, fun v t H4 b4 hI4 hv hwf hsz hne => ?_⟩
      have hD4 := hD3.go b4 hI4
      rw [z64] at hsz
      have ec4 := b4 k _ kd ec
      have la := ha.len
      have b6 : But k H4 (upd H4 k (.lst (acc ++ [v]))) := But.upd
      have m6 := b6.tups ec4
      have m4 := b4.tupsI hD3.hi
      refine ⟨acc, ec4, Nat.lt_of_le_of_lt (show acc.length ≤ 100 by omega) (by decide), acc ++ [v], ts ++ [t], fun b o nb e => ?_, ?_, upd_same, (TmAll.mono (m4.trans m6) _ _ ha).app (.cons (TmAt.mono m6 _ _ hv) .nil), by rw [List.length_append, List.length_singleton, lt], wfs_app hw ⟨hwf, trivial⟩, ?_, ?_⟩
      · rw [upd_ne (ne_of_none e nk)]
        exact b4 b o nb (b3 b o nb e)
      · exact ⟨hD4.hi.of_but b6 kd.symm, b6 l _ (fun z => by rw [z] at hD2; rw [hD2.hl] at nk; cases nk) hD4.hl, hD4.ne, hD4.nine, hD4.ok⟩
      · rw [sizes_snoc, Nat.succ_mul]; omega
      · rw [nests_snoc]; omega
    · obtain ⟨acc, ts, b3, hD3, ec, ha, lt, hw, hs, hn⟩ := h
      have la := ha.len
      have z : Ter.sizes ts ≤ 128 := Nat.le_trans hs (by have : c.toNat * 64 ≤ 2 * 64 := Nat.mul_le_mul_right _ (by omega); omega)
      refine ⟨_, rfl, _, rfl, _, rfl, _, _, rfl, rfl, l, _, _, _, rfl, rfl, .inl (.inl hD3.hl), hx, by show 1 ≤ sizeLine; decide, fun p1 np1 => ?_⟩
      have s1 := same_new np1 (.tup [.str x])
      refine ⟨_, rfl, k, acc, rfl, .inl ⟨.inl (.inl (s1 _ _ ec)), fun p2 np2 => ?_⟩⟩
      have s2 := same_new np2 (.tup acc)
      have ok3 : ∀ us, us.length = c.toNat → Ter.wfs (symOf ws) numVar us → Ter.sizes us ≤ 128 → Ter.nests us ≤ 3 → litOk ws numVar (Ter.ap x us) trueT := fun us h0 h1 h2 h3 =>
        ⟨⟨by show Ter.sizes us + 1 ≤ 200; omega, by show Ter.nests us + 1 ≤ 20; omega⟩, small_true, .inl ⟨rfl, .inr ⟨x, us, rfl, ⟨by omega, by rw [h0, show 6 + c.toNat = (6 + c).toNat by omega]; exact hg⟩, h1⟩⟩⟩
      refine ⟨p1, p2, [.str x], acc, rfl, rfl, .inl (.inl (s2 _ _ upd_same)), .inl (.inl upd_same), by simp, small6 (by show 1 + acc.length ≤ _; omega), fun y => ?_, fun _ p3 np3 => ?_⟩
      · refine ⟨by show 1 ≤ sizeLine; decide, fun p4 np4 => ⟨by show 3 ≤ sizeLine; decide, fun p5 np5 => ?_⟩⟩
        have s4 := same_new np4 (.tup [.str "true"])
        have s5 := same_new np5 (.tup [.bl b, .ref p1, .ref p4])
        subst y
        have sa := (s1.trans s2).trans (s4.trans s5)
        exact q (.ref p5) (b, .ap x [], trueT) _ (bH.trans (b3.trans sa.but)) (hD3.same sa) (.mk upd_same (.ap (s5 _ _ (s4 _ _ (s2 _ _ upd_same))) .nil) (tru (s5 _ _ upd_same))) (ok3 [] (by have l0 : 0 = ts.length := la; show 0 = _; omega) trivial (Nat.zero_le _) (Nat.zero_le _))
      · refine ⟨by show 1 ≤ sizeLine; decide, fun p4 np4 => ⟨by show 3 ≤ sizeLine; decide, fun p5 np5 => ?_⟩⟩
        have s3 := same_new np3 (.tup ([.str x] ++ acc))
        have s4 := same_new np4 (.tup [.str "true"])
        have s5 := same_new np5 (.tup [.bl b, .ref p3, .ref p4])
        have sb := (s1.trans s2).trans (s3.trans (s4.trans s5))
        exact q (.ref p5) (b, .ap x ts, trueT) _ (bH.trans (b3.trans sb.but)) (hD3.same sb) (.mk upd_same (.ap (s5 _ _ (s4 _ _ upd_same)) (TmAll.mono sb.tups _ _ ha)) (tru (s5 _ _ upd_same))) (ok3 ts lt hw z hn)
  · have last : ∀ H3, But d H2 H3 → Drw H3 d l ws → tSeq (tAsg (tCall (spTerm 5) [] E0 (tCons (tVar 0) (tCons (tVar 1) (tCons (tC (.int 2)) tNil)))) (gName 5))
        (tRet (tTup (tCons (tVar 2) (tCons (tVar 5) (tCons (tCall (spTerm 5) [] E0 (tCons (tVar 0) (tCons (tVar 1) (tCons (tC (.int 2)) tNil)))) tNil))))) { nx := fun _ H' => Q .non H', rt := Q } [some (.ref d), some (.ref l), some (.bl b), some (.int c), none, none, none] H3 := fun H3 b3 hD3 => by
      refine ⟨_, rfl, _, rfl, d, l, ws, 2, rfl, hD3.hi, hD3.hl, hD3.ne, by rw [hD3.nine]; decide, by decide, fun v t H4 b4 hI4 hv hwf hsz hne => ?_⟩
      have hD4 := hD3.go b4 hI4
      refine ⟨_, rfl, _, rfl, _, rfl, _, rfl, d, l, ws, 2, rfl, hD4.hi, hD4.hl, hD4.ne, by rw [hD4.nine]; decide, by decide, fun v2 t2 H5 b5 hI5 hv2 hwf2 hsz2 hne2 => ?_⟩
      have hD5 := hD4.go b5 hI5
      rw [z64] at hsz hsz2
      refine ⟨by show 3 ≤ sizeLine; decide, fun p np => ?_⟩
      have s6 := same_new np (.tup [.bl b, v, v2])
      exact q (.ref p) (b, t, t2) _ (bH.trans (b3.trans (b4.trans (b5.trans s6.but)))) (hD5.same s6) (.mk upd_same (TmAt.mono ((b5.tupsI hD4.hi).trans s6.tups) _ _ hv) (TmAt.mono s6.tups _ _ hv2)) ⟨⟨by show t.size ≤ 200; omega, by show t.nest ≤ 20; omega⟩, ⟨by show t2.size ≤ 200; omega, by show t2.nest ≤ 20; omega⟩, .inr ⟨hwf, hwf2⟩⟩
    refine ⟨_, rfl, rfl, _, rfl, ite2 (fun _ => ?_) (fun _ => last H2 (But.refl d H2) hD2)⟩
    refine ⟨_, rfl, d, 4, rfl, hD2.hi, by decide, fun g H3 _ _ b3 hI3 => ?_⟩
    have hD3 := hD2.go b3 hI3
    refine ⟨rfl, _, rfl, ite2 (fun _ => ?_) (fun _ => last H3 b3 hD3)⟩
    refine ⟨_, rfl, by show 1 ≤ sizeLine; decide, fun p1 np1 => ⟨by show 1 ≤ sizeLine; decide, fun p2 np2 => ⟨by show 3 ≤ sizeLine; decide, fun p3 np3 => ?_⟩⟩⟩
    have s1 := same_new np1 (.tup [.str "true"])
    have s2 := same_new np2 (.tup [.str "true"])
    have s3 := same_new np3 (.tup [.bl b, .ref p1, .ref p2])
    have sa := s1.trans (s2.trans s3)
    exact q (.ref p3) (b, trueT, trueT) _ (bH.trans (b3.trans sa.but)) (hD3.same sa) (.mk upd_same (tru (s3 _ _ (s2 _ _ upd_same))) (tru (s3 _ _ upd_same))) ⟨small_true, small_true, .inl ⟨rfl, .inl rfl⟩⟩
/-! ### _law_clause -/
def spClause : Sp := fun vs H Q _ => ∃ (d l : Addr) (ws : List Str), vs = [.ref d, .ref l, .int 4] ∧ Drw H d l ws ∧ ∀ (p : Addr) (xs : List V) (c : List Lit) (H' : Hp), But d H H' → Drw H' d l ws → H' p = some (.tup xs) → LitAll H' xs c → c.length ≤ 5 → (∀ x ∈ c, litOk ws numVar x.2.1 x.2.2) → Q (.ref p) H'
theorem sc_law_clause : FnScope ["_law_draws_here", "_law_words_here", "_law_most", "_law_k"] ["_law_draws_here", "_law_words_here", "_law_most"] (defScope s__law_clause) := ⟨rfl, rfl, rfl, by decide +kernel, rfl, by decide +kernel, by decide +kernel⟩
theorem ok_law_clause {f fT fL : Addr} {fd dT dL : FuncData} (D : Df K mg "_law_clause" s__law_clause ["_law_draws_here", "_law_words_here", "_law_most"] f fd) (DT : Df K mg "_law_take" s__law_take ["_law_draws_here", "_law_bound"] fT dT) (GT : FnOk P w K mg base CX0 1 fT dT ["_law_draws_here", "_law_bound"] spTake)
    (DL : Df K mg "_law_literal" s__law_literal ["_law_draws_here", "_law_words_here"] fL dL) (GL : FnOk P w K mg base CX0 8 fL dL ["_law_draws_here", "_law_words_here"] spLit) (mr : mg "range" = none) (mt : mg "tuple" = none) : FnOk P w K mg base CX0 9 f fd ["_law_draws_here", "_law_words_here", "_law_most"] spClause := by
  refine D.F.ok sc_law_clause (fun vs H Q E h => ?_) (fun cdv A outer s H vs Q E hr h => ?_)
  · obtain ⟨d, l, ws, rfl, _⟩ := h; rfl
  obtain ⟨d, l, ws, rfl, hD, q⟩ := h
  have nd := sc_law_clause.nd
  have r1 : Room 1 _ := hr.mono (by decide)
  refine ⟨_, pss_one (ps_ret (pe_callTy call_tuple_of (by rfl) mt (by decide +kernel) (pa_cons
      (pe_lc (own := [("_law_k", 3)]) (g := gName 3) (tt := tYes) (te := tCall spLit [] E0 (tCons (tVar 0) (tCons (tVar 1) tNil))) rfl nd (pi_range1 (by rfl) mr (pa_cons (pe_call GT r1 (by rfl) DT.m DT.F.kp DT.b .nil pass0 (pa_cons (pv 0) (pa_cons (pe_op op_add (pv 2) pe_int) pa_nil))) pa_nil)) (blkOk_by (N := ["_law_draws_here", "_law_words_here", "_law_most", "_law_k"]) (sc := defScope s__law_clause) (by decide +kernel))
        (fun _ _ _ _ _ => pg_name (i := 3) nd rfl (Or.inl rfl)) (fun _ _ _ _ _ => pts_nil) (fun _ _ _ _ _ => pe_call GL hr (by rfl) DL.m DL.F.kp DL.b .nil pass0 (pa_cons (pv 0) (pa_cons (pv 1) pa_nil)))) pa_nil))), ?_⟩
  refine ⟨_, rfl, _, rfl, _, _, rfl, rfl, d, 5, rfl, hD.hi, by decide, fun r H1 r0 r6 b1 hI1 => ?_⟩
  have hD1 := hD.go b1 hI1
  refine ⟨r, rfl, by omega, by omega, fun k nk => ?_⟩
  have kd : k ≠ d := hD1.hi.ne nk
  refine lc_range (lo := 0) (n := r.toNat) (fun i H3 => ∃ acc c, But d H1 H3 ∧ Drw H3 d l ws ∧ H3 k = some (.lst acc) ∧ LitAll H3 acc c ∧ c.length = i ∧ (∀ x ∈ c, litOk ws numVar x.2.1 x.2.2)) ⟨[], [], (same_new nk _).but, hD1.same (same_new nk _), upd_same, .nil, rfl, fun _ h => by cases h⟩ (fun i H3 hi h => ?_) (fun H3 h => ?_)
  · obtain ⟨acc, c, b3, hD3, ec, ha, lc, ok⟩ := h
    refine ⟨rfl, ?_⟩
    refine ⟨_, rfl, _, rfl, d, l, ws, rfl, hD3, fun v x H4 b4 hD4 hv hx => ?_⟩
    have ec4 := b4 k _ kd ec
    have la := ha.len
    have b6 : But k H4 (upd H4 k (.lst (acc ++ [v]))) := But.upd
    have m6 := b6.tups ec4
    have m4 := b4.tupsI hD3.hi
    refine ⟨acc, ec4, Nat.lt_of_le_of_lt (show acc.length ≤ 100 by omega) (by decide), acc ++ [v], c ++ [x], fun b o nb e => ?_, ?_, upd_same, (ha.mono (m4.trans m6)).app (.cons (hv.mono m6) .nil), by rw [List.length_append, List.length_singleton, lc], fun y hy => ?_⟩
    · rw [upd_ne (ne_of_none e nk)]
      exact b4 b o nb (b3 b o nb e)
    · exact ⟨hD4.hi.of_but b6 kd.symm, b6 l _ (fun z => by rw [z] at hD1; rw [hD1.hl] at nk; cases nk) hD4.hl, hD4.ne, hD4.nine, hD4.ok⟩
    · rcases List.mem_append.mp hy with hy | hy
      · exact ok y hy
      · rw [List.mem_singleton.mp hy]; exact hx
  · obtain ⟨acc, c, b3, hD3, ec, ha, lc, ok⟩ := h
    refine ⟨k, acc, rfl, .inl ⟨.inl (.inl ec), fun p np => ?_⟩⟩
    have s2 := same_new np (.tup acc)
    exact q p acc c _ (b1.trans (b3.trans s2.but)) (hD3.same s2) upd_same (ha.mono s2.tups) (by omega) ok
end

section
variable {P : Program} {w : World} {K : PySem.W.Frag} {mg : Str → Option Value} {base : Heap}
/-! ### _law_formula -/
def spForm (n : Nat) : Sp := fun vs H Q _ => ∃ (d l : Addr) (ws : List Str) (k : Nat), vs = [.ref d, .ref l, .int k] ∧ Drw H d l ws ∧ k < n ∧ ∀ (v : V) (f : Fm) (H' : Hp), But d H H' → Drw H' d l ws → TmAt H' v f.ter → f.lits (litOk ws nameVar) okNm → f.high ≤ k + 1 → Q v H'
theorem sc_law_formula : FnScope ["_law_draws_here", "_law_words_here", "_law_depth", "_law_kind", "_law_left", "_law_name", "_law_first"] ["_law_draws_here", "_law_words_here", "_law_depth"] (defScope s__law_formula) := ⟨rfl, rfl, rfl, by decide +kernel, rfl, by decide +kernel, by decide +kernel⟩
theorem op_at {c : Int} (h8 : 8 ≤ c) (h12 : c < 12) : ∃ o : Op, atI [V.str "and", V.str "or", V.str "implies", V.str "iff"] (c - 8) = some (.str o.word) := by
  have h : c = 8 ∨ c = 9 ∨ c = 10 ∨ c = 11 := by omega
  rcases h with rfl | rfl | rfl | rfl
  · exact ⟨.and, atI_nat (j := 0) rfl⟩
  · exact ⟨.or, atI_nat (j := 1) rfl⟩
  · exact ⟨.imp, atI_nat (j := 2) rfl⟩
  · exact ⟨.iff, atI_nat (j := 3) rfl⟩
theorem qu_at {c : Int} (h6 : 6 ≤ c) (h8 : c < 8) : ∃ b : Bool, atI [V.str "all", V.str "some"] (c - 6) = some (.str (qWord b)) := by
  have h : c = 6 ∨ c = 7 := by omega
  rcases h with rfl | rfl
  · exact ⟨true, atI_nat (j := 0) rfl⟩
  · exact ⟨false, atI_nat (j := 1) rfl⟩
theorem tt_at {c : Int} (h6 : 0 ≤ c) (h8 : c < 2) : ∃ b : Bool, atI [V.str "true", V.str "false"] c = some (.str (if b = true then "true" else "false")) := by
  have h : c = 0 ∨ c = 1 := by omega
  rcases h with rfl | rfl
  · exact ⟨true, atI_nat (j := 0) rfl⟩
  · exact ⟨false, atI_nat (j := 1) rfl⟩
theorem name_at {c : Int} (h6 : 0 ≤ c) (h8 : c < 5) : ∃ x, atI (NAMES5.map V.str) c = some (.str x) ∧ okNm x := by
  have h3 : c.toNat < NAMES5.length := by show _ < 5; omega
  have g := List.getElem?_eq_getElem h3
  generalize NAMES5[c.toNat] = x at g
  exact ⟨x, at_of (j := c.toNat) (by omega) (by rw [List.getElem?_map, g]; rfl), List.mem_of_getElem? g⟩
theorem ok_law_formula1 {f fT fM fN fA : Addr} {fd dT dM dN dA : FuncData} (D : Df K mg "_law_formula" s__law_formula ["_law_draws_here", "_law_words_here", "_law_depth"] f fd) (DT : Df K mg "_law_take" s__law_take ["_law_draws_here", "_law_bound"] fT dT) (GT : FnOk P w K mg base CX0 1 fT dT ["_law_draws_here", "_law_bound"] spTake)
    (DM : Df K mg "_law_term" s__law_term ["_law_draws_here", "_law_words_here", "_law_depth"] fM dM) (GM : FnOk P w K mg base CX0 7 fM dM ["_law_draws_here", "_law_words_here", "_law_depth"] (spTerm 5)) (DN : Df K mg "_law_named" s__law_named ["_law_term_here"] fN dN) (GN : FnOk P w K mg base CX0 7 fN dN ["_law_term_here"] (spNamed 7)) (DA : Df K mg "_law_atom" s__law_atom ["_law_draws_here", "_law_words_here"] fA dA) (GA : FnOk P w K mg base CX0 8 fA dA ["_law_draws_here", "_law_words_here"] spAtom)
    (mint : mg "int" = none) {n : Nat} (G : FnOk P w K mg base CX0 (n + 8) f fd ["_law_draws_here", "_law_words_here", "_law_depth"] (spForm n)) : FnOk P w K mg base CX0 (n + 8 + 1) f fd ["_law_draws_here", "_law_words_here", "_law_depth"] (spForm (n + 1)) := by
  refine D.F.ok sc_law_formula (fun vs H Q E h => ?_) (fun cdv A outer s H vs Q E hr h => ?_)
  · obtain ⟨d, l, ws, k, rfl, _⟩ := h; rfl
  obtain ⟨d, l, ws, k, rfl, hD, hk, q⟩ := h
  have nd := sc_law_formula.nd
  have r1 : Room 1 _ := hr.mono (by omega)
  have r7 : Room 7 _ := hr.mono (by omega)
  have r8 : Room 8 _ := hr.mono (by omega)
  refine ⟨_, pss_cons (ps_set (i := 3) nd rfl (.inl rfl) (pe_call GT r1 (by rfl) DT.m DT.F.kp DT.b .nil pass0 (pa_cons (pv 0) (pa_cons pe_int pa_nil))))
    (C8.pss_cut (ps_if (pt_cmpR op_eq (pv 2) pe_int (nomark _)) (pss_one (ps_set (i := 3) nd rfl (.inl rfl) (pe_op op_mod (pe_callTy call_int1 (by rfl) mint (by decide +kernel) (pa_cons (pv 3) pa_nil)) pe_int))) pss_nil)
    (pss_cons (ps_if (pt_cmpR op_eq (pv 3) pe_int (nomark _)) (pss_one (ps_ret (pe_tup (pa_cons (pe_ix ix_list (pe_lst (pa_cons pe_str (pa_cons pe_str pa_nil))) (pe_call GT r1 (by rfl) DT.m DT.F.kp DT.b .nil pass0 (pa_cons (pv 0) (pa_cons pe_int pa_nil))) (fun _ _ => rfl)) pa_nil)))) pss_nil)
    (pss_cons (ps_if (pt_cmpR op_lt (pv 3) pe_int (nomark _))
      (pss_cons (ps_set (i := 4) nd rfl (.inl rfl) (pe_call GN r7 (by rfl) DN.m DN.F.kp DN.b .nil pass0 (pa_cons (pe_call GM r7 (by rfl) DM.m DM.F.kp DM.b .nil pass0 (pa_cons (pv 0) (pa_cons (pv 1) (pa_cons pe_int pa_nil)))) pa_nil)))
      (pss_one (ps_ret (pe_tup (pa_cons pe_str (pa_cons (pv 4) (pa_cons (pe_call GN r7 (by rfl) DN.m DN.F.kp DN.b .nil pass0 (pa_cons (pe_call GM r7 (by rfl) DM.m DM.F.kp DM.b .nil pass0 (pa_cons (pv 0) (pa_cons (pv 1) (pa_cons pe_int pa_nil)))) pa_nil)) pa_nil))))))) pss_nil)
    (pss_cons (ps_if (pt_cmpR op_eq (pv 3) pe_int (nomark _)) (pss_one (ps_ret (pe_tup (pa_cons pe_str (pa_cons (pe_call GA r8 (by rfl) DA.m DA.F.kp DA.b .nil pass0 (pa_cons (pv 0) (pa_cons (pv 1) pa_nil))) (pa_cons (pe_tup (pa_cons pe_str pa_nil)) pa_nil)))))) pss_nil)
    (pss_cons (ps_if (pt_cmpR op_lt (pv 3) pe_int (nomark _)) (pss_one (ps_ret (pe_tup (pa_cons pe_str (pa_cons (pe_call G hr (by rfl) D.m D.F.kp D.b .nil pass0 (pa_cons (pv 0) (pa_cons (pv 1) (pa_cons (pe_op op_sub (pv 2) pe_int) pa_nil)))) pa_nil))))) pss_nil)
    (pss_cons (ps_if (pt_cmpR op_lt (pv 3) pe_int (nomark _))
      (pss_cons (ps_set (i := 5) nd rfl (.inl rfl) (pe_ix ix_list (pe_lst (pa_cons pe_str (pa_cons pe_str (pa_cons pe_str (pa_cons pe_str (pa_cons pe_str pa_nil)))))) (pe_call GT r1 (by rfl) DT.m DT.F.kp DT.b .nil pass0 (pa_cons (pv 0) (pa_cons pe_int pa_nil))) (fun _ _ => rfl)))
      (pss_one (ps_ret (pe_tup (pa_cons (pe_ix ix_list (pe_lst (pa_cons pe_str (pa_cons pe_str pa_nil))) (pe_op op_sub (pv 3) pe_int) (fun _ _ => rfl)) (pa_cons (pv 5) (pa_cons (pe_call G hr (by rfl) D.m D.F.kp D.b .nil pass0 (pa_cons (pv 0) (pa_cons (pv 1) (pa_cons (pe_op op_sub (pv 2) pe_int) pa_nil)))) pa_nil))))))) pss_nil)
    (pss_cons (ps_set (i := 6) nd rfl (.inl rfl) (pe_call G hr (by rfl) D.m D.F.kp D.b .nil pass0 (pa_cons (pv 0) (pa_cons (pv 1) (pa_cons (pe_op op_sub (pv 2) pe_int) pa_nil)))))
    (pss_one (ps_ret (pe_tup (pa_cons (pe_ix ix_list (pe_lst (pa_cons pe_str (pa_cons pe_str (pa_cons pe_str (pa_cons pe_str pa_nil))))) (pe_op op_sub (pv 3) pe_int) (fun _ _ => rfl)) (pa_cons (pv 6) (pa_cons (pe_call G hr (by rfl) D.m D.F.kp D.b .nil pass0 (pa_cons (pv 0) (pa_cons (pv 1) (pa_cons (pe_op op_sub (pv 2) pe_int) pa_nil)))) pa_nil))))))))))))), ?_⟩
  refine ⟨_, rfl, d, 12, rfl, hD.hi, by decide, fun r H1 r0 r12 b1 hI1 => ?_⟩
  have hD1 := hD.go b1 hI1
  have dep : ∀ {k : Nat}, 1 ≤ k → [V.ref d, V.ref l, V.int ((k : Int) - 1)] = [V.ref d, V.ref l, V.int ((k - 1 : Nat) : Int)] := fun {k} h => by rw [show ((k : Nat) : Int) - 1 = ((k - 1 : Nat) : Int) by omega]
  have nine6 : ∀ {H : Hp}, Drw H d l ws → 6 ≤ ws.length := fun h => by rw [h.nine]; decide
  -- a term with names
  have term : ∀ (Q' : VK) (H2 : Hp), Drw H2 d l ws → (∀ v t H3, But d H2 H3 → Drw H3 d l ws → TmAt H3 v t → t.wf (symOf ws) nameVar → smallT t → Q' v H3) → spTerm 5 [.ref d, .ref l, .int ((2 : Nat) : Int)] H2 (fun v H3 => spNamed 7 [v] H3 Q' E0) E0 := fun Q' H2 hD2 h => by
    refine ⟨d, l, ws, 2, rfl, hD2.hi, hD2.hl, hD2.ne, nine6 hD2, by decide, fun v t H4 b4 hI4 hv hwf hsz hne => ?_⟩
    have hD4 := hD2.go b4 hI4
    rw [z64] at hsz
    refine ⟨v, t, _, rfl, hv, hwf, by omega, by omega, fun v' t' H5 s5 hv' hw' e1 e2 => ?_⟩
    exact h v' t' H5 (b4.trans s5.but) (hD4.same s5) hv' hw' ⟨by omega, by omega⟩
  refine ⟨fun σ H2 => H2 = H1 ∧ ∃ c : Int, σ = [some (.ref d), some (.ref l), some (.int k), some (.int c), none, none, none] ∧ 0 ≤ c ∧ c < 12 ∧ (k = 0 → c ≤ 3), ?_, fun σ H2 h => ?_⟩
  · refine ⟨_, rfl, rfl, _, rfl, ite2 (fun c => ?_) (fun c => ?_)⟩
    · refine ⟨_, rfl, .inl ⟨r, rfl, _, _, rfl, rfl, (by show (0 : Int) < 4; decide), rfl, r % 4, rfl, Int.emod_nonneg _ (by decide), by have := Int.emod_lt_of_pos r (show (0 : Int) < 4 by decide); omega, fun _ => by have := Int.emod_lt_of_pos r (show (0 : Int) < 4 by decide); omega⟩⟩
    · have ck : ¬ (k : Int) = 0 := fun z => c (decide_eq_true (congrArg V.int z))
      exact ⟨rfl, r, rfl, r0, r12, fun z => absurd (by omega) ck⟩
  obtain ⟨rfl, c, rfl, c0, c12, ck⟩ := h
  refine ⟨_, rfl, rfl, _, rfl, ite2 (fun z => ?_) (fun z => ?_)⟩
  · refine ⟨by show 2 ≤ sizeLine; decide, fun a na => ?_⟩
    have s2 := same_new na (.lst [.str "true", .str "false"])
    have hD2 := hD1.same s2
    have ad : a ≠ d := hD1.hi.ne na
    refine ⟨_, rfl, d, 2, rfl, hD2.hi, by decide, fun g H3 g0 g2 b3 hI3 => ?_⟩
    obtain ⟨b, hb⟩ := tt_at g0 g2
    refine ⟨a, _, g, _, rfl, rfl, .inl (.inl (b3 a _ ad upd_same)), hb, by show 1 ≤ sizeLine; decide, fun p np => ?_⟩
    have s4 := same_new np (.tup [.str (if b = true then "true" else "false")])
    exact q (.ref p) (.tt b) _ (b1.trans (s2.but.trans (b3.trans s4.but))) ((hD2.go b3 hI3).same s4) (.ap upd_same .nil) trivial (by show 1 ≤ _; omega)
  have z : ¬ c = 0 := fun y => z (decide_eq_true (congrArg V.int y))
  refine ⟨_, rfl, _, _, rfl, rfl, _, rfl, ite2 (fun y => ?_) (fun y => ?_)⟩
  · refine ⟨_, rfl, _, rfl, term _ _ hD1 fun v t H3 b3 hD3 hv ft fs => ?_⟩
    refine ⟨_, rfl, _, rfl, _, rfl, term _ _ hD3 fun v2 t2 H4 b4 hD4 hv2 ft2 fs2 => ?_⟩
    refine ⟨by show 3 ≤ sizeLine; decide, fun p np => ?_⟩
    have s5 := same_new np (.tup [.str "equal", v, v2])
    exact q (.ref p) (.eq t t2) _ (b1.trans (b3.trans (b4.trans s5.but))) (hD4.same s5) (.ap upd_same (.cons (TmAt.mono ((b4.tupsI hD3.hi).trans s5.tups) _ _ hv) (.cons (TmAt.mono s5.tups _ _ hv2) .nil))) ⟨fs, fs2, .inr ⟨ft, ft2⟩⟩ (by show 1 ≤ _; omega)
  have y : ¬ c < 3 := fun x => y (decide_eq_true x)
  refine ⟨_, rfl, rfl, _, rfl, ite2 (fun x => ?_) (fun x => ?_)⟩
  · refine ⟨_, rfl, _, rfl, d, l, ws, rfl, hD1, fun v t H3 b3 hD3 hv ft fs => ?_⟩
    refine ⟨by show 1 ≤ sizeLine; decide, fun p1 np1 => ⟨by show 3 ≤ sizeLine; decide, fun p np => ?_⟩⟩
    have s4 := same_new np1 (.tup [.str "true"])
    have s5 := same_new np (.tup [.str "equal", v, .ref p1])
    exact q (.ref p) (.eq t trueT) _ (b1.trans (b3.trans (s4.trans s5).but)) (hD3.same (s4.trans s5)) (.ap upd_same (.cons (TmAt.mono (s4.trans s5).tups _ _ hv) (.cons (.ap (s5 _ _ upd_same) .nil) .nil))) ⟨fs, small_true, .inl ⟨rfl, .inr ft⟩⟩ (by show 1 ≤ _; omega)
  have x : ¬ c = 3 := fun u => x (decide_eq_true (congrArg V.int u))
  have k1 : 1 ≤ k := by
    rcases Nat.eq_zero_or_pos k with e | e
    · exact absurd (ck e) (by omega)
    · exact e
  -- the same, one less deep
  have again : ∀ (Q' : VK) (H2' : Hp), Drw H2' d l ws → (∀ (v : V) (g : Fm) (H3 : Hp), But d H2' H3 → Drw H3 d l ws → TmAt H3 v g.ter → g.lits (litOk ws nameVar) okNm → g.high ≤ k → Q' v H3) → spForm n ([.ref d, .ref l, .int ((k : Int) - 1)] ++ []) H2' Q' E0 := fun Q' H2' hD2 h => by
    refine ⟨d, l, ws, k - 1, dep k1, hD2, by omega, fun v g H3 b3 hD3 hv ok hh => h v g H3 b3 hD3 hv ok (by omega)⟩
  refine ⟨_, rfl, _, _, rfl, rfl, _, rfl, ite2 (fun u => ?_) (fun u => ?_)⟩
  · refine ⟨_, rfl, _, rfl, _, rfl, _, _, rfl, rfl, again _ _ hD1 fun v g H3 b3 hD3 hv ok hh => ?_⟩
    refine ⟨by show 2 ≤ sizeLine; decide, fun p np => ?_⟩
    have s5 := same_new np (.tup [.str "not", v])
    exact q (.ref p) (.neg g) _ (b1.trans (b3.trans s5.but)) (hD3.same s5) (.ap upd_same (.cons (TmAt.mono s5.tups _ _ hv) .nil)) ok (by show g.high + 1 ≤ _; omega)
  have u : ¬ c < 6 := fun x => u (decide_eq_true x)
  refine ⟨_, rfl, _, _, rfl, rfl, _, rfl, ite2 (fun t => ?_) (fun t => ?_)⟩
  · have t := of_decide_eq_true t
    refine ⟨by show 5 ≤ sizeLine; decide, fun a na => ?_⟩
    have s2 := same_new na (.lst (NAMES5.map V.str))
    have hD2 := hD1.same s2
    have ad : a ≠ d := hD1.hi.ne na
    refine ⟨_, rfl, d, 5, rfl, hD2.hi, by decide, fun g H3 g0 g5 b3 hI3 => ?_⟩
    have hD3 := hD2.go b3 hI3
    obtain ⟨x, hx, lx⟩ := name_at g0 g5
    obtain ⟨b, hb⟩ := qu_at (c := c) (by omega) t
    refine ⟨a, _, g, _, rfl, rfl, .inl (.inl (b3 a _ ad upd_same)), hx, by show 2 ≤ sizeLine; decide, fun a2 na2 => ?_⟩
    have s4 := same_new na2 (.lst [.str "all", .str "some"])
    have hD4 := hD3.same s4
    refine ⟨_, rfl, _, _, rfl, rfl, a2, _, _, _, rfl, rfl, .inl (.inl upd_same), hb, _, rfl, _, rfl, _, rfl, _, rfl, _, _, rfl, rfl, again _ _ hD4 fun v g2 H5 b5 hD5 hv ok hh => ?_⟩
    refine ⟨by show 3 ≤ sizeLine; decide, fun p np => ?_⟩
    have s6 := same_new np (.tup [.str (qWord b), .str x, v])
    exact q (.ref p) (.qu b x g2) _ (b1.trans (s2.but.trans (b3.trans (s4.but.trans (b5.trans s6.but))))) (hD5.same s6) (.ap upd_same (.cons (.str x) (.cons (TmAt.mono s6.tups _ _ hv) .nil))) ⟨lx, ok⟩ (by show g2.high + 1 ≤ _; omega)
  · have t : ¬ c < 8 := fun x => t (decide_eq_true x)
    obtain ⟨o, ho⟩ := op_at (c := c) (by omega) c12
    refine ⟨_, rfl, _, rfl, _, rfl, _, _, rfl, rfl, again _ _ hD1 fun v g H3 b3 hD3 hv ok hh => ?_⟩
    refine ⟨by show 4 ≤ sizeLine; decide, fun a2 na2 => ?_⟩
    have s4 := same_new na2 (.lst [.str "and", .str "or", .str "implies", .str "iff"])
    have hD4 := hD3.same s4
    refine ⟨_, rfl, _, _, rfl, rfl, a2, _, _, _, rfl, rfl, .inl (.inl upd_same), ho, _, rfl, _, rfl, _, rfl, _, rfl, _, _, rfl, rfl, again _ _ hD4 fun v2 g2 H5 b5 hD5 hv2 ok2 hh2 => ?_⟩
    refine ⟨by show 3 ≤ sizeLine; decide, fun p np => ?_⟩
    have s6 := same_new np (.tup [.str o.word, v, v2])
    exact q (.ref p) (.bin o g g2) _ (b1.trans (b3.trans (s4.but.trans (b5.trans s6.but)))) (hD5.same s6) (.ap upd_same (.cons (TmAt.mono (s4.tups.trans ((b5.tupsI hD4.hi).trans s6.tups)) _ _ hv) (.cons (TmAt.mono s6.tups _ _ hv2) .nil))) ⟨ok, ok2⟩ (by show max g.high g2.high + 1 ≤ _; omega)
theorem ok_law_formula {f fT fM fN fA : Addr} {fd dT dM dN dA : FuncData} (D : Df K mg "_law_formula" s__law_formula ["_law_draws_here", "_law_words_here", "_law_depth"] f fd) (DT : Df K mg "_law_take" s__law_take ["_law_draws_here", "_law_bound"] fT dT) (GT : FnOk P w K mg base CX0 1 fT dT ["_law_draws_here", "_law_bound"] spTake)
    (DM : Df K mg "_law_term" s__law_term ["_law_draws_here", "_law_words_here", "_law_depth"] fM dM) (GM : FnOk P w K mg base CX0 7 fM dM ["_law_draws_here", "_law_words_here", "_law_depth"] (spTerm 5)) (DN : Df K mg "_law_named" s__law_named ["_law_term_here"] fN dN) (GN : FnOk P w K mg base CX0 7 fN dN ["_law_term_here"] (spNamed 7)) (DA : Df K mg "_law_atom" s__law_atom ["_law_draws_here", "_law_words_here"] fA dA) (GA : FnOk P w K mg base CX0 8 fA dA ["_law_draws_here", "_law_words_here"] spAtom)
    (mint : mg "int" = none) : ∀ n : Nat, FnOk P w K mg base CX0 (n + 8) f fd ["_law_draws_here", "_law_words_here", "_law_depth"] (spForm n)
  | 0 => by
    have no : ∀ vs H Q E, ¬ spForm 0 vs H Q E := fun vs H Q E h => by
      obtain ⟨d, l, ws, k, _, _, hk, _⟩ := h
      omega
    exact ⟨fun vs H Q E h => absurd h (no vs H Q E), fun A outer s H args us vs Q E _ _ _ _ h => absurd h (no vs H Q E)⟩
  | n + 1 => ok_law_formula1 D DT GT DM GM DN GN DA GA mint (ok_law_formula D DT GT DM GM DN GN DA GA mint n)
end

end K15
namespace K15
open PySem PySem.Spec PyProof.Rows L2 Own HT
section
variable {P : Program} {w : World} {K : PySem.W.Frag} {mg : Str → Option Value} {base : Heap}
theorem inT {c : Bool} {A B : Prop} (h : c = true) (k : A) : if c = true then A else B := by rw [if_pos h]; exact k
theorem inF {c : Bool} {A B : Prop} (h : c = false) (k : B) : if c = true then A else B := by rw [if_neg (by rw [h]; exact Bool.false_ne_true)]; exact k
def spParts : Sp := fun vs H Q _ => ∃ (v : V) (φ : Fm), vs = [v] ∧ TmAt H v φ.ter ∧ ∀ p xs H', Same H H' → H' p = some (.tup xs) → TmAll H' xs (φ.parts.map Fm.ter) → Q (.ref p) H'
theorem sc_parts : FnScope ["formula", "kind"] ["formula"] (defScope s_parts) := ⟨rfl, rfl, rfl, by decide +kernel, rfl, by decide +kernel, by decide +kernel⟩
theorem cut2 {x y z : V} : cutV [x, y, z] (some 2) none = [z] := by
  unfold cutV
  rw [show HT.sIx [x, y, z].length 0 (some 2) = min 2 3 from HT.sIx_nat .., HT.sIx_none]
  rfl
theorem ok_parts {f : Addr} {fd : FuncData} (D : Df K mg "parts" s_parts ["formula"] f fd) : FnOk P w K mg base CX0 1 f fd ["formula"] spParts := by
  refine D.F.ok sc_parts (fun vs H Q E h => ?_) (fun cdv A outer s H vs Q E hr h => ?_)
  · obtain ⟨v, φ, rfl, _⟩ := h; rfl
  obtain ⟨v, φ, rfl, hv, q⟩ := h
  have nd := sc_parts.nd
  refine ⟨_, (pss_cons (ps_set (i := 1) nd rfl (.inl rfl) (pe_ix ix_tup (pv 0) pe_int (fun _ _ => rfl)))
    (pss_cons (ps_if (pt_cmpR op_in_seq (pv 1) (pe_tup (pa_cons pe_str (pa_cons pe_str (pa_cons pe_str pa_nil)))) (by rfl))
      (pss_one (ps_ret (pe_tup pa_nil)))
      pss_nil)
    (pss_cons (ps_if (pt_cmpR op_in_seq (pv 1) (pe_tup (pa_cons pe_str (pa_cons pe_str pa_nil))) (by rfl))
      (pss_one (ps_ret (pe_slice sl_tupA (pv 0) (po_some pe_int) po_none)))
      pss_nil)
    (pss_one (ps_ret (pe_slice sl_1 (pv 0) (po_some pe_int) po_none)))))), ?_⟩
  obtain ⟨a, xs, rfl, e, hs⟩ := fm_at hv
  refine ⟨_, rfl, a, _, 0, _, rfl, rfl, .inl (.inl e), head_at, ?_⟩
  refine ⟨_, rfl, by show 3 ≤ sizeLine; decide, fun p1 np1 => ⟨p1, _, rfl, .inr (.inl (.inl upd_same)), rfl, rfl, _, rfl, ?_⟩⟩
  have s1 := same_new np1 (.tup [.str "true", .str "false", .str "equal"])
  have e1 := s1 _ _ e
  have hs1 := TmAll.mono s1.tups _ _ hs
  have q1 : ∀ p xs H', Same (upd H p1 (.tup [.str "true", .str "false", .str "equal"])) H' → H' p = some (.tup xs) → TmAll H' xs (φ.parts.map Fm.ter) → Q (.ref p) H' := fun p xs H' s => q p xs H' (s1.trans s)
  clear q hs hv
  generalize upd H p1 (.tup [.str "true", .str "false", .str "equal"]) = H1 at e1 hs1 q1
  cases φ with
  | tt b =>
    refine inT (c := inV (.str (Fm.tt b).head) [V.str "true", .str "false", .str "equal"]) (by cases b <;> decide +kernel) ?_
    exact ⟨by show 0 ≤ sizeLine; decide, fun p np => q1 p [] _ (same_new np _) upd_same .nil⟩
  | eq l r =>
    refine inT (c := inV (.str "equal") [V.str "true", .str "false", .str "equal"]) (by decide +kernel) ?_
    exact ⟨by show 0 ≤ sizeLine; decide, fun p np => q1 p [] _ (same_new np _) upd_same .nil⟩
  | neg g =>
    obtain ⟨x, rfl, hx⟩ := all_one hs1
    refine inF (c := inV (.str "not") [V.str "true", .str "false", .str "equal"]) (by decide +kernel) ?_
    refine ⟨_, rfl, by show 2 ≤ sizeLine; decide, fun p2 np2 => ⟨p2, _, rfl, .inr (.inl (.inl upd_same)), rfl, rfl, _, rfl, inF (c := inV (.str "not") [V.str "all", .str "some"]) (by decide +kernel) ?_⟩⟩
    have s2 := same_new np2 (.tup [.str "all", .str "some"])
    exact ⟨.ref a, rfl, 1, rfl, a, _, _, rfl, rfl, rfl, .inl (.inl (s2 _ _ e1)), fun p np => q1 p _ _ (s2.trans (same_new np _)) upd_same (.cons (TmAt.mono (s2.trans (same_new np _)).tups _ _ hx) .nil)⟩
  | bin o g k =>
    obtain ⟨x, u, rfl, hx, hu⟩ := all_two hs1
    refine inF (c := inV (.str o.word) [V.str "true", .str "false", .str "equal"]) (by cases o <;> decide +kernel) ?_
    refine ⟨_, rfl, by show 2 ≤ sizeLine; decide, fun p2 np2 => ⟨p2, _, rfl, .inr (.inl (.inl upd_same)), rfl, rfl, _, rfl, inF (c := inV (.str o.word) [V.str "all", .str "some"]) (by cases o <;> decide +kernel) ?_⟩⟩
    have s2 := same_new np2 (.tup [.str "all", .str "some"])
    exact ⟨.ref a, rfl, 1, rfl, a, _, _, rfl, rfl, rfl, .inl (.inl (s2 _ _ e1)), fun p np => q1 p _ _ (s2.trans (same_new np _)) upd_same (.cons (TmAt.mono (s2.trans (same_new np _)).tups _ _ hx) (.cons (TmAt.mono (s2.trans (same_new np _)).tups _ _ hu) .nil))⟩
  | qu c y g =>
    obtain ⟨x, u, rfl, hx, hu⟩ := all_two hs1
    refine inF (c := inV (.str (qWord c)) [V.str "true", .str "false", .str "equal"]) (by cases c <;> decide +kernel) ?_
    refine ⟨_, rfl, by show 2 ≤ sizeLine; decide, fun p2 np2 => ⟨p2, _, rfl, .inr (.inl (.inl upd_same)), rfl, rfl, _, rfl, inT (c := inV (.str (qWord c)) [V.str "all", .str "some"]) (by cases c <;> decide +kernel) ?_⟩⟩
    have s2 := same_new np2 (.tup [.str "all", .str "some"])
    refine ⟨.ref a, rfl, 2, rfl, a, _, rfl, .inl (.inl (s2 _ _ e1)), (fun z => absurd z.1 (by show ¬ HT.sIx 3 0 (some 2) = 0; rw [show HT.sIx 3 0 (some 2) = min 2 3 from HT.sIx_nat ..]; decide)), fun _ p np => ?_⟩
    have s3 := same_new np (.tup (cutV [.str (Fm.qu c y g).head, x, u] (some 2) none))
    rw [cut2] at s3 ⊢
    exact q1 p _ _ (s2.trans s3) upd_same (.cons (TmAt.mono (s2.trans s3).tups _ _ hu) .nil)

end

section
variable {P : Program} {w : World} {K : PySem.W.Frag} {mg : Str → Option Value} {base : Heap}
/-! ### first_free_variables -/
def fmZ (φ : Fm) : Prop := φ.lits (fun l r => l.size ≤ 200 ∧ r.size ≤ 200) (fun _ => True)
theorem fmZ_inner {φ f : Fm} (h : fmZ φ) (m : f ∈ φ.parts) : fmZ f := by
  cases φ with
  | tt b => cases m
  | eq l r => cases m
  | neg g => cases List.mem_singleton.mp m; exact h
  | bin o g k =>
    rcases List.mem_cons.mp m with rfl | m
    · exact h.1
    · cases List.mem_singleton.mp m; exact h.2
  | qu a x g => cases List.mem_singleton.mp m; exact h.2
theorem lits_mono {R R' : Ter → Ter → Prop} {S S' : Str → Prop} (h1 : ∀ l r, R l r → R' l r) (h2 : ∀ x, S x → S' x) : ∀ φ : Fm, φ.lits R S → φ.lits R' S'
  | .tt _, _ => trivial
  | .eq l r, h => h1 l r h
  | .neg f, h => lits_mono h1 h2 f h
  | .bin _ f g, h => ⟨lits_mono h1 h2 f h.1, lits_mono h1 h2 g h.2⟩
  | .qu _ x f, h => ⟨h2 x h.1, lits_mono h1 h2 f h.2⟩
theorem cnt_high : ∀ φ : Fm, φ.cnt2 + 1 ≤ 2 ^ φ.high
  | .tt _ => by show 1 + 1 ≤ 2 ^ 1; decide
  | .eq _ _ => by show 1 + 1 ≤ 2 ^ 1; decide
  | .neg f => by
    have := cnt_high f
    show f.cnt2 + 1 + 1 ≤ 2 ^ (f.high + 1)
    rw [Nat.pow_succ]
    omega
  | .bin _ f g => by
    have a := cnt_high f
    have b := cnt_high g
    have c : 2 ^ f.high ≤ 2 ^ max f.high g.high := Nat.pow_le_pow_right (by decide) (Nat.le_max_left _ _)
    have d : 2 ^ g.high ≤ 2 ^ max f.high g.high := Nat.pow_le_pow_right (by decide) (Nat.le_max_right _ _)
    show f.cnt2 + g.cnt2 + 1 + 1 ≤ 2 ^ (max f.high g.high + 1)
    rw [Nat.pow_succ]
    omega
  | .qu _ _ f => by
    have := cnt_high f
    show f.cnt2 + 1 + 1 ≤ 2 ^ (f.high + 1)
    rw [Nat.pow_succ]
    omega
def spFfv : Sp := fun vs H Q _ => ∃ (v : V) (φ : Fm), vs = [v] ∧ TmAt H v φ.ter ∧ fmZ φ ∧ φ.cnt2 ≤ 1000 ∧ φ.high ≤ 100 ∧ ∀ p H', Same H H' → H p = none → H' p = some (.lst ((φ.fv [] []).map kV)) → Q (.ref p) H'
theorem sc_ffv : FnScope ["formula", "found", "waiting", "part", "bound", "name", "inner"] ["formula"] (defScope s_first_free_variables) := ⟨rfl, rfl, rfl, by decide +kernel, rfl, by decide +kernel, by decide +kernel⟩
theorem fv_len2 (φ : Fm) (bd acc : List Key) (h : fmZ φ) : (φ.here bd acc).length ≤ acc.length + 400 := by
  cases φ with
  | eq l r =>
    have a := fv_len bd l acc
    have b := fv_len bd r (l.fv bd acc)
    have c : l.size ≤ 200 := h.1
    have d : r.size ≤ 200 := h.2
    show (r.fv bd (l.fv bd acc)).length ≤ _
    omega
  | tt _ => exact Nat.le_add_right _ _
  | neg _ => exact Nat.le_add_right _ _
  | bin _ _ _ => exact Nat.le_add_right _ _
  | qu _ _ _ => exact Nat.le_add_right _ _
theorem cntW_len : ∀ st : List Wt, st.length ≤ cntW st
  | [] => Nat.zero_le _
  | e :: r => by
    have a := cnt2_pos e.1
    have b := cntW_len r
    show r.length + 1 ≤ e.1.cnt2 + cntW r
    omega
theorem ok_ffv {f fO fP : Addr} {fd dO dP : FuncData} (D : Df K mg "first_free_variables" s_first_free_variables ["formula"] f fd) (DO : Df K mg "variables_of" s_variables_of ["terms"] fO dO) (GO : FnOk P w K mg base CX0 2 fO dO ["terms"] (spVarsOf K))
    (DP : Df K mg "parts" s_parts ["formula"] fP dP) (GP : FnOk P w K mg base CX0 1 fP dP ["formula"] spParts) (m_list : mg "list" = none) : FnOk P w K mg base CX0 3 f fd ["formula"] spFfv := by
  refine D.F.ok sc_ffv (fun vs H Q E h => ?_) (fun cdv A outer s H vs Q E hr h => ?_)
  · obtain ⟨v, φ, rfl, _⟩ := h; rfl
  obtain ⟨v, φ, rfl, hv, hw, hc, hh, q⟩ := h
  have nd := sc_ffv.nd
  have r1 : Room 1 _ := hr.mono (by decide)
  have r2 : Room 2 _ := hr
  refine ⟨_, (pss_cons (ps_set (i := 1) nd rfl (.inl rfl) pe_dnewK)
    (pss_cons (ps_set (i := 2) nd rfl (.inl rfl) (pe_lst (pa_cons (pe_tup (pa_cons (pv 0) (pa_cons (pe_tup pa_nil) pa_nil))) pa_nil)))
    (pss_cons (ps_while PassesOwn.never (pt_truth (pv 2) (by intro _; rfl))
      (pss_cons (ps_asg (pe_bm0 PySem.F.plainAttrs_list PySem.F.slot_list_pop PySem.F.type_list_pop mt_popL (pv 2)) (pg_tup rfl (pgs_cons (pg_name (i := 3) nd rfl (.inl rfl)) (pgs_cons (pg_name (i := 4) nd rfl (.inl rfl)) pgs_nil))))
    (C8.pss_cut (ps_if (pt_cmpR op_eq (pe_ix ix_tup (pv 3) pe_int (fun _ _ => rfl)) pe_str (nomark _))
      (pss_one (ps_for PassesOwn.never rfl (pi_list (pe_call GO r2 (by rfl) DO.m DO.F.kp DO.b .nil pass0 (pa_cons (pe_lst (pa_cons (pe_ix ix_tup (pv 3) pe_int (fun _ _ => rfl)) (pa_cons (pe_ix ix_tup (pv 3) pe_int (fun _ _ => rfl)) pa_nil))) pa_nil))) (pg_name (i := 5) nd rfl (.inl rfl))
      (pss_one (ps_if (pt_cmpR op_notIn_seq (pv 5) (pv 4) (by rfl))
      (pss_one (ps_dput (hu_of hr) (pv 1) (pv 5) pe_bl rfl))
      pss_nil))))
      pss_nil)
    (C8.pss_cut (ps_if (pt_cmpR op_in_seq (pe_ix ix_tup (pv 3) pe_int (fun _ _ => rfl)) (pe_tup (pa_cons pe_str (pa_cons pe_str pa_nil))) (by rfl))
      (pss_one (ps_aug (i := 4) nd rfl (.inl rfl) (pe_tup (pa_cons (pe_ix ix_tup (pv 3) pe_int (fun _ _ => rfl)) pa_nil)) ip_catA))
      pss_nil)
    (pss_one (ps_for PassesOwn.never rfl (pi_tup (pe_revT (pe_call GP r1 (by rfl) DP.m DP.F.kp DP.b .nil pass0 (pa_cons (pv 3) pa_nil)))) (pg_name (i := 6) nd rfl (.inl rfl))
      (pss_one (ps_expr (pe_bm PySem.F.plainAttrs_list PySem.F.slot_list_append PySem.F.type_list_append mt_append (pv 2) (pa_cons (pe_tup (pa_cons (pv 6) (pa_cons (pv 4) pa_nil))) pa_nil))))))))))
    (pss_one (ps_ret (pe_callTy (call_listD rfl) (by rfl) m_list (by decide +kernel) (pa_cons (pv 1) pa_nil))))))), ?_⟩
  intro d nd'
  have s0 := same_new nd' (.dK [])
  have ed0 : upd H d (.dK []) d = some (.dK ([].map yes)) := upd_same
  refine ⟨_, rfl, by show 0 ≤ sizeLine; decide, fun b0 nb0 => ⟨by show 2 ≤ sizeLine; decide, fun p0 np0 => ⟨by show 1 ≤ sizeLine; decide, fun l nl => ?_⟩⟩⟩
  have sA := (same_new nb0 (.tup [])).trans (same_new np0 (.tup [v, .ref b0]))
  have sB := sA.trans (same_new nl (.lst [.ref p0]))
  have s1 := s0.trans sB
  have nld : l ≠ d := (ne_of_none (sA _ _ ed0) nl).symm
  have nlH : H l = none := (s0.trans sA).free nl
  have W0 : WtAt (upd (upd (upd (upd H d (.dK [])) b0 (.tup [])) p0 (.tup [v, .ref b0])) l (.lst [.ref p0])) (.ref p0) (φ, []) :=
    .mk (same_new nl _ _ _ upd_same) (TmAt.mono s1.tups _ _ hv) (((same_new np0 (.tup [v, .ref b0])).trans (same_new nl (.lst [.ref p0]))) _ _ upd_same)
  refine ⟨fun m σ H' => ∃ (acc : List Key) (vs : List V) (st : List Wt) (y3 y4 y5 y6 : Option V), σ = [some v, some (.ref d), some (.ref l), y3, y4, y5, y6] ∧ Same H H' ∧ H' d = some (.dK (acc.map yes)) ∧ H' l = some (.lst vs) ∧ WtAll H' vs st ∧ fvW acc st.reverse = φ.fv [] [] ∧ (∀ e ∈ st, fmZ e.1 ∧ e.1.high + e.2.length ≤ 200) ∧ cntW st ≤ 1000 ∧ acc.length + 400 * cntW st ≤ 400000 ∧ m = cntW st,
    ⟨_, [], [.ref p0], [(φ, [])], none, none, none, none, rfl, s1, sB _ _ ed0, upd_same, .cons W0 .nil, rfl, (fun e he => by rw [List.mem_singleton.mp he]; exact ⟨hw, by show φ.high + 0 ≤ 200; omega⟩), by show φ.cnt2 + 0 ≤ 1000; omega, by show 0 + 400 * (φ.cnt2 + 0) ≤ 400000; omega, rfl⟩, fun m σ H' hW => ?_⟩
  obtain ⟨acc, vs, st, y3, y4, y5, y6, rfl, sm, ed, el, hu, ei, al, hc2, hl, rfl⟩ := hW
  refine ⟨.ref l, rfl, _, tru_l el, ?_⟩
  refine ite2 (fun c => ?_) (fun c => ?_)
  · have hv : vs ≠ [] := fun z => by subst z; exact absurd c (by decide)
    obtain ⟨vs', u, st', ⟨ψ, bd⟩, rfl, rfl, ha', hx⟩ := hu.last hv
    have er : (st' ++ [(ψ, bd)]).reverse = (ψ, bd) :: st'.reverse := by rw [List.reverse_append]; rfl
    rw [er] at ei
    have ei : fvW (ψ.fv bd acc) st'.reverse = φ.fv [] [] := ei
    obtain ⟨hw2, hh2⟩ := al (ψ, bd) (List.mem_append_right _ (List.mem_singleton.mpr rfl))
    have hh2 : ψ.high + bd.length ≤ 200 := hh2
    have al' : ∀ e ∈ st', fmZ e.1 ∧ e.1.high + e.2.length ≤ 200 := fun e he => al e (List.mem_append_left _ he)
    rw [cntW_app] at hc2 hl
    have ez : cntW [(ψ, bd)] = ψ.cnt2 := by show ψ.cnt2 + 0 = ψ.cnt2; omega
    rw [ez] at hc2 hl
    have cp := cnt_parts ψ bd
    refine ⟨fun σ' H2 => ∃ (acc : List Key) (vs : List V) (st : List Wt) (y3 y4 y5 y6 : Option V), σ' = [some v, some (.ref d), some (.ref l), y3, y4, y5, y6] ∧ Same H H2 ∧ H2 d = some (.dK (acc.map yes)) ∧ H2 l = some (.lst vs) ∧ WtAll H2 vs st ∧ fvW acc st.reverse = φ.fv [] [] ∧ (∀ e ∈ st, fmZ e.1 ∧ e.1.high + e.2.length ≤ 200) ∧ cntW st ≤ 1000 ∧ acc.length + 400 * cntW st ≤ 400000 ∧ cntW st < cntW (st' ++ [(ψ, bd)]),
      fun σ' H2 hN => ?_, ?_⟩
    · obtain ⟨a2, v2, u2, y3, y4, y5, y6, e1, e2, e3, e4, e5, e6, e7, e8, e9, e10⟩ := hN
      exact ⟨_, e10, a2, v2, u2, y3, y4, y5, y6, e1, e2, e3, e4, e5, e6, e7, e8, e9, rfl⟩
    have b1 : But l H' (upd H' l (.lst vs')) := But.upd
    have t1 := b1.tups el
    have hx1 := hx.mono t1
    have ha1 := ha'.mono t1
    have sm1 := But.same nlH sm b1
    have ed1 := b1 d _ nld.symm ed
    have el1 : upd H' l (.lst vs') l = some (.lst vs') := upd_same
    refine ⟨.ref l, rfl, tyl el, l, vs', u, rfl, rfl, el, ?_⟩
    generalize upd H' l (.lst vs') = H1 at hx1 ha1 sm1 ed1 el1 ⊢
    cases hx1 with
    | @mk p b x _ _ ep hψ eb =>
    refine ⟨p, _, rfl, .inl (.inl ep), rfl, _, _, rfl, _, _, rfl, rfl, ?_⟩
    obtain ⟨a, xs, rfl, ea, hs⟩ := fm_at hψ
    -- an equation tells its names
    refine ⟨fun σ2 H2 => ∃ y5, σ2 = [some v, some (.ref d), some (.ref l), some (.ref a), some (.ref b), y5, y6] ∧ Same H H2 ∧ H2 d = some (.dK ((ψ.here bd acc).map yes)) ∧ H2 l = some (.lst vs') ∧ WtAll H2 vs' st' ∧ H2 a = some (.tup (.str ψ.head :: xs)) ∧ TmAll H2 xs ψ.tail ∧ H2 b = some (.tup (bd.map kV)), ?_, fun σ2 H2 h => ?_⟩
    · refine ⟨_, rfl, a, _, 0, _, rfl, rfl, .inl (.inl ea), head_at, rfl, _, rfl, ?_⟩
      cases ψ with
      | eq t1 t2 =>
        obtain ⟨z1, z2, rfl, h1, h2⟩ := all_two hs
        refine eqS (headN "equal" rfl (by decide +kernel)) ?_
        have T : SqT K H1 a (.str (Fm.eq t1 t2).head :: [z1, z2]) := .inl (.inl ea)
        refine ⟨_, rfl, a, _, 1, _, rfl, rfl, T, at_1, _, rfl, a, _, 2, _, rfl, rfl, T, at_2, by show 2 ≤ sizeLine; decide, fun l2 nl2 => ?_⟩
        have s2 := same_new nl2 (.lst [z1, z2])
        have sz : Ter.sizes [t1, t2] ≤ 400 := by have c : t1.size ≤ 200 := hw2.1; have d : t2.size ≤ 200 := hw2.2; show t1.size + (t2.size + 0) ≤ 400; omega
        refine ⟨l2, [z1, z2], [t1, t2], rfl, .inl (.inl upd_same), .cons (TmAt.mono s2.tups _ _ h1) (.cons (TmAt.mono s2.tups _ _ h2) .nil), by omega, fun l3 H3 s3 nl3 el3 => ?_⟩
        have s23 := s2.trans s3
        have kl := intos_len [t1, t2] []
        rw [List.length_nil, Nat.zero_add] at kl
        refine ⟨l3, rfl, ⟨_, .inl (.inl el3)⟩, for_list (xs := (Ter.intos [] [t1, t2]).map kV) (fun i σ X => ∃ y5, σ = [some v, some (.ref d), some (.ref l), some (.ref a), some (.ref b), y5, y6] ∧ Same H X ∧ X d = some (.dK ((nmKs bd acc ((Ter.intos [] [t1, t2]).take i)).map yes)) ∧ X l = some (.lst vs') ∧ WtAll X vs' st' ∧ X a = some (.tup (.str (Fm.eq t1 t2).head :: [z1, z2])) ∧ TmAll X [z1, z2] [t1, t2] ∧ X b = some (.tup (bd.map kV)) ∧ X l3 = some (.lst ((Ter.intos [] [t1, t2]).map kV)) ∧ (nmKs bd acc ((Ter.intos [] [t1, t2]).take i)).length ≤ acc.length + i)
          ⟨y5, rfl, sm1.trans s23, s23 _ _ ed1, s23 _ _ el1, ha1.mono s23.tups, s23 _ _ ea, TmAll.mono s23.tups _ _ hs, s23 _ _ eb, el3, Nat.le_refl _⟩ (fun i σ X _ h => ?_) (fun i x σ X hx h => ?_) (fun σ X h => ?_)⟩
        · obtain ⟨_, _, _, _, _, _, _, _, _, e, _⟩ := h
          exact .inl (.inl e)
        · obtain ⟨y5, rfl, smX, edX, elX, haX, eaX, hsX, ebX, el3X, lX⟩ := h
          obtain ⟨k, ek, rfl⟩ : ∃ k, (Ter.intos [] [t1, t2])[i]? = some k ∧ x = kV k := by
            rw [List.getElem?_map] at hx
            cases z : (Ter.intos [] [t1, t2])[i]? with
            | none => rw [z] at hx; cases hx
            | some k => rw [z] at hx; exact ⟨k, rfl, (Option.some.inj hx).symm⟩
          have li := (List.getElem?_eq_some_iff.mp ek).1
          have tk : (Ter.intos [] [t1, t2]).take (i + 1) = (Ter.intos [] [t1, t2]).take i ++ [k] := by rw [List.take_add_one, ek]; rfl
          have st1 : nmKs bd acc ((Ter.intos [] [t1, t2]).take (i + 1)) = nmK bd (nmKs bd acc ((Ter.intos [] [t1, t2]).take i)) k := by
            rw [tk]; unfold nmKs; rw [List.foldl_append]; rfl
          have ll : (nmKs bd acc ((Ter.intos [] [t1, t2]).take (i + 1))).length ≤ acc.length + (i + 1) := by
            rw [st1]
            unfold nmK
            split
            · omega
            · have := addK_len (nmKs bd acc ((Ter.intos [] [t1, t2]).take i)) k; omega
          refine ⟨_, rfl, _, rfl, b, _, rfl, .inr (.inl (.inl ebX)), flat_key k, flat_keys bd, _, rfl, ?_⟩
          rw [inV_key]
          cases hb : hasK bd k with
          | true =>
            refine inF rfl ⟨_, rfl, smX, ?_, elX, haX, eaX, hsX, ebX, el3X, ll⟩
            rw [st1]; unfold nmK; rw [if_pos hb]; exact edX
          | false =>
            refine inT rfl ?_
            refine ⟨_, rfl, _, rfl, d, _, rfl, DPut.k (k := k) edX (by rw [List.length_map]; exact small6' (by omega)), _, rfl, ?_⟩
            rw [put_yes]
            have bU : But d X (upd X d (.dK ((addK (nmKs bd acc ((Ter.intos [] [t1, t2]).take i)) k).map yes))) := But.upd
            have tU := bU.tupsD edX
            refine ⟨But.same nd' smX bU, ?_, bU _ _ nld elX, haX.mono tU, tU _ _ eaX, TmAll.mono tU _ _ hsX, tU _ _ ebX, bU _ _ (ne_of el3X edX (fun z => nomatch z)) el3X, ll⟩
            rw [st1, upd_same]; unfold nmK; rw [if_neg (by rw [hb]; exact Bool.false_ne_true)]
        · obtain ⟨y5, rfl, smX, edX, elX, haX, eaX, hsX, ebX, el3X, lX⟩ := h
          rw [List.length_map, List.take_length, nm_two] at edX
          exact ⟨y5, rfl, smX, edX, elX, haX, eaX, hsX, ebX⟩
      | tt c => exact neS (by rw [head_eq]; rfl) ⟨y5, rfl, sm1, ed1, el1, ha1, ea, hs, eb⟩
      | neg g => exact neS (headN "not" rfl (by decide +kernel)) ⟨y5, rfl, sm1, ed1, el1, ha1, ea, hs, eb⟩
      | bin o g k => exact neS (headN o.word rfl (by cases o <;> decide +kernel)) ⟨y5, rfl, sm1, ed1, el1, ha1, ea, hs, eb⟩
      | qu c z g => exact neS (headN (qWord c) rfl (by cases c <;> decide +kernel)) ⟨y5, rfl, sm1, ed1, el1, ha1, ea, hs, eb⟩
    -- a quantifier binds its name
    obtain ⟨y5, rfl, sm2, ed2, el2, ha2, ea2, hs2, eb2⟩ := h
    refine ⟨fun σ3 H3 => ∃ b2, σ3 = [some v, some (.ref d), some (.ref l), some (.ref a), some (.ref b2), y5, y6] ∧ Same H H3 ∧ H3 d = some (.dK ((ψ.here bd acc).map yes)) ∧ H3 l = some (.lst vs') ∧ WtAll H3 vs' st' ∧ H3 a = some (.tup (.str ψ.head :: xs)) ∧ TmAll H3 xs ψ.tail ∧ H3 b2 = some (.tup ((ψ.inner bd).map kV)), ?_, fun σ3 H3 h => ?_⟩
    · refine ⟨_, rfl, a, _, 0, _, rfl, rfl, .inl (.inl ea2), head_at, by show 2 ≤ sizeLine; decide, fun p3 np3 => ⟨p3, _, rfl, .inr (.inl (.inl upd_same)), rfl, rfl, _, rfl, ?_⟩⟩
      have s3 := same_new np3 (.tup [.str "all", .str "some"])
      have other : ψ.inner bd = bd → ∃ b2, [some v, some (.ref d), some (.ref l), some (.ref a), some (.ref b), y5, y6] = [some v, some (.ref d), some (.ref l), some (.ref a), some (.ref b2), y5, y6] ∧ Same H (upd H2 p3 (.tup [.str "all", .str "some"])) ∧ upd H2 p3 (.tup [.str "all", .str "some"]) d = some (.dK ((ψ.here bd acc).map yes)) ∧ upd H2 p3 (.tup [.str "all", .str "some"]) l = some (.lst vs') ∧ WtAll (upd H2 p3 (.tup [.str "all", .str "some"])) vs' st' ∧ upd H2 p3 (.tup [.str "all", .str "some"]) a = some (.tup (.str ψ.head :: xs)) ∧ TmAll (upd H2 p3 (.tup [.str "all", .str "some"])) xs ψ.tail ∧ upd H2 p3 (.tup [.str "all", .str "some"]) b2 = some (.tup ((ψ.inner bd).map kV)) := fun z =>
        ⟨b, rfl, sm2.trans s3, s3 _ _ ed2, s3 _ _ el2, ha2.mono s3.tups, s3 _ _ ea2, TmAll.mono s3.tups _ _ hs2, by rw [z]; exact s3 _ _ eb2⟩
      cases ψ with
      | tt c => exact inF (c := inV (.str (Fm.tt c).head) [V.str "all", .str "some"]) (by cases c <;> decide +kernel) (other rfl)
      | eq t1 t2 => exact inF (c := inV (.str "equal") [V.str "all", .str "some"]) (by decide +kernel) (other rfl)
      | neg g => exact inF (c := inV (.str "not") [V.str "all", .str "some"]) (by decide +kernel) (other rfl)
      | bin o g k => exact inF (c := inV (.str o.word) [V.str "all", .str "some"]) (by cases o <;> decide +kernel) (other rfl)
      | qu c z g =>
        obtain ⟨z1, z2, rfl, h1, h2⟩ := all_two hs2
        cases h1
        refine inT (c := inV (.str (qWord c)) [V.str "all", .str "some"]) (by cases c <;> decide +kernel) ?_
        refine ⟨_, rfl, _, rfl, a, _, 1, _, rfl, rfl, .inl (.inl (s3 _ _ ea2)), at_1, by show 1 ≤ sizeLine; decide, fun p4 np4 => ?_⟩
        have s4 := s3.trans (same_new np4 (.tup [.str z]))
        have lb : (bd.map kV).length + 1 ≤ sizeLine := small6 (by rw [List.length_map]; omega)
        refine ⟨b, p4, bd.map kV, [.str z], rfl, rfl, .inl (.inl (s4 _ _ eb2)), .inl (.inl upd_same), lb, fun z0 => ?_, (fun _ z => by cases z), fun _ _ p5 np5 => ?_⟩
        · have : bd = [] := List.map_eq_nil_iff.mp z0
          subst this
          exact ⟨p4, rfl, sm2.trans s4, s4 _ _ ed2, s4 _ _ el2, ha2.mono s4.tups, s4 _ _ ea2, TmAll.mono s4.tups _ _ hs2, upd_same⟩
        · have s5 := s4.trans (same_new np5 (.tup (bd.map kV ++ [.str z])))
          refine ⟨p5, rfl, sm2.trans s5, s5 _ _ ed2, s5 _ _ el2, ha2.mono s5.tups, s5 _ _ ea2, TmAll.mono s5.tups _ _ hs2, ?_⟩
          rw [upd_same]
          show some (HO.tup (bd.map kV ++ [.str z])) = some (.tup ((bd ++ [Sum.inr z]).map kV))
          rw [List.map_append]; rfl
    -- its parts wait
    obtain ⟨b2, rfl, sm3, ed3, el3, ha3, ea3, hs3, eb3⟩ := h
    refine ⟨_, rfl, .ref a, ψ, rfl, by rw [fm_ter]; exact .ap ea3 hs3, fun p4 zs H4 s4 ep4 hz => ?_⟩
    refine ⟨p4, _, rfl, .inl (.inl ep4), fun p5 np5 => ?_⟩
    have s45 := s4.trans (same_new np5 (.tup zs.reverse))
    have lz := hz.len
    rw [List.length_map] at lz
    have hzr := TmAll.mono (same_new np5 (.tup zs.reverse)).tups _ _ hz
    have lp : ψ.parts.length ≤ 2 := by cases ψ <;> simp [Fm.parts]
    have la := ha3.len
    have stl := cntW_len st'
    refine ⟨p5, rfl, ⟨_, .inl (.inl upd_same)⟩, for_tup (xs := zs.reverse) (fun i σ X => ∃ y6 ws, σ = [some v, some (.ref d), some (.ref l), some (.ref a), some (.ref b2), y5, y6] ∧ Same H X ∧ X d = some (.dK ((ψ.here bd acc).map yes)) ∧ X l = some (.lst (vs' ++ ws)) ∧ WtAll X vs' st' ∧ WtAll X ws ((ψ.parts.reverse.take i).map fun f => (f, ψ.inner bd)) ∧ TmAll X zs (ψ.parts.map Fm.ter) ∧ X p5 = some (.tup zs.reverse) ∧ X b2 = some (.tup ((ψ.inner bd).map kV)))
      ⟨y6, [], rfl, sm3.trans s45, s45 _ _ ed3, by rw [List.append_nil]; exact s45 _ _ el3, ha3.mono s45.tups, .nil, hzr, upd_same, s45 _ _ eb3⟩ (fun i σ X _ h => ?_) (fun i x σ X hx h => ?_) (fun σ X h => ?_)⟩
    · obtain ⟨_, _, _, _, _, _, _, _, _, e, _⟩ := h
      exact .inl (.inl e)
    · obtain ⟨y6, ws, rfl, smX, edX, elX, haX, hwX, hzX, epX, ebX⟩ := h
      have hzr := hzX.rev
      rw [← List.map_reverse] at hzr
      obtain ⟨t, et, hxt⟩ := hzr.get hx
      rw [List.getElem?_map] at et
      obtain ⟨f, ef, rfl⟩ : ∃ f, ψ.parts.reverse[i]? = some f ∧ f.ter = t := by
        cases z : ψ.parts.reverse[i]? with
        | none => rw [z] at et; cases et
        | some g => rw [z] at et; exact ⟨g, rfl, Option.some.inj et⟩
      have li := (List.getElem?_eq_some_iff.mp ef).1
      rw [List.length_reverse] at li
      have lw := hwX.len
      rw [List.length_map, List.length_take] at lw
      refine ⟨.ref l, rfl, tyl elX, _, rfl, _, rfl, by show 2 ≤ sizeLine; decide, fun p6 np6 => ?_⟩
      have s6 := same_new np6 (.tup [x, .ref b2])
      refine ⟨l, _, _, rfl, rfl, s6 _ _ elX, small6' (by rw [List.length_append]; omega), ?_⟩
      have bL : But l (upd X p6 (.tup [x, .ref b2])) (upd (upd X p6 (.tup [x, .ref b2])) l (.lst (vs' ++ ws ++ [.ref p6]))) := But.upd
      have tL := bL.tups (s6 _ _ elX)
      have t6 := s6.tups.trans tL
      refine ⟨_, ws ++ [.ref p6], rfl, But.same nlH (smX.trans s6) bL, bL _ _ nld.symm (s6 _ _ edX), by rw [upd_same, List.append_assoc], haX.mono t6, ?_, TmAll.mono t6 _ _ hzX, t6 _ _ epX, t6 _ _ ebX⟩
      have tk : ψ.parts.reverse.take (i + 1) = ψ.parts.reverse.take i ++ [f] := by rw [List.take_add_one, ef]; rfl
      rw [tk, List.map_append]
      exact (hwX.mono t6).app (.cons (.mk (tL _ _ upd_same) (TmAt.mono t6 _ _ hxt) (t6 _ _ ebX)) .nil)
    · obtain ⟨y6, ws, rfl, smX, edX, elX, haX, hwX, hzX, epX, ebX⟩ := h
      rw [List.length_reverse, lz, ← List.length_reverse, List.take_length] at hwX
      have cr : cntW (ψ.parts.reverse.map fun f => (f, ψ.inner bd)) = cntW (ψ.parts.map fun f => (f, ψ.inner bd)) := by
        rw [List.map_reverse]
        unfold cntW
        rw [List.map_reverse, List.sum_reverse]
      have hl3 := fv_len2 ψ bd acc hw2
      have hp := cnt2_pos ψ
      refine ⟨_, _, _, _, _, _, _, rfl, smX, edX, elX, haX.app hwX, ?_, fun e he => ?_, ?_, ?_, ?_⟩
      · rw [List.reverse_append, ← List.map_reverse, List.reverse_reverse]
        unfold fvW
        rw [List.foldl_append]
        show fvW (fvW (ψ.here bd acc) (ψ.parts.map fun f => (f, ψ.inner bd))) st'.reverse = _
        rw [← fv_parts]
        exact ei
      · rcases List.mem_append.mp he with he | he
        · exact al' e he
        · obtain ⟨f, hf, rfl⟩ := List.mem_map.mp he
          have hf := List.mem_reverse.mp hf
          refine ⟨fmZ_inner hw2 hf, ?_⟩
          have := parts_high hf
          have li : (ψ.inner bd).length ≤ bd.length + 1 := by
            cases ψ with
            | qu c z g => show (bd ++ [Sum.inr z]).length ≤ _; rw [List.length_append]; exact Nat.le_refl _
            | tt c => exact Nat.le_succ _
            | eq _ _ => exact Nat.le_succ _
            | neg _ => exact Nat.le_succ _
            | bin _ _ _ => exact Nat.le_succ _
          show f.high + (ψ.inner bd).length ≤ 200
          omega
      · rw [cntW_app, cr]; omega
      · rw [cntW_app, cr]; omega
      · rw [cntW_app, cntW_app, cr, ez]; omega
  · have hv : vs = [] := by
      cases vs with
      | nil => rfl
      | cons x r => exact absurd rfl c
    subst hv
    cases hu
    have ei : acc = φ.fv [] [] := ei
    refine ⟨_, rfl, d, _, rfl, .inl ed, fun p np => ?_⟩
    have := q p (upd H' p (.lst ((acc.map yes).map fun kv => kV kv.1))) (sm.trans (same_new np _)) (sm.free np) (by rw [upd_same, yes_keys, ei])
    exact this
end

end K15
namespace K15
open PySem PySem.Spec PyProof.Rows L2 Own HT
-- bumped
section
variable {P : Program} {w : World} {K : PySem.W.Frag} {mg : Str → Option Value} {base : Heap}
/-! ### formula_literals -/
def _root_.Own.Fm.sides : Fm → List Lit
  | .tt _ => []
  | .eq l r => [(true, l, r)]
  | .neg f => f.sides
  | .bin _ f g => f.sides ++ g.sides
  | .qu _ _ f => f.sides
def _root_.Own.Fm.side0 : Fm → List Lit
  | .eq l r => [(true, l, r)]
  | _ => []
theorem sides_parts (φ : Fm) : φ.sides = φ.side0 ++ φ.parts.flatMap Fm.sides := by
  cases φ <;> simp [Fm.sides, Fm.side0, Fm.parts]
def cntS (st : List Fm) : Nat := (st.map Fm.cnt2).sum
theorem cntS_app (a b : List Fm) : cntS (a ++ b) = cntS a + cntS b := by unfold cntS; rw [List.map_append, List.sum_append]
theorem cntS_rev (a : List Fm) : cntS a.reverse = cntS a := by unfold cntS; rw [List.map_reverse, List.sum_reverse]
theorem cntS_parts (φ : Fm) : cntS φ.parts + 1 = φ.cnt2 := by
  cases φ with
  | tt _ => rfl
  | eq _ _ => rfl
  | neg f => show f.cnt2 + 0 + 1 = f.cnt2 + 1; omega
  | bin _ f g => show f.cnt2 + (g.cnt2 + 0) + 1 = f.cnt2 + g.cnt2 + 1; omega
  | qu _ _ f => show f.cnt2 + 0 + 1 = f.cnt2 + 1; omega
theorem side0_len (φ : Fm) : φ.side0.length ≤ 1 := by
  cases φ with
  | eq l r => exact Nat.le_refl 1
  | _ => exact Nat.zero_le _
theorem cntS_len : ∀ st : List Fm, st.length ≤ cntS st
  | [] => Nat.zero_le _
  | e :: r => by
    have a := cnt2_pos e
    have b := cntS_len r
    show r.length + 1 ≤ e.cnt2 + cntS r
    omega
theorem TmAll.unsnoc {H : Hp} : ∀ {ts : List Ter} {vs : List V} {t : Ter}, TmAll H vs (ts ++ [t]) → ∃ vs' v, vs = vs' ++ [v] ∧ TmAll H vs' ts ∧ TmAt H v t
  | [], vs, t, h => by
    cases h with
    | cons a r => cases r; exact ⟨[], _, rfl, .nil, a⟩
  | x :: r, vs, t, h => by
    cases h with
    | cons a b =>
      obtain ⟨vs', v, rfl, h1, h2⟩ := TmAll.unsnoc b
      exact ⟨_ :: vs', v, rfl, .cons a h1, h2⟩
def spFl : Sp := fun vs H Q _ => ∃ (v : V) (φ : Fm), vs = [v] ∧ TmAt H v φ.ter ∧ φ.cnt2 ≤ 1000 ∧ ∀ p xs H', Same H H' → H p = none → H' p = some (.lst xs) → LitAll H' xs φ.sides → Q (.ref p) H'
theorem sc_flits : FnScope ["formula", "found", "waiting", "part"] ["formula"] (defScope s_formula_literals) := ⟨rfl, rfl, rfl, by decide +kernel, rfl, by decide +kernel, by decide +kernel⟩
theorem ok_flits {f fP : Addr} {fd dP : FuncData} (D : Df K mg "formula_literals" s_formula_literals ["formula"] f fd) (DP : Df K mg "parts" s_parts ["formula"] fP dP) (GP : FnOk P w K mg base CX0 1 fP dP ["formula"] spParts) : FnOk P w K mg base CX0 2 f fd ["formula"] spFl := by
  refine D.F.ok sc_flits (fun vs H Q E h => ?_) (fun cdv A outer s H vs Q E hr h => ?_)
  · obtain ⟨v, φ, rfl, _⟩ := h; rfl
  obtain ⟨v, φ, rfl, hv, hc, q⟩ := h
  have nd := sc_flits.nd
  refine ⟨_, (pss_cons (ps_set (i := 1) nd rfl (.inl rfl) (pe_lst pa_nil))
    (pss_cons (ps_set (i := 2) nd rfl (.inl rfl) (pe_lst (pa_cons (pv 0) pa_nil)))
    (pss_cons (ps_while PassesOwn.never (pt_truth (pv 2) (by intro _; rfl))
      (pss_cons (ps_set (i := 3) nd rfl (.inl rfl) (pe_bm0 PySem.F.plainAttrs_list PySem.F.slot_list_pop PySem.F.type_list_pop mt_popL (pv 2)))
    (C8.pss_cut (ps_if (pt_cmpR op_eq (pe_ix ix_tup (pv 3) pe_int (fun _ _ => rfl)) pe_str (nomark _))
      (pss_one (ps_expr (pe_bm PySem.F.plainAttrs_list PySem.F.slot_list_append PySem.F.type_list_append mt_append (pv 1) (pa_cons (pe_tup (pa_cons pe_bl (pa_cons (pe_ix ix_tup (pv 3) pe_int (fun _ _ => rfl)) (pa_cons (pe_ix ix_tup (pv 3) pe_int (fun _ _ => rfl)) pa_nil)))) pa_nil))))
      pss_nil)
    (pss_one (ps_expr (pe_bm PySem.F.plainAttrs_list PySem.F.slot_list_extend PySem.F.type_list_extend mt_extendT (pv 2) (pa_cons (pe_revT (pe_call GP hr (by rfl) DP.m DP.F.kp DP.b .nil pass0 (pa_cons (pv 3) pa_nil))) pa_nil)))))))
    (pss_one (ps_ret (pv 1)))))), ?_⟩
  refine ⟨by show 0 ≤ sizeLine; decide, fun d nd' => ?_⟩
  have s0 := same_new nd' (.lst [])
  refine ⟨_, rfl, by show 1 ≤ sizeLine; decide, fun l nl => ?_⟩
  have sl := same_new nl (.lst [v])
  have s1 := s0.trans sl
  have ed0 := sl _ _ (upd_same (H := H) (a := d) (o := HO.lst []))
  have dl : d ≠ l := ne_of_none (upd_same (H := H) (a := d) (o := HO.lst [])) nl
  have nlH := s0.free nl
  refine ⟨fun m σ H' => ∃ xs acc vs st y3, σ = [some v, some (.ref d), some (.ref l), y3] ∧ Same H H' ∧ H' d = some (.lst xs) ∧ LitAll H' xs acc ∧ H' l = some (.lst vs) ∧ TmAll H' vs (st.map Fm.ter) ∧ acc ++ st.reverse.flatMap Fm.sides = φ.sides ∧ acc.length + cntS st ≤ 1000 ∧ m = cntS st,
    ⟨_, [], [], [v], [φ], none, rfl, s1, ed0, .nil, upd_same, .cons (TmAt.mono s1.tups _ _ hv) .nil, by simp, by show 0 + (φ.cnt2 + 0) ≤ 1000; omega, rfl⟩, fun m σ H' hW => ?_⟩
  obtain ⟨xs, acc, vs, st, y3, rfl, sm, ed, hA, el, hT, ei, hl, rfl⟩ := hW
  refine ⟨.ref l, rfl, _, tru_l el, ?_⟩
  refine ite2 (fun c => ?_) (fun c => ?_)
  · have hs : st ≠ [] := fun z => by
      subst z
      cases hT
      exact absurd c (by decide)
    obtain ⟨st', ψ, rfl⟩ : ∃ st' ψ, st = st' ++ [ψ] := ⟨_, _, (List.dropLast_concat_getLast hs).symm⟩
    rw [List.map_append] at hT
    obtain ⟨vs', u, rfl, hT', hu⟩ := TmAll.unsnoc hT
    rw [cntS_app] at hl
    have ez : cntS [ψ] = ψ.cnt2 := by show ψ.cnt2 + 0 = ψ.cnt2; omega
    rw [ez] at hl
    have cp := cntS_parts ψ
    refine ⟨fun σ' H2 => ∃ xs acc vs st y3, σ' = [some v, some (.ref d), some (.ref l), y3] ∧ Same H H2 ∧ H2 d = some (.lst xs) ∧ LitAll H2 xs acc ∧ H2 l = some (.lst vs) ∧ TmAll H2 vs (st.map Fm.ter) ∧ acc ++ st.reverse.flatMap Fm.sides = φ.sides ∧ acc.length + cntS st ≤ 1000 ∧ cntS st < cntS (st' ++ [ψ]), fun σ' H2 hN => ?_, ?_⟩
    · obtain ⟨a1, a2, a3, a4, a5, e1, e2, e3, e4, e5, e6, e7, e8, e9⟩ := hN
      exact ⟨_, e9, a1, a2, a3, a4, a5, e1, e2, e3, e4, e5, e6, e7, e8, rfl⟩
    have b1 : But l H' (upd H' l (.lst vs')) := But.upd
    have t1 := b1.tups el
    have hu1 := TmAt.mono t1 _ _ hu
    have hT1 := TmAll.mono t1 _ _ hT'
    have hA1 := hA.mono t1
    have sm1 := But.same nlH sm b1
    have ed1 := b1 d _ dl ed
    have el1 : upd H' l (.lst vs') l = some (.lst vs') := upd_same
    refine ⟨.ref l, rfl, tyl el, l, vs', u, rfl, rfl, el, ?_⟩
    generalize upd H' l (.lst vs') = H1 at hu1 hT1 hA1 sm1 ed1 el1 ⊢
    obtain ⟨a, zs, rfl, ea, hs⟩ := fm_at hu1
    have lA := hA.len
    have s0l := side0_len ψ
    have cpos := cnt2_pos ψ
    refine ⟨fun σ2 H2 => σ2 = [some v, some (.ref d), some (.ref l), some (.ref a)] ∧ Same H H2 ∧ (∃ xs, H2 d = some (.lst xs) ∧ LitAll H2 xs (acc ++ ψ.side0)) ∧ H2 l = some (.lst vs') ∧ TmAll H2 vs' (st'.map Fm.ter) ∧ TmAt H2 (.ref a) ψ.ter, ?_, fun σ2 H2 h => ?_⟩
    · refine ⟨_, rfl, a, _, 0, _, rfl, rfl, .inl (.inl ea), head_at, rfl, _, rfl, ?_⟩
      have stay : ψ.side0 = [] → Same H H1 ∧ (∃ xs, H1 d = some (.lst xs) ∧ LitAll H1 xs (acc ++ ψ.side0)) ∧ H1 l = some (.lst vs') ∧ TmAll H1 vs' (st'.map Fm.ter) ∧ TmAt H1 (.ref a) ψ.ter := fun z => ⟨sm1, ⟨xs, ed1, by rw [z, List.append_nil]; exact hA1⟩, el1, hT1, hu1⟩
      cases ψ with
      | eq t1 t2 =>
        obtain ⟨z1, z2, rfl, h1, h2⟩ := all_two hs
        refine eqS (headN "equal" rfl (by decide +kernel)) ?_
        have Tq : SqT K H1 a (.str (Fm.eq t1 t2).head :: [z1, z2]) := .inl (.inl ea)
        refine ⟨_, rfl, tyl ed1, _, rfl, a, _, 1, _, rfl, rfl, Tq, at_1, _, rfl, a, _, 2, _, rfl, rfl, Tq, at_2, by show 3 ≤ sizeLine; decide, fun t nt => ?_⟩
        have s2 := same_new nt (.tup [.bl true, z1, z2])
        refine ⟨d, _, _, rfl, rfl, s2 _ _ ed1, small6' (by omega), ?_⟩
        have b3 : But d (upd H1 t (.tup [.bl true, z1, z2])) (upd (upd H1 t (.tup [.bl true, z1, z2])) d (.lst (xs ++ [.ref t]))) := But.upd
        have t3 := b3.tups (s2 _ _ ed1)
        have t23 := s2.tups.trans t3
        refine ⟨rfl, But.same nd' (sm1.trans s2) b3, ⟨_, upd_same, (hA1.mono t23).app (.cons (.mk (t3 _ _ upd_same) (TmAt.mono t23 _ _ h1) (TmAt.mono t23 _ _ h2)) .nil)⟩, b3 _ _ dl.symm (s2 _ _ el1), TmAll.mono t23 _ _ hT1, TmAt.mono t23 _ _ hu1⟩
      | tt c => exact neS (by rw [head_eq]; rfl) ⟨rfl, stay rfl⟩
      | neg g => exact neS (headN "not" rfl (by decide +kernel)) ⟨rfl, stay rfl⟩
      | bin o g k => exact neS (headN o.word rfl (by cases o <;> decide +kernel)) ⟨rfl, stay rfl⟩
      | qu c z g => exact neS (headN (qWord c) rfl (by cases c <;> decide +kernel)) ⟨rfl, stay rfl⟩
    obtain ⟨rfl, sm2, ⟨xs2, ed2, hA2⟩, el2, hT2, hu2⟩ := h
    refine ⟨_, rfl, tyl el2, _, rfl, .ref a, ψ, rfl, hu2, fun p4 zs H4 s4 ep4 hz => ?_⟩
    refine ⟨p4, _, rfl, .inl (.inl ep4), fun p5 np5 => ?_⟩
    have s5 := same_new np5 (.tup zs.reverse)
    have s45 := s4.trans s5
    have lz := hz.len
    rw [List.length_map] at lz
    have lp : ψ.parts.length ≤ 2 := by cases ψ <;> simp [Fm.parts]
    have lT := hT2.len
    rw [List.length_map] at lT
    have lS := cntS_len st'
    refine ⟨l, p5, _, _, rfl, rfl, s45 _ _ el2, .inl (.inl upd_same), small6 (by rw [List.length_reverse]; omega), ?_⟩
    have b6 : But l (upd H4 p5 (.tup zs.reverse)) (upd (upd H4 p5 (.tup zs.reverse)) l (.lst (vs' ++ zs.reverse))) := But.upd
    have t6 := b6.tups (s45 _ _ el2)
    have t46 := s45.tups.trans t6
    refine ⟨_, acc ++ ψ.side0, _, st' ++ ψ.parts.reverse, _, rfl, But.same nlH (sm2.trans s45) b6, b6 _ _ dl (s45 _ _ ed2), hA2.mono t46, upd_same, ?_, ?_, ?_, ?_⟩
    · rw [List.map_append, List.map_reverse]
      exact (TmAll.mono t46 _ _ hT2).app (TmAll.mono (s5.tups.trans t6) _ _ hz).rev
    · rw [List.reverse_append, List.reverse_reverse, List.flatMap_append, List.append_assoc, ← List.append_assoc ψ.side0, ← sides_parts, ← ei, List.reverse_append]
      rfl
    · rw [List.length_append, cntS_app, cntS_rev]; omega
    · rw [cntS_app, cntS_app, cntS_rev, ez]; omega
  · have hv : vs = [] := by
      cases vs with
      | nil => rfl
      | cons x r => exact absurd rfl c
    subst hv
    have hs : st = [] := by
      cases st with
      | nil => rfl
      | cons x r => cases hT
    subst hs
    have ei : acc ++ [] = φ.sides := ei
    rw [List.append_nil] at ei
    exact ⟨_, rfl, q d xs H' sm nd' ed (by rw [← ei]; exact hA)⟩
/-! ### free_variables -/
def spFv : Sp := fun vs H Q _ => ∃ (v : V) (φ : Fm) (xs : List Str), vs = [v] ∧ TmAt H v φ.ter ∧ fmZ φ ∧ φ.cnt2 ≤ 1000 ∧ φ.high ≤ 100 ∧ φ.fv [] [] = xs.map Sum.inr ∧ xs.length < 64 ∧ ∀ p ys H', Same H H' → H p = none → H' p = some (.lst (ys.map V.str)) → ys.Perm xs → sortedS ys = true → Q (.ref p) H'
theorem sc_fv : FnScope ["formula"] ["formula"] (defScope s_free_variables) := ⟨rfl, rfl, rfl, by decide +kernel, rfl, by decide +kernel, by decide +kernel⟩
theorem ok_fv {f fF : Addr} {fd dF : FuncData} (D : Df K mg "free_variables" s_free_variables ["formula"] f fd) (DF : Df K mg "first_free_variables" s_first_free_variables ["formula"] fF dF) (GF : FnOk P w K mg base CX0 3 fF dF ["formula"] spFfv) (m_sorted : mg "sorted" = none) : FnOk P w K mg base CX0 4 f fd ["formula"] spFv := by
  refine D.F.ok sc_fv (fun vs H Q E h => ?_) (fun cdv A outer s H vs Q E hr h => ?_)
  · obtain ⟨v, φ, xs, rfl, _⟩ := h; rfl
  obtain ⟨v, φ, xs, rfl, hv, hz, hc, hh, ex, lx, q⟩ := h
  refine ⟨_, (pss_one (ps_ret (pe_callB cr_sortedS (by rfl) m_sorted (by decide +kernel) (pa_cons (pe_call GF hr (by rfl) DF.m DF.F.kp DF.b .nil pass0 (pa_cons (pv 0) pa_nil)) pa_nil)))), ?_⟩
  refine ⟨_, rfl, v, φ, rfl, hv, hz, hc, hh, fun p H1 s1 np ep => ?_⟩
  refine ⟨p, xs, rfl, .inl (.inl ?_), lx, fun ys p2 hp hs np2 => ?_⟩
  · rw [ep, ex, List.map_map]; rfl
  · have s2 := same_new np2 (.lst (ys.map V.str))
    exact q p2 ys _ (s1.trans s2) (s1.free np2) upd_same hp hs
/-! ### add_functions, add_literal -/
def entIn (ws : List Str) (e : Ent) : Prop := (e.2.1 = false ∧ symOf ws e.1 e.2.2) ∨ (e.2.1 = true ∧ preOf ws e.1 e.2.2)
def conS (ws : List Str) (l : List Ent) : Prop := ∀ e ∈ l, entIn ws e
theorem at_uni {ws : List Str} (nd : ws.Nodup) {i j : Nat} {x : Str} (h1 : ws[i]? = some x) (h2 : ws[j]? = some x) : i = j := by
  exact (List.getElem?_inj (List.getElem?_eq_some_iff.mp h1).1 nd).mp (h1.trans h2.symm)
theorem entIn_uni {ws : List Str} (W : Words ws) {x : Str} {b c : Bool} {n m : Nat} (h1 : entIn ws (x, b, n)) (h2 : entIn ws (x, c, m)) : b = c ∧ n = m := by
  rcases h1 with ⟨e1, i, hi, wi, ni⟩ | ⟨e1, ni, wi⟩ <;> rcases h2 with ⟨e2, j, hj, wj, nj⟩ | ⟨e2, nj, wj⟩ <;> have z := at_uni W.nd wi wj
  · have ni : n = i - 2 := ni
    have nj : m = j - 2 := nj
    exact ⟨e1.trans e2.symm, by omega⟩
  · have nj : m < 3 := nj
    have z : i = 6 + m := z
    omega
  · have ni : n < 3 := ni
    have z : 6 + n = j := z
    omega
  · have z : 6 + n = 6 + m := z
    exact ⟨e1.trans e2.symm, by omega⟩
theorem entIn_word {ws : List Str} {e : Ent} (h : entIn ws e) : e.1 ∈ ws ∧ e.2.2 ≤ 3 := by
  rcases h with ⟨_, i, hi, wi, ni⟩ | ⟨_, ni, wi⟩
  · exact ⟨List.mem_of_getElem? wi, by omega⟩
  · exact ⟨List.mem_of_getElem? wi, by omega⟩
theorem due_ok {ws : List Str} (W : Words ws) {l : List Ent} (hl : conS ws l) {x : Str} {b : Bool} {n : Nat} (h : entIn ws (x, b, n)) : due l x b n = .ok := by
  have n3 : n ≤ 3 := (entIn_word h).2
  unfold due
  rw [if_neg (by omega)]
  cases z : entOf l x with
  | none => rfl
  | some e =>
    obtain ⟨h1, h2⟩ := ent_some z
    obtain ⟨y, c, m⟩ := e
    have h2 : y = x := h2
    subst h2
    obtain ⟨e1, e2⟩ := entIn_uni W (hl _ h1) h
    show (if c = b then (if m = n then Due.ok else .arity m) else .kind) = _
    rw [if_pos e1, if_pos e2]
theorem conS_add {ws : List Str} {l : List Ent} (hl : conS ws l) {x : Str} {b : Bool} {n : Nat} (h : entIn ws (x, b, n)) : conS ws (addE l x b n) := fun e he => by
  unfold addE at he
  cases z : entOf l x with
  | none =>
    rw [z] at he
    rcases List.mem_append.mp he with he | he
    · exact hl e he
    · cases List.mem_singleton.mp he; exact h
  | some e' => rw [z] at he; exact hl e he
theorem nodup_le {xs ws : List Str} : xs.Nodup → (∀ x ∈ xs, x ∈ ws) → xs.length ≤ ws.length := by
  induction xs generalizing ws with
  | nil => exact fun _ _ => Nat.zero_le _
  | cons a r ih =>
    intro nd h
    have nd := List.nodup_cons.mp nd
    have ha := h a List.mem_cons_self
    have := ih (ws := ws.erase a) nd.2 fun x hx => (List.mem_erase_of_ne (fun z : x = a => nd.1 (by rw [← z]; exact hx))).mpr (h x (List.mem_cons_of_mem _ hx))
    rw [List.length_erase_of_mem ha] at this
    have lp := List.length_pos_of_mem ha
    show r.length + 1 ≤ _
    omega
theorem con_len {ws : List Str} {l : List Ent} (h9 : ws.length = 9) (hl : conS ws l) (nd : (l.map (·.1)).Nodup) : l.length ≤ 9 := by
  have := nodup_le nd (ws := ws) fun x hx => by
    obtain ⟨e, he, rfl⟩ := List.mem_map.mp hx
    exact (entIn_word (hl e he)).1
  rw [List.length_map] at this
  omega
/-- the signature at p, with l of the words' symbols -/
structure Sg (C : Addr) (H : Hp) (p dk da : Addr) (ws : List Str) (l : List Ent) : Prop where
  S : SigAt C H p dk da l
  con : conS ws l
def addP (l : List Ent) (ps : List Pr) : List Ent := ps.foldl (fun l p => addE l p.1 false p.2) l
theorem addP_app (l : List Ent) (a b : List Pr) : addP l (a ++ b) = addP (addP l a) b := List.foldl_append
theorem add_in {C CL CK CA p dk da : Addr} {H : Hp} {ws : List Str} {l : List Ent} {x : Str} {b : Bool} {n : Nat} {Q : VK} {E : XK} (W : Words ws) (h9 : ws.length = 9) (G : Sg C H p dk da ws l) (h : entIn ws (x, b, n)) (q : ∀ H', Sg C H' p dk da ws (addE l x b n) → But2 dk da H H' → Q .non H') : AddIn CL CK CA C p dk da l x b n H Q E := by
  have l9 := con_len h9 G.con G.S.nd
  obtain ⟨hx, n3⟩ := entIn_word h
  have n3 : n ≤ 3 := n3
  refine ⟨G.S, by omega, (W.ok x hx).len, by omega, .inr ⟨fun z => W.res x hx (by rw [z]; decide +kernel), ?_⟩⟩
  rw [due_ok W G.con h]
  exact fun H' S' b' => q H' ⟨S', conS_add G.con h⟩ b'
theorem But2.tups {d e : Addr} {H H' : Hp} {xs ys : List (Key × V)} (b : But2 d e H H') (h1 : H d = some (.dK xs)) (h2 : H e = some (.dK ys)) : Tups H H' := fun c zs h => b c _ (ne_of h h1 (by intro z; cases z)) (ne_of h h2 (by intro z; cases z)) h
theorem But2.trans {d e : Addr} {H H1 H2 : Hp} (a : But2 d e H H1) (b : But2 d e H1 H2) : But2 d e H H2 := fun c o n m h => b c o n m (a c o n m h)
theorem _root_.L2.Same.but2 {d e : Addr} {H H' : Hp} (a : Same H H') : But2 d e H H' := fun c o _ _ h => a c o h
theorem Sg.tups {C : Addr} {H H' : Hp} {p dk da : Addr} {ws : List Str} {l : List Ent} (G : Sg C H p dk da ws l) (b : But2 dk da H H') : Tups H H' := b.tups G.S.ka G.S.aa
theorem Sg.same {C : Addr} {H H' : Hp} {p dk da : Addr} {ws : List Str} {l : List Ent} (G : Sg C H p dk da ws l) (m : Same H H') : Sg C H' p dk da ws l := ⟨G.S.same m, G.con⟩
def spAF (C : Addr) (n : Nat) : Sp := fun vs H Q _ => ∃ (p dk da a : Addr) (ws : List Str) (l : List Ent) (xs : List V) (ts : List Ter) (U : Key → Prop), vs = [.ref p, .ref a] ∧ Words ws ∧ ws.length = 9 ∧ Sg C H p dk da ws l ∧ H a = some (.tup xs) ∧ TmAll H xs ts ∧ Ter.wfs (symOf ws) U ts ∧ Ter.nests ts < n ∧
  ∀ H', Sg C H' p dk da ws (addP l (Ter.symss ts)) → But2 dk da H H' → Q .non H'
theorem sc_addfs : FnScope ["signature", "terms", "term"] ["signature", "terms"] (defScope s_add_functions) := ⟨rfl, rfl, rfl, by decide +kernel, rfl, by decide +kernel, by decide +kernel⟩
theorem symss_take {ts : List Ter} {i : Nat} {t : Ter} (h : ts[i]? = some t) : Ter.symss (ts.take (i + 1)) = Ter.symss (ts.take i) ++ t.syms := by
  rw [List.take_add_one, h]
  show Ter.symss (ts.take i ++ [t]) = _
  rw [symss_app]
  show _ ++ (t.syms ++ []) = _
  rw [List.append_nil]
theorem ok_addfs1 {f C CL CK CA fV fM : Addr} {fd dV dM : FuncData} {n : Nat} (D : Df K mg "add_functions" s_add_functions ["signature", "terms"] f fd) (T : SigT K mg C) (DV : Df K mg "is_variable" s_is_variable ["term"] fV dV) (GV : FnOk P w K mg base CX0 1 fV dV ["term"] spIsVar) (m_len : mg "len" = none)
    (M : Meth K C "add_function" fM) (B : Binds K dM ["self", "symbol", "arity"] []) (GM : FnOk P w K mg base (L2N.CX P w) 6 fM dM ["self", "symbol", "arity"] (spAddB CL CK CA C false)) (G : FnOk P w K mg base (L2N.CX P w) (n + 6) f fd ["signature", "terms"] (spAF C n)) :
    FnOk P w K mg base (L2N.CX P w) (n + 6 + 1) f fd ["signature", "terms"] (spAF C (n + 1)) := by
  refine D.F.okN sc_addfs (fun vs H Q E h => ?_) (fun cdv A outer s H vs Q E hr h => ?_)
  · obtain ⟨p, dk, da, a, ws, l, xs, ts, U, rfl, _⟩ := h; rfl
  obtain ⟨p, dk, da, a, ws, l, xs, ts, U, rfl, W, h9, G0, ea, hs, hw, hn, q⟩ := h
  have nd := sc_addfs.nd
  have r1 : Room 1 _ := hr.mono (by omega)
  have r4 : Room 6 _ := hr.mono (by omega)
  refine ⟨_, (pss_one (ps_for (passes_of rfl) rfl (pi_tup (pv 1)) (pg_name (i := 2) nd rfl (.inl rfl))
      (pss_one (ps_if (pt_not (pt_val (pe_call GV r1 (by rfl) DV.m DV.F.kp DV.b .nil pass0 (pa_cons (pv 2) pa_nil))))
      (pss_cons (ps_expr (pe_methE (E := fun _ => E0) (pv 0) T.cl M GM r4 B passLN (pa_cons (pe_ix ix_tup (pv 2) pe_int (fun _ _ => rfl)) (pa_cons (pe_op op_sub (pe_callB call_len_seq (by rfl) m_len PySem.boot_len (pa_cons (pv 2) pa_nil)) pe_int) pa_nil))))
    (pss_one (ps_expr (pe_callS (E := fun _ => E0) G hr (by rfl) D.m D.F.kp D.b passLN (pa_cons (pv 0) (pa_cons (pe_slice sl_1 (pv 2) (po_some pe_int) po_none) pa_nil))))))
      pss_nil)))), ?_⟩
  refine ⟨_, rfl, a, rfl, ⟨_, .inl (.inl ea)⟩, for_tup (K := K) (xs := xs) (fun i σ H2 => ∃ y, σ = [some (.ref p), some (.ref a), y] ∧ Sg C H2 p dk da ws (addP l (Ter.symss (ts.take i))) ∧ But2 dk da H H2)
    ⟨none, rfl, G0, fun c o _ _ h => h⟩ (fun i σ H2 _ h => ?_) (fun i x σ H2 hx h => ?_) (fun σ H2 h => ?_)⟩
  · obtain ⟨_, _, _, b⟩ := h
    exact .inl (.inl (G0.tups b _ _ ea))
  · obtain ⟨y, rfl, G2, b2⟩ := h
    obtain ⟨t, et, hxt⟩ := hs.get hx
    have hx2 := TmAt.mono (G0.tups b2) _ _ hxt
    have hwt := wfs_get hw et
    have n1 := nest_le_of et
    have tk := symss_take et
    refine ⟨_, rfl, x, t, rfl, hx2, _, rfl, ?_⟩
    cases hx2 with
    | int i => exact iteF ⟨_, rfl, by rw [tk]; show Sg C H2 p dk da ws (addP l (_ ++ [])); rw [List.append_nil]; exact G2, b2⟩
    | str i => exact iteF ⟨_, rfl, by rw [tk]; show Sg C H2 p dk da ws (addP l (_ ++ [])); rw [List.append_nil]; exact G2, b2⟩
    | @ap c g zs as e hz =>
      refine iteT ?_
      obtain ⟨dx, hp⟩ := G2.S.ob
      have lz := hz.len
      refine ⟨_, rfl, p, dx, _, rfl, hp, flds_no _ _ (by decide +kernel) (by decide +kernel), _, rfl, c, _, 0, _, rfl, rfl, .inl (.inl e), head_at, _, rfl, c, _, rfl, .inr (.inl (.inl e)), _, _, rfl, rfl, p, dk, da, _, g, as.length, ?_, add_in W h9 G2 (.inl ⟨rfl, hwt.1⟩) fun H3 G3 b3 => ?_⟩
      · show [V.ref p, V.str g, V.int (((zs.length + 1 : Nat) : Int) - 1)] = _
        rw [lz, show ((as.length + 1 : Nat) : Int) - 1 = (as.length : Nat) by omega]
      have t3 := G2.tups b3
      refine ⟨_, rfl, _, rfl, 1, rfl, c, .str g, zs, rfl, rfl, rfl, .inl (.inl (t3 _ _ e)), fun r nr => ?_⟩
      have s4 := same_new nr (.tup zs)
      have hn1 : Ter.nests as + 1 ≤ Ter.nests ts := n1
      refine ⟨p, dk, da, r, ws, _, zs, as, U, rfl, W, h9, G3.same s4, upd_same, TmAll.mono (t3.trans s4.tups) _ _ hz, hwt.2, by omega, fun H5 G5 b5 => ?_⟩
      refine ⟨_, rfl, ?_, b2.trans (b3.trans (s4.but2.trans b5))⟩
      rw [tk, addP_app]
      exact G5
  · obtain ⟨y, rfl, G2, b2⟩ := h
    rw [hs.len, List.take_length] at G2
    exact q H2 G2 b2
theorem ok_addfs {f C CL CK CA fV fM : Addr} {fd dV dM : FuncData} (D : Df K mg "add_functions" s_add_functions ["signature", "terms"] f fd) (T : SigT K mg C) (DV : Df K mg "is_variable" s_is_variable ["term"] fV dV) (GV : FnOk P w K mg base CX0 1 fV dV ["term"] spIsVar) (m_len : mg "len" = none)
    (M : Meth K C "add_function" fM) (B : Binds K dM ["self", "symbol", "arity"] []) (GM : FnOk P w K mg base (L2N.CX P w) 6 fM dM ["self", "symbol", "arity"] (spAddB CL CK CA C false)) :
    ∀ n : Nat, FnOk P w K mg base (L2N.CX P w) (n + 6) f fd ["signature", "terms"] (spAF C n)
  | 0 => by
    have no : ∀ vs H Q E, ¬ spAF C 0 vs H Q E := fun vs H Q E h => by
      obtain ⟨p, dk, da, a, ws, l, xs, ts, U, _, _, _, _, _, _, _, hn, _⟩ := h
      omega
    exact ⟨fun vs H Q E h => absurd h (no vs H Q E), fun A outer s H args us vs Q E _ _ _ _ h => absurd h (no vs H Q E)⟩
  | n + 1 => ok_addfs1 D T DV GV m_len M B GM (ok_addfs D T DV GV m_len M B GM n)
end

end K15
namespace K15
open PySem PySem.Spec PyProof.Rows L2 Own HT
-- bumped
section
variable {P : Program} {w : World} {K : PySem.W.Frag} {mg : Str → Option Value} {base : Heap}
/-! ### add_literal -/
theorem isT_true : isTrueT trueT = true := by decide +kernel
theorem isT_ap {f : Str} {as : List Ter} (h : ¬ f = "true") : isTrueT (.ap f as) = false := by
  show ((f == "true") && _) = false
  rw [beq_eq_false_iff_ne.mpr h, Bool.false_and]
theorem isT_var (k : Key) : isTrueT (.var k) = false := by cases k <;> rfl
theorem sym_ne {ws : List Str} (W : Words ws) {f : Str} (h : f ∈ ws) : ¬ f = "true" := fun z => W.res f h (by rw [z]; decide +kernel)
theorem sym_in {ws : List Str} {f : Str} {n : Nat} (h : symOf ws f n) : f ∈ ws := by
  obtain ⟨i, _, e, _⟩ := h
  exact List.mem_of_getElem? e
theorem isT_wf {ws : List Str} (W : Words ws) {U : Key → Prop} : ∀ {t : Ter}, t.wf (symOf ws) U → isTrueT t = false
  | .var k, _ => isT_var k
  | .ap f as, h => isT_ap (sym_ne W (sym_in h.1))
def addL (l : List Ent) (x : Lit) : List Ent := if isTrueT x.2.2 = true then (match x.2.1 with
  | .ap f as => if isTrueT (.ap f as) = true then l else addP (addE l f true as.length) (Ter.symss as)
  | .var _ => l) else addP l (Ter.symss [x.2.1, x.2.2])
def addLs (l : List Ent) (c : List Lit) : List Ent := c.foldl addL l
theorem lit_sh {ws : List Str} (W : Words ws) {U : Key → Prop} (hU : ∀ k, U k → shKey k) {l r : Ter} (h : litOk ws U l r) : r.wf shSym shKey ∧ l.wf shSym shKey := by
  rcases h.2.2 with ⟨rfl, hat⟩ | ⟨h1, h2⟩
  · refine ⟨true_sh, ?_⟩
    rcases hat with rfl | ⟨x, as, rfl, hp, ha⟩
    · exact true_sh
    · exact ⟨word_sh (n := as.length) W (List.mem_of_getElem? hp.2), wfs_mono (sym_sh W) hU _ ha⟩
  · exact ⟨wf_mono (sym_sh W) hU _ h2, wf_mono (sym_sh W) hU _ h1⟩
def spAL (C : Addr) : Sp := fun vs H Q _ => ∃ (p dk da : Addr) (v : V) (ws : List Str) (l : List Ent) (x : Lit) (U : Key → Prop), vs = [.ref p, v] ∧ Words ws ∧ ws.length = 9 ∧ Sg C H p dk da ws l ∧ LitAt H v x ∧ litOk ws U x.2.1 x.2.2 ∧ (∀ k, U k → shKey k) ∧
  ∀ H', Sg C H' p dk da ws (addL l x) → But2 dk da H H' → Q .non H'
theorem sc_addl : FnScope ["signature", "literal", "_", "left", "right"] ["signature", "literal"] (defScope s_add_literal) := ⟨rfl, rfl, rfl, by decide +kernel, rfl, by decide +kernel, by decide +kernel⟩
theorem ok_addl {f C CL CK CA f2 fM aT : Addr} {fd d2 dM : FuncData} (D : Df K mg "add_literal" s_add_literal ["signature", "literal"] f fd) (T : SigT K mg C) (m_len : mg "len" = none) (gT : mg "TRUE" = some (.ref aT)) (hT : ∀ H, SqT K H aT [.str "true"])
    (M : Meth K C "add_predicate" fM) (B : Binds K dM ["self", "symbol", "arity"] []) (GM : FnOk P w K mg base (L2N.CX P w) 6 fM dM ["self", "symbol", "arity"] (spAddB CL CK CA C true)) (D2 : Df K mg "add_functions" s_add_functions ["signature", "terms"] f2 d2) (G : FnOk P w K mg base (L2N.CX P w) 68 f2 d2 ["signature", "terms"] (spAF C 62)) :
    FnOk P w K mg base (L2N.CX P w) 69 f fd ["signature", "literal"] (spAL C) := by
  refine D.F.okN sc_addl (fun vs H Q E h => ?_) (fun cdv A outer s H vs Q E hr h => ?_)
  · obtain ⟨p, dk, da, v, ws, l, x, U, rfl, _⟩ := h; rfl
  obtain ⟨p, dk, da, v, ws, l, x, U, rfl, W, h9, G0, hx, hl, hU, q⟩ := h
  have nd := sc_addl.nd
  have r4 : Room 6 _ := hr.mono (by decide)
  obtain ⟨shr, shl⟩ := lit_sh W hU hl
  obtain ⟨dx, hp⟩ := G0.S.ob
  refine ⟨_, (pss_cons (ps_asg (pv 1) (pg_tup rfl (pgs_cons (pg_name (i := 2) nd rfl (.inl rfl)) (pgs_cons (pg_name (i := 3) nd rfl (.inl rfl)) (pgs_cons (pg_name (i := 4) nd rfl (.inl rfl)) pgs_nil)))))
    (pss_one (ps_if (pt_cmpR (op_eqD hr.units) (pv 4) (pe_glob (v := .ref aT) (by rfl) gT rfl) (nomark _))
      (pss_cons (ps_expr (pe_methE (E := fun _ => E0) (pv 0) T.cl M GM r4 B passLN (pa_cons (pe_ix ix_tup (pv 3) pe_int (fun _ _ => rfl)) (pa_cons (pe_op op_sub (pe_callB call_len_seq (by rfl) m_len PySem.boot_len (pa_cons (pv 3) pa_nil)) pe_int) pa_nil))))
    (pss_one (ps_expr (pe_callS (E := fun _ => E0) G hr (by rfl) D2.m D2.F.kp D2.b passLN (pa_cons (pv 0) (pa_cons (pe_slice sl_1 (pv 3) (po_some pe_int) po_none) pa_nil))))))
      (pss_one (ps_expr (pe_callS (E := fun _ => E0) G hr (by rfl) D2.m D2.F.kp D2.b passLN (pa_cons (pv 0) (pa_cons (pe_tup (pa_cons (pv 3) (pa_cons (pv 4) pa_nil))) pa_nil)))))))), ?_⟩
  cases hx with
  | @mk e b v1 v2 lt rt ee hlt hrt =>
  have sml : smallT lt := hl.1
  have smr : smallT rt := hl.2.1
  have shr : rt.wf shSym shKey := shr
  have n1 := sml.2
  have n2 := smr.2
  refine ⟨.ref e, rfl, e, _, rfl, .inl (.inl ee), rfl, _, _, rfl, _, _, rfl, _, _, rfl, rfl, ?_⟩
  refine ⟨_, rfl, rt.dat, trueT.dat, dp_ter rt v2 hrt, .tup (hT H) (.cons (.str "true") .nil), shaped_ter (sh_fine rt shr) (by omega), by decide +kernel, _, rfl, ?_⟩
  have cond : ∀ {A B : Prop}, (if isTrueT rt = true then A else B) → (if PyData.eqv rt.dat trueT.dat = true then A else B) := fun h => h
  refine cond ?_
  have q : ∀ H', Sg C H' p dk da ws (addL l (b, lt, rt)) → But2 dk da H H' → Q .non H' := q
  rcases hl.2.2 with ⟨er, hat⟩ | ⟨hw1, hw2⟩
  · have er : rt = trueT := er
    subst er
    rw [isT_true]
    refine iteT ?_
    have hat : lt = trueT ∨ atomOk ws U lt := hat
    rcases hat with rfl | ⟨g, as, rfl, hpre, hwa⟩
    · cases hlt with
      | @ap c _ xs _ ec hs =>
      cases hs
      refine ⟨_, rfl, p, dx, _, rfl, hp, flds_no _ _ (by decide +kernel) (by decide +kernel), _, rfl, c, _, 0, _, rfl, rfl, .inl (.inl ec), head_at, _, rfl, c, _, rfl, .inr (.inl (.inl ec)), _, _, rfl, rfl, p, dk, da, l, "true", 0, rfl, G0.S, by have := con_len h9 G0.con G0.S.nd; omega, by decide +kernel, by decide, .inl ⟨rfl, by decide, ?_⟩⟩
      refine ⟨_, rfl, _, rfl, 1, rfl, c, .str "true", [], rfl, rfl, rfl, .inl (.inl ec), fun r nr => ?_⟩
      have s4 := same_new nr (.tup [])
      refine ⟨p, dk, da, r, ws, l, [], [], U, rfl, W, h9, G0.same s4, upd_same, .nil, trivial, by decide, fun H5 G5 b5 => q H5 ?_ (s4.but2.trans b5)⟩
      have : addL l (b, trueT, trueT) = l := by
        unfold addL
        rw [if_pos isT_true]
        show (if isTrueT trueT = true then l else _) = l
        rw [if_pos isT_true]
      rw [this]
      exact G5
    · have gne := sym_ne W (List.mem_of_getElem? hpre.2)
      cases hlt with
      | @ap c _ xs _ ec hs =>
      have lz := hs.len
      have n1 : Ter.nests as + 1 ≤ 20 := n1
      refine ⟨_, rfl, p, dx, _, rfl, hp, flds_no _ _ (by decide +kernel) (by decide +kernel), _, rfl, c, _, 0, _, rfl, rfl, .inl (.inl ec), head_at, _, rfl, c, _, rfl, .inr (.inl (.inl ec)), _, _, rfl, rfl, p, dk, da, l, g, as.length, ?_, add_in W h9 G0 (.inr ⟨rfl, hpre⟩) fun H3 G3 b3 => ?_⟩
      · show [V.ref p, V.str g, V.int (((xs.length + 1 : Nat) : Int) - 1)] = _
        rw [lz, show ((as.length + 1 : Nat) : Int) - 1 = (as.length : Nat) by omega]
      have t3 := G0.tups b3
      refine ⟨_, rfl, _, rfl, 1, rfl, c, .str g, xs, rfl, rfl, rfl, .inl (.inl (t3 _ _ ec)), fun r nr => ?_⟩
      have s4 := same_new nr (.tup xs)
      refine ⟨p, dk, da, r, ws, _, xs, as, U, rfl, W, h9, G3.same s4, upd_same, TmAll.mono (t3.trans s4.tups) _ _ hs, hwa, by omega, fun H5 G5 b5 => q H5 ?_ (b3.trans (s4.but2.trans b5))⟩
      have : addL l (b, .ap g as, trueT) = addP (addE l g true as.length) (Ter.symss as) := by
        unfold addL
        rw [if_pos isT_true]
        show (if isTrueT (.ap g as) = true then l else _) = _
        rw [isT_ap gne]
        exact if_neg Bool.false_ne_true
      rw [this]
      exact G5
  · have hw1 : lt.wf (symOf ws) U := hw1
    have hw2 : rt.wf (symOf ws) U := hw2
    have z := isT_wf W hw2
    rw [z]
    refine iteF ?_
    refine ⟨_, rfl, _, rfl, _, rfl, by show 2 ≤ sizeLine; decide, fun r nr => ?_⟩
    have s4 := same_new nr (.tup [v1, v2])
    refine ⟨p, dk, da, r, ws, l, [v1, v2], [lt, rt], U, rfl, W, h9, G0.same s4, upd_same, .cons (TmAt.mono s4.tups _ _ hlt) (.cons (TmAt.mono s4.tups _ _ hrt) .nil), ⟨hw1, hw2, trivial⟩, by show max lt.nest (max rt.nest 0) < 62; omega, fun H5 G5 b5 => q H5 ?_ (s4.but2.trans b5)⟩
    have : addL l (b, lt, rt) = addP l (Ter.symss [lt, rt]) := by
      unfold addL
      show (if isTrueT rt = true then _ else _) = _
      rw [z]
      exact if_neg Bool.false_ne_true
    rw [this]
    exact G5
/-! ### formula_signature, clause_signature -/
theorem LitAll.getL {H : Hp} : ∀ {vs : List V} {c : List Lit} {i : Nat} {v : V}, LitAll H vs c → vs[i]? = some v → ∃ x, c[i]? = some x ∧ LitAt H v x
  | _, _, _, _, .nil, h => by cases h
  | _, _, 0, _, .cons a r, h => by
    cases (show some _ = some _ from h)
    exact ⟨_, rfl, a⟩
  | _, _, i + 1, _, .cons a r, h => LitAll.getL (i := i) r h
theorem addLs_take {l : List Ent} {c : List Lit} {i : Nat} {x : Lit} (h : c[i]? = some x) : addLs l (c.take (i + 1)) = addL (addLs l (c.take i)) x := by
  unfold addLs
  rw [List.take_add_one, h]
  show (c.take i ++ [x]).foldl addL l = _
  rw [List.foldl_append]
  rfl
theorem addLs_app (l : List Ent) (a b : List Lit) : addLs l (a ++ b) = addLs (addLs l a) b := List.foldl_append
theorem sides_ok {ws : List Str} {U : Key → Prop} {S : Str → Prop} : ∀ {φ : Fm}, φ.lits (litOk ws U) S → ∀ x ∈ φ.sides, litOk ws U x.2.1 x.2.2
  | .tt _, _, _, h => by cases h
  | .eq l r, h, x, hx => by cases List.mem_singleton.mp hx; exact h
  | .neg f, h, x, hx => sides_ok (φ := f) h x hx
  | .bin _ f g, h, x, hx => (List.mem_append.mp hx).elim (sides_ok (φ := f) h.1 x) (sides_ok (φ := g) h.2 x)
  | .qu _ _ f, h, x, hx => sides_ok (φ := f) h.2 x hx
theorem num_sh2 (k : Key) (h : numVar k) : shKey k := num_sh k h
/-- a signature is made: what else there was stays -/
def SigQ (C : Addr) (ws : List Str) (H : Hp) (l : List Ent) (Q : VK) : Prop := ∀ p dk da H', Same H H' → Sg C H' p dk da ws l → Q (.ref p) H'
def spFS (C : Addr) : Sp := fun vs H Q _ => ∃ (a : Addr) (xs : List V) (φs : List Fm) (ws : List Str), vs = [.ref a] ∧ H a = some (.lst xs) ∧ TmAll H xs (φs.map Fm.ter) ∧ Words ws ∧ ws.length = 9 ∧ (∀ φ ∈ φs, φ.lits (litOk ws nameVar) fmStr ∧ φ.cnt2 ≤ 1000) ∧ SigQ C ws H (addLs [] (φs.flatMap Fm.sides)) Q
theorem sc_fsig : FnScope ["formulas", "signature", "formula", "literal"] ["formulas"] (defScope s_formula_signature) := ⟨rfl, rfl, rfl, by decide +kernel, rfl, by decide +kernel, by decide +kernel⟩
theorem ok_fsig {f C fI fL fF : Addr} {fd dI dL dF : FuncData} (D : Df K mg "formula_signature" s_formula_signature ["formulas"] f fd) (T : SigT K mg C) (MS : Mk K C fI) (BI : Binds K dI ["self"] []) (GI : FnOk P w K mg base CX0 1 fI dI ["self"] (spSInit C))
    (DF : Df K mg "formula_literals" s_formula_literals ["formula"] fF dF) (GF : FnOk P w K mg base CX0 2 fF dF ["formula"] spFl) (DL : Df K mg "add_literal" s_add_literal ["signature", "literal"] fL dL) (GL : FnOk P w K mg base (L2N.CX P w) 69 fL dL ["signature", "literal"] (spAL C)) :
    FnOk P w K mg base (L2N.CX P w) 70 f fd ["formulas"] (spFS C) := by
  refine D.F.okN sc_fsig (fun vs H Q E h => ?_) (fun cdv A outer s H vs Q E hr h => ?_)
  · obtain ⟨a, xs, φs, ws, rfl, _⟩ := h; rfl
  obtain ⟨a, xs, φs, ws, rfl, ea, hT, W, h9, ok, q⟩ := h
  have nd := sc_fsig.nd
  have r2 : Room 2 _ := hr.mono (by decide)
  refine ⟨_, (pss_cons (ps_set (i := 1) nd rfl (.inl rfl) (pe_make0 MS GI r2 rfl T.gC BI .nil pass0))
    (pss_cons (ps_for (passes_of rfl) rfl (pi_list (pv 0)) (pg_name (i := 2) nd rfl (.inl rfl))
      (pss_one (ps_for (passes_of rfl) rfl (pi_list (pe_call GF r2 (by rfl) DF.m DF.F.kp DF.b .nil pass0 (pa_cons (pv 2) pa_nil))) (pg_name (i := 3) nd rfl (.inl rfl))
      (pss_one (ps_expr (pe_callS (E := fun _ => E0) GL hr (by rfl) DL.m DL.F.kp DL.b passLN (pa_cons (pv 1) (pa_cons (pv 3) pa_nil))))))))
    (pss_one (ps_ret (pv 1))))), ?_⟩
  intro p dx np ndx nex
  refine ⟨p, dx, rfl, upd_same, fun dk da H1 fk fa S0 kp => ⟨rfl, ?_⟩⟩
  have s1' : Same H (upd (upd H dx (.own p)) p (.ins C dx [])) := fun b o e => by rw [upd_ne (ne_of_none e np), upd_ne (ne_of_none e ndx)]; exact e
  have s1 : Same H H1 := fun b o e => kp b o (ne_of_none e np) (s1' _ _ e)
  have fk := s1'.free fk
  have fa := s1'.free fa
  have fin : ∀ {H2 : Hp}, But2 dk da H H2 → Same H H2 := fun b c o h => b c o (ne_of_none h fk) (ne_of_none h fa) h
  refine ⟨_, rfl, a, rfl, ⟨_, .inl (.inl (s1 _ _ ea))⟩, for_list (K := K) (xs := xs) (fun i σ H2 => ∃ y2 y3, σ = [some (.ref a), some (.ref p), y2, y3] ∧ But2 dk da H H2 ∧ Sg C H2 p dk da ws (addLs [] ((φs.take i).flatMap Fm.sides)))
    ⟨none, none, rfl, s1.but2, ⟨S0, fun e h => by cases h⟩⟩ (fun i σ H2 _ h => ?_) (fun i x σ H2 hx h => ?_) (fun σ H2 h => ?_)⟩
  · obtain ⟨_, _, _, b, _⟩ := h
    exact .inl (.inl (fin b _ _ ea))
  · obtain ⟨y2, y3, rfl, b2, G2⟩ := h
    obtain ⟨t, et, hxt⟩ := hT.get hx
    rw [List.getElem?_map] at et
    obtain ⟨φ, eφ, rfl⟩ : ∃ φ, φs[i]? = some φ ∧ φ.ter = t := Option.map_eq_some_iff.mp et
    obtain ⟨okφ, cφ⟩ := ok φ (List.mem_of_getElem? eφ)
    refine ⟨_, rfl, x, φ, rfl, TmAt.mono (fin b2).tups _ _ hxt, cφ, fun r zs H3 s3 nr er hz => ?_⟩
    have lz := hz.len
    have G3 := G2.same s3
    refine ⟨r, rfl, ⟨_, .inl (.inl er)⟩, for_list (K := K) (xs := zs) (fun j σ H4 => ∃ y3, σ = [some (.ref a), some (.ref p), some x, y3] ∧ But2 dk da H3 H4 ∧ Sg C H4 p dk da ws (addLs (addLs [] ((φs.take i).flatMap Fm.sides)) (φ.sides.take j)))
      ⟨y3, rfl, fun c o _ _ h => h, G3⟩ (fun j σ H4 _ h => ?_) (fun j u σ H4 hu h => ?_) (fun σ H4 h => ?_)⟩
    · obtain ⟨_, _, b, _⟩ := h
      exact .inl (.inl (b _ _ (ne_of er G3.S.ka (by intro z; cases z)) (ne_of er G3.S.aa (by intro z; cases z)) er))
    · obtain ⟨y3, rfl, b4, G4⟩ := h
      obtain ⟨lt, el, hlt⟩ := LitAll.getL hz hu
      refine ⟨_, rfl, _, rfl, p, dk, da, u, ws, _, lt, nameVar, rfl, W, h9, G4, hlt.mono (G3.tups b4), sides_ok okφ lt (List.mem_of_getElem? el), name_sh, fun H5 G5 b5 => ?_⟩
      refine ⟨_, rfl, b4.trans b5, ?_⟩
      rw [addLs_take el]
      exact G5
    · obtain ⟨y3, rfl, b4, G4⟩ := h
      rw [lz, List.take_length] at G4
      refine ⟨_, _, rfl, b2.trans (s3.but2.trans b4), ?_⟩
      rw [List.take_add_one, eφ, List.flatMap_append]
      show Sg C H4 p dk da ws (addLs [] (_ ++ (φ.sides ++ [])))
      rw [List.append_nil, addLs_app]
      exact G4
  · obtain ⟨y2, y3, rfl, b2, G2⟩ := h
    have lx := hT.len
    rw [List.length_map] at lx
    rw [lx, List.take_length] at G2
    exact ⟨_, rfl, q p dk da H2 (fin b2) G2⟩
inductive ClAll (H : Hp) : List V → List (List Lit) → Prop
  | nil : ClAll H [] []
  | cons {a : Addr} {xs vs : List V} {c : List Lit} {cs : List (List Lit)} : H a = some (.tup xs) → LitAll H xs c → ClAll H vs cs → ClAll H (.ref a :: vs) (c :: cs)
theorem ClAll.mono {H H' : Hp} (m : Tups H H') : ∀ {vs : List V} {cs : List (List Lit)}, ClAll H vs cs → ClAll H' vs cs
  | _, _, .nil => .nil
  | _, _, .cons e a r => .cons (m _ _ e) (a.mono m) (r.mono m)
theorem ClAll.len {H : Hp} : ∀ {vs : List V} {cs : List (List Lit)}, ClAll H vs cs → vs.length = cs.length
  | _, _, .nil => rfl
  | _, _, .cons _ _ r => congrArg (· + 1) r.len
theorem ClAll.app {H : Hp} : ∀ {vs us : List V} {cs ds : List (List Lit)}, ClAll H vs cs → ClAll H us ds → ClAll H (vs ++ us) (cs ++ ds)
  | _, _, _, _, .nil, h => h
  | _, _, _, _, .cons e a r, h => .cons e a (r.app h)
theorem ClAll.get {H : Hp} : ∀ {vs : List V} {cs : List (List Lit)} {i : Nat} {v : V}, ClAll H vs cs → vs[i]? = some v → ∃ a xs c, v = .ref a ∧ cs[i]? = some c ∧ H a = some (.tup xs) ∧ LitAll H xs c
  | _, _, _, _, .nil, h => by cases h
  | _, _, 0, _, .cons e a r, h => by
    cases (show some _ = some _ from h)
    exact ⟨_, _, _, rfl, rfl, e, a⟩
  | _, _, i + 1, _, .cons e a r, h => r.get (i := i) h
def spCS (C : Addr) : Sp := fun vs H Q _ => ∃ (a : Addr) (xs : List V) (cs : List (List Lit)) (ws : List Str), vs = [.ref a] ∧ H a = some (.lst xs) ∧ ClAll H xs cs ∧ Words ws ∧ ws.length = 9 ∧ (∀ c ∈ cs, ∀ x ∈ c, litOk ws numVar x.2.1 x.2.2) ∧ SigQ C ws H (addLs [] cs.flatten) Q
theorem sc_csig : FnScope ["clauses", "signature", "clause", "literal"] ["clauses"] (defScope s_clause_signature) := ⟨rfl, rfl, rfl, by decide +kernel, rfl, by decide +kernel, by decide +kernel⟩
theorem ok_csig {f C fI fL : Addr} {fd dI dL : FuncData} (D : Df K mg "clause_signature" s_clause_signature ["clauses"] f fd) (T : SigT K mg C) (MS : Mk K C fI) (BI : Binds K dI ["self"] []) (GI : FnOk P w K mg base CX0 1 fI dI ["self"] (spSInit C))
    (DL : Df K mg "add_literal" s_add_literal ["signature", "literal"] fL dL) (GL : FnOk P w K mg base (L2N.CX P w) 69 fL dL ["signature", "literal"] (spAL C)) :
    FnOk P w K mg base (L2N.CX P w) 70 f fd ["clauses"] (spCS C) := by
  refine D.F.okN sc_csig (fun vs H Q E h => ?_) (fun cdv A outer s H vs Q E hr h => ?_)
  · obtain ⟨a, xs, cs, ws, rfl, _⟩ := h; rfl
  obtain ⟨a, xs, cs, ws, rfl, ea, hT, W, h9, ok, q⟩ := h
  have nd := sc_csig.nd
  have r2 : Room 2 _ := hr.mono (by decide)
  refine ⟨_, (pss_cons (ps_set (i := 1) nd rfl (.inl rfl) (pe_make0 MS GI r2 rfl T.gC BI .nil pass0))
    (pss_cons (ps_for (passes_of rfl) rfl (pi_list (pv 0)) (pg_name (i := 2) nd rfl (.inl rfl))
      (pss_one (ps_for (passes_of rfl) rfl (pi_tup (pv 2)) (pg_name (i := 3) nd rfl (.inl rfl))
      (pss_one (ps_expr (pe_callS (E := fun _ => E0) GL hr (by rfl) DL.m DL.F.kp DL.b passLN (pa_cons (pv 1) (pa_cons (pv 3) pa_nil))))))))
    (pss_one (ps_ret (pv 1))))), ?_⟩
  intro p dx np ndx nex
  refine ⟨p, dx, rfl, upd_same, fun dk da H1 fk fa S0 kp => ⟨rfl, ?_⟩⟩
  have s1' : Same H (upd (upd H dx (.own p)) p (.ins C dx [])) := fun b o e => by rw [upd_ne (ne_of_none e np), upd_ne (ne_of_none e ndx)]; exact e
  have s1 : Same H H1 := fun b o e => kp b o (ne_of_none e np) (s1' _ _ e)
  have fk := s1'.free fk
  have fa := s1'.free fa
  have fin : ∀ {H2 : Hp}, But2 dk da H H2 → Same H H2 := fun b c o h => b c o (ne_of_none h fk) (ne_of_none h fa) h
  refine ⟨_, rfl, a, rfl, ⟨_, .inl (.inl (s1 _ _ ea))⟩, for_list (K := K) (xs := xs) (fun i σ H2 => ∃ y2 y3, σ = [some (.ref a), some (.ref p), y2, y3] ∧ But2 dk da H H2 ∧ Sg C H2 p dk da ws (addLs [] (cs.take i).flatten))
    ⟨none, none, rfl, s1.but2, ⟨S0, fun e h => by cases h⟩⟩ (fun i σ H2 _ h => ?_) (fun i x σ H2 hx h => ?_) (fun σ H2 h => ?_)⟩
  · obtain ⟨_, _, _, b, _⟩ := h
    exact .inl (.inl (fin b _ _ ea))
  · obtain ⟨y2, y3, rfl, b2, G2⟩ := h
    obtain ⟨r, zs, c, rfl, ec, er, hz⟩ := hT.get hx
    have okc := ok c (List.mem_of_getElem? ec)
    have lz := hz.len
    refine ⟨_, rfl, r, rfl, ⟨_, .inl (.inl (fin b2 _ _ er))⟩, for_tup (K := K) (xs := zs) (fun j σ H4 => ∃ y3, σ = [some (.ref a), some (.ref p), some (.ref r), y3] ∧ But2 dk da H H4 ∧ Sg C H4 p dk da ws (addLs (addLs [] (cs.take i).flatten) (c.take j)))
      ⟨y3, rfl, b2, G2⟩ (fun j σ H4 _ h => ?_) (fun j u σ H4 hu h => ?_) (fun σ H4 h => ?_)⟩
    · obtain ⟨_, _, b, _⟩ := h
      exact .inl (.inl (fin b _ _ er))
    · obtain ⟨y3, rfl, b4, G4⟩ := h
      obtain ⟨lt, el, hlt⟩ := LitAll.getL hz hu
      refine ⟨_, rfl, _, rfl, p, dk, da, u, ws, _, lt, numVar, rfl, W, h9, G4, hlt.mono (fin b4).tups, okc lt (List.mem_of_getElem? el), num_sh, fun H5 G5 b5 => ?_⟩
      refine ⟨_, rfl, b4.trans b5, ?_⟩
      rw [addLs_take el]
      exact G5
    · obtain ⟨y3, rfl, b4, G4⟩ := h
      rw [lz, List.take_length] at G4
      refine ⟨_, _, rfl, b4, ?_⟩
      rw [List.take_add_one, ec, List.flatten_append]
      show Sg C H4 p dk da ws (addLs [] (_ ++ (c ++ [])))
      rw [List.append_nil, addLs_app]
      exact G4
  · obtain ⟨y2, y3, rfl, b2, G2⟩ := h
    rw [hT.len, List.take_length] at G2
    exact ⟨_, rfl, q p dk da H2 (fin b2) G2⟩
end

end K15
namespace K15
open PySem PySem.Spec PyProof.Rows L2 Own HT
section
variable {P : Program} {w : World} {K : PySem.W.Frag} {mg : Str → Option Value} {base : Heap}
/-! ### _law_sides -/
def Fm.tsides : Fm → List (List Lit)
  | .tt _ => []
  | .eq _ _ => []
  | .neg f => [f.sides]
  | .bin _ f g => [f.sides, g.sides]
  | .qu _ _ f => [[], f.sides]
theorem sides_len : ∀ φ : Fm, φ.sides.length ≤ φ.cnt2
  | .tt _ => Nat.zero_le _
  | .eq _ _ => Nat.le_refl _
  | .neg f => Nat.le_succ_of_le (sides_len f)
  | .bin _ f g => by
    have a := sides_len f
    have b := sides_len g
    show (f.sides ++ g.sides).length ≤ f.cnt2 + g.cnt2 + 1
    rw [List.length_append]
    omega
  | .qu _ _ f => Nat.le_succ_of_le (sides_len f)
theorem tsides_at {φ : Fm} (hne : ∀ l r, φ ≠ .eq l r) {i : Nat} {t : Ter} (h : φ.tail[i]? = some t) : ∃ s, (Fm.tsides φ)[i]? = some s ∧ ((∃ k : Key, t = .var k ∧ s = []) ∨ ∃ f : Fm, t = f.ter ∧ s = f.sides ∧ f.high < φ.high ∧ f.cnt2 ≤ φ.cnt2) := by
  cases φ with
  | tt b => cases h
  | eq l r => exact absurd rfl (hne l r)
  | neg f =>
    match i, h with
    | 0, h => cases h; exact ⟨_, rfl, .inr ⟨f, rfl, rfl, Nat.lt_succ_self _, Nat.le_succ _⟩⟩
  | bin o f g =>
    match i, h with
    | 0, h => cases h; exact ⟨_, rfl, .inr ⟨f, rfl, rfl, by show f.high < max f.high g.high + 1; omega, by show f.cnt2 ≤ f.cnt2 + g.cnt2 + 1; omega⟩⟩
    | 1, h => cases h; exact ⟨_, rfl, .inr ⟨g, rfl, rfl, by show g.high < max f.high g.high + 1; omega, by show g.cnt2 ≤ f.cnt2 + g.cnt2 + 1; omega⟩⟩
  | qu a x f =>
    match i, h with
    | 0, h => cases h; exact ⟨_, rfl, .inl ⟨_, rfl, rfl⟩⟩
    | 1, h => cases h; exact ⟨_, rfl, .inr ⟨f, rfl, rfl, Nat.lt_succ_self _, Nat.le_succ _⟩⟩
theorem tsides_all {φ : Fm} (hne : ∀ l r, φ ≠ .eq l r) : (Fm.tsides φ).flatten = φ.sides ∧ (Fm.tsides φ).length = φ.tail.length := by
  cases φ with
  | tt b => exact ⟨rfl, rfl⟩
  | eq l r => exact absurd rfl (hne l r)
  | neg f => exact ⟨List.append_nil _, rfl⟩
  | bin o f g => exact ⟨by show f.sides ++ (g.sides ++ []) = _; rw [List.append_nil]; rfl, rfl⟩
  | qu a x f => exact ⟨by show [] ++ (f.sides ++ []) = _; rw [List.append_nil]; rfl, rfl⟩
theorem flat_take {α : Type} {l : List (List α)} {i : Nat} {s : List α} (h : l[i]? = some s) : (l.take (i + 1)).flatten = (l.take i).flatten ++ s := by
  rw [List.take_add_one, h, List.flatten_append]
  show _ ++ (s ++ []) = _
  rw [List.append_nil]
theorem flat_le {α : Type} {l : List (List α)} (i : Nat) : (l.take i).flatten.length ≤ l.flatten.length := by
  have : l.flatten = (l.take i).flatten ++ (l.drop i).flatten := by rw [← List.flatten_append, List.take_append_drop]
  rw [this, List.length_append]
  omega
def spSides (n : Nat) : Sp := fun vs H Q _ => ∃ (v : V) (φ : Fm), vs = [v] ∧ TmAt H v φ.ter ∧ φ.cnt2 ≤ 1000 ∧ φ.high < n ∧ ∀ p xs H', Same H H' → H p = none → H' p = some (.lst xs) → LitAll H' xs φ.sides → Q (.ref p) H'
theorem sc_sides : FnScope ["_law_formula_here", "_law_kind", "_law_found", "_law_part"] ["_law_formula_here"] (defScope s__law_sides) := ⟨rfl, rfl, rfl, by decide +kernel, rfl, by decide +kernel, by decide +kernel⟩
theorem ok_sides1 {f : Addr} {fd : FuncData} (D : Df K mg "_law_sides" s__law_sides ["_law_formula_here"] f fd) (m_isinstance : mg "isinstance" = none) (m_tuple : mg "tuple" = none) {n : Nat} (G : FnOk P w K mg base CX0 n f fd ["_law_formula_here"] (spSides n)) : FnOk P w K mg base CX0 (n + 1) f fd ["_law_formula_here"] (spSides (n + 1)) := by
  refine D.F.ok sc_sides (fun vs H Q E h => ?_) (fun cdv A outer s H vs Q E hr h => ?_)
  · obtain ⟨v, φ, rfl, _⟩ := h; rfl
  obtain ⟨v, φ, rfl, hv, hc, hh, q⟩ := h
  have nd := sc_sides.nd
  obtain ⟨a, zs, rfl, ea, hs⟩ := fm_at hv
  refine ⟨_, (pss_cons (ps_set (i := 1) nd rfl (.inl rfl) (pe_ix ix_tup (pv 0) pe_int (fun _ _ => rfl)))
    (pss_cons (ps_if (pt_cmpR op_eq (pv 1) pe_str (nomark _))
      (pss_one (ps_ret (pe_lst (pa_cons (pe_tup (pa_cons pe_bl (pa_cons (pe_ix ix_tup (pv 0) pe_int (fun _ _ => rfl)) (pa_cons (pe_ix ix_tup (pv 0) pe_int (fun _ _ => rfl)) pa_nil)))) pa_nil))))
      pss_nil)
    (pss_cons (ps_set (i := 2) nd rfl (.inl rfl) (pe_lst pa_nil))
    (pss_cons (ps_for PassesOwn.never rfl (pi_tup (pe_slice sl_1 (pv 0) (po_some pe_int) po_none)) (pg_name (i := 3) nd rfl (.inl rfl))
      (pss_one (ps_if (pt_val (pe_callB call_isiTer (by rfl) m_isinstance (by decide +kernel) (pa_cons (pv 3) (pa_cons (pe_bltn (v := .ty "tuple") (by rfl) m_tuple (by decide +kernel) rfl) pa_nil))))
      (pss_one (ps_set (i := 2) nd rfl (.inl rfl) (pe_op op_cat (pv 2) (pe_call G hr (by rfl) D.m D.F.kp D.b .nil pass0 (pa_cons (pv 3) pa_nil)))))
      pss_nil)))
    (pss_one (ps_ret (pv 2))))))), ?_⟩
  refine ⟨_, rfl, a, _, 0, _, rfl, rfl, .inl (.inl ea), head_at, _, rfl, rfl, _, rfl, ?_⟩
  by_cases hne : ∃ l r, φ = .eq l r
  · obtain ⟨t1, t2, rfl⟩ := hne
    obtain ⟨z1, z2, rfl, h1, h2⟩ := all_two hs
    refine eqS (headN "equal" rfl (by decide +kernel)) ?_
    have Tq : SqT K H a (.str (Fm.eq t1 t2).head :: [z1, z2]) := .inl (.inl ea)
    refine ⟨_, rfl, a, _, 1, _, rfl, rfl, Tq, at_1, _, rfl, a, _, 2, _, rfl, rfl, Tq, at_2, by show 3 ≤ sizeLine; decide, fun t nt => ⟨by show 1 ≤ sizeLine; decide, fun p np => ?_⟩⟩
    have s2 := same_new nt (.tup [.bl true, z1, z2])
    have s3 := same_new np (.lst [.ref t])
    exact q p [.ref t] _ (s2.trans s3) (s2.free np) upd_same (.cons (.mk (s3 _ _ upd_same) (TmAt.mono (s2.trans s3).tups _ _ h1) (TmAt.mono (s2.trans s3).tups _ _ h2)) .nil)
  · have hne : ∀ l r, φ ≠ .eq l r := fun l r z => hne ⟨l, r, z⟩
    have hd : (φ.head == "equal") = false := by
      cases φ with
      | eq l r => exact absurd rfl (hne l r)
      | tt c => cases c <;> decide +kernel
      | neg g => exact headN "not" rfl (by decide +kernel)
      | bin o g k => exact headN o.word rfl (by cases o <;> decide +kernel)
      | qu c z g => exact headN (qWord c) rfl (by cases c <;> decide +kernel)
    refine neS hd ?_
    obtain ⟨ef, el⟩ := tsides_all hne
    have sl := sides_len φ
    refine ⟨by show 0 ≤ sizeLine; decide, fun d nd0 => ?_⟩
    have s1 := same_new nd0 (.lst [])
    refine ⟨.ref a, rfl, 1, rfl, a, .str φ.head, zs, rfl, rfl, rfl, .inl (.inl (s1 _ _ ea)), fun r nr => ?_⟩
    have s2 := s1.trans (same_new nr (.tup zs))
    refine ⟨r, rfl, ⟨zs, .inl (.inl upd_same)⟩, for_tup (K := K) (xs := zs) (fun i σ H2 => ∃ y1 y3 p xs, σ = [some (.ref a), y1, some (.ref p), y3] ∧ Same H H2 ∧ H p = none ∧ H2 r = some (.tup zs) ∧ H2 p = some (.lst xs) ∧ LitAll H2 xs ((Fm.tsides φ).take i).flatten)
      ⟨_, none, d, [], rfl, s2, nd0, upd_same, (same_new nr _) _ _ upd_same, .nil⟩ (fun i σ H2 _ h => ?_) (fun i x σ H2 hx h => ?_) (fun σ H2 h => ?_)⟩
    · obtain ⟨_, _, _, _, _, _, _, er, _⟩ := h
      exact .inl (.inl er)
    · obtain ⟨y1, y3, p, xs, rfl, sm, np, er, ep, hA⟩ := h
      obtain ⟨t, et, hxt⟩ := hs.get hx
      obtain ⟨sd, es, hsd⟩ := tsides_at hne et
      have tk := flat_take es
      have hx2 := TmAt.mono sm.tups _ _ hxt
      refine ⟨_, rfl, x, t, rfl, hx2, _, rfl, ?_⟩
      rcases hsd with ⟨k, rfl, rfl⟩ | ⟨g, rfl, rfl, hg, cg⟩
      · have : LitAll H2 xs ((Fm.tsides φ).take (i + 1)).flatten := by rw [tk, List.append_nil]; exact hA
        cases hx2 with
        | int _ => exact iteF ⟨_, _, _, _, rfl, sm, np, er, ep, this⟩
        | str _ => exact iteF ⟨_, _, _, _, rfl, sm, np, er, ep, this⟩
      · have hx3 := hx2
        have hgt := fm_ter g
        generalize g.ter = tt at hx2 hgt ⊢
        cases hgt
        cases hx2 with
        | ap ec hz =>
        refine iteT ?_
        refine ⟨_, rfl, _, rfl, _, g, rfl, hx3, by omega, by omega, fun p2 ys H3 s3 np2 ep2 hB => ?_⟩
        have lB := hB.len
        have lA := hA.len
        have l1 := sides_len g
        have l2 := flat_le (l := Fm.tsides φ) i
        rw [ef] at l2
        refine ⟨p, p2, xs, ys, rfl, rfl, s3 _ _ ep, ep2, small6 (by omega), fun p3 np3 => ?_⟩
        have s4 := same_new np3 (.lst (xs ++ ys))
        have s34 := s3.trans s4
        refine ⟨_, _, p3, xs ++ ys, rfl, sm.trans s34, (sm.trans s3).free np3, s34 _ _ er, upd_same, ?_⟩
        rw [tk]
        exact (hA.mono s34.tups).app (hB.mono s4.tups)
    · obtain ⟨y1, y3, p, xs, rfl, sm, np, er, ep, hA⟩ := h
      rw [hs.len, ← el, List.take_length, ef] at hA
      exact ⟨_, rfl, q p xs H2 sm np ep hA⟩
theorem ok_sides {f : Addr} {fd : FuncData} (D : Df K mg "_law_sides" s__law_sides ["_law_formula_here"] f fd) (m_isinstance : mg "isinstance" = none) (m_tuple : mg "tuple" = none) : ∀ n : Nat, FnOk P w K mg base CX0 n f fd ["_law_formula_here"] (spSides n)
  | 0 => by
    have no : ∀ vs H Q E, ¬ spSides 0 vs H Q E := fun vs H Q E h => by
      obtain ⟨v, φ, _, _, _, hn, _⟩ := h
      omega
    exact ⟨fun vs H Q E h => absurd h (no vs H Q E), fun A outer s H args us vs Q E _ _ _ _ h => absurd h (no vs H Q E)⟩
  | n + 1 => ok_sides1 D m_isinstance m_tuple (ok_sides D m_isinstance m_tuple n)
/-! ### _law_symbols -/
def symsT (t : Ter) : List Pr := if isTrueT t = true then [] else t.syms
theorem syms_len : ∀ t : Ter, t.syms.length ≤ t.size := fun t => Ter.rec (motive_1 := fun t => t.syms.length ≤ t.size) (motive_2 := fun ts => (Ter.symss ts).length ≤ Ter.sizes ts)
  (fun _ => Nat.zero_le _) (fun f as ih => Nat.succ_le_succ ih) (Nat.le_refl _) (fun a r h1 h2 => by
    show (a.syms ++ Ter.symss r).length ≤ a.size + Ter.sizes r
    rw [List.length_append]
    omega) t
def spSym (n : Nat) : Sp := fun vs H Q _ => ∃ (v : V) (t : Ter) (ws : List Str) (U : Key → Prop), vs = [v] ∧ TmAt H v t ∧ Words ws ∧ (∀ k, U k → shKey k) ∧ (t = trueT ∨ atomOk ws U t ∨ t.wf (symOf ws) U) ∧ t.size ≤ 200 ∧ t.nest ≤ 60 ∧ t.nest < n ∧ ∀ p xs H', Same H H' → H p = none → H' p = some (.lst xs) → PrAll H' xs (symsT t) → Q (.ref p) H'
theorem sc_syms : FnScope ["_law_term_here", "_law_found", "_law_argument"] ["_law_term_here"] (defScope s__law_symbols) := ⟨rfl, rfl, rfl, by decide +kernel, rfl, by decide +kernel, by decide +kernel⟩
theorem wf_sh {ws : List Str} (W : Words ws) {U : Key → Prop} (hU : ∀ k, U k → shKey k) {t : Ter} (h : t = trueT ∨ atomOk ws U t ∨ t.wf (symOf ws) U) : t.wf shSym shKey := by
  rcases h with rfl | ⟨x, as, rfl, hp, ha⟩ | h
  · exact true_sh
  · exact ⟨word_sh (n := as.length) W (List.mem_of_getElem? hp.2), wfs_mono (sym_sh W) hU _ ha⟩
  · exact wf_mono (sym_sh W) hU _ h
theorem ok_syms1 {f : Addr} {fd : FuncData} (D : Df K mg "_law_symbols" s__law_symbols ["_law_term_here"] f fd) (m_isinstance : mg "isinstance" = none) (m_tuple : mg "tuple" = none) (m_len : mg "len" = none) {n : Nat} (G : FnOk P w K mg base CX0 n f fd ["_law_term_here"] (spSym n)) : FnOk P w K mg base CX0 (n + 1) f fd ["_law_term_here"] (spSym (n + 1)) := by
  refine D.F.ok sc_syms (fun vs H Q E h => ?_) (fun cdv A outer s H vs Q E hr h => ?_)
  · obtain ⟨v, t, ws, U, rfl, _⟩ := h; rfl
  obtain ⟨v, t, ws, U, rfl, hv, W, hU, ht, hz, h60, hn, q⟩ := h
  have nd := sc_syms.nd
  have sh := wf_sh W hU ht
  refine ⟨_, (pss_cons (ps_if (PW.pt (pw_or (pt_not (pt_val (pe_callB call_isiTer (by rfl) m_isinstance (by decide +kernel) (pa_cons (pv 0) (pa_cons (pe_bltn (v := .ty "tuple") (by rfl) m_tuple (by decide +kernel) rfl) pa_nil))))) (pw_or1 (pt_cmpR (op_eqD hr.units) (pv 0) (pe_tup (pa_cons pe_str pa_nil)) (nomark _)))))
      (pss_one (ps_ret (pe_lst pa_nil)))
      pss_nil)
    (pss_cons (ps_set (i := 1) nd rfl (.inl rfl) (pe_lst (pa_cons (pe_tup (pa_cons (pe_ix ix_tup (pv 0) pe_int (fun _ _ => rfl)) (pa_cons (pe_op op_sub (pe_callB call_len_seq (by rfl) m_len PySem.boot_len (pa_cons (pv 0) pa_nil)) pe_int) pa_nil))) pa_nil)))
    (pss_cons (ps_for PassesOwn.never rfl (pi_tup (pe_slice sl_1 (pv 0) (po_some pe_int) po_none)) (pg_name (i := 2) nd rfl (.inl rfl))
      (pss_one (ps_set (i := 1) nd rfl (.inl rfl) (pe_op op_cat (pv 1) (pe_call G hr (by rfl) D.m D.F.kp D.b .nil pass0 (pa_cons (pv 2) pa_nil))))))
    (pss_one (ps_ret (pv 1)))))), ?_⟩
  refine ⟨v, rfl, v, t, rfl, hv, _, rfl, ?_⟩
  have hv0 := hv
  have sv : ∀ k, t = .var k → ∀ p H', Same H H' → H p = none → H' p = some (.lst []) → Q (.ref p) H' := fun k e p H' s1 np ep => q p [] H' s1 np ep (by
    subst e
    unfold symsT
    rw [isT_var]
    exact .nil)
  cases hv with
  | int i => exact iteT (iteT ⟨by show 0 ≤ sizeLine; decide, fun p np => sv _ rfl p _ (same_new np _) np upd_same⟩)
  | str i => exact iteT (iteT ⟨by show 0 ≤ sizeLine; decide, fun p np => sv _ rfl p _ (same_new np _) np upd_same⟩)
  | @ap c g zs as e hs =>
  refine iteF ?_
  refine ⟨_, rfl, by show 1 ≤ sizeLine; decide, fun b nb => ?_⟩
  have s1 := same_new nb (.tup [.str "true"])
  refine ⟨(Ter.ap g as).dat, trueT.dat, dp_ter _ _ (TmAt.mono s1.tups _ _ hv0), .tup (.inl (.inl upd_same)) (.cons (.str "true") .nil), shaped_ter (sh_fine _ sh) (by omega), by decide +kernel, _, rfl, ?_⟩
  have cond : ∀ {A B : Prop}, (if isTrueT (.ap g as) = true then A else B) → (if PyData.eqv (Ter.ap g as).dat trueT.dat = true then A else B) := fun h => h
  refine cond ?_
  cases hT : isTrueT (.ap g as) with
  | true =>
    refine iteT ⟨by show 0 ≤ sizeLine; decide, fun p np => ?_⟩
    have s2 := same_new np (.lst [])
    exact q p [] _ (s1.trans s2) (s1.free np) upd_same (by unfold symsT; rw [if_pos hT]; exact .nil)
  | false =>
    refine iteF ?_
    have e1 := s1 _ _ e
    have ls := hs.len
    refine ⟨_, rfl, c, _, 0, _, rfl, rfl, .inl (.inl e1), head_at, _, rfl, c, _, rfl, .inr (.inl (.inl e1)), _, _, rfl, rfl, by show 2 ≤ sizeLine; decide, fun r0 nr0 => ?_⟩
    have ev : [V.str g, V.int (((V.str g :: zs).length : Nat) - 1)] = prV (g, as.length) := by
      show [V.str g, V.int (((zs.length + 1 : Nat) : Int) - 1)] = _
      rw [show ((zs.length + 1 : Nat) : Int) - 1 = (as.length : Nat) by rw [← ls]; omega]
      rfl
    rw [ev]
    have s2 := same_new nr0 (.tup (prV (g, as.length)))
    refine ⟨by show 1 ≤ sizeLine; decide, fun d nd0 => ?_⟩
    have s3 := same_new nd0 (.lst [.ref r0])
    have s13 := s1.trans (s2.trans s3)
    have ndH := (s1.trans s2).free nd0
    refine ⟨.ref c, rfl, 1, rfl, c, .str g, zs, rfl, rfl, rfl, .inl (.inl (s13 _ _ e)), fun r nr => ?_⟩
    have s4 := same_new nr (.tup zs)
    have hwas : Ter.wfs (symOf ws) U as := by
      rcases ht with h | ⟨x, as', h, hp, ha⟩ | h
      · rw [h] at hT; rw [isT_true] at hT; cases hT
      · cases h; exact ha
      · exact h.2
    have hz : Ter.sizes as + 1 ≤ 200 := hz
    have h60 : Ter.nests as + 1 ≤ 60 := h60
    have hn : Ter.nests as + 1 < n + 1 := hn
    refine ⟨r, rfl, ⟨zs, .inl (.inl upd_same)⟩, for_tup (K := K) (xs := zs) (fun i σ H2 => ∃ y2 p xs, σ = [some (.ref c), some (.ref p), y2] ∧ Same H H2 ∧ H p = none ∧ H2 r = some (.tup zs) ∧ H2 p = some (.lst xs) ∧ PrAll H2 xs ((g, as.length) :: Ter.symss (as.take i)))
      ⟨none, d, [.ref r0], rfl, s13.trans s4, ndH, upd_same, s4 _ _ upd_same, .cons (.mk (s4 _ _ (s3 _ _ upd_same))) .nil⟩ (fun i σ H2 _ h => ?_) (fun i x σ H2 hx h => ?_) (fun σ H2 h => ?_)⟩
    · obtain ⟨_, _, _, _, _, _, er, _⟩ := h
      exact .inl (.inl er)
    · obtain ⟨y2, p, xs, rfl, sm, np, er, ep, hA⟩ := h
      obtain ⟨t1, et, hxt⟩ := hs.get hx
      have hw1 := wfs_get hwas et
      have n1 := nest_le_of et
      have m1 := size_le_of et
      have tk := symss_take et
      refine ⟨_, rfl, _, rfl, x, t1, ws, U, rfl, TmAt.mono sm.tups _ _ hxt, W, hU, .inr (.inr hw1), by omega, by omega, by omega, fun p2 ys H3 s5 np2 ep2 hB => ?_⟩
      have lA := hA.len
      have lB := hB.len
      have eS : symsT t1 = t1.syms := by unfold symsT; rw [isT_wf W hw1]; exact if_neg Bool.false_ne_true
      rw [eS] at hB lB
      have k1 := syms_len t1
      have k2 : (Ter.symss (as.take i)).length ≤ (Ter.symss as).length := by
        have : Ter.symss as = Ter.symss (as.take i) ++ Ter.symss (as.drop i) := by rw [← symss_app, List.take_append_drop]
        rw [this, List.length_append]
        omega
      have k3 : (Ter.symss as).length + 1 ≤ Ter.sizes as + 1 := syms_len (.ap g as)
      have lA : xs.length = (Ter.symss (as.take i)).length + 1 := lA
      refine ⟨p, p2, xs, ys, rfl, rfl, s5 _ _ ep, ep2, small6 (by omega), fun p3 np3 => ?_⟩
      have s6 := same_new np3 (.lst (xs ++ ys))
      have s56 := s5.trans s6
      refine ⟨_, p3, xs ++ ys, rfl, sm.trans s56, (sm.trans s5).free np3, s56 _ _ er, upd_same, ?_⟩
      rw [tk]
      exact (hA.mono s56.tups).app (hB.mono s6.tups)
    · obtain ⟨y2, p, xs, rfl, sm, np, er, ep, hA⟩ := h
      rw [ls, List.take_length] at hA
      exact ⟨_, rfl, q p xs H2 sm np ep (by unfold symsT; rw [if_neg (by rw [hT]; exact Bool.false_ne_true)]; exact hA)⟩
theorem ok_syms {f : Addr} {fd : FuncData} (D : Df K mg "_law_symbols" s__law_symbols ["_law_term_here"] f fd) (m_isinstance : mg "isinstance" = none) (m_tuple : mg "tuple" = none) (m_len : mg "len" = none) : ∀ n : Nat, FnOk P w K mg base CX0 n f fd ["_law_term_here"] (spSym n)
  | 0 => by
    have no : ∀ vs H Q E, ¬ spSym 0 vs H Q E := fun vs H Q E h => by
      obtain ⟨v, t, ws, U, _, _, _, _, _, _, _, hn, _⟩ := h
      omega
    exact ⟨fun vs H Q E h => absurd h (no vs H Q E), fun A outer s H args us vs Q E _ _ _ _ h => absurd h (no vs H Q E)⟩
  | n + 1 => ok_syms1 D m_isinstance m_tuple m_len (ok_syms D m_isinstance m_tuple m_len n)
end

end K15
namespace K15
open PySem PySem.Spec PyProof.Rows L2 Own HT
section
variable {P : Program} {w : World} {K : PySem.W.Frag} {mg : Str → Option Value} {base : Heap}
/-! ### _law_names -/
mutual
def nms : Ter → List Key
  | .var k => [k]
  | .ap _ as => nmss as
def nmss : List Ter → List Key
  | [] => []
  | a :: r => nms a ++ nmss r
end
theorem nmss_app : ∀ as bs : List Ter, nmss (as ++ bs) = nmss as ++ nmss bs
  | [], _ => rfl
  | a :: r, bs => by
    show nms a ++ nmss (r ++ bs) = (nms a ++ nmss r) ++ nmss bs
    rw [nmss_app r bs, List.append_assoc]
theorem nmss_take {ts : List Ter} {i : Nat} {t : Ter} (h : ts[i]? = some t) : nmss (ts.take (i + 1)) = nmss (ts.take i) ++ nms t := by
  rw [List.take_add_one, h]
  show nmss (ts.take i ++ [t]) = _
  rw [nmss_app]
  show _ ++ (nms t ++ []) = _
  rw [List.append_nil]
theorem nms_len : ∀ t : Ter, (nms t).length ≤ t.size := fun t => Ter.rec (motive_1 := fun t => (nms t).length ≤ t.size) (motive_2 := fun ts => (nmss ts).length ≤ Ter.sizes ts)
  (fun _ => Nat.le_refl _) (fun f as ih => Nat.le_succ_of_le ih) (Nat.le_refl _) (fun a r h1 h2 => by
    show (nms a ++ nmss r).length ≤ a.size + Ter.sizes r
    rw [List.length_append]
    omega) t
def anyW (_ : Str) (_ : Nat) : Prop := True
def spNm (n : Nat) : Sp := fun vs H Q _ => ∃ (v : V) (t : Ter), vs = [v] ∧ TmAt H v t ∧ t.wf anyW nameVar ∧ t.size ≤ 200 ∧ t.nest < n ∧ ∀ p H', Same H H' → H p = none → H' p = some (.lst ((nms t).map kV)) → Q (.ref p) H'
theorem sc_names : FnScope ["_law_term_here", "_law_found", "_law_argument"] ["_law_term_here"] (defScope s__law_names) := ⟨rfl, rfl, rfl, by decide +kernel, rfl, by decide +kernel, by decide +kernel⟩
theorem ok_names1 {f : Addr} {fd : FuncData} (D : Df K mg "_law_names" s__law_names ["_law_term_here"] f fd) (m_isinstance : mg "isinstance" = none) (m_str : mg "str" = none) {n : Nat} (G : FnOk P w K mg base CX0 n f fd ["_law_term_here"] (spNm n)) : FnOk P w K mg base CX0 (n + 1) f fd ["_law_term_here"] (spNm (n + 1)) := by
  refine D.F.ok sc_names (fun vs H Q E h => ?_) (fun cdv A outer s H vs Q E hr h => ?_)
  · obtain ⟨v, t, rfl, _⟩ := h; rfl
  obtain ⟨v, t, rfl, hv, hw, hz, hn, q⟩ := h
  have nd := sc_names.nd
  refine ⟨_, (pss_cons (ps_if (pt_val (pe_callB call_isiDat (by rfl) m_isinstance (by decide +kernel) (pa_cons (pv 0) (pa_cons (pe_bltn (v := .ty "str") (by rfl) m_str (by decide +kernel) rfl) pa_nil))))
      (pss_one (ps_ret (pe_lst (pa_cons (pv 0) pa_nil))))
      pss_nil)
    (pss_cons (ps_set (i := 1) nd rfl (.inl rfl) (pe_lst pa_nil))
    (pss_cons (ps_for PassesOwn.never rfl (pi_tup (pe_slice sl_1 (pv 0) (po_some pe_int) po_none)) (pg_name (i := 2) nd rfl (.inl rfl))
      (pss_one (ps_set (i := 1) nd rfl (.inl rfl) (pe_op op_cat (pv 1) (pe_call G hr (by rfl) D.m D.F.kp D.b .nil pass0 (pa_cons (pv 2) pa_nil))))))
    (pss_one (ps_ret (pv 1)))))), ?_⟩
  have hv0 := hv
  cases hv with
  | int i => obtain ⟨x, hx, _⟩ := hw; cases hx
  | str x =>
    refine ⟨_, rfl, _, .str x, "str", _, rfl, .str x, k_str _, _, rfl, iteT ?_⟩
    exact ⟨_, rfl, by show 1 ≤ sizeLine; decide, fun p np => q p _ (same_new np _) np upd_same⟩
  | @ap c g zs as e hs =>
  have ls := hs.len
  have hz : Ter.sizes as + 1 ≤ 200 := hz
  have hn : Ter.nests as + 1 < n + 1 := hn
  refine ⟨_, rfl, _, _, "str", _, rfl, dp_ter _ _ hv0, k_str _, _, rfl, iteF ?_⟩
  refine ⟨by show 0 ≤ sizeLine; decide, fun d nd0 => ?_⟩
  have s1 := same_new nd0 (.lst [])
  refine ⟨.ref c, rfl, 1, rfl, c, .str g, zs, rfl, rfl, rfl, .inl (.inl (s1 _ _ e)), fun r nr => ?_⟩
  have s2 := same_new nr (.tup zs)
  refine ⟨r, rfl, ⟨zs, .inl (.inl upd_same)⟩, for_tup (K := K) (xs := zs) (fun i σ H2 => ∃ y2 p, σ = [some (.ref c), some (.ref p), y2] ∧ Same H H2 ∧ H p = none ∧ H2 r = some (.tup zs) ∧ H2 p = some (.lst ((nmss (as.take i)).map kV)))
    ⟨none, d, rfl, s1.trans s2, nd0, upd_same, s2 _ _ upd_same⟩ (fun i σ H2 _ h => ?_) (fun i x σ H2 hx h => ?_) (fun σ H2 h => ?_)⟩
  · obtain ⟨_, _, _, _, _, er, _⟩ := h
    exact .inl (.inl er)
  · obtain ⟨y2, p, rfl, sm, np, er, ep⟩ := h
    obtain ⟨t1, et, hxt⟩ := hs.get hx
    have hw1 := wfs_get hw.2 et
    have n1 := nest_le_of et
    have m1 := size_le_of et
    have tk := nmss_take et
    refine ⟨_, rfl, _, rfl, x, t1, rfl, TmAt.mono sm.tups _ _ hxt, hw1, by omega, by omega, fun p2 H3 s5 np2 ep2 => ?_⟩
    have k1 := nms_len t1
    have k2 : (nmss (as.take i)).length ≤ (nmss as).length := by
      have : nmss as = nmss (as.take i) ++ nmss (as.drop i) := by rw [← nmss_app, List.take_append_drop]
      rw [this, List.length_append]
      omega
    have k3 : (nmss as).length ≤ Ter.sizes as + 1 := nms_len (.ap g as)
    refine ⟨p, p2, _, _, rfl, rfl, s5 _ _ ep, ep2, small6 (by rw [List.length_map, List.length_map]; omega), fun p3 np3 => ?_⟩
    have s6 := same_new np3 (.lst ((nmss (as.take i)).map kV ++ (nms t1).map kV))
    have s56 := s5.trans s6
    refine ⟨_, p3, rfl, sm.trans s56, (sm.trans s5).free np3, s56 _ _ er, ?_⟩
    rw [tk, List.map_append]
    exact upd_same
  · obtain ⟨y2, p, rfl, sm, np, er, ep⟩ := h
    rw [ls, List.take_length] at ep
    exact ⟨_, rfl, q p H2 sm np ep⟩
theorem ok_names {f : Addr} {fd : FuncData} (D : Df K mg "_law_names" s__law_names ["_law_term_here"] f fd) (m_isinstance : mg "isinstance" = none) (m_str : mg "str" = none) : ∀ n : Nat, FnOk P w K mg base CX0 n f fd ["_law_term_here"] (spNm n)
  | 0 => by
    have no : ∀ vs H Q E, ¬ spNm 0 vs H Q E := fun vs H Q E h => by
      obtain ⟨v, t, _, _, _, _, hn, _⟩ := h
      omega
    exact ⟨fun vs H Q E h => absurd h (no vs H Q E), fun A outer s H args us vs Q E _ _ _ _ h => absurd h (no vs H Q E)⟩
  | n + 1 => ok_names1 D m_isinstance m_str (ok_names D m_isinstance m_str n)
/-! ### _law_free -/
def fr : Fm → List Key → List Key
  | .tt _, _ => []
  | .eq l r, bd => (nms l ++ nms r).filter fun k => !hasK bd k
  | .neg f, bd => fr f bd
  | .bin _ f g, bd => fr f bd ++ fr g bd
  | .qu _ x f, bd => fr f (bd ++ [.inr x])
def tfr : Fm → List Key → List (List Key)
  | .neg f, bd => [fr f bd]
  | .bin _ f g, bd => [fr f bd, fr g bd]
  | _, _ => []
def plainF : Fm → Bool
  | .eq _ _ => false
  | .qu _ _ _ => false
  | _ => true
theorem tfr_at {φ : Fm} (hp : plainF φ = true) {bd : List Key} {i : Nat} {t : Ter} (h : φ.tail[i]? = some t) : ∃ (s : List Key) (f : Fm), (tfr φ bd)[i]? = some s ∧ t = f.ter ∧ s = fr f bd ∧ f.high < φ.high ∧ f.cnt2 ≤ φ.cnt2 ∧ ∀ R S, φ.lits R S → f.lits R S := by
  cases φ with
  | tt b => cases h
  | eq l r => cases hp
  | neg f =>
    match i, h with
    | 0, h => cases h; exact ⟨_, f, rfl, rfl, rfl, Nat.lt_succ_self _, Nat.le_succ _, fun _ _ h => h⟩
  | bin o f g =>
    match i, h with
    | 0, h => cases h; exact ⟨_, f, rfl, rfl, rfl, by show f.high < max f.high g.high + 1; omega, by show f.cnt2 ≤ f.cnt2 + g.cnt2 + 1; omega, fun _ _ h => h.1⟩
    | 1, h => cases h; exact ⟨_, g, rfl, rfl, rfl, by show g.high < max f.high g.high + 1; omega, by show g.cnt2 ≤ f.cnt2 + g.cnt2 + 1; omega, fun _ _ h => h.2⟩
  | qu a x f => cases hp
theorem tfr_all {φ : Fm} (hp : plainF φ = true) (bd : List Key) : (tfr φ bd).flatten = fr φ bd ∧ (tfr φ bd).length = φ.tail.length := by
  cases φ with
  | tt b => exact ⟨rfl, rfl⟩
  | eq l r => cases hp
  | neg f => exact ⟨List.append_nil _, rfl⟩
  | bin o f g => exact ⟨by show fr f bd ++ (fr g bd ++ []) = _; rw [List.append_nil]; rfl, rfl⟩
  | qu a x f => cases hp
theorem fr_len : ∀ (φ : Fm) (bd : List Key), fmZ φ → (fr φ bd).length ≤ 400 * φ.cnt2
  | .tt _, _, _ => Nat.zero_le _
  | .eq l r, bd, h => by
    have a := nms_len l
    have b := nms_len r
    have c : l.size ≤ 200 := h.1
    have d : r.size ≤ 200 := h.2
    have e := List.length_filter_le (fun k => !hasK bd k) (nms l ++ nms r)
    rw [List.length_append] at e
    show ((nms l ++ nms r).filter _).length ≤ 400 * 1
    omega
  | .neg f, bd, h => by
    have := fr_len f bd h
    show (fr f bd).length ≤ 400 * (f.cnt2 + 1)
    omega
  | .bin _ f g, bd, h => by
    have a := fr_len f bd h.1
    have b := fr_len g bd h.2
    show (fr f bd ++ fr g bd).length ≤ 400 * (f.cnt2 + g.cnt2 + 1)
    rw [List.length_append]
    omega
  | .qu _ x f, bd, h => by
    have := fr_len f (bd ++ [.inr x]) h.2
    show (fr f _).length ≤ 400 * (f.cnt2 + 1)
    omega
theorem mem_addK {acc : List Key} {k x : Key} : x ∈ addK acc k ↔ x ∈ acc ∨ x = k := by
  rw [← hasK_iff, hasK_addK, Bool.or_eq_true, hasK_iff, decide_eq_true_iff]
  exact ⟨fun h => h.imp id Eq.symm, fun h => h.imp id Eq.symm⟩
mutual
theorem mem_tfv (bd : List Key) (x : Key) : ∀ (t : Ter) (acc : List Key), x ∈ t.fv bd acc ↔ x ∈ acc ∨ (x ∈ nms t ∧ x ∉ bd)
  | .var k, acc => by
    show x ∈ nmK bd acc k ↔ x ∈ acc ∨ (x ∈ [k] ∧ x ∉ bd)
    unfold nmK
    by_cases h : hasK bd k = true
    · rw [if_pos h, List.mem_singleton]
      refine ⟨.inl, fun z => z.elim id fun ⟨z, n⟩ => absurd (hasK_iff.mp h) (z ▸ n)⟩
    · rw [if_neg h, mem_addK, List.mem_singleton]
      exact ⟨fun z => z.imp id fun e => ⟨e, fun m => h (hasK_iff.mpr (e ▸ m))⟩, fun z => z.imp id (·.1)⟩
  | .ap f as, acc => mem_tfvs bd x as acc
theorem mem_tfvs (bd : List Key) (x : Key) : ∀ (ts : List Ter) (acc : List Key), x ∈ Ter.fvs bd acc ts ↔ x ∈ acc ∨ (x ∈ nmss ts ∧ x ∉ bd)
  | [], acc => ⟨.inl, fun z => z.elim id fun z => by cases z.1⟩
  | a :: r, acc => by
    show x ∈ Ter.fvs bd (a.fv bd acc) r ↔ x ∈ acc ∨ (x ∈ nms a ++ nmss r ∧ x ∉ bd)
    rw [mem_tfvs bd x r, mem_tfv bd x a, List.mem_append]
    constructor
    · rintro ((h | h) | h)
      · exact .inl h
      · exact .inr ⟨.inl h.1, h.2⟩
      · exact .inr ⟨.inr h.1, h.2⟩
    · rintro (h | ⟨h | h, n⟩)
      · exact .inl (.inl h)
      · exact .inl (.inr ⟨h, n⟩)
      · exact .inr ⟨h, n⟩
end
theorem mem_fv (x : Key) : ∀ (φ : Fm) (bd acc : List Key), x ∈ φ.fv bd acc ↔ x ∈ acc ∨ x ∈ fr φ bd
  | .tt _, _, _ => ⟨.inl, fun z => z.elim id fun z => by cases z⟩
  | .eq l r, bd, acc => by
    show x ∈ r.fv bd (l.fv bd acc) ↔ x ∈ acc ∨ x ∈ (nms l ++ nms r).filter fun k => !hasK bd k
    rw [mem_tfv, mem_tfv, List.mem_filter, List.mem_append]
    have e : (!hasK bd x) = true ↔ x ∉ bd := by
      rw [← hasK_iff]
      cases hasK bd x <;> simp
    rw [e]
    constructor
    · rintro ((h | h) | h)
      · exact .inl h
      · exact .inr ⟨.inl h.1, h.2⟩
      · exact .inr ⟨.inr h.1, h.2⟩
    · rintro (h | ⟨h | h, n⟩)
      · exact .inl (.inl h)
      · exact .inl (.inr ⟨h, n⟩)
      · exact .inr ⟨h, n⟩
  | .neg f, bd, acc => mem_fv x f bd acc
  | .bin _ f g, bd, acc => by
    show x ∈ g.fv bd (f.fv bd acc) ↔ x ∈ acc ∨ x ∈ fr f bd ++ fr g bd
    rw [mem_fv x g, mem_fv x f, List.mem_append, or_assoc]
  | .qu _ y f, bd, acc => mem_fv x f _ acc
theorem lit_nm {ws : List Str} {l r : Ter} (h : litOk ws nameVar l r) : l.wf anyW nameVar ∧ r.wf anyW nameVar := by
  have u : ∀ f n, symOf ws f n → anyW f n := fun _ _ _ => trivial
  rcases h.2.2 with ⟨rfl, hat⟩ | ⟨h1, h2⟩
  · refine ⟨?_, trivial, trivial⟩
    rcases hat with rfl | ⟨x, as, rfl, hp, ha⟩
    · exact ⟨trivial, trivial⟩
    · exact ⟨trivial, wfs_mono u (fun _ h => h) _ ha⟩
  · exact ⟨wf_mono u (fun _ h => h) _ h1, wf_mono u (fun _ h => h) _ h2⟩
def spFree (n : Nat) : Sp := fun vs H Q _ => ∃ (v : V) (b : Addr) (φ : Fm) (bd : List Key) (ws : List Str), vs = [v, .ref b] ∧ TmAt H v φ.ter ∧ H b = some (.lst (bd.map kV)) ∧ bd.length + n ≤ 1000 ∧ φ.lits (litOk ws nameVar) fmStr ∧ φ.cnt2 ≤ 1000 ∧ φ.high < n ∧ ∀ p H', Same H H' → H p = none → H' p = some (.lst ((fr φ bd).map kV)) → Q (.ref p) H'
theorem sc_free : FnScope ["_law_formula_here", "_law_bound", "_law_kind", "_law_name", "_law_found", "_law_part"] ["_law_formula_here", "_law_bound"] (defScope s__law_free) := ⟨rfl, rfl, rfl, by decide +kernel, rfl, by decide +kernel, by decide +kernel⟩
theorem litsZ {ws : List Str} {U : Key → Prop} {S : Str → Prop} {φ : Fm} (h : φ.lits (litOk ws U) S) : fmZ φ := lits_mono (fun _ _ h => ⟨h.1.1, h.2.1.1⟩) (fun _ _ => trivial) φ h
theorem ok_free1 {f fN : Addr} {fd dN : FuncData} (D : Df K mg "_law_free" s__law_free ["_law_formula_here", "_law_bound"] f fd) (DN : Df K mg "_law_names" s__law_names ["_law_term_here"] fN dN) (GN : FnOk P w K mg base CX0 61 fN dN ["_law_term_here"] (spNm 61)) {n : Nat}
    (G : FnOk P w K mg base CX0 (n + 61) f fd ["_law_formula_here", "_law_bound"] (spFree n)) : FnOk P w K mg base CX0 (n + 61 + 1) f fd ["_law_formula_here", "_law_bound"] (spFree (n + 1)) := by
  refine D.F.ok sc_free (fun vs H Q E h => ?_) (fun cdv A outer s H vs Q E hr h => ?_)
  · obtain ⟨v, b, φ, bd, ws, rfl, _⟩ := h; rfl
  obtain ⟨v, b, φ, bd, ws, rfl, hv, hb, lb, hw, hc, hh, q⟩ := h
  have nd := sc_free.nd
  have r6 : Room 61 _ := hr.mono (by omega)
  obtain ⟨a, zs, rfl, ea, hs⟩ := fm_at hv
  refine ⟨_, (pss_cons (ps_set (i := 2) nd rfl (.inl rfl) (pe_ix ix_tup (pv 0) pe_int (fun _ _ => rfl)))
    (pss_cons (ps_if (pt_cmpR op_eq (pv 2) pe_str (nomark _))
      (pss_one (ps_ret (pe_lc (own := [("_law_name", 3)]) (g := gName 3) (tt := (tTest (tOp (rIn K true) (tVar 3) (tVar 1)))) (te := (tVar 3)) rfl nd (pi_list (pe_op op_cat (pe_call GN r6 (by rfl) DN.m DN.F.kp DN.b .nil pass0 (pa_cons (pe_ix ix_tup (pv 0) pe_int (fun _ _ => rfl)) pa_nil)) (pe_call GN r6 (by rfl) DN.m DN.F.kp DN.b .nil pass0 (pa_cons (pe_ix ix_tup (pv 0) pe_int (fun _ _ => rfl)) pa_nil)))) (blkOk_by (N := ["_law_formula_here", "_law_bound", "_law_kind", "_law_name", "_law_found", "_law_part"]) (sc := defScope s__law_free) (by decide +kernel)) (fun _ _ _ _ _ => (pg_name (i := 3) nd rfl (.inl rfl))) (fun _ _ _ _ _ => (pts_one (pt_cmpR op_notIn_seq (pv 3) (pv 1) (by rfl)))) (fun _ _ _ _ _ => (pv 3)))))
      pss_nil)
    (pss_cons (ps_if (pt_cmpR op_in_seq (pv 2) (pe_lst (pa_cons pe_str (pa_cons pe_str pa_nil))) (by rfl))
      (pss_one (ps_ret (pe_call G hr (by rfl) D.m D.F.kp D.b .nil pass0 (pa_cons (pe_ix ix_tup (pv 0) pe_int (fun _ _ => rfl)) (pa_cons (pe_op op_cat (pv 1) (pe_lst (pa_cons (pe_ix ix_tup (pv 0) pe_int (fun _ _ => rfl)) pa_nil))) pa_nil)))))
      pss_nil)
    (pss_cons (ps_set (i := 4) nd rfl (.inl rfl) (pe_lst pa_nil))
    (pss_cons (ps_for PassesOwn.never rfl (pi_tup (pe_slice sl_1 (pv 0) (po_some pe_int) po_none)) (pg_name (i := 5) nd rfl (.inl rfl))
      (pss_one (ps_set (i := 4) nd rfl (.inl rfl) (pe_op op_cat (pv 4) (pe_call G hr (by rfl) D.m D.F.kp D.b .nil pass0 (pa_cons (pv 5) (pa_cons (pv 1) pa_nil)))))))
    (pss_one (ps_ret (pv 4)))))))), ?_⟩
  refine ⟨_, rfl, a, _, 0, _, rfl, rfl, .inl (.inl ea), head_at, _, rfl, rfl, _, rfl, ?_⟩
  have hZ := litsZ hw
  have other : plainF φ = true → (φ.head == "equal") = false ∧ inV (.str φ.head) [V.str "all", .str "some"] = false := fun h => by
    cases φ with
    | eq l r => cases h
    | tt c => cases c <;> exact ⟨by decide +kernel, by decide +kernel⟩
    | neg g => exact ⟨headN "not" rfl (by decide +kernel), (show inV (.str "not") [V.str "all", .str "some"] = false by decide +kernel)⟩
    | bin o g k => exact ⟨headN o.word rfl (by cases o <;> decide +kernel), (show inV (.str o.word) [V.str "all", .str "some"] = false by cases o <;> decide +kernel)⟩
    | qu c z g => cases h
  cases hp : plainF φ with
  | true =>
    obtain ⟨o1, o2⟩ := other hp
    refine neS o1 ?_
    refine ⟨_, rfl, by show 2 ≤ sizeLine; decide, fun p1 np1 => ⟨p1, _, rfl, .inl (.inl (.inl upd_same)), rfl, rfl, _, rfl, inF (c := inV (.str φ.head) [V.str "all", .str "some"]) o2 ?_⟩⟩
    have s0 := same_new np1 (.lst [.str "all", .str "some"])
    obtain ⟨ef, el⟩ := tfr_all hp bd
    refine ⟨by show 0 ≤ sizeLine; decide, fun d nd0 => ?_⟩
    have s1 := s0.trans (same_new nd0 (.lst []))
    have ndH := s0.free nd0
    refine ⟨.ref a, rfl, 1, rfl, a, .str φ.head, zs, rfl, rfl, rfl, .inl (.inl (s1 _ _ ea)), fun r nr => ?_⟩
    have s2 := same_new nr (.tup zs)
    have fl := fr_len φ bd hZ
    refine ⟨r, rfl, ⟨zs, .inl (.inl upd_same)⟩, for_tup (K := K) (xs := zs) (fun i σ H2 => ∃ y5 p, σ = [some (.ref a), some (.ref b), some (.str φ.head), none, some (.ref p), y5] ∧ Same H H2 ∧ H p = none ∧ H2 r = some (.tup zs) ∧ H2 p = some (.lst (((tfr φ bd).take i).flatten.map kV)))
      ⟨none, d, rfl, s1.trans s2, ndH, upd_same, s2 _ _ upd_same⟩ (fun i σ H2 _ h => ?_) (fun i x σ H2 hx h => ?_) (fun σ H2 h => ?_)⟩
    · obtain ⟨_, _, _, _, _, er, _⟩ := h
      exact .inl (.inl er)
    · obtain ⟨y5, p, rfl, sm, np, er, ep⟩ := h
      obtain ⟨t, et, hxt⟩ := hs.get hx
      obtain ⟨sd, g, es, rfl, rfl, hg, cg, lg⟩ := tfr_at (bd := bd) hp et
      have tk := flat_take es
      refine ⟨_, rfl, _, rfl, _, rfl, x, b, g, bd, ws, rfl, TmAt.mono sm.tups _ _ hxt, sm _ _ hb, by omega, lg _ _ hw, by omega, by omega, fun p2 H3 s3 np2 ep2 => ?_⟩
      have l1 := fr_len g bd (litsZ (lg _ _ hw))
      have l2 := flat_le (l := tfr φ bd) i
      rw [ef] at l2
      refine ⟨p, p2, _, _, rfl, rfl, s3 _ _ ep, ep2, small6 (by rw [List.length_map, List.length_map]; omega), fun p3 np3 => ?_⟩
      have s4 := same_new np3 (.lst ((((tfr φ bd).take i).flatten.map kV) ++ (fr g bd).map kV))
      have s34 := s3.trans s4
      refine ⟨_, p3, rfl, sm.trans s34, (sm.trans s3).free np3, s34 _ _ er, ?_⟩
      rw [tk, List.map_append]
      exact upd_same
    · obtain ⟨y5, p, rfl, sm, np, er, ep⟩ := h
      rw [hs.len, ← el, List.take_length, ef] at ep
      exact ⟨_, rfl, q p H2 sm np ep⟩
  | false =>
    cases φ with
    | tt c => cases hp
    | neg g => cases hp
    | bin o g k => cases hp
    | eq t1 t2 =>
      obtain ⟨z1, z2, rfl, h1, h2⟩ := all_two hs
      refine eqS (headN "equal" rfl (by decide +kernel)) ?_
      have Tq : SqT K H a (.str (Fm.eq t1 t2).head :: [z1, z2]) := .inl (.inl ea)
      have hl : litOk ws nameVar t1 t2 := hw
      obtain ⟨w1, w2⟩ := lit_nm hl
      have z1s := hl.1
      have z2s := hl.2.1
      refine ⟨_, rfl, a, _, 1, _, rfl, rfl, Tq, at_1, z1, t1, rfl, h1, w1, z1s.1, Nat.lt_succ_of_le z1s.n60, fun p1 H1 s1 np1 ep1 => ?_⟩
      refine ⟨_, rfl, a, _, 2, _, rfl, rfl, .inl (.inl (s1 _ _ ea)), at_2, z2, t2, rfl, TmAt.mono s1.tups _ _ h2, w2, z2s.1, Nat.lt_succ_of_le z2s.n60, fun p2 H2 s2 np2 ep2 => ?_⟩
      have a1 := nms_len t1
      have a2 := nms_len t2
      have b1 := z1s.1
      have b2 := z2s.1
      refine ⟨p1, p2, _, _, rfl, rfl, s2 _ _ ep1, ep2, small6 (by rw [List.length_map, List.length_map]; omega), fun p3 np3 => ?_⟩
      rw [← List.map_append]
      have s12 := s1.trans s2
      have s3 := same_new np3 (.lst ((nms t1 ++ nms t2).map kV))
      have s13 := s12.trans s3
      refine ⟨p3, rfl, ⟨_, .inl (.inl upd_same)⟩, fun D nD => lc_list (K := K) (xs := (nms t1 ++ nms t2).map kV) (fun i H4 => Same (upd H2 p3 (.lst ((nms t1 ++ nms t2).map kV))) H4 ∧ H4 D = some (.lst ((((nms t1 ++ nms t2).take i).filter fun k => !hasK bd k).map kV))) ⟨same_new nD _, upd_same⟩ (fun i H4 _ h => ?_) (fun i y H4 hy h => ?_) (fun H4 h => ?_)⟩
      · exact .inl (.inl (h.1 _ _ upd_same))
      · obtain ⟨s4, eD⟩ := h
        rw [List.getElem?_map] at hy
        obtain ⟨k, ek, rfl⟩ : ∃ k, (nms t1 ++ nms t2)[i]? = some k ∧ kV k = y := Option.map_eq_some_iff.mp hy
        refine ⟨rfl, ?_⟩
        refine ⟨_, rfl, _, rfl, b, _, rfl, .inl (.inl (.inl (s4 _ _ (s13 _ _ hb)))), flat_key k, flat_keys bd, _, rfl, ?_⟩
        rw [inV_key]
        have tk : ((nms t1 ++ nms t2).take (i + 1)).filter (fun k => !hasK bd k) = ((nms t1 ++ nms t2).take i).filter (fun k => !hasK bd k) ++ (if (!hasK bd k) = true then [k] else []) := by
          rw [List.take_add_one, ek, List.filter_append]
          show _ ++ [k].filter _ = _
          rw [List.filter_cons]
          split <;> rfl
        cases hk : hasK bd k with
        | true =>
          refine inF rfl ?_
          rw [hk, if_neg (by decide), List.append_nil] at tk
          exact ⟨s4, by rw [tk]; exact eD⟩
        | false =>
          refine inT rfl ?_
          rw [hk, if_pos (by decide)] at tk
          have lf := List.length_filter_le (fun k => !hasK bd k) ((nms t1 ++ nms t2).take i)
          rw [List.length_take, List.length_append] at lf
          refine ⟨_, rfl, _, eD, small6' (by rw [List.length_map]; omega), same_fresh s4 nD, ?_⟩
          rw [tk, List.map_append]
          exact upd_same
      · obtain ⟨s4, eD⟩ := h
        rw [List.length_map, List.take_length] at eD
        exact q D H4 (s13.trans s4) (s13.free nD) eD
    | qu c z g =>
      obtain ⟨z1, z2, rfl, h1, h2⟩ := all_two hs
      cases h1
      refine neS (headN (qWord c) rfl (by cases c <;> decide +kernel)) ?_
      refine ⟨_, rfl, by show 2 ≤ sizeLine; decide, fun p1 np1 => ⟨p1, _, rfl, .inl (.inl (.inl upd_same)), rfl, rfl, _, rfl, inT (c := inV (.str (qWord c)) [V.str "all", .str "some"]) (by cases c <;> decide +kernel) ?_⟩⟩
      have s0 := same_new np1 (.lst [.str "all", .str "some"])
      have ea0 := s0 _ _ ea
      refine ⟨_, rfl, a, _, 2, _, rfl, rfl, .inl (.inl ea0), at_2, _, rfl, _, rfl, a, _, 1, _, rfl, rfl, .inl (.inl ea0), at_1, by show 1 ≤ sizeLine; decide, fun p2 np2 => ?_⟩
      have s1 := s0.trans (same_new np2 (.lst [.str z]))
      refine ⟨b, p2, _, _, rfl, rfl, s1 _ _ hb, upd_same, small6 (by rw [List.length_map]; show bd.length + 1 ≤ _; omega), fun p3 np3 => ?_⟩
      have s2 := s1.trans (same_new np3 (.lst (bd.map kV ++ [.str z])))
      have hc : g.cnt2 + 1 ≤ 1000 := hc
      have hh : g.high + 1 < n + 1 := hh
      refine ⟨z2, p3, g, bd ++ [(Sum.inr z : Key)], ws, rfl, TmAt.mono s2.tups _ _ h2, ?_, by rw [List.length_append]; show bd.length + 1 + n ≤ 1000; omega, hw.2, by omega, by omega, fun p4 H4 s4 np4 ep4 => q p4 H4 (s2.trans s4) (s2.free np4) ep4⟩
      rw [List.map_append]
      exact upd_same
theorem ok_free {f fN : Addr} {fd dN : FuncData} (D : Df K mg "_law_free" s__law_free ["_law_formula_here", "_law_bound"] f fd) (DN : Df K mg "_law_names" s__law_names ["_law_term_here"] fN dN) (GN : FnOk P w K mg base CX0 61 fN dN ["_law_term_here"] (spNm 61)) :
    ∀ n : Nat, FnOk P w K mg base CX0 (n + 61) f fd ["_law_formula_here", "_law_bound"] (spFree n)
  | 0 => by
    have no : ∀ vs H Q E, ¬ spFree 0 vs H Q E := fun vs H Q E h => by
      obtain ⟨v, b, φ, bd, ws, _, _, _, _, _, _, hn, _⟩ := h
      omega
    exact ⟨fun vs H Q E h => absurd h (no vs H Q E), fun A outer s H args us vs Q E _ _ _ _ h => absurd h (no vs H Q E)⟩
  | n + 1 => ok_free1 D DN GN (ok_free D DN GN n)
end

end K15
namespace K15
open PySem PySem.Spec PyProof.Rows L2 Own HT
section
variable {P : Program} {w : World} {K : PySem.W.Frag} {mg : Str → Option Value} {base : Heap}
/-! ### what an adding does to the pairs -/
structure Kn (ws : List Str) (l : List Ent) : Prop where
  con : conS ws l
  nd : (l.map (·.1)).Nodup
theorem Kn.nil (ws : List Str) : Kn ws [] := ⟨(fun e h => by cases h), List.nodup_nil⟩
theorem Kn.add {ws : List Str} {l : List Ent} (k : Kn ws l) {x : Str} {b : Bool} {n : Nat} (h : entIn ws (x, b, n)) : Kn ws (addE l x b n) := by
  refine ⟨conS_add k.con h, ?_⟩
  unfold addE
  cases z : entOf l x with
  | some e => exact k.nd
  | none =>
    rw [List.map_append]
    refine List.nodup_append.mpr ⟨k.nd, List.nodup_cons.mpr ⟨(nomatch ·), List.nodup_nil⟩, fun a ha c hc => ?_⟩
    cases List.mem_singleton.mp hc
    exact fun w => ent_none z (by rw [show a = x from w] at ha; exact ha)
theorem mem_prs {ws : List Str} (W : Words ws) {l : List Ent} (k : Kn ws l) {x : Str} {b : Bool} {n : Nat} (h : entIn ws (x, b, n)) : (x, n) ∈ prsOf l b ↔ entOf l x ≠ none := by
  unfold prsOf
  constructor
  · intro m
    obtain ⟨e, he, ee⟩ := List.mem_map.mp m
    have me := (List.mem_filter.mp he).1
    have := ent_mem k.nd me
    have ex : e.1 = x := congrArg Prod.fst ee
    rw [ex] at this
    rw [this]
    exact fun z => by cases z
  · intro m
    cases z : entOf l x with
    | none => exact absurd z m
    | some e =>
      obtain ⟨me, ee⟩ := ent_some z
      obtain ⟨y, c, m⟩ := e
      have ee : y = x := ee
      subst ee
      obtain ⟨e1, e2⟩ := entIn_uni W (k.con _ me) h
      subst e1 e2
      exact List.mem_map.mpr ⟨_, List.mem_filter.mpr ⟨me, decide_eq_true rfl⟩, rfl⟩
theorem add_prs {ws : List Str} (W : Words ws) {l : List Ent} (k : Kn ws l) {x : Str} {b : Bool} {n : Nat} (h : entIn ws (x, b, n)) :
    prsOf (addE l x b n) b = (if (x, n) ∈ prsOf l b then prsOf l b else prsOf l b ++ [(x, n)]) ∧ prsOf (addE l x b n) (!b) = prsOf l (!b) := by
  have m := mem_prs W k h
  unfold addE
  cases z : entOf l x with
  | some e =>
    rw [if_pos (m.mpr (by rw [z]; exact fun y => by cases y))]
    exact ⟨rfl, rfl⟩
  | none =>
    rw [if_neg (fun y => m.mp y z)]
    unfold prsOf
    rw [List.filter_append, List.map_append, List.filter_append, List.map_append]
    refine ⟨?_, ?_⟩
    · rw [List.filter_cons, if_pos (decide_eq_true rfl)]; rfl
    · rw [List.filter_cons, if_neg (fun z => by have z : b = !b := of_decide_eq_true z; revert z; cases b <;> exact (fun z => by cases z)), List.filter_nil, List.map_nil, List.append_nil]
theorem kn_len {ws : List Str} (h9 : ws.length = 9) {l : List Ent} (k : Kn ws l) (b : Bool) : (prsOf l b).length ≤ 9 := Nat.le_trans (prs_len l b) (con_len h9 k.con k.nd)
theorem kn_str {ws : List Str} (W : Words ws) {l : List Ent} (k : Kn ws l) {b : Bool} : ∀ p ∈ prsOf l b, PyData.strOk p.1 = true := fun p hp => by
  obtain ⟨e, he, rfl⟩ := List.mem_map.mp hp
  exact (word_sh (n := 0) W (entIn_word (k.con e (List.mem_filter.mp he).1)).1).2
theorem ent_str {ws : List Str} (W : Words ws) {e : Ent} (h : entIn ws e) : PyData.strOk e.1 = true := (word_sh (n := 0) W (entIn_word h).1).2
/-- pairs of functions -/
def fnIn (ws : List Str) (p : Pr) : Prop := symOf ws p.1 p.2
mutual
theorem syms_in {ws : List Str} {U : Key → Prop} : ∀ t : Ter, t.wf (symOf ws) U → ∀ p ∈ t.syms, fnIn ws p
  | .var _, _, p, h => by cases h
  | .ap f as, hw, p, h => by
    rcases List.mem_cons.mp h with rfl | h
    · exact hw.1
    · exact symss_in as hw.2 p h
theorem symss_in {ws : List Str} {U : Key → Prop} : ∀ ts : List Ter, Ter.wfs (symOf ws) U ts → ∀ p ∈ Ter.symss ts, fnIn ws p
  | [], _, p, h => by cases h
  | a :: r, hw, p, h => by
    rcases List.mem_append.mp h with h | h
    · exact syms_in a hw.1 p h
    · exact symss_in r hw.2 p h
end
theorem Kn.addP {ws : List Str} : ∀ (ps : List Pr) {l : List Ent}, Kn ws l → (∀ p ∈ ps, fnIn ws p) → Kn ws (addP l ps)
  | [], _, k, _ => k
  | p :: r, _, k, h => Kn.addP r (k.add (.inl ⟨rfl, h p List.mem_cons_self⟩)) fun q hq => h q (List.mem_cons_of_mem _ hq)
theorem addP_take {l : List Ent} {ps : List Pr} {i : Nat} {p : Pr} (h : ps[i]? = some p) : addP l (ps.take (i + 1)) = addE (addP l (ps.take i)) p.1 false p.2 := by
  rw [List.take_add_one, h]
  show addP l (ps.take i ++ [p]) = _
  rw [addP_app]
  rfl
/-- a literal's pairs: first what is added for the predicate, then the functions' -/
theorem lit_split {ws : List Str} (W : Words ws) {U : Key → Prop} {b : Bool} {lt rt : Ter} (h : litOk ws U lt rt) (l : List Ent) :
    ((rt = trueT ∧ lt = trueT) ∧ addL l (b, lt, rt) = l ∧ symsT lt = [] ∧ symsT rt = []) ∨
    (∃ g as, rt = trueT ∧ lt = .ap g as ∧ preOf ws g as.length ∧ (∀ p ∈ Ter.symss as, fnIn ws p) ∧ addL l (b, lt, rt) = addP (addE l g true as.length) (Ter.symss as) ∧ symsT lt = (g, as.length) :: Ter.symss as ∧ symsT rt = []) ∨
    (isTrueT rt = false ∧ addL l (b, lt, rt) = addP l (symsT lt ++ symsT rt) ∧ ∀ p ∈ symsT lt ++ symsT rt, fnIn ws p) := by
  have sT : symsT trueT = [] := by unfold symsT; rw [isT_true]; rfl
  rcases h.2.2 with ⟨rfl, hat⟩ | ⟨h1, h2⟩
  · rcases hat with rfl | ⟨g, as, rfl, hp, ha⟩
    · refine .inl ⟨⟨rfl, rfl⟩, ?_, sT, sT⟩
      unfold addL
      show (if isTrueT trueT = true then (if isTrueT trueT = true then l else _) else _) = l
      rw [isT_true]
      rfl
    · have gne := sym_ne W (List.mem_of_getElem? hp.2)
      refine .inr (.inl ⟨g, as, rfl, rfl, hp, symss_in as ha, ?_, ?_, sT⟩)
      · unfold addL
        show (if isTrueT trueT = true then (if isTrueT (.ap g as) = true then l else _) else _) = _
        rw [isT_true, isT_ap gne]
        rfl
      · unfold symsT
        rw [isT_ap gne]
        rfl
  · have z1 := isT_wf W h1
    have z2 := isT_wf W h2
    have e1 : symsT lt = lt.syms := by unfold symsT; rw [z1]; rfl
    have e2 : symsT rt = rt.syms := by unfold symsT; rw [z2]; rfl
    refine .inr (.inr ⟨z2, ?_, fun p hp => ?_⟩)
    · unfold addL
      show (if isTrueT rt = true then _ else _) = _
      rw [z2, e1, e2]
      show addP l (lt.syms ++ (rt.syms ++ [])) = _
      rw [List.append_nil]
    · rw [e1, e2] at hp
      exact (List.mem_append.mp hp).elim (syms_in lt h1 p) (syms_in rt h2 p)
theorem symsT_len (t : Ter) : (symsT t).length ≤ t.size := by
  unfold symsT
  split
  · exact Nat.zero_le _
  · exact syms_len t
/-! ### _law_signature -/
def spLS : Sp := fun vs H Q _ => ∃ (a : Addr) (xs : List V) (c : List Lit) (ws : List Str) (U : Key → Prop), vs = [.ref a] ∧ H a = some (.lst xs) ∧ LitAll H xs c ∧ Words ws ∧ ws.length = 9 ∧ (∀ k, U k → shKey k) ∧ (∀ x ∈ c, litOk ws U x.2.1 x.2.2) ∧
  ∀ r fa pa fs ps H', Same H H' → H r = none → H' r = some (.lst [.ref fa, .ref pa]) → H' fa = some (.lst fs) → H' pa = some (.lst ps) → PrAll H' fs (prsOf (addLs [] c) false) → PrAll H' ps (prsOf (addLs [] c) true) → Kn ws (addLs [] c) → Q (.ref r) H'
theorem sc_lsig : FnScope ["_law_literals", "_law_functions", "_law_predicates", "_law_literal_here", "_law_rows", "_law_row"] ["_law_literals"] (defScope s__law_signature) := ⟨rfl, rfl, rfl, by decide +kernel, rfl, by decide +kernel, by decide +kernel⟩
theorem ok_lsig {f fY : Addr} {fd dY : FuncData} (D : Df K mg "_law_signature" s__law_signature ["_law_literals"] f fd) (DY : Df K mg "_law_symbols" s__law_symbols ["_law_term_here"] fY dY) (GY : FnOk P w K mg base CX0 61 fY dY ["_law_term_here"] (spSym 61)) (m_len : mg "len" = none) : FnOk P w K mg base CX0 62 f fd ["_law_literals"] spLS := by
  refine D.F.ok sc_lsig (fun vs H Q E h => ?_) (fun cdv A outer s H vs Q E hr h => ?_)
  · obtain ⟨a, xs, c, ws, U, rfl, _⟩ := h; rfl
  obtain ⟨a, xs, c, ws, U, rfl, ea, hC, W, h9, hU, ok, q⟩ := h
  have nd := sc_lsig.nd
  refine ⟨_, (pss_cons (ps_set (i := 1) nd rfl (.inl rfl) (pe_lst pa_nil))
    (pss_cons (ps_set (i := 2) nd rfl (.inl rfl) (pe_lst pa_nil))
    (pss_cons (ps_for PassesOwn.never rfl (pi_list (pv 0)) (pg_name (i := 3) nd rfl (.inl rfl))
      (pss_cons (ps_set (i := 4) nd rfl (.inl rfl) (pe_call GY hr (by rfl) DY.m DY.F.kp DY.b .nil pass0 (pa_cons (pe_ix ix_tup (pv 3) pe_int (fun _ _ => rfl)) pa_nil)))
    (C8.pss_cut (ps_if (PW.pt (pw_and (pt_cmpR (op_eqD hr.units) (pe_ix ix_tup (pv 3) pe_int (fun _ _ => rfl)) (pe_tup (pa_cons pe_str pa_nil)) (nomark _)) (pw_and1 (pt_cmpR op_gt (pe_callB call_len_seq (by rfl) m_len PySem.boot_len (pa_cons (pv 4) pa_nil)) pe_int (nomark _)))))
      (C8.pss_cut (ps_if (pt_cmpR (op_notInD hr.units65) (pe_ix ix_list (pv 4) pe_int (fun _ _ => rfl)) (pv 2) (by rfl))
      (pss_one (ps_expr (pe_bm PySem.F.plainAttrs_list PySem.F.slot_list_append PySem.F.type_list_append mt_append (pv 2) (pa_cons (pe_ix ix_list (pv 4) pe_int (fun _ _ => rfl)) pa_nil))))
      pss_nil)
    (pss_one (ps_set (i := 4) nd rfl (.inl rfl) (pe_slice sl_list (pv 4) (po_some pe_int) po_none))))
      pss_nil)
    (pss_one (ps_for PassesOwn.never rfl (pi_list (pe_op op_cat (pv 4) (pe_call GY hr (by rfl) DY.m DY.F.kp DY.b .nil pass0 (pa_cons (pe_ix ix_tup (pv 3) pe_int (fun _ _ => rfl)) pa_nil)))) (pg_name (i := 5) nd rfl (.inl rfl))
      (pss_one (ps_if (pt_cmpR (op_notInD hr.units65) (pv 5) (pv 1) (by rfl))
      (pss_one (ps_expr (pe_bm PySem.F.plainAttrs_list PySem.F.slot_list_append PySem.F.type_list_append mt_append (pv 1) (pa_cons (pv 5) pa_nil))))
      pss_nil)))))))
    (pss_one (ps_ret (pe_lst (pa_cons (pv 1) (pa_cons (pv 2) pa_nil)))))))), ?_⟩
  refine ⟨by show 0 ≤ sizeLine; decide, fun fa nfa => ?_⟩
  have s0 := same_new nfa (.lst [])
  refine ⟨by show 0 ≤ sizeLine; decide, fun pa npa => ?_⟩
  have s1 := same_new npa (.lst [])
  have npaH := s0.free npa
  have fpa : fa ≠ pa := ne_of_none (upd_same (H := H) (a := fa) (o := HO.lst [])) npa
  refine ⟨_, rfl, a, rfl, ⟨_, .inl (.inl ((s0.trans s1) _ _ ea))⟩, for_list (K := K) (xs := xs) (fun i σ H2 => ∃ y3 y4 y5 fs ps, σ = [some (.ref a), some (.ref fa), some (.ref pa), y3, y4, y5] ∧ Same H H2 ∧ H2 fa = some (.lst fs) ∧ H2 pa = some (.lst ps) ∧ PrAll H2 fs (prsOf (addLs [] (c.take i)) false) ∧ PrAll H2 ps (prsOf (addLs [] (c.take i)) true) ∧ Kn ws (addLs [] (c.take i)))
    ⟨none, none, none, [], [], rfl, s0.trans s1, s1 _ _ upd_same, upd_same, .nil, .nil, Kn.nil ws⟩ (fun i σ H2 _ h => ?_) (fun i u σ H2 hu h => ?_) (fun σ H2 h => ?_)⟩
  · obtain ⟨_, _, _, _, _, _, sm, _⟩ := h
    exact .inl (.inl (sm _ _ ea))
  · obtain ⟨y3, y4, y5, fs, ps, rfl, sm, ef, ep, hF, hP, kn⟩ := h
    obtain ⟨x, ex, hx⟩ := LitAll.getL hC hu
    have okx := ok x (List.mem_of_getElem? ex)
    have tk := addLs_take (l := []) ex
    have hx := hx.mono sm.tups
    generalize addLs [] (c.take i) = L at hF hP kn tk
    cases hx with
    | @mk e b v1 v2 lt rt ee hlt hrt =>
    have okx : litOk ws U lt rt := okx
    have tk : addLs [] (c.take (i + 1)) = addL L (b, lt, rt) := tk
    have sml := okx.1
    have smr := okx.2.1
    have shl : lt = trueT ∨ atomOk ws U lt ∨ lt.wf (symOf ws) U := by
      rcases okx.2.2 with ⟨_, h | h⟩ | h
      · exact .inl h
      · exact .inr (.inl h)
      · exact .inr (.inr h.1)
    have shr : rt = trueT ∨ atomOk ws U rt ∨ rt.wf (symOf ws) U := by
      rcases okx.2.2 with ⟨h, _⟩ | h
      · exact .inl h
      · exact .inr (.inr h.2)
    have wr := wf_sh W hU shr
    -- rows
    refine ⟨_, rfl, e, _, 1, _, rfl, rfl, .inl (.inl ee), at_1, v1, lt, ws, U, rfl, hlt, W, hU, shl, sml.1, sml.n60, Nat.lt_succ_of_le sml.n60, fun ra rs H3 s3 nra era hR => ?_⟩
    have ll := symsT_len lt
    have lr := symsT_len rt
    have l1 := sml.1
    have l2 := smr.1
    have lR := hR.len
    have ef3 := s3 _ _ ef
    have ep3 := s3 _ _ ep
    have hF3 := hF.mono s3.tups
    have hP3 := hP.mono s3.tups
    have rpa : ra ≠ pa := (ne_of_none ep nra).symm
    have rfa : ra ≠ fa := (ne_of_none ef nra).symm
    -- the predicate
    refine ⟨fun σ4 H4 => ∃ rb rs2 R2 ps2 L1, σ4 = [some (.ref a), some (.ref fa), some (.ref pa), some (.ref e), some (.ref rb), y5] ∧ Same H H4 ∧ H4 fa = some (.lst fs) ∧ H4 pa = some (.lst ps2) ∧ PrAll H4 fs (prsOf L1 false) ∧ PrAll H4 ps2 (prsOf L1 true) ∧ Kn ws L1 ∧ H4 rb = some (.lst rs2) ∧ PrAll H4 rs2 R2 ∧ R2.length ≤ 200 ∧ addL L (b, lt, rt) = addP L1 (R2 ++ symsT rt) ∧ (∀ p ∈ R2 ++ symsT rt, fnIn ws p) ∧ TmAt H4 v2 rt ∧ H4 e = some (.tup [.bl b, v1, v2]) ∧ rb ≠ fa ∧ rb ≠ pa, ?_, fun σ4 H4 h => ?_⟩
    · refine ⟨_, rfl, e, _, 2, _, rfl, rfl, .inl (.inl (s3 _ _ ee)), at_2, by show 1 ≤ sizeLine; decide, fun tb ntb => ?_⟩
      have s4 := same_new ntb (.tup [.str "true"])
      have s34 := s3.trans s4
      have hrt4 := TmAt.mono s34.tups _ _ hrt
      refine ⟨rt.dat, trueT.dat, dp_ter rt v2 hrt4, .tup (.inl (.inl upd_same)) (.cons (.str "true") .nil), shaped_ter (sh_fine rt wr) (by have := smr.n60; omega), by decide +kernel, _, rfl, ?_⟩
      have cond : ∀ {A B : Prop}, (if isTrueT rt = true then A else B) → (if PyData.eqv rt.dat trueT.dat = true then A else B) := fun h => h
      refine cond ?_
      have era4 := s4 _ _ era
      have hR4 := hR.mono s4.tups
      rcases lit_split W (b := b) okx L with ⟨⟨rfl, rfl⟩, eL, sl, sr⟩ | ⟨g, as, rfl, rfl, hpre, hin, eL, sl, sr⟩ | ⟨zr, eL, hin⟩
      · rw [isT_true]
        refine iteT ?_
        rw [sl] at hR4
        cases hR4
        refine ⟨_, rfl, ra, [], rfl, .inl (.inl (.inl era4)), _, _, rfl, rfl, _, rfl, ?_⟩
        refine iteF ?_
        exact ⟨ra, [], [], ps, L, rfl, sm.trans s34, s4 _ _ ef3, s4 _ _ ep3, hF3.mono s4.tups, hP3.mono s4.tups, kn, era4, .nil, Nat.zero_le _, by rw [eL, sr]; rfl, (fun p hp => by rw [sr] at hp; cases hp), hrt4, s34 _ _ ee, rfa, rpa⟩
      · rw [isT_true]
        refine iteT ?_
        rw [sl] at hR4 lR ll
        cases hR4 with
        | @cons v0 p0 rs' _ hp0 hrest =>
        refine ⟨_, rfl, ra, _, rfl, .inl (.inl (.inl era4)), _, _, rfl, rfl, _, rfl, ?_⟩
        rw [show decide ((0 : Int) < (((v0 :: rs').length : Nat) : Int)) = true from decide_eq_true (by show (0 : Int) < ((rs'.length + 1 : Nat) : Int); omega)]
        refine iteT ?_
        have ein : entIn ws (g, true, as.length) := .inr ⟨rfl, hpre⟩
        obtain ⟨ap1, ap2⟩ := add_prs W kn ein
        have ap2 : prsOf (addE L g true as.length) false = prsOf L false := ap2
        have sm4 := sm.trans s34
        have lP := hP3.len
        have k9 := kn_len h9 kn true
        have lrs : rs'.length = (Ter.symss as).length := hrest.len
        -- rows[0] not in predicates
        refine ⟨fun σ5 H5 => ∃ ps2, σ5 = [some (.ref a), some (.ref fa), some (.ref pa), some (.ref e), some (.ref ra), y5] ∧ Same H H5 ∧ H5 fa = some (.lst fs) ∧ H5 pa = some (.lst ps2) ∧ PrAll H5 fs (prsOf L false) ∧ PrAll H5 ps2 (prsOf (addE L g true as.length) true) ∧ H5 ra = some (.lst (v0 :: rs')) ∧ PrAll H5 rs' (Ter.symss as) ∧ TmAt H5 v2 trueT ∧ H5 e = some (.tup [.bl b, v1, v2]), ?_, fun σ5 H5 h => ?_⟩
        · refine ⟨_, rfl, ra, _, 0, _, rfl, rfl, .inl (.inl era4), atI_nat (j := 0) rfl, _, rfl, Own.prD (g, as.length), (prsOf L true).map Own.prD, dp_pr hp0, .lst (.inl (.inl (s4 _ _ ep3))) (dp_prs (hP3.mono s4.tups)), shaped_pr (ent_str W ein), shaped_prs (kn_str W kn), _, rfl, ?_⟩
          rw [any_pr]
          by_cases hm : (g, as.length) ∈ prsOf L true
          · rw [decide_eq_true hm]
            refine iteF ?_
            rw [if_pos hm] at ap1
            exact ⟨ps, rfl, sm4, s4 _ _ ef3, s4 _ _ ep3, hF3.mono s4.tups, by rw [ap1]; exact hP3.mono s4.tups, era4, hrest, hrt4, s34 _ _ ee⟩
          · rw [decide_eq_false hm]
            refine iteT ?_
            rw [if_neg hm] at ap1
            refine ⟨_, rfl, tyl (s4 _ _ ep3), _, rfl, ra, _, 0, _, rfl, rfl, .inl (.inl era4), atI_nat (j := 0) rfl, pa, _, _, rfl, rfl, s4 _ _ ep3, small6' (by omega), ?_⟩
            have b5 := But.upd (d := pa) (H := upd H3 tb (.tup [.str "true"])) (o := .lst (ps ++ [v0]))
            have t5 := b5.tups (s4 _ _ ep3)
            refine ⟨ps ++ [v0], rfl, But.same npaH sm4 b5, b5 _ _ fpa (s4 _ _ ef3), upd_same, (hF3.mono s4.tups).mono t5, ?_, b5 _ _ rpa era4, hrest.mono t5, TmAt.mono t5 _ _ hrt4, t5 _ _ (s34 _ _ ee)⟩
            rw [ap1]
            exact ((hP3.mono s4.tups).mono t5).app (.cons (hp0.mono t5) .nil)
        obtain ⟨ps2, rfl, sm5, ef5, ep5, hF5, hP5, era5, hr5, hrt5, ee5⟩ := h
        refine ⟨_, rfl, 1, rfl, ra, _, rfl, .inl (.inl era5), fun rb nrb => ?_⟩
        rw [cut_1]
        have s6 := same_new nrb (.lst rs')
        refine ⟨rb, rs', Ter.symss as, ps2, addE L g true as.length, rfl, sm5.trans s6, s6 _ _ ef5, s6 _ _ ep5, by rw [ap2]; exact hF5.mono s6.tups, hP5.mono s6.tups, kn.add ein, upd_same, hr5.mono s6.tups, ?_, by rw [eL, sr, List.append_nil], (fun p hp => by rw [sr, List.append_nil] at hp; exact hin p hp), TmAt.mono s6.tups _ _ hrt5, s6 _ _ ee5, (ne_of_none ef5 nrb).symm, (ne_of_none ep5 nrb).symm⟩
        have ll : (Ter.symss as).length + 1 ≤ Ter.size (.ap g as) := ll
        omega
      · rw [zr]
        refine iteF ?_
        refine iteF ?_
        exact ⟨ra, rs, symsT lt, ps, L, rfl, sm.trans s34, s4 _ _ ef3, s4 _ _ ep3, hF3.mono s4.tups, hP3.mono s4.tups, kn, era4, hR4, by omega, eL, hin, hrt4, s34 _ _ ee, rfa, rpa⟩
    -- the functions
    obtain ⟨rb, rs2, R2, ps2, L1, rfl, sm4, ef4, ep4, hF4, hP4, kn4, erb4, hR4, lR2, eL, hin, hrt4, ee4, rbf, rbp⟩ := h
    refine ⟨_, rfl, _, rfl, e, _, 2, _, rfl, rfl, .inl (.inl ee4), at_2, v2, rt, ws, U, rfl, hrt4, W, hU, shr, smr.1, smr.n60, Nat.lt_succ_of_le smr.n60, fun rc rs3 H5 s5 nrc erc hR5 => ?_⟩
    have l3 := hR4.len
    have l4 := hR5.len
    refine ⟨rb, rc, rs2, rs3, rfl, rfl, s5 _ _ erb4, erc, small6 (by omega), fun rd nrd => ?_⟩
    have s6 := same_new nrd (.lst (rs2 ++ rs3))
    have s56 := s5.trans s6
    have hRR : PrAll (upd H5 rd (.lst (rs2 ++ rs3))) (rs2 ++ rs3) (R2 ++ symsT rt) := (hR4.mono s56.tups).app (hR5.mono s6.tups)
    have lRR := hRR.len
    have ef6 := s56 _ _ ef4
    have rdf : rd ≠ fa := (ne_of_none (s5 _ _ ef4) nrd).symm
    refine ⟨rd, rfl, ⟨_, .inl (.inl upd_same)⟩, for_list (K := K) (xs := rs2 ++ rs3) (fun j σ H7 => ∃ y5 fs, σ = [some (.ref a), some (.ref fa), some (.ref pa), some (.ref e), some (.ref rb), y5] ∧ Same H H7 ∧ H7 fa = some (.lst fs) ∧ H7 pa = some (.lst ps2) ∧ PrAll H7 fs (prsOf (addP L1 ((R2 ++ symsT rt).take j)) false) ∧ PrAll H7 ps2 (prsOf (addP L1 ((R2 ++ symsT rt).take j)) true) ∧ Kn ws (addP L1 ((R2 ++ symsT rt).take j)) ∧ H7 rd = some (.lst (rs2 ++ rs3)) ∧ PrAll H7 (rs2 ++ rs3) (R2 ++ symsT rt))
      ⟨y5, fs, rfl, sm4.trans s56, ef6, s56 _ _ ep4, hF4.mono s56.tups, hP4.mono s56.tups, kn4, upd_same, hRR⟩ (fun j σ H7 _ h => ?_) (fun j y σ H7 hy h => ?_) (fun σ H7 h => ?_)⟩
    · obtain ⟨_, _, _, _, _, _, _, _, _, erd, _⟩ := h
      exact .inl (.inl erd)
    · obtain ⟨y5, fs7, rfl, sm7, ef7, ep7, hF7, hP7, kn7, erd7, hR7⟩ := h
      obtain ⟨pr, epr, hpr⟩ := hR7.get hy
      have fin := hin pr (List.mem_of_getElem? epr)
      have ein : entIn ws (pr.1, false, pr.2) := .inl ⟨rfl, fin⟩
      have tkp := addP_take (l := L1) epr
      obtain ⟨ap1, ap2⟩ := add_prs W kn7 ein
      have ap2 : prsOf (addE (addP L1 ((R2 ++ symsT rt).take j)) pr.1 false pr.2) true = prsOf (addP L1 ((R2 ++ symsT rt).take j)) true := ap2
      have kn8 := kn7.add ein
      have k9 := kn_len h9 kn7 false
      have lf := hF7.len
      generalize addP L1 ((R2 ++ symsT rt).take j) = LJ at hF7 hP7 kn7 tkp ap1 ap2 kn8 k9 lf
      refine ⟨_, rfl, _, rfl, Own.prD pr, (prsOf LJ false).map Own.prD, dp_pr hpr, .lst (.inl (.inl ef7)) (dp_prs hF7), shaped_pr (ent_str W ein), shaped_prs (kn_str W kn7), _, rfl, ?_⟩
      rw [any_pr]
      by_cases hm : pr ∈ prsOf LJ false
      · rw [decide_eq_true hm]
        refine iteF ?_
        rw [if_pos hm] at ap1
        exact ⟨_, fs7, rfl, sm7, ef7, ep7, by rw [tkp, ap1]; exact hF7, by rw [tkp, ap2]; exact hP7, by rw [tkp]; exact kn8, erd7, hR7⟩
      · rw [decide_eq_false hm]
        refine iteT ?_
        rw [if_neg hm] at ap1
        refine ⟨_, rfl, tyl ef7, _, rfl, fa, _, _, rfl, rfl, ef7, small6' (by omega), ?_⟩
        have b8 := But.upd (d := fa) (H := H7) (o := .lst (fs7 ++ [y]))
        have t8 := b8.tups ef7
        refine ⟨_, fs7 ++ [y], rfl, But.same nfa sm7 b8, upd_same, b8 _ _ fpa.symm ep7, ?_, by rw [tkp, ap2]; exact hP7.mono t8, by rw [tkp]; exact kn8, b8 _ _ rdf erd7, hR7.mono t8⟩
        rw [tkp, ap1]
        exact (hF7.mono t8).app (.cons (hpr.mono t8) .nil)
    · obtain ⟨y5, fs7, rfl, sm7, ef7, ep7, hF7, hP7, kn7, erd7, hR7⟩ := h
      rw [lRR, List.take_length, ← eL, ← tk] at hF7 hP7 kn7
      exact ⟨_, _, _, fs7, ps2, rfl, sm7, ef7, ep7, hF7, hP7, kn7⟩
  · obtain ⟨y3, y4, y5, fs, ps, rfl, sm, ef, ep, hF, hP, kn⟩ := h
    rw [hC.len, List.take_length] at hF hP kn
    refine ⟨_, rfl, _, rfl, by show 2 ≤ sizeLine; decide, fun r nr => ?_⟩
    have s9 := same_new nr (.lst [.ref fa, .ref pa])
    exact q r fa pa fs ps _ (sm.trans s9) (sm.free nr) upd_same (s9 _ _ ef) (s9 _ _ ep) (hF.mono s9.tups) (hP.mono s9.tups) kn
/-! ### _law_told -/
def spTold (C : Addr) : Sp := fun vs H Q _ => ∃ (p dk da : Addr) (l : List Ent), vs = [.ref p] ∧ SigAt C H p dk da l ∧ l.length ≤ 100 ∧ ∀ r p1 p2 xs1 xs2 H', Same H H' → H r = none → H' r = some (.lst [.ref p1, .ref p2]) → H' p1 = some (.lst xs1) → H' p2 = some (.lst xs2) → PrAll H' xs1 (prsOf l false) → PrAll H' xs2 (prsOf l true) → Q (.ref r) H'
theorem sc_told : FnScope ["_law_signature_here"] ["_law_signature_here"] (defScope s__law_told) := ⟨rfl, rfl, rfl, by decide +kernel, rfl, by decide +kernel, by decide +kernel⟩
theorem ok_told {f C fF fP : Addr} {fd fdF fdP : FuncData} (D : Df K mg "_law_told" s__law_told ["_law_signature_here"] f fd) (T : SigT K mg C) (MF : Meth K C "functions" fF) (BF : Binds K fdF ["self"] []) (GF : FnOk P w K mg base CX0 2 fF fdF ["self"] (spFuns C false)) (MP : Meth K C "predicates" fP) (BP : Binds K fdP ["self"] []) (GP : FnOk P w K mg base CX0 2 fP fdP ["self"] (spFuns C true)) :
    FnOk P w K mg base CX0 3 f fd ["_law_signature_here"] (spTold C) := by
  refine D.F.ok sc_told (fun vs H Q E h => ?_) (fun cdv A outer s H vs Q E hr h => ?_)
  · obtain ⟨p, dk, da, l, rfl, _⟩ := h; rfl
  obtain ⟨p, dk, da, l, rfl, S, hl, q⟩ := h
  obtain ⟨dx, hp⟩ := S.ob
  refine ⟨_, (pss_one (ps_ret (pe_lst (pa_cons (pe_meth0 (pv 0) T.cl MF GF hr BF .nil pass0) (pa_cons (pe_meth0 (pv 0) T.cl MP GP hr BP .nil pass0) pa_nil))))), ?_⟩
  refine ⟨_, rfl, p, dx, _, rfl, hp, flds_no _ _ (by decide +kernel) (by decide +kernel), p, dk, da, l, rfl, S, hl, fun p1 H1 xs1 s1 n1 e1 A1 => ⟨_, rfl, p, dx, _, rfl, s1 _ _ hp, flds_no _ _ (by decide +kernel) (by decide +kernel), p, dk, da, l, rfl, S.same s1, hl, fun p2 H2 xs2 s2 n2 e2 A2 => ⟨by show 2 ≤ sizeLine; decide, fun t nt => ?_⟩⟩⟩
  have s3 := same_new nt (.lst [.ref p1, .ref p2])
  have s23 := s2.trans s3
  exact q t p1 p2 xs1 xs2 _ (s1.trans s23) ((s1.trans s2).free nt) upd_same (s23 _ _ e1) (s3 _ _ e2) (A1.mono s23.tups) (A2.mono s3.tups)
end

end K15
namespace K15
open PySem PySem.Spec PyProof.Rows L2 Own HT
section
variable {P : Program} {w : World} {K : PySem.W.Frag} {mg : Str → Option Value} {base : Heap}
/-! ### literals as data -/
def litD (x : Lit) : PyData := .tuple [.bool x.1, x.2.1.dat, x.2.2.dat]
theorem dp_lit {H : Hp} {v : V} {x : Lit} (h : LitAt H v x) : Dp K H v (litD x) := by
  cases h with
  | mk e a b => exact .tup (.inl (.inl e)) (.cons (.bl _) (.cons (dp_ter _ _ a) (.cons (dp_ter _ _ b) .nil)))
theorem dp_lits {H : Hp} : ∀ {vs : List V} {c : List Lit}, LitAll H vs c → DpAll K H vs (c.map litD)
  | _, _, .nil => .nil
  | _, _, .cons a r => .cons (dp_lit a) (dp_lits r)
theorem fits_lit {ws : List Str} {U : Key → Prop} {x : Lit} (h : litOk ws U x.2.1 x.2.2) : fitsD 65 (litD x) := by
  have a := h.1
  have b := h.2.1
  refine ⟨by show 3 ≤ 1000000; decide, fun y hy => ?_⟩
  rcases List.mem_cons.mp hy with rfl | hy
  · trivial
  rcases List.mem_cons.mp hy with rfl | hy
  · exact fits_ter _ 64 (by have := a.2; omega) (by have := a.1; omega)
  · cases List.mem_singleton.mp hy
    exact fits_ter _ 64 (by have := b.2; omega) (by have := b.1; omega)
theorem fits_lits {ws : List Str} {U : Key → Prop} {c : List Lit} (hc : c.length ≤ 1000000) (h : ∀ x ∈ c, litOk ws U x.2.1 x.2.2) : fitsD 66 (.list (c.map litD)) := by
  refine ⟨by rw [List.length_map]; exact hc, fun y hy => ?_⟩
  obtain ⟨x, hx, rfl⟩ := List.mem_map.mp hy
  exact fits_lit (h x hx)
theorem lay_list : ∀ {ds : List PyData} {k : Nat}, (∀ d ∈ ds, d.canLay0 = true ∧ d.depth ≤ k) → PyData.canLayAll0 ds = true ∧ PyData.depthAll ds ≤ k
  | [], _, _ => ⟨rfl, Nat.zero_le _⟩
  | d :: r, k, h => by
    obtain ⟨h1, h2⟩ := h d List.mem_cons_self
    obtain ⟨h3, h4⟩ := lay_list (ds := r) (k := k) fun x hx => h x (List.mem_cons_of_mem _ hx)
    refine ⟨?_, ?_⟩
    · show (d.canLay0 && PyData.canLayAll0 r) = true
      rw [h1, h3]; rfl
    · show max d.depth (PyData.depthAll r) ≤ k
      omega
theorem shp_list {ds : List PyData} (h : ∀ d ∈ ds, d.canLay0 = true ∧ d.depth ≤ 60) : SeqAt.shaped (.list ds) = true ∧ PyData.eqv (.list ds) (.list ds) = true := by
  obtain ⟨h1, h2⟩ := lay_list h
  refine ⟨?_, PySem.SeqAt.eqv_refl _ h1⟩
  show (PyData.canLayAll0 ds && decide (PyData.depthAll ds + 1 ≤ 64)) = true
  rw [h1, decide_eq_true (by omega)]
  rfl
theorem lay_small {t : Ter} (h : t.wf shSym shKey) (n : smallT t) : t.dat.canLay0 = true ∧ t.dat.depth ≤ 20 := by
  obtain ⟨h1, h2⟩ := lay_ter t (sh_fine t h)
  exact ⟨h1, Nat.le_trans h2 n.2⟩
theorem lay_lit {ws : List Str} (W : Words ws) {U : Key → Prop} (hU : ∀ k, U k → shKey k) {x : Lit} (h : litOk ws U x.2.1 x.2.2) : (litD x).canLay0 = true ∧ (litD x).depth ≤ 30 := by
  obtain ⟨a, b⟩ := lit_sh W hU h
  have ha := lay_small a h.2.1
  have hb := lay_small b h.1
  obtain ⟨h1, h2⟩ := lay_list (ds := [.bool x.1, x.2.1.dat, x.2.2.dat]) (k := 20) fun d hd => by
    rcases List.mem_cons.mp hd with rfl | hd
    · exact ⟨rfl, Nat.zero_le _⟩
    rcases List.mem_cons.mp hd with rfl | hd
    · exact hb
    · cases List.mem_singleton.mp hd; exact ha
  exact ⟨h1, by show PyData.depthAll _ + 1 ≤ 30; omega⟩
def claD (c : List Lit) : PyData := .tuple (c.map litD)
theorem dp_cls {H : Hp} : ∀ {vs : List V} {cs : List (List Lit)}, ClAll H vs cs → DpAll K H vs (cs.map claD)
  | _, _, .nil => .nil
  | _, _, .cons e a r => .cons (.tup (.inl (.inl e)) (dp_lits a)) (dp_cls r)
theorem lay_cls {ws : List Str} (W : Words ws) {cs : List (List Lit)} (h : ∀ c ∈ cs, ∀ x ∈ c, litOk ws numVar x.2.1 x.2.2) : ∀ d ∈ cs.map claD, d.canLay0 = true ∧ d.depth ≤ 60 := fun d hd => by
  obtain ⟨c, hc, rfl⟩ := List.mem_map.mp hd
  obtain ⟨h1, h2⟩ := lay_list (ds := c.map litD) (k := 30) fun d hd => by
    obtain ⟨x, hx, rfl⟩ := List.mem_map.mp hd
    exact lay_lit W num_sh (h c hc x hx)
  exact ⟨h1, by show PyData.depthAll _ + 1 ≤ 60; omega⟩
theorem lay_fm {ws : List Str} (W : Words ws) : ∀ φ : Fm, φ.lits (litOk ws nameVar) okNm → φ.ter.dat.canLay0 = true ∧ φ.ter.dat.depth ≤ φ.high + 30
  | .tt b, _ => by cases b <;> exact ⟨by decide +kernel, by decide +kernel⟩
  | .eq l r, h => by
    have h : litOk ws nameVar l r := h
    obtain ⟨a, b⟩ := lit_sh W name_sh h
    have ha := lay_small a h.2.1
    have hb := lay_small b h.1
    obtain ⟨h1, h2⟩ := lay_list (ds := [.str "equal", l.dat, r.dat]) (k := 20) fun d hd => by
      rcases List.mem_cons.mp hd with rfl | hd
      · exact ⟨by show PyData.strOk "equal" = true; decide +kernel, Nat.zero_le _⟩
      rcases List.mem_cons.mp hd with rfl | hd
      · exact hb
      · cases List.mem_singleton.mp hd; exact ha
    exact ⟨h1, Nat.le_trans (Nat.succ_le_succ h2) (by show 20 + 1 ≤ 1 + 30; decide)⟩
  | .neg f, h => by
    have hf := lay_fm W f h
    obtain ⟨h1, h2⟩ := lay_list (ds := [.str "not", f.ter.dat]) (k := f.high + 30) fun d hd => by
      rcases List.mem_cons.mp hd with rfl | hd
      · exact ⟨by show PyData.strOk "not" = true; decide +kernel, Nat.zero_le _⟩
      · cases List.mem_singleton.mp hd; exact hf
    exact ⟨h1, Nat.le_trans (Nat.succ_le_succ h2) (by show f.high + 30 + 1 ≤ f.high + 1 + 30; omega)⟩
  | .bin o f g, h => by
    have hf := lay_fm W f h.1
    have hg := lay_fm W g h.2
    obtain ⟨h1, h2⟩ := lay_list (ds := [.str o.word, f.ter.dat, g.ter.dat]) (k := max f.high g.high + 30) fun d hd => by
      rcases List.mem_cons.mp hd with rfl | hd
      · exact ⟨by show PyData.strOk o.word = true; cases o <;> decide +kernel, Nat.zero_le _⟩
      rcases List.mem_cons.mp hd with rfl | hd
      · exact ⟨hf.1, by have := hf.2; omega⟩
      · cases List.mem_singleton.mp hd; exact ⟨hg.1, by have := hg.2; omega⟩
    exact ⟨h1, Nat.le_trans (Nat.succ_le_succ h2) (by show max f.high g.high + 30 + 1 ≤ max f.high g.high + 1 + 30; omega)⟩
  | .qu c x f, h => by
    have hf := lay_fm W f h.2
    have hx : PyData.strOk x = true := by
      have a : ∀ x ∈ NAMES5, PyData.strOk x = true := by decide +kernel
      exact a x h.1
    obtain ⟨h1, h2⟩ := lay_list (ds := [.str (qWord c), .str x, f.ter.dat]) (k := f.high + 30) fun d hd => by
      rcases List.mem_cons.mp hd with rfl | hd
      · exact ⟨by show PyData.strOk (qWord c) = true; cases c <;> decide +kernel, Nat.zero_le _⟩
      rcases List.mem_cons.mp hd with rfl | hd
      · exact ⟨hx, Nat.zero_le _⟩
      · cases List.mem_singleton.mp hd; exact hf
    exact ⟨h1, Nat.le_trans (Nat.succ_le_succ h2) (by show f.high + 30 + 1 ≤ f.high + 1 + 30; omega)⟩
theorem dp_fms {H : Hp} : ∀ {vs : List V} {φs : List Fm}, TmAll H vs (φs.map Fm.ter) → DpAll K H vs (φs.map fun φ => φ.ter.dat)
  | _, [], h => by cases h; exact .nil
  | _, φ :: r, h => by
    cases h with
    | cons a b => exact .cons (dp_ter _ _ a) (dp_fms b)
/-! ### the free names, in order -/
abbrev S5 : List Str := ["W_0", "X", "X1", "Y", "Zeta"]
def rk (x : Str) : Nat := if x = "W_0" then 0 else if x = "X" then 1 else if x = "X1" then 2 else if x = "Y" then 3 else 4
theorem rk_le : ∀ p ∈ S5, ∀ x ∈ S5, (!ltCps x.cps.toList p.cps.toList) = true → rk p ≤ rk x := by decide +kernel
theorem rk_inj : ∀ p ∈ S5, ∀ x ∈ S5, rk p = rk x → p = x := by decide +kernel
theorem asc_rk : ∀ (ys : List Str) (p : Str), p ∈ S5 → risingS p ys = true → (∀ y ∈ ys, y ∈ S5) → (∀ y ∈ ys, rk p ≤ rk y) ∧ ys.Pairwise fun a b => rk a ≤ rk b
  | [], _, _, _, _ => ⟨fun _ h => (by cases h), .nil⟩
  | y :: r, p, hp, h, hm => by
    obtain ⟨h1, h2⟩ := Bool.and_eq_true_iff.mp (show ((!ltCps y.cps.toList p.cps.toList) && risingS y r) = true from h)
    have hy := hm y List.mem_cons_self
    have a := rk_le p hp y hy h1
    obtain ⟨b, c⟩ := asc_rk r y hy h2 fun z hz => hm z (List.mem_cons_of_mem _ hz)
    refine ⟨fun z hz => ?_, List.pairwise_cons.mpr ⟨b, c⟩⟩
    rcases List.mem_cons.mp hz with rfl | hz
    · exact a
    · exact Nat.le_trans a (b z hz)
theorem sorted_rk {ys : List Str} (h : sortedS ys = true) (hm : ∀ y ∈ ys, y ∈ S5) : ys.Pairwise fun a b => rk a ≤ rk b := by
  cases ys with
  | nil => exact .nil
  | cons y r =>
    obtain ⟨b, c⟩ := asc_rk r y (hm y List.mem_cons_self) h fun z hz => hm z (List.mem_cons_of_mem _ hz)
    exact List.pairwise_cons.mpr ⟨b, c⟩
theorem asc_eq : ∀ {xs ys : List Str}, (xs.Pairwise fun a b => rk a < rk b) → (ys.Pairwise fun a b => rk a < rk b) → (∀ x, x ∈ xs ↔ x ∈ ys) → xs = ys
  | [], [], _, _, _ => rfl
  | [], y :: r, _, _, h => absurd ((h y).mpr List.mem_cons_self) (nomatch ·)
  | x :: r, [], _, _, h => absurd ((h x).mp List.mem_cons_self) (nomatch ·)
  | x :: r, y :: s, h1, h2, h => by
    obtain ⟨a1, b1⟩ := List.pairwise_cons.mp h1
    obtain ⟨a2, b2⟩ := List.pairwise_cons.mp h2
    have e : x = y := by
      rcases List.mem_cons.mp ((h x).mp List.mem_cons_self) with e | m1
      · exact e
      rcases List.mem_cons.mp ((h y).mpr List.mem_cons_self) with e | m2
      · exact e.symm
      have := a2 x m1
      have := a1 y m2
      omega
    subst e
    refine congrArg (x :: ·) (asc_eq b1 b2 fun z => ?_)
    constructor
    · intro hz
      rcases List.mem_cons.mp ((h z).mp (List.mem_cons_of_mem _ hz)) with e | m
      · have := a1 z hz; rw [e] at this; omega
      · exact m
    · intro hz
      rcases List.mem_cons.mp ((h z).mpr (List.mem_cons_of_mem _ hz)) with e | m
      · have := a2 z hz; rw [e] at this; omega
      · exact m
theorem names_eq {xs ys : List Str} (nd : xs.Nodup) (hm : ∀ x ∈ xs, x ∈ NAMES5) (hp : ys.Perm xs) (hs : sortedS ys = true) (p : Str → Bool) (hpx : ∀ x, p x = true ↔ x ∈ xs) : ys = S5.filter p := by
  have n5 : ∀ x ∈ NAMES5, x ∈ S5 := by decide +kernel
  have my : ∀ y ∈ ys, y ∈ S5 := fun y hy => n5 y (hm y (hp.mem_iff.mp hy))
  have ndy : ys.Nodup := hp.nodup_iff.mpr nd
  have a := sorted_rk hs my
  have b : ys.Pairwise fun a b => rk a < rk b := by
    have c := a.and ndy
    refine c.imp_of_mem fun {u v} hu hv h => Nat.lt_of_le_of_ne h.1 fun z => h.2 (rk_inj u (my u hu) v (my v hv) z)
  have s5 : S5.Pairwise fun a b => rk a < rk b := by decide +kernel
  refine asc_eq b (s5.filter p) fun x => ?_
  rw [List.mem_filter, hpx, hp.mem_iff]
  exact ⟨fun h => ⟨n5 x (hm x h), h⟩, fun h => h.2⟩
theorem fr_name {ws : List Str} : ∀ (φ : Fm) (bd : List Key), φ.lits (litOk ws nameVar) okNm → ∀ k ∈ fr φ bd, nameVar k
  | .tt _, _, _, k, h => by cases h
  | .eq l r, bd, h, k, hk => by
    obtain ⟨a, b⟩ := lit_nm h
    have hk := (List.mem_filter.mp hk).1
    exact (List.mem_append.mp hk).elim (nm_name l a k) (nm_name r b k)
  | .neg f, bd, h, k, hk => fr_name f bd h k hk
  | .bin _ f g, bd, h, k, hk => (List.mem_append.mp hk).elim (fr_name f bd h.1 k) (fr_name g bd h.2 k)
  | .qu _ x f, bd, h, k, hk => fr_name f _ h.2 k hk
where
  nm_name : ∀ t : Ter, t.wf anyW nameVar → ∀ k ∈ nms t, nameVar k := fun t => Ter.rec (motive_1 := fun t => t.wf anyW nameVar → ∀ k ∈ nms t, nameVar k) (motive_2 := fun ts => Ter.wfs anyW nameVar ts → ∀ k ∈ nmss ts, nameVar k)
    (fun k h j hj => by cases List.mem_singleton.mp hj; exact h) (fun f as ih h => ih h.2) (fun _ j hj => by cases hj) (fun a r h1 h2 h j hj => (List.mem_append.mp hj).elim (h1 h.1 j) (h2 h.2 j)) t
theorem inr_list : ∀ {L : List Key}, (∀ k ∈ L, nameVar k) → ∃ xs : List Str, L = xs.map Sum.inr ∧ ∀ x ∈ xs, x ∈ NAMES5
  | [], _ => ⟨[], rfl, fun _ h => by cases h⟩
  | k :: r, h => by
    obtain ⟨x, rfl, hx⟩ := h k List.mem_cons_self
    obtain ⟨xs, rfl, hs⟩ := inr_list (L := r) fun k hk => h k (List.mem_cons_of_mem _ hk)
    exact ⟨x :: xs, rfl, fun y hy => (List.mem_cons.mp hy).elim (fun e => e ▸ hx) (hs y)⟩
/-- the names that first_free_variables finds, and those that the law tells -/
theorem fv_names {ws : List Str} {φ : Fm} (h : φ.lits (litOk ws nameVar) okNm) : ∃ xs : List Str, φ.fv [] [] = xs.map Sum.inr ∧ xs.length < 64 ∧ ∀ ys : List Str, ys.Perm xs → sortedS ys = true → ys = S5.filter fun x => hasK (fr φ []) (.inr x) := by
  have m : ∀ k, k ∈ φ.fv [] [] ↔ k ∈ fr φ [] := fun k => by
    rw [mem_fv]
    exact ⟨fun z => z.elim (fun z => by cases z) id, .inr⟩
  obtain ⟨xs, ex, hx⟩ := inr_list (L := φ.fv [] []) fun k hk => fr_name φ [] h k ((m k).mp hk)
  have nd : xs.Nodup := by
    have := fv_nd φ [] [] List.nodup_nil
    rw [ex] at this
    exact List.Pairwise.of_map _ (fun a b h e => h (congrArg _ e)) this
  refine ⟨xs, ex, ?_, fun ys hp hs => names_eq nd hx hp hs _ fun x => ?_⟩
  · have := nodup_le nd (ws := NAMES5) hx
    have : NAMES5.length = 5 := rfl
    omega
  · rw [hasK_iff, ← m, ex, List.mem_map]
    exact ⟨fun ⟨y, hy, e⟩ => Sum.inr.inj e ▸ hy, fun hx => ⟨x, hx, rfl⟩⟩
end

end K15
namespace K15
open PySem PySem.Spec PyProof.Rows L2 Own HT
-- bumped
section
variable {P : Program} {w : World} {K : PySem.W.Frag} {mg : Str → Option Value} {base : Heap}
/-! ### law -/
def spLaw (K : PySem.W.Frag) : Sp := fun vs H Q _ => ∃ (a : Addr) (ns : List Int), vs = [.ref a] ∧ SqL K H a (ns.map V.int) ∧ ns.length ≤ 63 ∧ ∀ H', Q (.bl true) H'
theorem sc_law : FnScope ["_law_script","_law_draws_here","_law_words_here","_law_k","_law_formulas","_law_clauses","_law_literals","_law_formula_here","_law_rows","_law_free_here","_law_name","_law_due","_law_handed","_law_clause_here"] ["_law_script"] (defScope s_law) := ⟨rfl, rfl, rfl, by decide +kernel, rfl, by decide +kernel, by decide +kernel⟩
theorem told_fits (l : List Ent) {ws : List Str} (h9 : ws.length = 9) (k : Kn ws l) : fitsD 66 (.list [.list ((prsOf l false).map Own.prD), .list ((prsOf l true).map Own.prD)]) := by
  have a := kn_len h9 k false
  have b := kn_len h9 k true
  refine ⟨by show 2 ≤ 1000000; decide, fun y hy => ?_⟩
  rcases List.mem_cons.mp hy with rfl | hy
  · exact Own.fits_prs 62 (by omega)
  · cases List.mem_singleton.mp hy
    exact Own.fits_prs 62 (by omega)
theorem ok_law {f C fD fW fT fF fC fI fS fL fE fV fO fN fFS fCS : Addr} {fd dD dW dT dF dC dI dS dL dE dV dO dN dFS dCS : FuncData} (D : Df K mg "law" s_law ["_law_script"] f fd) (m_range : mg "range" = none) (m_list : mg "list" = none)
    (DD : Df K mg "_law_draws" s__law_draws ["_law_script"] fD dD) (GD : FnOk P w K mg base CX0 1 fD dD ["_law_script"] (spDraws K)) (DW : Df K mg "_law_words" s__law_words ["_law_draws_here", "_law_many"] fW dW) (GW : FnOk P w K mg base CX0 2 fW dW ["_law_draws_here", "_law_many"] spWords)
    (DT : Df K mg "_law_take" s__law_take ["_law_draws_here", "_law_bound"] fT dT) (GT : FnOk P w K mg base CX0 1 fT dT ["_law_draws_here", "_law_bound"] spTake) (DF : Df K mg "_law_formula" s__law_formula ["_law_draws_here", "_law_words_here", "_law_depth"] fF dF) (GF : FnOk P w K mg base CX0 14 fF dF ["_law_draws_here", "_law_words_here", "_law_depth"] (spForm 6))
    (DC : Df K mg "_law_clause" s__law_clause ["_law_draws_here", "_law_words_here", "_law_most"] fC dC) (GC : FnOk P w K mg base CX0 9 fC dC ["_law_draws_here", "_law_words_here", "_law_most"] spClause) (DI : Df K mg "_law_sides" s__law_sides ["_law_formula_here"] fI dI) (GI : FnOk P w K mg base CX0 7 fI dI ["_law_formula_here"] (spSides 7))
    (DS : Df K mg "_law_same" s__law_same ["_law_value", "_law_due"] fS dS) (GS : FnOk P w K mg base CX0 66 fS dS ["_law_value", "_law_due"] (spSame K 66)) (DL : Df K mg "formula_literals" s_formula_literals ["formula"] fL dL) (GL : FnOk P w K mg base CX0 2 fL dL ["formula"] spFl)
    (DE : Df K mg "_law_free" s__law_free ["_law_formula_here", "_law_bound"] fE dE) (GE : FnOk P w K mg base CX0 68 fE dE ["_law_formula_here", "_law_bound"] (spFree 7)) (DV : Df K mg "free_variables" s_free_variables ["formula"] fV dV) (GV : FnOk P w K mg base CX0 4 fV dV ["formula"] spFv)
    (DO : Df K mg "_law_told" s__law_told ["_law_signature_here"] fO dO) (GO : FnOk P w K mg base CX0 3 fO dO ["_law_signature_here"] (spTold C)) (DN : Df K mg "_law_signature" s__law_signature ["_law_literals"] fN dN) (GN : FnOk P w K mg base CX0 62 fN dN ["_law_literals"] spLS)
    (DFS : Df K mg "formula_signature" s_formula_signature ["formulas"] fFS dFS) (GFS : FnOk P w K mg base (L2N.CX P w) 70 fFS dFS ["formulas"] (spFS C)) (DCS : Df K mg "clause_signature" s_clause_signature ["clauses"] fCS dCS) (GCS : FnOk P w K mg base (L2N.CX P w) 70 fCS dCS ["clauses"] (spCS C)) :
    FnOk P w K mg base CX0 71 f fd ["_law_script"] (spLaw K) := by
  refine D.F.ok sc_law (fun vs H Q E h => ?_) (fun cdv A outer s H vs Q E hr h => ?_)
  · obtain ⟨a, ns, rfl, _⟩ := h; rfl
  obtain ⟨a, ns, rfl, hS, hlen, q⟩ := h
  have nd := sc_law.nd
  have r1 : Room 1 _ := hr.mono (by decide)
  have r2 : Room 2 _ := hr.mono (by decide)
  have r3 : Room 3 _ := hr.mono (by decide)
  have r4 : Room 4 _ := hr.mono (by decide)
  have r7 : Room 7 _ := hr.mono (by decide)
  have r9 : Room 9 _ := hr.mono (by decide)
  have r14 : Room 14 _ := hr.mono (by decide)
  have r62 : Room 62 _ := hr.mono (by decide)
  have r66 : Room 66 _ := hr.mono (by decide)
  have r68 : Room 68 _ := hr.mono (show 68 ≤ 70 by decide)
  refine ⟨_, (pss_cons (ps_set (i := 1) nd rfl (.inr rfl) (pe_call GD r1 (by rfl) DD.m DD.F.kp DD.b .nil pass0 (pa_cons (pv 0) pa_nil)))
    (pss_cons (ps_set (i := 2) nd rfl (.inr rfl) (pe_call GW r2 (by rfl) DW.m DW.F.kp DW.b .nil pass0 (pa_cons (pv 1) (pa_cons pe_int pa_nil))))
    (pss_cons (ps_setLc (i := 4) (own := [("_law_k", 3)]) (g := gName 3) (tt := tYes) (te := (tCall (spForm 6) [] E0 (tCons (tVar 1) (tCons (tVar 2) (tCons (tCall spTake [] E0 (tCons (tVar 1) (tCons (tC (.int 6)) tNil))) tNil))))) rfl nd rfl rfl (sw_true rfl rfl rfl (by decide +kernel)) (pi_range1 (by rfl) m_range (pa_cons (pe_call GT r1 (by rfl) DT.m DT.F.kp DT.b .nil pass0 (pa_cons (pv 1) (pa_cons pe_int pa_nil))) pa_nil)) (blkOk_by (N := ["_law_script", "_law_draws_here", "_law_words_here", "_law_k", "_law_formulas", "_law_clauses", "_law_literals", "_law_formula_here", "_law_rows", "_law_free_here", "_law_name", "_law_due", "_law_handed", "_law_clause_here"]) (sc := defScope s_law) (by decide +kernel)) (fun _ _ _ _ _ => (pg_name (i := 3) nd rfl (.inl rfl))) (fun _ _ _ _ _ => pts_nil) (fun _ _ _ _ _ => (pe_call GF r14 (by rfl) DF.m DF.F.kp DF.b .nil pass0 (pa_cons (pv 1) (pa_cons (pv 2) (pa_cons (pe_call GT r1 (by rfl) DT.m DT.F.kp DT.b .nil pass0 (pa_cons (pv 1) (pa_cons pe_int pa_nil))) pa_nil))))))
    (pss_cons (ps_setLc (i := 5) (own := [("_law_k", 3)]) (g := gName 3) (tt := tYes) (te := (tCall spClause [] E0 (tCons (tVar 1) (tCons (tVar 2) (tCons (tC (.int 4)) tNil))))) rfl nd rfl rfl (sw_true rfl rfl rfl (by decide +kernel)) (pi_range1 (by rfl) m_range (pa_cons (pe_call GT r1 (by rfl) DT.m DT.F.kp DT.b .nil pass0 (pa_cons (pv 1) (pa_cons pe_int pa_nil))) pa_nil)) (blkOk_by (N := ["_law_script", "_law_draws_here", "_law_words_here", "_law_k", "_law_formulas", "_law_clauses", "_law_literals", "_law_formula_here", "_law_rows", "_law_free_here", "_law_name", "_law_due", "_law_handed", "_law_clause_here"]) (sc := defScope s_law) (by decide +kernel)) (fun _ _ _ _ _ => (pg_name (i := 3) nd rfl (.inl rfl))) (fun _ _ _ _ _ => pts_nil) (fun _ _ _ _ _ => (pe_call GC r9 (by rfl) DC.m DC.F.kp DC.b .nil pass0 (pa_cons (pv 1) (pa_cons (pv 2) (pa_cons pe_int pa_nil))))))
    (pss_cons (ps_set (i := 6) nd rfl (.inl rfl) (pe_lst pa_nil))
    (pss_cons (ps_for PassesOwn.never rfl (pi_list (pv 4)) (pg_name (i := 7) nd rfl (.inl rfl))
      (pss_cons (ps_set (i := 8) nd rfl (.inl rfl) (pe_call GI r7 (by rfl) DI.m DI.F.kp DI.b .nil pass0 (pa_cons (pv 7) pa_nil)))
    (pss_cons (ps_set (i := 6) nd rfl (.inl rfl) (pe_op op_cat (pv 6) (pv 8)))
    (pss_cons (ps_if (pt_not (pt_val (pe_call GS r66 (by rfl) DS.m DS.F.kp DS.b .nil pass0 (pa_cons (pe_call GL r2 (by rfl) DL.m DL.F.kp DL.b .nil pass0 (pa_cons (pv 7) pa_nil)) (pa_cons (pv 8) pa_nil)))))
      (pss_one (ps_ret pe_bl))
      pss_nil)
    (pss_cons (ps_set (i := 9) nd rfl (.inr rfl) (pe_call GE r68 (by rfl) DE.m DE.F.kp DE.b .nil pass0 (pa_cons (pv 7) (pa_cons (pe_lst pa_nil) pa_nil))))
    (pss_cons (ps_setLc (i := 11) (own := [("_law_name", 10)]) (g := gName 10) (tt := (tTest (tOp (rIn K false) (tVar 10) (tVar 9)))) (te := (tVar 10)) rfl nd rfl rfl (sw_true rfl rfl rfl (by decide +kernel)) (pi_list (pe_lst (pa_cons pe_str (pa_cons pe_str (pa_cons pe_str (pa_cons pe_str (pa_cons pe_str pa_nil))))))) (blkOk_by (N := ["_law_script", "_law_draws_here", "_law_words_here", "_law_k", "_law_formulas", "_law_clauses", "_law_literals", "_law_formula_here", "_law_rows", "_law_free_here", "_law_name", "_law_due", "_law_handed", "_law_clause_here"]) (sc := defScope s_law) (by decide +kernel)) (fun _ _ _ _ _ => (pg_name (i := 10) nd rfl (.inl rfl))) (fun _ _ _ _ _ => (pts_one (pt_cmpR op_in_seq (pv 10) (pv 9) (by rfl)))) (fun _ _ _ _ _ => (pv 10)))
    (pss_one (ps_if (pt_not (pt_val (pe_call GS r66 (by rfl) DS.m DS.F.kp DS.b .nil pass0 (pa_cons (pe_call GV r4 (by rfl) DV.m DV.F.kp DV.b .nil pass0 (pa_cons (pv 7) pa_nil)) (pa_cons (pv 11) pa_nil)))))
      (pss_one (ps_ret pe_bl))
      pss_nil))))))))
    (pss_cons (ps_set (i := 12) nd rfl (.inl rfl) (pe_callTy call_list_of (by rfl) m_list (by decide +kernel) (pa_cons (pv 4) pa_nil)))
    (pss_cons (ps_if (PW.pt (pw_or (pt_not (pt_val (pe_call GS r66 (by rfl) DS.m DS.F.kp DS.b .nil pass0 (pa_cons (pe_call GO r3 (by rfl) DO.m DO.F.kp DO.b .nil pass0 (pa_cons (pe_callS (E := fun _ => E0) GFS hr (by rfl) DFS.m DFS.F.kp DFS.b passLN (pa_cons (pv 12) pa_nil)) pa_nil)) (pa_cons (pe_call GN r62 (by rfl) DN.m DN.F.kp DN.b .nil pass0 (pa_cons (pv 6) pa_nil)) pa_nil))))) (pw_or1 (pt_cmpR (op_neD hr.units) (pv 12) (pv 4) (nomark _)))))
      (pss_one (ps_ret pe_bl))
      pss_nil)
    (pss_cons (ps_set (i := 6) nd rfl (.inl rfl) (pe_lst pa_nil))
    (pss_cons (ps_for PassesOwn.never rfl (pi_list (pv 5)) (pg_name (i := 13) nd rfl (.inl rfl))
      (pss_one (ps_set (i := 6) nd rfl (.inl rfl) (pe_op op_cat (pv 6) (pe_callTy call_list_of (by rfl) m_list (by decide +kernel) (pa_cons (pv 13) pa_nil))))))
    (pss_cons (ps_set (i := 12) nd rfl (.inl rfl) (pe_callTy call_list_of (by rfl) m_list (by decide +kernel) (pa_cons (pv 5) pa_nil)))
    (pss_cons (ps_if (pt_not (pt_val (pe_call GS r66 (by rfl) DS.m DS.F.kp DS.b .nil pass0 (pa_cons (pe_call GO r3 (by rfl) DO.m DO.F.kp DO.b .nil pass0 (pa_cons (pe_callS (E := fun _ => E0) GCS hr (by rfl) DCS.m DCS.F.kp DCS.b passLN (pa_cons (pv 12) pa_nil)) pa_nil)) (pa_cons (pe_call GN r62 (by rfl) DN.m DN.F.kp DN.b .nil pass0 (pa_cons (pv 6) pa_nil)) pa_nil)))))
      (pss_one (ps_ret pe_bl))
      pss_nil)
    (pss_one (ps_ret (pe_cmpR (op_eqD hr.units) (pv 12) (pv 5) (nomark _)))))))))))))))), ?_⟩
  refine ⟨_, rfl, a, ns, rfl, hS, hlen, fun d H1 s1 n1 I1 => ?_⟩
  refine ⟨_, rfl, d, 9, rfl, I1, by decide, fun wa ws H2 b2 n2 I2 ew lw W => ?_⟩
  have hD2 : Drw H2 d wa ws := ⟨I2, ew, I1.ne n2, lw, W⟩
  -- the formulas
  refine ⟨_, rfl, d, 4, rfl, hD2.hi, by decide, fun r H3 r0 r4' b3 I3 => ?_⟩
  have hD3 := hD2.go b3 I3
  refine ⟨r, rfl, by omega, by omega, fun pf npf => ?_⟩
  have pfd : pf ≠ d := hD3.hi.ne npf
  refine lc_range (lo := 0) (n := r.toNat) (fun i H4 => ∃ acc φs, Drw H4 d wa ws ∧ H4 pf = some (.lst acc) ∧ TmAll H4 acc (φs.map Fm.ter) ∧ φs.length = i ∧ ∀ φ ∈ φs, φ.lits (litOk ws nameVar) okNm ∧ φ.high ≤ 6) ⟨[], [], hD3.same (same_new npf _), upd_same, .nil, rfl, fun _ h => by cases h⟩ (fun i H4 hi h => ?_) (fun H4 h => ?_)
  · obtain ⟨acc, φs, hD4, ec, ha, lt, ok⟩ := h
    refine ⟨rfl, ?_⟩
    refine ⟨_, rfl, _, rfl, _, rfl, d, 6, rfl, hD4.hi, by decide, fun k H5 k0 k6 b5 I5 => ?_⟩
    have hD5 := hD4.go b5 I5
    obtain ⟨k, rfl⟩ : ∃ m : Nat, (m : Int) = k := ⟨k.toNat, by omega⟩
    refine ⟨d, wa, ws, k, rfl, hD5, by omega, fun v φ H6 b6 hD6 hv okφ hh => ?_⟩
    have ec5 := b5 pf _ pfd ec
    have ec6 := b6 pf _ pfd ec5
    have la := ha.len
    rw [List.length_map] at la
    have b7 : But pf H6 (upd H6 pf (.lst (acc ++ [v]))) := But.upd
    have m7 := b7.tups ec6
    have m6 := (b5.tupsI hD4.hi).trans (b6.tupsI hD5.hi)
    refine ⟨acc, ec6, Nat.lt_of_le_of_lt (show acc.length ≤ 100 by omega) (by decide), acc ++ [v], φs ++ [φ], ?_, upd_same, ?_, by rw [List.length_append, List.length_singleton, lt], fun ψ hψ => ?_⟩
    · exact ⟨hD6.hi.of_but b7 pfd.symm, b7 wa _ (fun z => by rw [z] at hD3; rw [hD3.hl] at npf; cases npf) hD6.hl, hD6.ne, hD6.nine, hD6.ok⟩
    · rw [List.map_append]
      exact (TmAll.mono (m6.trans m7) _ _ ha).app (.cons (TmAt.mono m7 _ _ hv) .nil)
    · rcases List.mem_append.mp hψ with hψ | hψ
      · exact ok ψ hψ
      · cases List.mem_singleton.mp hψ
        exact ⟨okφ, by omega⟩
  obtain ⟨af, φs, hD4, ef, hF, lF, okF⟩ := h
  -- the clauses
  refine ⟨_, rfl, d, 4, rfl, hD4.hi, by decide, fun rr H5 rr0 rr4 b5 I5 => ?_⟩
  have hD5 := hD4.go b5 I5
  have ef5 := b5 pf _ pfd ef
  have hF5 := TmAll.mono (b5.tupsI hD4.hi) _ _ hF
  refine ⟨rr, rfl, by omega, by omega, fun pc npc => ?_⟩
  have pcd : pc ≠ d := hD5.hi.ne npc
  have pcf : pc ≠ pf := (ne_of_none ef5 npc).symm
  refine lc_range (lo := 0) (n := rr.toNat) (fun i H6 => ∃ acc cs, Drw H6 d wa ws ∧ H6 pc = some (.lst acc) ∧ ClAll H6 acc cs ∧ cs.length = i ∧ (∀ c ∈ cs, c.length ≤ 5 ∧ ∀ x ∈ c, litOk ws numVar x.2.1 x.2.2) ∧ H6 pf = some (.lst af) ∧ TmAll H6 af (φs.map Fm.ter)) ⟨[], [], hD5.same (same_new npc _), upd_same, .nil, rfl, (fun _ h => by cases h), (same_new npc _) _ _ ef5, TmAll.mono (same_new npc _).tups _ _ hF5⟩ (fun i H6 hi h => ?_) (fun H6 h => ?_)
  · obtain ⟨acc, cs, hD6, ec, ha, lt, ok, ef6, hF6⟩ := h
    refine ⟨rfl, ?_⟩
    refine ⟨_, rfl, _, rfl, d, wa, ws, rfl, hD6, fun p zs c H7 b7 hD7 ep hz lc okc => ?_⟩
    have ec7 := b7 pc _ pcd ec
    have la := ha.len
    have b8 : But pc H7 (upd H7 pc (.lst (acc ++ [.ref p]))) := But.upd
    have m8 := b8.tups ec7
    have m7 := b7.tupsI hD6.hi
    refine ⟨acc, ec7, Nat.lt_of_le_of_lt (show acc.length ≤ 100 by omega) (by decide), acc ++ [.ref p], cs ++ [c], ?_, upd_same, (ha.mono (m7.trans m8)).app (.cons (m8 _ _ ep) (hz.mono m8) .nil), by rw [List.length_append, List.length_singleton, lt], (fun y hy => ?_), b8 _ _ pcf.symm (b7 _ _ pfd ef6), TmAll.mono (m7.trans m8) _ _ hF6⟩
    · exact ⟨hD7.hi.of_but b8 pcd.symm, b8 wa _ (fun z => by rw [z] at hD5; rw [hD5.hl] at npc; cases npc) hD7.hl, hD7.ne, hD7.nine, hD7.ok⟩
    · rcases List.mem_append.mp hy with hy | hy
      · exact ok y hy
      · cases List.mem_singleton.mp hy
        exact ⟨lc, okc⟩
  obtain ⟨ac, cs, hD6, ec, hC, lC, okC, ef6, hF6⟩ := h
  have lφ : φs.length ≤ 4 := by omega
  have lcs : cs.length ≤ 4 := by omega
  have cntF : ∀ φ ∈ φs, φ.cnt2 ≤ 200 := fun φ hφ => by
    have a := cnt_high φ
    have b : 2 ^ φ.high ≤ 2 ^ 6 := Nat.pow_le_pow_right (by decide) (okF φ hφ).2
    have c : (2 : Nat) ^ 6 = 64 := by decide
    omega
  have stF : ∀ φ ∈ φs, φ.lits (litOk ws nameVar) fmStr := fun φ hφ => lits_mono (fun _ _ h => h) (fun x hx => by
    have a : ∀ x ∈ NAMES5, x.length ≤ 40 := by decide +kernel
    exact a x hx) φ (okF φ hφ).1
  have flatLen : ∀ i, ((φs.take i).flatMap Fm.sides).length ≤ 200 * i := fun i => by
    have gen : ∀ (l : List Fm), (∀ φ ∈ l, φ.cnt2 ≤ 200) → (l.flatMap Fm.sides).length ≤ 200 * l.length := fun l => by
      induction l with
      | nil => intro _; exact Nat.zero_le _
      | cons φ r ih =>
        intro h
        have a := ih fun x hx => h x (List.mem_cons_of_mem _ hx)
        have b := h φ List.mem_cons_self
        have c := sides_len φ
        rw [List.flatMap_cons, List.length_append, List.length_cons]
        omega
    have := gen (φs.take i) fun φ hφ => cntF φ (List.mem_of_mem_take hφ)
    rw [List.length_take] at this
    omega
  have okS : ∀ i, ∀ x ∈ (φs.take i).flatMap Fm.sides, litOk ws nameVar x.2.1 x.2.2 := fun i x hx => by
    obtain ⟨φ, hφ, hx⟩ := List.mem_flatMap.mp hx
    exact sides_ok (okF φ (List.mem_of_mem_take hφ)).1 x hx
  -- literals = []
  refine ⟨by show 0 ≤ sizeLine; decide, fun p0 np0 => ?_⟩
  have s7 := same_new np0 (.lst [])
  have ef7 := s7 _ _ ef6
  have ec7 := s7 _ _ ec
  have hF7 := TmAll.mono s7.tups _ _ hF6
  have hC7 := hC.mono s7.tups
  have ep0 : upd H6 p0 (.lst []) p0 = some (.lst []) := upd_same
  generalize upd H6 p0 (.lst []) = H7 at s7 ef7 ec7 hF7 hC7 ep0
  refine ⟨_, rfl, pf, rfl, ⟨_, .inl (.inl ef7)⟩, for_list (K := K) (xs := af) (fun i σ G => ∃ y7 y8 y9 y11 pl zs, σ = [some (.ref a), some (.ref d), some (.ref wa), none, some (.ref pf), some (.ref pc), some (.ref pl), y7, y8, y9, none, y11, none, none] ∧ Same H7 G ∧ G pl = some (.lst zs) ∧ LitAll G zs ((φs.take i).flatMap Fm.sides))
    ⟨none, none, none, none, p0, [], rfl, Same.refl _, ep0, .nil⟩ (fun i σ G _ h => ?_) (fun i x σ G hx h => ?_) (fun σ G h => ?_)⟩
  · obtain ⟨_, _, _, _, _, _, _, sm, _⟩ := h
    exact .inl (.inl (sm _ _ ef7))
  · obtain ⟨y7, y8, y9, y11, pl, zs, rfl, sm, epl, hZ⟩ := h
    obtain ⟨t, et, hxt⟩ := hF7.get hx
    rw [List.getElem?_map] at et
    obtain ⟨φ, eφ, rfl⟩ : ∃ φ, φs[i]? = some φ ∧ φ.ter = t := Option.map_eq_some_iff.mp et
    have mφ := List.mem_of_getElem? eφ
    have il : i < φs.length := (List.getElem?_eq_some_iff.mp eφ).1
    obtain ⟨okφ, hφ⟩ := okF φ mφ
    have cφ := cntF φ mφ
    have stφ := stF φ mφ
    have sl := sides_len φ
    have oks : ∀ x ∈ φ.sides, litOk ws nameVar x.2.1 x.2.2 := sides_ok okφ
    -- rows
    refine ⟨_, rfl, x, φ, rfl, TmAt.mono sm.tups _ _ hxt, by omega, by omega, fun pr rs G1 s1 npr epr hR => ?_⟩
    have lZ := hZ.len
    have lR := hR.len
    have fl := flatLen i
    refine ⟨_, rfl, _, rfl, pl, pr, zs, rs, rfl, rfl, s1 _ _ epl, epr, small6 (by omega), fun p3 np3 => ?_⟩
    have s2 := same_new np3 (.lst (zs ++ rs))
    have s12 := s1.trans s2
    have hZ2 : LitAll (upd G1 p3 (.lst (zs ++ rs))) (zs ++ rs) ((φs.take (i + 1)).flatMap Fm.sides) := by
      rw [List.take_add_one, eφ, List.flatMap_append]
      show LitAll _ _ (_ ++ (φ.sides ++ []))
      rw [List.append_nil]
      exact (hZ.mono s12.tups).app (hR.mono s2.tups)
    -- formula_literals
    refine ⟨_, rfl, x, φ, rfl, TmAt.mono (sm.trans s12).tups _ _ hxt, by omega, fun p4 ys G4 s4 np4 ep4 hY => ?_⟩
    refine ⟨_, rfl, _, _, .list (φ.sides.map litD), rfl, .lst (.inl (.inl ep4)) (dp_lits hY), .lst (.inl (.inl (s4 _ _ (s2 _ _ epr)))) (dp_lits (hR.mono (s2.trans s4).tups)), fits_lits (by omega) oks, _, rfl, iteF ?_⟩
    have s14 := s12.trans s4
    -- _law_free
    refine ⟨_, rfl, by show 0 ≤ sizeLine; decide, fun pb npb => ?_⟩
    have s5 := same_new npb (.lst [])
    have s15 := s14.trans s5
    refine ⟨x, pb, φ, [], ws, rfl, TmAt.mono (sm.trans s15).tups _ _ hxt, upd_same, by decide, stφ, by omega, by omega, fun pe G6 s6 npe epe => ?_⟩
    have s16 := s15.trans s6
    -- due
    refine ⟨by show 5 ≤ sizeLine; decide, fun p5 np5 => ?_⟩
    have s7' := same_new np5 (.lst (S5.map V.str))
    refine ⟨p5, rfl, ⟨_, .inl (.inl (upd_same (o := HO.lst (S5.map V.str))))⟩, fun Dd nDd => lc_list (K := K) (xs := S5.map V.str) (fun j G8 => Same (upd G6 p5 (.lst (S5.map V.str))) G8 ∧ G8 Dd = some (.lst (((S5.take j).filter fun x => hasK (fr φ []) (.inr x)).map V.str))) ⟨same_new nDd _, upd_same⟩ (fun j G8 _ h => ?_) (fun j y G8 hy h => ?_) (fun G8 h => ?_)⟩
    · exact .inl (.inl (h.1 _ _ upd_same))
    · obtain ⟨s8, eD⟩ := h
      rw [List.getElem?_map] at hy
      obtain ⟨nm, en, rfl⟩ : ∃ nm, S5[j]? = some nm ∧ V.str nm = y := Option.map_eq_some_iff.mp hy
      refine ⟨rfl, ?_⟩
      have jl : j < 5 := (List.getElem?_eq_some_iff.mp en).1
      refine ⟨_, rfl, _, rfl, pe, _, rfl, .inl (.inl (.inl (s8 _ _ (s7' _ _ epe)))), rfl, flat_keys _, _, rfl, ?_⟩
      show (if inV (kV (.inr nm)) ((fr φ []).map kV) = true then _ else _)
      rw [inV_key]
      have tk : (S5.take (j + 1)).filter (fun x => hasK (fr φ []) (.inr x)) = (S5.take j).filter (fun x => hasK (fr φ []) (.inr x)) ++ (if hasK (fr φ []) (.inr nm) = true then [nm] else []) := by
        rw [List.take_add_one, en, List.filter_append]
        show _ ++ [nm].filter _ = _
        rw [List.filter_cons]
        split <;> rfl
      cases hk : hasK (fr φ []) (.inr nm) with
      | false =>
        refine iteF ?_
        rw [hk, if_neg (by decide), List.append_nil] at tk
        exact ⟨s8, by rw [tk]; exact eD⟩
      | true =>
        refine iteT ?_
        rw [hk, if_pos rfl] at tk
        have lf := List.length_filter_le (fun x => hasK (fr φ []) (.inr x)) (S5.take j)
        rw [List.length_take] at lf
        refine ⟨_, rfl, _, eD, small6' (by rw [List.length_map]; omega), same_fresh s8 nDd, ?_⟩
        rw [tk, List.map_append]
        exact upd_same
    obtain ⟨s8, eD⟩ := h
    rw [List.length_map, List.take_length] at eD
    have s18 := s16.trans (s7'.trans s8)
    obtain ⟨xs, exs, lxs, srt⟩ := fv_names okφ
    refine ⟨_, rfl, x, φ, xs, rfl, TmAt.mono (sm.trans s18).tups _ _ hxt, litsZ okφ, by omega, by omega, exs, lxs, fun pv ys G9 s9 npv epv hp hs => ?_⟩
    have ey := srt ys hp hs
    have dpS : ∀ l : List Str, DpAll K G9 (l.map V.str) (l.map PyData.str) := fun l => by
      induction l with
      | nil => exact .nil
      | cons z r ih => exact .cons (.str z) ih
    refine ⟨_, rfl, _, _, .list (ys.map PyData.str), rfl, .lst (.inl (.inl epv)) (dpS ys), .lst (.inl (.inl (s9 _ _ eD))) (by rw [← ey]; exact dpS ys), ⟨by rw [List.length_map, hp.length_eq]; omega, fun z hz => by obtain ⟨y, _, rfl⟩ := List.mem_map.mp hz; trivial⟩, _, rfl, iteF ?_⟩
    refine ⟨_, _, _, _, p3, zs ++ rs, rfl, sm.trans (s18.trans s9), ((s4.trans s5).trans (s6.trans (s7'.trans (s8.trans s9)))) _ _ upd_same, hZ2.mono ((s4.trans s5).trans (s6.trans (s7'.trans (s8.trans s9)))).tups⟩
  -- the formulas' signature
  obtain ⟨y7, y8, y9, y11, pl, zs, rfl, sm, epl, hZ⟩ := h
  have lF7 := hF7.len
  rw [List.length_map] at lF7
  rw [lF7, List.take_length] at hZ
  have okAll : ∀ x ∈ φs.flatMap Fm.sides, litOk ws nameVar x.2.1 x.2.2 := fun x hx => by
    have := okS φs.length x
    rw [List.take_length] at this
    exact this hx
  refine ⟨_, rfl, pf, af, rfl, .inl (.inl (.inl (sm _ _ ef7))), fun ph nph => ?_⟩
  have s8 := same_new nph (.lst af)
  have sm8 := sm.trans s8
  refine ⟨_, rfl, ph, af, φs, ws, rfl, upd_same, TmAll.mono sm8.tups _ _ hF7, W, lw, (fun φ hφ => ⟨stF φ hφ, by have := cntF φ hφ; omega⟩), fun p dk da G3 s3 K3 => ?_⟩
  have kn3 : Kn ws (addLs [] (φs.flatMap Fm.sides)) := ⟨K3.con, K3.S.nd⟩
  refine ⟨p, dk, da, _, rfl, K3.S, by have := con_len lw kn3.con kn3.nd; omega, fun rt p1 p2 xs1 xs2 G4 s4 nrt ert e1 e2 A1 A2 => ?_⟩
  refine ⟨_, rfl, pl, zs, _, ws, nameVar, rfl, ((s8.trans s3).trans s4) _ _ epl, hZ.mono ((s8.trans s3).trans s4).tups, W, lw, name_sh, okAll, fun r5 fa pa fs ps G5 s5 nr5 er5 efa epa hfs hps kn5 => ?_⟩
  refine ⟨_, _, .list [.list ((prsOf (addLs [] (φs.flatMap Fm.sides)) false).map Own.prD), .list ((prsOf (addLs [] (φs.flatMap Fm.sides)) true).map Own.prD)], rfl, .lst (.inl (.inl (s5 _ _ ert))) (.cons (.lst (.inl (.inl (s5 _ _ e1))) (dp_prs (A1.mono s5.tups))) (.cons (.lst (.inl (.inl (s5 _ _ e2))) (dp_prs (A2.mono s5.tups))) .nil)),
    .lst (.inl (.inl er5)) (.cons (.lst (.inl (.inl efa)) (dp_prs hfs)) (.cons (.lst (.inl (.inl epa)) (dp_prs hps)) .nil)), told_fits _ lw kn5, _, rfl, iteF ?_⟩
  have s35 := (s3.trans s4).trans s5
  have sm5 := sm8.trans s35
  obtain ⟨shF, eqF⟩ := shp_list (ds := φs.map fun φ => φ.ter.dat) fun dd hd => by
    obtain ⟨φ, hφ, rfl⟩ := List.mem_map.mp hd
    obtain ⟨h1, h2⟩ := okF φ hφ
    have := lay_fm W φ h1
    exact ⟨this.1, by have := this.2; omega⟩
  have dpF := dp_fms (K := K) (TmAll.mono sm5.tups _ _ hF7)
  refine ⟨_, rfl, _, rfl, _, _, .lst (.inl (.inl (s35 _ _ upd_same))) dpF, .lst (.inl (.inl (sm5 _ _ ef7))) dpF, shF, shF, _, rfl, ?_⟩
  rw [eqF]
  refine iteF ?_
  -- the clauses
  refine ⟨by show 0 ≤ sizeLine; decide, fun q0 nq0 => ?_⟩
  have s6 := same_new nq0 (.lst [])
  have sm6 := sm5.trans s6
  have eq0 : upd G5 q0 (.lst []) q0 = some (.lst []) := upd_same
  generalize upd G5 q0 (.lst []) = G6 at sm6 eq0 s6
  have flatC : ∀ i, (cs.take i).flatten.length ≤ 5 * i := fun i => by
    have gen : ∀ (l : List (List Lit)), (∀ c ∈ l, c.length ≤ 5) → l.flatten.length ≤ 5 * l.length := fun l => by
      induction l with
      | nil => intro _; exact Nat.zero_le _
      | cons c r ih =>
        intro h
        have a := ih fun x hx => h x (List.mem_cons_of_mem _ hx)
        have b := h c List.mem_cons_self
        rw [List.flatten_cons, List.length_append, List.length_cons]
        omega
    have := gen (cs.take i) fun c hc => (okC c (List.mem_of_mem_take hc)).1
    rw [List.length_take] at this
    omega
  refine ⟨_, rfl, pc, rfl, ⟨_, .inl (.inl (sm6 _ _ ec7))⟩, for_list (K := K) (xs := ac) (fun i σ G => ∃ y13 pl zs, σ = [some (.ref a), some (.ref d), some (.ref wa), none, some (.ref pf), some (.ref pc), some (.ref pl), y7, y8, y9, none, y11, some (.ref ph), y13] ∧ Same G6 G ∧ G pl = some (.lst zs) ∧ LitAll G zs (cs.take i).flatten)
    ⟨none, q0, [], rfl, Same.refl _, eq0, .nil⟩ (fun i σ G _ h => ?_) (fun i x σ G hx h => ?_) (fun σ G h => ?_)⟩
  · obtain ⟨_, _, _, _, s, _⟩ := h
    exact .inl (.inl (s _ _ (sm6 _ _ ec7)))
  · obtain ⟨y13, pl, zs, rfl, sg, epl, hZ⟩ := h
    obtain ⟨rc, us, c, rfl, ecc, erc, huc⟩ := hC7.get hx
    have il : i < cs.length := (List.getElem?_eq_some_iff.mp ecc).1
    have okc := okC c (List.mem_of_getElem? ecc)
    have sg7 := sm6.trans sg
    refine ⟨_, rfl, _, rfl, rc, us, rfl, .inr (.inl (.inl (sg7 _ _ erc))), fun p8 np8 => ?_⟩
    have t1 := same_new np8 (.lst us)
    have lZ := hZ.len
    have lU := huc.len
    have fl := flatC i
    have l5 := okc.1
    refine ⟨pl, p8, zs, us, rfl, rfl, t1 _ _ epl, upd_same, small6 (by omega), fun p9 np9 => ?_⟩
    have t2 := same_new np9 (.lst (zs ++ us))
    have t12 := t1.trans t2
    refine ⟨_, p9, zs ++ us, rfl, sg.trans t12, upd_same, ?_⟩
    rw [flat_take ecc]
    exact (hZ.mono t12.tups).app (huc.mono (sg7.trans t12).tups)
  obtain ⟨y13, pl2, zs2, rfl, sg, epl2, hZ2⟩ := h
  rw [hC7.len, List.take_length] at hZ2
  have sg7 := sm6.trans sg
  refine ⟨_, rfl, pc, ac, rfl, .inl (.inl (.inl (sg7 _ _ ec7))), fun pk npk => ?_⟩
  have t1 := same_new npk (.lst ac)
  have sg8 := sg7.trans t1
  have okCx : ∀ c ∈ cs, ∀ x ∈ c, litOk ws numVar x.2.1 x.2.2 := fun c hc => (okC c hc).2
  have okFl : ∀ x ∈ cs.flatten, litOk ws numVar x.2.1 x.2.2 := fun x hx => by
    obtain ⟨c, hc, hx⟩ := List.mem_flatten.mp hx
    exact okCx c hc x hx
  refine ⟨_, rfl, pk, ac, cs, ws, rfl, upd_same, hC7.mono sg8.tups, W, lw, okCx, fun p' dk' da' J3 v3 K3' => ?_⟩
  have kn3' : Kn ws (addLs [] cs.flatten) := ⟨K3'.con, K3'.S.nd⟩
  refine ⟨p', dk', da', _, rfl, K3'.S, by have := con_len lw kn3'.con kn3'.nd; omega, fun rt' p1' p2' xs1' xs2' J4 v4 nrt' ert' e1' e2' A1' A2' => ?_⟩
  refine ⟨_, rfl, pl2, zs2, _, ws, numVar, rfl, ((t1.trans v3).trans v4) _ _ epl2, hZ2.mono ((t1.trans v3).trans v4).tups, W, lw, num_sh, okFl, fun r5' fa' pa' fs' ps' J5 v5 nr5' er5' efa' epa' hfs' hps' kn5' => ?_⟩
  refine ⟨_, _, .list [.list ((prsOf (addLs [] cs.flatten) false).map Own.prD), .list ((prsOf (addLs [] cs.flatten) true).map Own.prD)], rfl, .lst (.inl (.inl (v5 _ _ ert'))) (.cons (.lst (.inl (.inl (v5 _ _ e1'))) (dp_prs (A1'.mono v5.tups))) (.cons (.lst (.inl (.inl (v5 _ _ e2'))) (dp_prs (A2'.mono v5.tups))) .nil)),
    .lst (.inl (.inl er5')) (.cons (.lst (.inl (.inl efa')) (dp_prs hfs')) (.cons (.lst (.inl (.inl epa')) (dp_prs hps')) .nil)), told_fits _ lw kn5', _, rfl, iteF ?_⟩
  have v35 := (v3.trans v4).trans v5
  have dpC := dp_cls (K := K) (hC7.mono (sg8.trans v35).tups)
  obtain ⟨shC, eqC⟩ := shp_list (lay_cls W okCx)
  refine ⟨_, rfl, _, rfl, _, _, .lst (.inl (.inl (v35 _ _ upd_same))) dpC, .lst (.inl (.inl ((sg8.trans v35) _ _ ec7))) dpC, shC, shC, ?_⟩
  rw [eqC]
  exact q _
end

end K15
set_option maxHeartbeats 4000000
namespace K15
open PySem PySem.Spec PyProof.Rows L2 Own HT
theorem all_mk {l : PySem.W.OpenLaw} {w : World} {K : PySem.W.Frag} {h : Heap} {mg : Str → Option Value} {fa f_is_integer f_decimal f_worded f_is_variable f_variables_of f_formula_signature f_clause_signature f_add_literal f_add_functions f_parts f_free_variables f_first_free_variables f_formula_literals f__law_draws f__law_take f__law_words f__law_variable f__law_term f__law_named f__law_atom f__law_formula f__law_literal f__law_clause f__law_same f__law_sides f__law_symbols f__law_signature f__law_names f__law_free f__law_told f_law : Addr}
    {CS fS0 fS1 fS2 fS3 fS4 fS5 fS6 : Addr} {odS0 anS0 odS1 anS1 odS2 anS2 odS3 anS3 odS4 anS4 odS5 anS5 odS6 anS6 : Option Addr} {slS0 slS1 slS2 slS3 slS4 slS5 slS6 : Array (Option Value)} {ocS0 kVS0 dcS0 pmS0 cdS0 ctS0 ocS1 kVS1 dcS1 pmS1 cdS1 ctS1 ocS2 kVS2 dcS2 pmS2 cdS2 ctS2 ocS3 kVS3 dcS3 pmS3 cdS3 ctS3 ocS4 kVS4 dcS4 pmS4 cdS4 ctS4 ocS5 kVS5 dcS5 pmS5 cdS5 ctS5 ocS6 kVS6 dcS6 pmS6 cdS6 ctS6 : Value} {f_TRUE : Addr} {od_T : Option Addr} {sl_T : Array (Option Value)} {n_T : Nat} {t_PIECE t_T t_GA : Tok} {C_KindError fI_KindError cc_KindError ca_KindError NN_KindError : Addr} {nm_KindError qn_KindError fl_KindError : Str} {bs_KindError bm_KindError su_KindError : List Value} {sn_KindError : List Str} {ab_KindError : Bool} {cl_KindError : Option Bool} {dd_KindError oe_KindError an_KindError cx_KindError ce_KindError : Option Addr} {m0_KindError m1_KindError m2_KindError m3_KindError m5_KindError : Option Value} {oc_KindError kV_KindError do_KindError pm_KindError ct_KindError oo_KindError ol_KindError : Value} {os_KindError ox_KindError oy_KindError : Array (Option Value)} {vv_KindError : Array Value} {tf_KindError : Tok} {C_TooLarge fI_TooLarge cc_TooLarge ca_TooLarge NN_TooLarge : Addr} {nm_TooLarge qn_TooLarge fl_TooLarge : Str} {bs_TooLarge bm_TooLarge su_TooLarge : List Value} {sn_TooLarge : List Str} {ab_TooLarge : Bool} {cl_TooLarge : Option Bool} {dd_TooLarge oe_TooLarge an_TooLarge cx_TooLarge ce_TooLarge : Option Addr} {m0_TooLarge m1_TooLarge m2_TooLarge m3_TooLarge m5_TooLarge : Option Value} {oc_TooLarge kV_TooLarge do_TooLarge pm_TooLarge ct_TooLarge oo_TooLarge ol_TooLarge : Value} {os_TooLarge ox_TooLarge oy_TooLarge : Array (Option Value)} {vv_TooLarge : Array Value} {tf_TooLarge : Tok} {C_ArityError fI_ArityError cc_ArityError ca_ArityError NN_ArityError : Addr} {nm_ArityError qn_ArityError fl_ArityError : Str} {bs_ArityError bm_ArityError su_ArityError : List Value} {sn_ArityError : List Str} {ab_ArityError : Bool} {cl_ArityError : Option Bool} {dd_ArityError oe_ArityError an_ArityError cx_ArityError ce_ArityError : Option Addr} {m0_ArityError m1_ArityError m2_ArityError m3_ArityError m5_ArityError : Option Value} {oc_ArityError kV_ArityError do_ArityError pm_ArityError ct_ArityError oo_ArityError ol_ArityError : Value} {os_ArityError ox_ArityError oy_ArityError : Array (Option Value)} {vv_ArityError : Array Value} {tf_ArityError : Tok}
    (X : K.In h) (G : h.Ns mainGlobals mg) (hfa : mg "law" = some (.ref fa))
    {od_is_integer an_is_integer od_decimal an_decimal od_worded an_worded od_is_variable an_is_variable od_variables_of an_variables_of od_formula_signature an_formula_signature od_clause_signature an_clause_signature od_add_literal an_add_literal od_add_functions an_add_functions od_parts an_parts od_free_variables an_free_variables od_first_free_variables an_first_free_variables od_formula_literals an_formula_literals od__law_draws an__law_draws od__law_take an__law_take od__law_words an__law_words od__law_variable an__law_variable od__law_term an__law_term od__law_named an__law_named od__law_atom an__law_atom od__law_formula an__law_formula od__law_literal an__law_literal od__law_clause an__law_clause od__law_same an__law_same od__law_sides an__law_sides od__law_symbols an__law_symbols od__law_signature an__law_signature od__law_names an__law_names od__law_free an__law_free od__law_told an__law_told od_law an_law : Option Addr} {sl_is_integer sl_decimal sl_worded sl_is_variable sl_variables_of sl_formula_signature sl_clause_signature sl_add_literal sl_add_functions sl_parts sl_free_variables sl_first_free_variables sl_formula_literals sl__law_draws sl__law_take sl__law_words sl__law_variable sl__law_term sl__law_named sl__law_atom sl__law_formula sl__law_literal sl__law_clause sl__law_same sl__law_sides sl__law_symbols sl__law_signature sl__law_names sl__law_free sl__law_told sl_law : Array (Option Value)} {oc_is_integer kV_is_integer dc_is_integer pm_is_integer cd_is_integer ct_is_integer oc_decimal kV_decimal dc_decimal pm_decimal cd_decimal ct_decimal oc_worded kV_worded dc_worded pm_worded cd_worded ct_worded oc_is_variable kV_is_variable dc_is_variable pm_is_variable cd_is_variable ct_is_variable oc_variables_of kV_variables_of dc_variables_of pm_variables_of cd_variables_of ct_variables_of oc_formula_signature kV_formula_signature dc_formula_signature pm_formula_signature cd_formula_signature ct_formula_signature oc_clause_signature kV_clause_signature dc_clause_signature pm_clause_signature cd_clause_signature ct_clause_signature oc_add_literal kV_add_literal dc_add_literal pm_add_literal cd_add_literal ct_add_literal oc_add_functions kV_add_functions dc_add_functions pm_add_functions cd_add_functions ct_add_functions oc_parts kV_parts dc_parts pm_parts cd_parts ct_parts oc_free_variables kV_free_variables dc_free_variables pm_free_variables cd_free_variables ct_free_variables oc_first_free_variables kV_first_free_variables dc_first_free_variables pm_first_free_variables cd_first_free_variables ct_first_free_variables oc_formula_literals kV_formula_literals dc_formula_literals pm_formula_literals cd_formula_literals ct_formula_literals oc__law_draws kV__law_draws dc__law_draws pm__law_draws cd__law_draws ct__law_draws oc__law_take kV__law_take dc__law_take pm__law_take cd__law_take ct__law_take oc__law_words kV__law_words dc__law_words pm__law_words cd__law_words ct__law_words oc__law_variable kV__law_variable dc__law_variable pm__law_variable cd__law_variable ct__law_variable oc__law_term kV__law_term dc__law_term pm__law_term cd__law_term ct__law_term oc__law_named kV__law_named dc__law_named pm__law_named cd__law_named ct__law_named oc__law_atom kV__law_atom dc__law_atom pm__law_atom cd__law_atom ct__law_atom oc__law_formula kV__law_formula dc__law_formula pm__law_formula cd__law_formula ct__law_formula oc__law_literal kV__law_literal dc__law_literal pm__law_literal cd__law_literal ct__law_literal oc__law_clause kV__law_clause dc__law_clause pm__law_clause cd__law_clause ct__law_clause oc__law_same kV__law_same dc__law_same pm__law_same cd__law_same ct__law_same oc__law_sides kV__law_sides dc__law_sides pm__law_sides cd__law_sides ct__law_sides oc__law_symbols kV__law_symbols dc__law_symbols pm__law_symbols cd__law_symbols ct__law_symbols oc__law_signature kV__law_signature dc__law_signature pm__law_signature cd__law_signature ct__law_signature oc__law_names kV__law_names dc__law_names pm__law_names cd__law_names ct__law_names oc__law_free kV__law_free dc__law_free pm__law_free cd__law_free ct__law_free oc__law_told kV__law_told dc__law_told pm__law_told cd__law_told ct__law_told oc_law kV_law dc_law pm_law cd_law ct_law : Value}
    (a_is_integer : PySem.W.nsIn K mainGlobals "is_integer" = some (some (.ref f_is_integer))) (l_is_integer : K.lookup f_is_integer = some ⟨oc_is_integer, od_is_integer, .func (PySem.W.fnOf "is_integer" "is_integer" (defArgs s_is_integer) (defBody s_is_integer) (defScope s_is_integer) .none kV_is_integer dc_is_integer pm_is_integer an_is_integer cd_is_integer ct_is_integer), sl_is_integer⟩) (c_is_integer : PySem.W.codeIn K cd_is_integer "is_integer" = true) (k_is_integer : PySem.W.keepIn K (.ref f_is_integer) = true)
    (a_decimal : PySem.W.nsIn K mainGlobals "decimal" = some (some (.ref f_decimal))) (l_decimal : K.lookup f_decimal = some ⟨oc_decimal, od_decimal, .func (PySem.W.fnOf "decimal" "decimal" (defArgs s_decimal) (defBody s_decimal) (defScope s_decimal) .none kV_decimal dc_decimal pm_decimal an_decimal cd_decimal ct_decimal), sl_decimal⟩) (c_decimal : PySem.W.codeIn K cd_decimal "decimal" = true) (k_decimal : PySem.W.keepIn K (.ref f_decimal) = true)
    (a_worded : PySem.W.nsIn K mainGlobals "worded" = some (some (.ref f_worded))) (l_worded : K.lookup f_worded = some ⟨oc_worded, od_worded, .func (PySem.W.fnOf "worded" "worded" (defArgs s_worded) (defBody s_worded) (defScope s_worded) .none kV_worded dc_worded pm_worded an_worded cd_worded ct_worded), sl_worded⟩) (c_worded : PySem.W.codeIn K cd_worded "worded" = true) (k_worded : PySem.W.keepIn K (.ref f_worded) = true)
    (a_is_variable : PySem.W.nsIn K mainGlobals "is_variable" = some (some (.ref f_is_variable))) (l_is_variable : K.lookup f_is_variable = some ⟨oc_is_variable, od_is_variable, .func (PySem.W.fnOf "is_variable" "is_variable" (defArgs s_is_variable) (defBody s_is_variable) (defScope s_is_variable) .none kV_is_variable dc_is_variable pm_is_variable an_is_variable cd_is_variable ct_is_variable), sl_is_variable⟩) (c_is_variable : PySem.W.codeIn K cd_is_variable "is_variable" = true) (k_is_variable : PySem.W.keepIn K (.ref f_is_variable) = true)
    (a_variables_of : PySem.W.nsIn K mainGlobals "variables_of" = some (some (.ref f_variables_of))) (l_variables_of : K.lookup f_variables_of = some ⟨oc_variables_of, od_variables_of, .func (PySem.W.fnOf "variables_of" "variables_of" (defArgs s_variables_of) (defBody s_variables_of) (defScope s_variables_of) .none kV_variables_of dc_variables_of pm_variables_of an_variables_of cd_variables_of ct_variables_of), sl_variables_of⟩) (c_variables_of : PySem.W.codeIn K cd_variables_of "variables_of" = true) (k_variables_of : PySem.W.keepIn K (.ref f_variables_of) = true)
    (a_formula_signature : PySem.W.nsIn K mainGlobals "formula_signature" = some (some (.ref f_formula_signature))) (l_formula_signature : K.lookup f_formula_signature = some ⟨oc_formula_signature, od_formula_signature, .func (PySem.W.fnOf "formula_signature" "formula_signature" (defArgs s_formula_signature) (defBody s_formula_signature) (defScope s_formula_signature) .none kV_formula_signature dc_formula_signature pm_formula_signature an_formula_signature cd_formula_signature ct_formula_signature), sl_formula_signature⟩) (c_formula_signature : PySem.W.codeIn K cd_formula_signature "formula_signature" = true) (k_formula_signature : PySem.W.keepIn K (.ref f_formula_signature) = true)
    (a_clause_signature : PySem.W.nsIn K mainGlobals "clause_signature" = some (some (.ref f_clause_signature))) (l_clause_signature : K.lookup f_clause_signature = some ⟨oc_clause_signature, od_clause_signature, .func (PySem.W.fnOf "clause_signature" "clause_signature" (defArgs s_clause_signature) (defBody s_clause_signature) (defScope s_clause_signature) .none kV_clause_signature dc_clause_signature pm_clause_signature an_clause_signature cd_clause_signature ct_clause_signature), sl_clause_signature⟩) (c_clause_signature : PySem.W.codeIn K cd_clause_signature "clause_signature" = true) (k_clause_signature : PySem.W.keepIn K (.ref f_clause_signature) = true)
    (a_add_literal : PySem.W.nsIn K mainGlobals "add_literal" = some (some (.ref f_add_literal))) (l_add_literal : K.lookup f_add_literal = some ⟨oc_add_literal, od_add_literal, .func (PySem.W.fnOf "add_literal" "add_literal" (defArgs s_add_literal) (defBody s_add_literal) (defScope s_add_literal) .none kV_add_literal dc_add_literal pm_add_literal an_add_literal cd_add_literal ct_add_literal), sl_add_literal⟩) (c_add_literal : PySem.W.codeIn K cd_add_literal "add_literal" = true) (k_add_literal : PySem.W.keepIn K (.ref f_add_literal) = true)
    (a_add_functions : PySem.W.nsIn K mainGlobals "add_functions" = some (some (.ref f_add_functions))) (l_add_functions : K.lookup f_add_functions = some ⟨oc_add_functions, od_add_functions, .func (PySem.W.fnOf "add_functions" "add_functions" (defArgs s_add_functions) (defBody s_add_functions) (defScope s_add_functions) .none kV_add_functions dc_add_functions pm_add_functions an_add_functions cd_add_functions ct_add_functions), sl_add_functions⟩) (c_add_functions : PySem.W.codeIn K cd_add_functions "add_functions" = true) (k_add_functions : PySem.W.keepIn K (.ref f_add_functions) = true)
    (a_parts : PySem.W.nsIn K mainGlobals "parts" = some (some (.ref f_parts))) (l_parts : K.lookup f_parts = some ⟨oc_parts, od_parts, .func (PySem.W.fnOf "parts" "parts" (defArgs s_parts) (defBody s_parts) (defScope s_parts) .none kV_parts dc_parts pm_parts an_parts cd_parts ct_parts), sl_parts⟩) (c_parts : PySem.W.codeIn K cd_parts "parts" = true) (k_parts : PySem.W.keepIn K (.ref f_parts) = true)
    (a_free_variables : PySem.W.nsIn K mainGlobals "free_variables" = some (some (.ref f_free_variables))) (l_free_variables : K.lookup f_free_variables = some ⟨oc_free_variables, od_free_variables, .func (PySem.W.fnOf "free_variables" "free_variables" (defArgs s_free_variables) (defBody s_free_variables) (defScope s_free_variables) .none kV_free_variables dc_free_variables pm_free_variables an_free_variables cd_free_variables ct_free_variables), sl_free_variables⟩) (c_free_variables : PySem.W.codeIn K cd_free_variables "free_variables" = true) (k_free_variables : PySem.W.keepIn K (.ref f_free_variables) = true)
    (a_first_free_variables : PySem.W.nsIn K mainGlobals "first_free_variables" = some (some (.ref f_first_free_variables))) (l_first_free_variables : K.lookup f_first_free_variables = some ⟨oc_first_free_variables, od_first_free_variables, .func (PySem.W.fnOf "first_free_variables" "first_free_variables" (defArgs s_first_free_variables) (defBody s_first_free_variables) (defScope s_first_free_variables) .none kV_first_free_variables dc_first_free_variables pm_first_free_variables an_first_free_variables cd_first_free_variables ct_first_free_variables), sl_first_free_variables⟩) (c_first_free_variables : PySem.W.codeIn K cd_first_free_variables "first_free_variables" = true) (k_first_free_variables : PySem.W.keepIn K (.ref f_first_free_variables) = true)
    (a_formula_literals : PySem.W.nsIn K mainGlobals "formula_literals" = some (some (.ref f_formula_literals))) (l_formula_literals : K.lookup f_formula_literals = some ⟨oc_formula_literals, od_formula_literals, .func (PySem.W.fnOf "formula_literals" "formula_literals" (defArgs s_formula_literals) (defBody s_formula_literals) (defScope s_formula_literals) .none kV_formula_literals dc_formula_literals pm_formula_literals an_formula_literals cd_formula_literals ct_formula_literals), sl_formula_literals⟩) (c_formula_literals : PySem.W.codeIn K cd_formula_literals "formula_literals" = true) (k_formula_literals : PySem.W.keepIn K (.ref f_formula_literals) = true)
    (a__law_draws : PySem.W.nsIn K mainGlobals "_law_draws" = some (some (.ref f__law_draws))) (l__law_draws : K.lookup f__law_draws = some ⟨oc__law_draws, od__law_draws, .func (PySem.W.fnOf "_law_draws" "_law_draws" (defArgs s__law_draws) (defBody s__law_draws) (defScope s__law_draws) .none kV__law_draws dc__law_draws pm__law_draws an__law_draws cd__law_draws ct__law_draws), sl__law_draws⟩) (c__law_draws : PySem.W.codeIn K cd__law_draws "_law_draws" = true) (k__law_draws : PySem.W.keepIn K (.ref f__law_draws) = true)
    (a__law_take : PySem.W.nsIn K mainGlobals "_law_take" = some (some (.ref f__law_take))) (l__law_take : K.lookup f__law_take = some ⟨oc__law_take, od__law_take, .func (PySem.W.fnOf "_law_take" "_law_take" (defArgs s__law_take) (defBody s__law_take) (defScope s__law_take) .none kV__law_take dc__law_take pm__law_take an__law_take cd__law_take ct__law_take), sl__law_take⟩) (c__law_take : PySem.W.codeIn K cd__law_take "_law_take" = true) (k__law_take : PySem.W.keepIn K (.ref f__law_take) = true)
    (a__law_words : PySem.W.nsIn K mainGlobals "_law_words" = some (some (.ref f__law_words))) (l__law_words : K.lookup f__law_words = some ⟨oc__law_words, od__law_words, .func (PySem.W.fnOf "_law_words" "_law_words" (defArgs s__law_words) (defBody s__law_words) (defScope s__law_words) .none kV__law_words dc__law_words pm__law_words an__law_words cd__law_words ct__law_words), sl__law_words⟩) (c__law_words : PySem.W.codeIn K cd__law_words "_law_words" = true) (k__law_words : PySem.W.keepIn K (.ref f__law_words) = true)
    (a__law_variable : PySem.W.nsIn K mainGlobals "_law_variable" = some (some (.ref f__law_variable))) (l__law_variable : K.lookup f__law_variable = some ⟨oc__law_variable, od__law_variable, .func (PySem.W.fnOf "_law_variable" "_law_variable" (defArgs s__law_variable) (defBody s__law_variable) (defScope s__law_variable) .none kV__law_variable dc__law_variable pm__law_variable an__law_variable cd__law_variable ct__law_variable), sl__law_variable⟩) (c__law_variable : PySem.W.codeIn K cd__law_variable "_law_variable" = true) (k__law_variable : PySem.W.keepIn K (.ref f__law_variable) = true)
    (a__law_term : PySem.W.nsIn K mainGlobals "_law_term" = some (some (.ref f__law_term))) (l__law_term : K.lookup f__law_term = some ⟨oc__law_term, od__law_term, .func (PySem.W.fnOf "_law_term" "_law_term" (defArgs s__law_term) (defBody s__law_term) (defScope s__law_term) .none kV__law_term dc__law_term pm__law_term an__law_term cd__law_term ct__law_term), sl__law_term⟩) (c__law_term : PySem.W.codeIn K cd__law_term "_law_term" = true) (k__law_term : PySem.W.keepIn K (.ref f__law_term) = true)
    (a__law_named : PySem.W.nsIn K mainGlobals "_law_named" = some (some (.ref f__law_named))) (l__law_named : K.lookup f__law_named = some ⟨oc__law_named, od__law_named, .func (PySem.W.fnOf "_law_named" "_law_named" (defArgs s__law_named) (defBody s__law_named) (defScope s__law_named) .none kV__law_named dc__law_named pm__law_named an__law_named cd__law_named ct__law_named), sl__law_named⟩) (c__law_named : PySem.W.codeIn K cd__law_named "_law_named" = true) (k__law_named : PySem.W.keepIn K (.ref f__law_named) = true)
    (a__law_atom : PySem.W.nsIn K mainGlobals "_law_atom" = some (some (.ref f__law_atom))) (l__law_atom : K.lookup f__law_atom = some ⟨oc__law_atom, od__law_atom, .func (PySem.W.fnOf "_law_atom" "_law_atom" (defArgs s__law_atom) (defBody s__law_atom) (defScope s__law_atom) .none kV__law_atom dc__law_atom pm__law_atom an__law_atom cd__law_atom ct__law_atom), sl__law_atom⟩) (c__law_atom : PySem.W.codeIn K cd__law_atom "_law_atom" = true) (k__law_atom : PySem.W.keepIn K (.ref f__law_atom) = true)
    (a__law_formula : PySem.W.nsIn K mainGlobals "_law_formula" = some (some (.ref f__law_formula))) (l__law_formula : K.lookup f__law_formula = some ⟨oc__law_formula, od__law_formula, .func (PySem.W.fnOf "_law_formula" "_law_formula" (defArgs s__law_formula) (defBody s__law_formula) (defScope s__law_formula) .none kV__law_formula dc__law_formula pm__law_formula an__law_formula cd__law_formula ct__law_formula), sl__law_formula⟩) (c__law_formula : PySem.W.codeIn K cd__law_formula "_law_formula" = true) (k__law_formula : PySem.W.keepIn K (.ref f__law_formula) = true)
    (a__law_literal : PySem.W.nsIn K mainGlobals "_law_literal" = some (some (.ref f__law_literal))) (l__law_literal : K.lookup f__law_literal = some ⟨oc__law_literal, od__law_literal, .func (PySem.W.fnOf "_law_literal" "_law_literal" (defArgs s__law_literal) (defBody s__law_literal) (defScope s__law_literal) .none kV__law_literal dc__law_literal pm__law_literal an__law_literal cd__law_literal ct__law_literal), sl__law_literal⟩) (c__law_literal : PySem.W.codeIn K cd__law_literal "_law_literal" = true) (k__law_literal : PySem.W.keepIn K (.ref f__law_literal) = true)
    (a__law_clause : PySem.W.nsIn K mainGlobals "_law_clause" = some (some (.ref f__law_clause))) (l__law_clause : K.lookup f__law_clause = some ⟨oc__law_clause, od__law_clause, .func (PySem.W.fnOf "_law_clause" "_law_clause" (defArgs s__law_clause) (defBody s__law_clause) (defScope s__law_clause) .none kV__law_clause dc__law_clause pm__law_clause an__law_clause cd__law_clause ct__law_clause), sl__law_clause⟩) (c__law_clause : PySem.W.codeIn K cd__law_clause "_law_clause" = true) (k__law_clause : PySem.W.keepIn K (.ref f__law_clause) = true)
    (a__law_same : PySem.W.nsIn K mainGlobals "_law_same" = some (some (.ref f__law_same))) (l__law_same : K.lookup f__law_same = some ⟨oc__law_same, od__law_same, .func (PySem.W.fnOf "_law_same" "_law_same" (defArgs s__law_same) (defBody s__law_same) (defScope s__law_same) .none kV__law_same dc__law_same pm__law_same an__law_same cd__law_same ct__law_same), sl__law_same⟩) (c__law_same : PySem.W.codeIn K cd__law_same "_law_same" = true) (k__law_same : PySem.W.keepIn K (.ref f__law_same) = true)
    (a__law_sides : PySem.W.nsIn K mainGlobals "_law_sides" = some (some (.ref f__law_sides))) (l__law_sides : K.lookup f__law_sides = some ⟨oc__law_sides, od__law_sides, .func (PySem.W.fnOf "_law_sides" "_law_sides" (defArgs s__law_sides) (defBody s__law_sides) (defScope s__law_sides) .none kV__law_sides dc__law_sides pm__law_sides an__law_sides cd__law_sides ct__law_sides), sl__law_sides⟩) (c__law_sides : PySem.W.codeIn K cd__law_sides "_law_sides" = true) (k__law_sides : PySem.W.keepIn K (.ref f__law_sides) = true)
    (a__law_symbols : PySem.W.nsIn K mainGlobals "_law_symbols" = some (some (.ref f__law_symbols))) (l__law_symbols : K.lookup f__law_symbols = some ⟨oc__law_symbols, od__law_symbols, .func (PySem.W.fnOf "_law_symbols" "_law_symbols" (defArgs s__law_symbols) (defBody s__law_symbols) (defScope s__law_symbols) .none kV__law_symbols dc__law_symbols pm__law_symbols an__law_symbols cd__law_symbols ct__law_symbols), sl__law_symbols⟩) (c__law_symbols : PySem.W.codeIn K cd__law_symbols "_law_symbols" = true) (k__law_symbols : PySem.W.keepIn K (.ref f__law_symbols) = true)
    (a__law_signature : PySem.W.nsIn K mainGlobals "_law_signature" = some (some (.ref f__law_signature))) (l__law_signature : K.lookup f__law_signature = some ⟨oc__law_signature, od__law_signature, .func (PySem.W.fnOf "_law_signature" "_law_signature" (defArgs s__law_signature) (defBody s__law_signature) (defScope s__law_signature) .none kV__law_signature dc__law_signature pm__law_signature an__law_signature cd__law_signature ct__law_signature), sl__law_signature⟩) (c__law_signature : PySem.W.codeIn K cd__law_signature "_law_signature" = true) (k__law_signature : PySem.W.keepIn K (.ref f__law_signature) = true)
    (a__law_names : PySem.W.nsIn K mainGlobals "_law_names" = some (some (.ref f__law_names))) (l__law_names : K.lookup f__law_names = some ⟨oc__law_names, od__law_names, .func (PySem.W.fnOf "_law_names" "_law_names" (defArgs s__law_names) (defBody s__law_names) (defScope s__law_names) .none kV__law_names dc__law_names pm__law_names an__law_names cd__law_names ct__law_names), sl__law_names⟩) (c__law_names : PySem.W.codeIn K cd__law_names "_law_names" = true) (k__law_names : PySem.W.keepIn K (.ref f__law_names) = true)
    (a__law_free : PySem.W.nsIn K mainGlobals "_law_free" = some (some (.ref f__law_free))) (l__law_free : K.lookup f__law_free = some ⟨oc__law_free, od__law_free, .func (PySem.W.fnOf "_law_free" "_law_free" (defArgs s__law_free) (defBody s__law_free) (defScope s__law_free) .none kV__law_free dc__law_free pm__law_free an__law_free cd__law_free ct__law_free), sl__law_free⟩) (c__law_free : PySem.W.codeIn K cd__law_free "_law_free" = true) (k__law_free : PySem.W.keepIn K (.ref f__law_free) = true)
    (a__law_told : PySem.W.nsIn K mainGlobals "_law_told" = some (some (.ref f__law_told))) (l__law_told : K.lookup f__law_told = some ⟨oc__law_told, od__law_told, .func (PySem.W.fnOf "_law_told" "_law_told" (defArgs s__law_told) (defBody s__law_told) (defScope s__law_told) .none kV__law_told dc__law_told pm__law_told an__law_told cd__law_told ct__law_told), sl__law_told⟩) (c__law_told : PySem.W.codeIn K cd__law_told "_law_told" = true) (k__law_told : PySem.W.keepIn K (.ref f__law_told) = true)
    (a_law : PySem.W.nsIn K mainGlobals "law" = some (some (.ref f_law))) (l_law : K.lookup f_law = some ⟨oc_law, od_law, .func (PySem.W.fnOf "law" "law" (defArgs s_law) (defBody s_law) (defScope s_law) .none kV_law dc_law pm_law an_law cd_law ct_law), sl_law⟩) (c_law : PySem.W.codeIn K cd_law "law" = true) (k_law : PySem.W.keepIn K (.ref f_law) = true)
     (aC_KindError : PySem.W.nsIn K mainGlobals "KindError" = some (some (.ref C_KindError)))
    (xC_KindError : K.lookup C_KindError = some (excClassObj nm_KindError qn_KindError C_KindError NN_KindError bs_KindError bm_KindError true sn_KindError su_KindError ab_KindError cl_KindError dd_KindError m0_KindError m1_KindError m2_KindError m3_KindError m5_KindError "ValueError.__new__"))
    (hv_KindError : PySem.HandSPX.refsVE bm_KindError = true)
    (sa_KindError : PySem.W.findIn K (.ref C_KindError) "__setattr__" = some (some (.builtin "object.__setattr__")))
    (eC_KindError : PySem.W.subIn K (.ref C_KindError) (.type "BaseException") = some true)
    (tC_KindError : PySem.W.typeIn K (.ref C_KindError) = some (.type "type"))
    (kC_KindError : PySem.W.keepIn K (.ref C_KindError) = true)
    (up_KindError : PySem.W.ks_superIn K C_KindError C_KindError "__init__" = some (some (.builtin "ValueError.__init__")))
    (vs_KindError : PySem.W.subIn K (.ref C_KindError) (.type "ValueError") = some true)
    (ow_KindError : PySem.W.mroIn K C_KindError (.ref C_KindError) = some true)
    (oq_KindError : PySem.W.nsIn K cStatics "thirdparty.any" = some none)
    (iC_KindError : PySem.W.findIn K (.ref C_KindError) "__init__" = some (some (.ref fI_KindError)))
    (tI_KindError : PySem.W.typeIn K (.ref fI_KindError) = some (.type "function"))
    (lI_KindError : K.lookup fI_KindError = some ⟨oc_KindError, oe_KindError, .func (PySem.W.fnX "__init__" "KindError.__init__" (defArgs initK) (defBody initK) (defScope initK) [("__class__", cc_KindError)] .none kV_KindError do_KindError pm_KindError an_KindError (.ref ca_KindError) ct_KindError), os_KindError⟩)
    (cI_KindError : PySem.W.codeIn K (.ref ca_KindError) "KindError.__init__" = true)
    (lc_KindError : K.lookup ca_KindError = some ⟨oo_KindError, cx_KindError, .fields vv_KindError, ox_KindError⟩)
    (vf_KindError : vv_KindError[2]? = some (.str fl_KindError tf_KindError))
    (hf_KindError : ((l.prog.main.file : Str) == fl_KindError) = true)
    (ht_KindError : (l.prog.main.scope.names.lookup ("super" : Str)).isSome = false)
    (ce_KindErrorx : K.lookup cc_KindError = some ⟨ol_KindError, ce_KindError, .cell (some (.ref C_KindError)), oy_KindError⟩)
    (no_KindError_symbol : PySem.W.findIn K (.ref C_KindError) "symbol" = some none)
    (ga_KindError : PySem.W.findIn K (.ref C_KindError) "__getattribute__" = some (some (.builtin "BaseException.__getattribute__")))
    (gg_KindError : PySem.W.findIn K (.ref C_KindError) "__getattr__" = some none)
    (hd_KindError : PySem.W.hasDictIn K C_KindError = true)
    (ic_KindError : PySem.W.isClsIn K C_KindError = true)
    (cc_KindErrorc : PySem.W.findIn K (.ref C_KindError) "__class__" = some (some (.builtin "object.__class__")))
    (cn_KindError : PySem.W.specialIn K (.builtin "object.__class__") "__get__" = some (some (.builtin "getset_descriptor.__get__")))
    (ck_KindError : PySem.W.takesIn K (.builtin "object.__class__") = some true)
    (mo_KindError : PySem.W.mroIn K C_KindError (.type "object") = some true)
    (sC_KindError : PySem.W.subIn K (.ref C_KindError) (.ref C_KindError) = some true)
    (aC_TooLarge : PySem.W.nsIn K mainGlobals "TooLarge" = some (some (.ref C_TooLarge)))
    (xC_TooLarge : K.lookup C_TooLarge = some (excClassObj nm_TooLarge qn_TooLarge C_TooLarge NN_TooLarge bs_TooLarge bm_TooLarge true sn_TooLarge su_TooLarge ab_TooLarge cl_TooLarge dd_TooLarge m0_TooLarge m1_TooLarge m2_TooLarge m3_TooLarge m5_TooLarge "ValueError.__new__"))
    (hv_TooLarge : PySem.HandSPX.refsVE bm_TooLarge = true)
    (sa_TooLarge : PySem.W.findIn K (.ref C_TooLarge) "__setattr__" = some (some (.builtin "object.__setattr__")))
    (eC_TooLarge : PySem.W.subIn K (.ref C_TooLarge) (.type "BaseException") = some true)
    (tC_TooLarge : PySem.W.typeIn K (.ref C_TooLarge) = some (.type "type"))
    (kC_TooLarge : PySem.W.keepIn K (.ref C_TooLarge) = true)
    (up_TooLarge : PySem.W.ks_superIn K C_TooLarge C_TooLarge "__init__" = some (some (.builtin "ValueError.__init__")))
    (vs_TooLarge : PySem.W.subIn K (.ref C_TooLarge) (.type "ValueError") = some true)
    (ow_TooLarge : PySem.W.mroIn K C_TooLarge (.ref C_TooLarge) = some true)
    (oq_TooLarge : PySem.W.nsIn K cStatics "thirdparty.any" = some none)
    (iC_TooLarge : PySem.W.findIn K (.ref C_TooLarge) "__init__" = some (some (.ref fI_TooLarge)))
    (tI_TooLarge : PySem.W.typeIn K (.ref fI_TooLarge) = some (.type "function"))
    (lI_TooLarge : K.lookup fI_TooLarge = some ⟨oc_TooLarge, oe_TooLarge, .func (PySem.W.fnX "__init__" "TooLarge.__init__" (defArgs initL) (defBody initL) (defScope initL) [("__class__", cc_TooLarge)] .none kV_TooLarge do_TooLarge pm_TooLarge an_TooLarge (.ref ca_TooLarge) ct_TooLarge), os_TooLarge⟩)
    (cI_TooLarge : PySem.W.codeIn K (.ref ca_TooLarge) "TooLarge.__init__" = true)
    (lc_TooLarge : K.lookup ca_TooLarge = some ⟨oo_TooLarge, cx_TooLarge, .fields vv_TooLarge, ox_TooLarge⟩)
    (vf_TooLarge : vv_TooLarge[2]? = some (.str fl_TooLarge tf_TooLarge))
    (hf_TooLarge : ((l.prog.main.file : Str) == fl_TooLarge) = true)
    (ht_TooLarge : (l.prog.main.scope.names.lookup ("super" : Str)).isSome = false)
    (ce_TooLargex : K.lookup cc_TooLarge = some ⟨ol_TooLarge, ce_TooLarge, .cell (some (.ref C_TooLarge)), oy_TooLarge⟩)
    (no_TooLarge_limit : PySem.W.findIn K (.ref C_TooLarge) "limit" = some none)
    (ga_TooLarge : PySem.W.findIn K (.ref C_TooLarge) "__getattribute__" = some (some (.builtin "BaseException.__getattribute__")))
    (gg_TooLarge : PySem.W.findIn K (.ref C_TooLarge) "__getattr__" = some none)
    (hd_TooLarge : PySem.W.hasDictIn K C_TooLarge = true)
    (ic_TooLarge : PySem.W.isClsIn K C_TooLarge = true)
    (cc_TooLargec : PySem.W.findIn K (.ref C_TooLarge) "__class__" = some (some (.builtin "object.__class__")))
    (cn_TooLarge : PySem.W.specialIn K (.builtin "object.__class__") "__get__" = some (some (.builtin "getset_descriptor.__get__")))
    (ck_TooLarge : PySem.W.takesIn K (.builtin "object.__class__") = some true)
    (mo_TooLarge : PySem.W.mroIn K C_TooLarge (.type "object") = some true)
    (sC_TooLarge : PySem.W.subIn K (.ref C_TooLarge) (.ref C_TooLarge) = some true)
    (aC_ArityError : PySem.W.nsIn K mainGlobals "ArityError" = some (some (.ref C_ArityError)))
    (xC_ArityError : K.lookup C_ArityError = some (excClassObj nm_ArityError qn_ArityError C_ArityError NN_ArityError bs_ArityError bm_ArityError true sn_ArityError su_ArityError ab_ArityError cl_ArityError dd_ArityError m0_ArityError m1_ArityError m2_ArityError m3_ArityError m5_ArityError "ValueError.__new__"))
    (hv_ArityError : PySem.HandSPX.refsVE bm_ArityError = true)
    (sa_ArityError : PySem.W.findIn K (.ref C_ArityError) "__setattr__" = some (some (.builtin "object.__setattr__")))
    (eC_ArityError : PySem.W.subIn K (.ref C_ArityError) (.type "BaseException") = some true)
    (tC_ArityError : PySem.W.typeIn K (.ref C_ArityError) = some (.type "type"))
    (kC_ArityError : PySem.W.keepIn K (.ref C_ArityError) = true)
    (up_ArityError : PySem.W.ks_superIn K C_ArityError C_ArityError "__init__" = some (some (.builtin "ValueError.__init__")))
    (vs_ArityError : PySem.W.subIn K (.ref C_ArityError) (.type "ValueError") = some true)
    (ow_ArityError : PySem.W.mroIn K C_ArityError (.ref C_ArityError) = some true)
    (oq_ArityError : PySem.W.nsIn K cStatics "thirdparty.any" = some none)
    (iC_ArityError : PySem.W.findIn K (.ref C_ArityError) "__init__" = some (some (.ref fI_ArityError)))
    (tI_ArityError : PySem.W.typeIn K (.ref fI_ArityError) = some (.type "function"))
    (lI_ArityError : K.lookup fI_ArityError = some ⟨oc_ArityError, oe_ArityError, .func (PySem.W.fnX "__init__" "ArityError.__init__" (defArgs initA) (defBody initA) (defScope initA) [("__class__", cc_ArityError)] .none kV_ArityError do_ArityError pm_ArityError an_ArityError (.ref ca_ArityError) ct_ArityError), os_ArityError⟩)
    (cI_ArityError : PySem.W.codeIn K (.ref ca_ArityError) "ArityError.__init__" = true)
    (lc_ArityError : K.lookup ca_ArityError = some ⟨oo_ArityError, cx_ArityError, .fields vv_ArityError, ox_ArityError⟩)
    (vf_ArityError : vv_ArityError[2]? = some (.str fl_ArityError tf_ArityError))
    (hf_ArityError : ((l.prog.main.file : Str) == fl_ArityError) = true)
    (ht_ArityError : (l.prog.main.scope.names.lookup ("super" : Str)).isSome = false)
    (ce_ArityErrorx : K.lookup cc_ArityError = some ⟨ol_ArityError, ce_ArityError, .cell (some (.ref C_ArityError)), oy_ArityError⟩)
    (no_ArityError_symbol : PySem.W.findIn K (.ref C_ArityError) "symbol" = some none)
    (no_ArityError_expected : PySem.W.findIn K (.ref C_ArityError) "expected" = some none)
    (no_ArityError_found : PySem.W.findIn K (.ref C_ArityError) "found" = some none)
    (ga_ArityError : PySem.W.findIn K (.ref C_ArityError) "__getattribute__" = some (some (.builtin "BaseException.__getattribute__")))
    (gg_ArityError : PySem.W.findIn K (.ref C_ArityError) "__getattr__" = some none)
    (hd_ArityError : PySem.W.hasDictIn K C_ArityError = true)
    (ic_ArityError : PySem.W.isClsIn K C_ArityError = true)
    (cc_ArityErrorc : PySem.W.findIn K (.ref C_ArityError) "__class__" = some (some (.builtin "object.__class__")))
    (cn_ArityError : PySem.W.specialIn K (.builtin "object.__class__") "__get__" = some (some (.builtin "getset_descriptor.__get__")))
    (ck_ArityError : PySem.W.takesIn K (.builtin "object.__class__") = some true)
    (mo_ArityError : PySem.W.mroIn K C_ArityError (.type "object") = some true)
    (sC_ArityError : PySem.W.subIn K (.ref C_ArityError) (.ref C_ArityError) = some true)
    (aCS : PySem.W.nsIn K mainGlobals "Signature" = some (some (.ref CS)))
    (pgS : PySem.W.plainGet K CS Str.empty = true)
    (hdS : PySem.W.hasDictIn K CS = true)
    (poS : PySem.W.plainOver K CS = true)
    (saS : PySem.W.findIn K (.ref CS) "__setattr__" = some (some (.builtin "object.__setattr__")))
    (mkS : PySem.W.makesIn K CS = true)
    (kcS : PySem.W.keepIn K (.ref CS) = true)
    (noS_kinds : PySem.W.findIn K (.ref CS) "_kinds" = some none)
    (noS_arities : PySem.W.findIn K (.ref CS) "_arities" = some none)
    (aS0 : PySem.W.findIn K (.ref CS) "__init__" = some (some (.ref fS0)))
    (iS0 : PySem.W.isFn K (.ref fS0) = true)
    (lS0 : K.lookup fS0 = some ⟨ocS0, odS0, .func (PySem.W.fnOf "__init__" "Signature.__init__" (defArgs stInit) (defBody stInit) (defScope stInit) .none kVS0 dcS0 pmS0 anS0 cdS0 ctS0), slS0⟩)
    (cS0 : PySem.W.codeIn K cdS0 "Signature.__init__" = true)
    (kS0 : PySem.W.keepIn K (.ref fS0) = true)
    (aS1 : PySem.W.findIn K (.ref CS) "add_function" = some (some (.ref fS1)))
    (iS1 : PySem.W.isFn K (.ref fS1) = true)
    (lS1 : K.lookup fS1 = some ⟨ocS1, odS1, .func (PySem.W.fnOf "add_function" "Signature.add_function" (defArgs stAddF) (defBody stAddF) (defScope stAddF) .none kVS1 dcS1 pmS1 anS1 cdS1 ctS1), slS1⟩)
    (cS1 : PySem.W.codeIn K cdS1 "Signature.add_function" = true)
    (kS1 : PySem.W.keepIn K (.ref fS1) = true)
    (aS2 : PySem.W.findIn K (.ref CS) "add_predicate" = some (some (.ref fS2)))
    (iS2 : PySem.W.isFn K (.ref fS2) = true)
    (lS2 : K.lookup fS2 = some ⟨ocS2, odS2, .func (PySem.W.fnOf "add_predicate" "Signature.add_predicate" (defArgs stAddP) (defBody stAddP) (defScope stAddP) .none kVS2 dcS2 pmS2 anS2 cdS2 ctS2), slS2⟩)
    (cS2 : PySem.W.codeIn K cdS2 "Signature.add_predicate" = true)
    (kS2 : PySem.W.keepIn K (.ref fS2) = true)
    (aS3 : PySem.W.findIn K (.ref CS) "_add_symbol" = some (some (.ref fS3)))
    (iS3 : PySem.W.isFn K (.ref fS3) = true)
    (lS3 : K.lookup fS3 = some ⟨ocS3, odS3, .func (PySem.W.fnOf "_add_symbol" "Signature._add_symbol" (defArgs stAdd) (defBody stAdd) (defScope stAdd) .none kVS3 dcS3 pmS3 anS3 cdS3 ctS3), slS3⟩)
    (cS3 : PySem.W.codeIn K cdS3 "Signature._add_symbol" = true)
    (kS3 : PySem.W.keepIn K (.ref fS3) = true)
    (aS4 : PySem.W.findIn K (.ref CS) "functions" = some (some (.ref fS4)))
    (iS4 : PySem.W.isFn K (.ref fS4) = true)
    (lS4 : K.lookup fS4 = some ⟨ocS4, odS4, .func (PySem.W.fnOf "functions" "Signature.functions" (defArgs stFuns) (defBody stFuns) (defScope stFuns) .none kVS4 dcS4 pmS4 anS4 cdS4 ctS4), slS4⟩)
    (cS4 : PySem.W.codeIn K cdS4 "Signature.functions" = true)
    (kS4 : PySem.W.keepIn K (.ref fS4) = true)
    (aS5 : PySem.W.findIn K (.ref CS) "predicates" = some (some (.ref fS5)))
    (iS5 : PySem.W.isFn K (.ref fS5) = true)
    (lS5 : K.lookup fS5 = some ⟨ocS5, odS5, .func (PySem.W.fnOf "predicates" "Signature.predicates" (defArgs stPreds) (defBody stPreds) (defScope stPreds) .none kVS5 dcS5 pmS5 anS5 cdS5 ctS5), slS5⟩)
    (cS5 : PySem.W.codeIn K cdS5 "Signature.predicates" = true)
    (kS5 : PySem.W.keepIn K (.ref fS5) = true)
    (aS6 : PySem.W.findIn K (.ref CS) "_pairs" = some (some (.ref fS6)))
    (iS6 : PySem.W.isFn K (.ref fS6) = true)
    (lS6 : K.lookup fS6 = some ⟨ocS6, odS6, .func (PySem.W.fnOf "_pairs" "Signature._pairs" (defArgs stPairs) (defBody stPairs) (defScope stPairs) .none kVS6 dcS6 pmS6 anS6 cdS6 ctS6), slS6⟩)
    (cS6 : PySem.W.codeIn K cdS6 "Signature._pairs" = true)
    (kS6 : PySem.W.keepIn K (.ref fS6) = true)
    (a_PIECE : PySem.W.nsIn K mainGlobals "PIECE" = some (some (.int PIECE10 t_PIECE)))
    (gGA : PySem.W.nsIn K mainGlobals "GREATEST_ARITY" = some (some (.int 8 t_GA)))
    (a_TRUE : PySem.W.nsIn K mainGlobals "TRUE" = some (some (.ref f_TRUE)))
    (l_TRUE : K.lookup f_TRUE = some ⟨.type "tuple", od_T, .seq #[.str "true" t_T] n_T, sl_T⟩)
   
    (z_len : PySem.W.nsIn K mainGlobals "len" = some none)
    (z_int : PySem.W.nsIn K mainGlobals "int" = some none)
    (z_range : PySem.W.nsIn K mainGlobals "range" = some none)
    (z_list : PySem.W.nsIn K mainGlobals "list" = some none)
    (z_tuple : PySem.W.nsIn K mainGlobals "tuple" = some none)
    (z_isinstance : PySem.W.nsIn K mainGlobals "isinstance" = some none)
    (z_bool : PySem.W.nsIn K mainGlobals "bool" = some none)
    (z_str : PySem.W.nsIn K mainGlobals "str" = some none)
    (z_abs : PySem.W.nsIn K mainGlobals "abs" = some none)
    (z_reversed : PySem.W.nsIn K mainGlobals "reversed" = some none)
    (z_sorted : PySem.W.nsIn K mainGlobals "sorted" = some none)
    (z_super : PySem.W.nsIn K mainGlobals "super" = some none)
    : ∃ fd : FuncData, (∀ (s : Shared) (v : Value), BindsTo s fd ⟨[v], []⟩ [("_law_script", v)]) ∧ ∀ base : Heap, K.In base → base.Ns mainGlobals mg → FnOk l.prog w K mg base CX0 71 fa fd ["_law_script"] (spLaw K) := by
  have e := hfa.symm.trans (PySem.W.mg_of X G a_law); cases e
  have F_is_integer := fun_mk (st := s_is_integer) l_is_integer c_is_integer k_is_integer
  have D_is_integer : Df K mg "is_integer" s_is_integer ["value"] _ _ := ⟨F_is_integer, F_is_integer.binds (ps := ["value"]) (fun _ _ _ _ _ _ us hl => match us, hl with | [_], _ => rfl), PySem.W.mg_of X G a_is_integer⟩
  have F_decimal := fun_mk (st := s_decimal) l_decimal c_decimal k_decimal
  have D_decimal : Df K mg "decimal" s_decimal ["number"] _ _ := ⟨F_decimal, F_decimal.binds (ps := ["number"]) (fun _ _ _ _ _ _ us hl => match us, hl with | [_], _ => rfl), PySem.W.mg_of X G a_decimal⟩
  have F_worded := fun_mk (st := s_worded) l_worded c_worded k_worded
  have D_worded : Df K mg "worded" s_worded ["value"] _ _ := ⟨F_worded, F_worded.binds (ps := ["value"]) (fun _ _ _ _ _ _ us hl => match us, hl with | [_], _ => rfl), PySem.W.mg_of X G a_worded⟩
  have F_is_variable := fun_mk (st := s_is_variable) l_is_variable c_is_variable k_is_variable
  have D_is_variable : Df K mg "is_variable" s_is_variable ["term"] _ _ := ⟨F_is_variable, F_is_variable.binds (ps := ["term"]) (fun _ _ _ _ _ _ us hl => match us, hl with | [_], _ => rfl), PySem.W.mg_of X G a_is_variable⟩
  have F_variables_of := fun_mk (st := s_variables_of) l_variables_of c_variables_of k_variables_of
  have D_variables_of : Df K mg "variables_of" s_variables_of ["terms"] _ _ := ⟨F_variables_of, F_variables_of.binds (ps := ["terms"]) (fun _ _ _ _ _ _ us hl => match us, hl with | [_], _ => rfl), PySem.W.mg_of X G a_variables_of⟩
  have F_formula_signature := fun_mk (st := s_formula_signature) l_formula_signature c_formula_signature k_formula_signature
  have D_formula_signature : Df K mg "formula_signature" s_formula_signature ["formulas"] _ _ := ⟨F_formula_signature, F_formula_signature.binds (ps := ["formulas"]) (fun _ _ _ _ _ _ us hl => match us, hl with | [_], _ => rfl), PySem.W.mg_of X G a_formula_signature⟩
  have F_clause_signature := fun_mk (st := s_clause_signature) l_clause_signature c_clause_signature k_clause_signature
  have D_clause_signature : Df K mg "clause_signature" s_clause_signature ["clauses"] _ _ := ⟨F_clause_signature, F_clause_signature.binds (ps := ["clauses"]) (fun _ _ _ _ _ _ us hl => match us, hl with | [_], _ => rfl), PySem.W.mg_of X G a_clause_signature⟩
  have F_add_literal := fun_mk (st := s_add_literal) l_add_literal c_add_literal k_add_literal
  have D_add_literal : Df K mg "add_literal" s_add_literal ["signature", "literal"] _ _ := ⟨F_add_literal, F_add_literal.binds (ps := ["signature", "literal"]) (fun _ _ _ _ _ _ us hl => match us, hl with | [_, _], _ => rfl), PySem.W.mg_of X G a_add_literal⟩
  have F_add_functions := fun_mk (st := s_add_functions) l_add_functions c_add_functions k_add_functions
  have D_add_functions : Df K mg "add_functions" s_add_functions ["signature", "terms"] _ _ := ⟨F_add_functions, F_add_functions.binds (ps := ["signature", "terms"]) (fun _ _ _ _ _ _ us hl => match us, hl with | [_, _], _ => rfl), PySem.W.mg_of X G a_add_functions⟩
  have F_parts := fun_mk (st := s_parts) l_parts c_parts k_parts
  have D_parts : Df K mg "parts" s_parts ["formula"] _ _ := ⟨F_parts, F_parts.binds (ps := ["formula"]) (fun _ _ _ _ _ _ us hl => match us, hl with | [_], _ => rfl), PySem.W.mg_of X G a_parts⟩
  have F_free_variables := fun_mk (st := s_free_variables) l_free_variables c_free_variables k_free_variables
  have D_free_variables : Df K mg "free_variables" s_free_variables ["formula"] _ _ := ⟨F_free_variables, F_free_variables.binds (ps := ["formula"]) (fun _ _ _ _ _ _ us hl => match us, hl with | [_], _ => rfl), PySem.W.mg_of X G a_free_variables⟩
  have F_first_free_variables := fun_mk (st := s_first_free_variables) l_first_free_variables c_first_free_variables k_first_free_variables
  have D_first_free_variables : Df K mg "first_free_variables" s_first_free_variables ["formula"] _ _ := ⟨F_first_free_variables, F_first_free_variables.binds (ps := ["formula"]) (fun _ _ _ _ _ _ us hl => match us, hl with | [_], _ => rfl), PySem.W.mg_of X G a_first_free_variables⟩
  have F_formula_literals := fun_mk (st := s_formula_literals) l_formula_literals c_formula_literals k_formula_literals
  have D_formula_literals : Df K mg "formula_literals" s_formula_literals ["formula"] _ _ := ⟨F_formula_literals, F_formula_literals.binds (ps := ["formula"]) (fun _ _ _ _ _ _ us hl => match us, hl with | [_], _ => rfl), PySem.W.mg_of X G a_formula_literals⟩
  have F__law_draws := fun_mk (st := s__law_draws) l__law_draws c__law_draws k__law_draws
  have D__law_draws : Df K mg "_law_draws" s__law_draws ["_law_script"] _ _ := ⟨F__law_draws, F__law_draws.binds (ps := ["_law_script"]) (fun _ _ _ _ _ _ us hl => match us, hl with | [_], _ => rfl), PySem.W.mg_of X G a__law_draws⟩
  have F__law_take := fun_mk (st := s__law_take) l__law_take c__law_take k__law_take
  have D__law_take : Df K mg "_law_take" s__law_take ["_law_draws_here", "_law_bound"] _ _ := ⟨F__law_take, F__law_take.binds (ps := ["_law_draws_here", "_law_bound"]) (fun _ _ _ _ _ _ us hl => match us, hl with | [_, _], _ => rfl), PySem.W.mg_of X G a__law_take⟩
  have F__law_words := fun_mk (st := s__law_words) l__law_words c__law_words k__law_words
  have D__law_words : Df K mg "_law_words" s__law_words ["_law_draws_here", "_law_many"] _ _ := ⟨F__law_words, F__law_words.binds (ps := ["_law_draws_here", "_law_many"]) (fun _ _ _ _ _ _ us hl => match us, hl with | [_, _], _ => rfl), PySem.W.mg_of X G a__law_words⟩
  have F__law_variable := fun_mk (st := s__law_variable) l__law_variable c__law_variable k__law_variable
  have D__law_variable : Df K mg "_law_variable" s__law_variable ["_law_draws_here"] _ _ := ⟨F__law_variable, F__law_variable.binds (ps := ["_law_draws_here"]) (fun _ _ _ _ _ _ us hl => match us, hl with | [_], _ => rfl), PySem.W.mg_of X G a__law_variable⟩
  have F__law_term := fun_mk (st := s__law_term) l__law_term c__law_term k__law_term
  have D__law_term : Df K mg "_law_term" s__law_term ["_law_draws_here", "_law_words_here", "_law_depth"] _ _ := ⟨F__law_term, F__law_term.binds (ps := ["_law_draws_here", "_law_words_here", "_law_depth"]) (fun _ _ _ _ _ _ us hl => match us, hl with | [_, _, _], _ => rfl), PySem.W.mg_of X G a__law_term⟩
  have F__law_named := fun_mk (st := s__law_named) l__law_named c__law_named k__law_named
  have D__law_named : Df K mg "_law_named" s__law_named ["_law_term_here"] _ _ := ⟨F__law_named, F__law_named.binds (ps := ["_law_term_here"]) (fun _ _ _ _ _ _ us hl => match us, hl with | [_], _ => rfl), PySem.W.mg_of X G a__law_named⟩
  have F__law_atom := fun_mk (st := s__law_atom) l__law_atom c__law_atom k__law_atom
  have D__law_atom : Df K mg "_law_atom" s__law_atom ["_law_draws_here", "_law_words_here"] _ _ := ⟨F__law_atom, F__law_atom.binds (ps := ["_law_draws_here", "_law_words_here"]) (fun _ _ _ _ _ _ us hl => match us, hl with | [_, _], _ => rfl), PySem.W.mg_of X G a__law_atom⟩
  have F__law_formula := fun_mk (st := s__law_formula) l__law_formula c__law_formula k__law_formula
  have D__law_formula : Df K mg "_law_formula" s__law_formula ["_law_draws_here", "_law_words_here", "_law_depth"] _ _ := ⟨F__law_formula, F__law_formula.binds (ps := ["_law_draws_here", "_law_words_here", "_law_depth"]) (fun _ _ _ _ _ _ us hl => match us, hl with | [_, _, _], _ => rfl), PySem.W.mg_of X G a__law_formula⟩
  have F__law_literal := fun_mk (st := s__law_literal) l__law_literal c__law_literal k__law_literal
  have D__law_literal : Df K mg "_law_literal" s__law_literal ["_law_draws_here", "_law_words_here"] _ _ := ⟨F__law_literal, F__law_literal.binds (ps := ["_law_draws_here", "_law_words_here"]) (fun _ _ _ _ _ _ us hl => match us, hl with | [_, _], _ => rfl), PySem.W.mg_of X G a__law_literal⟩
  have F__law_clause := fun_mk (st := s__law_clause) l__law_clause c__law_clause k__law_clause
  have D__law_clause : Df K mg "_law_clause" s__law_clause ["_law_draws_here", "_law_words_here", "_law_most"] _ _ := ⟨F__law_clause, F__law_clause.binds (ps := ["_law_draws_here", "_law_words_here", "_law_most"]) (fun _ _ _ _ _ _ us hl => match us, hl with | [_, _, _], _ => rfl), PySem.W.mg_of X G a__law_clause⟩
  have F__law_same := fun_mk (st := s__law_same) l__law_same c__law_same k__law_same
  have D__law_same : Df K mg "_law_same" s__law_same ["_law_value", "_law_due"] _ _ := ⟨F__law_same, F__law_same.binds (ps := ["_law_value", "_law_due"]) (fun _ _ _ _ _ _ us hl => match us, hl with | [_, _], _ => rfl), PySem.W.mg_of X G a__law_same⟩
  have F__law_sides := fun_mk (st := s__law_sides) l__law_sides c__law_sides k__law_sides
  have D__law_sides : Df K mg "_law_sides" s__law_sides ["_law_formula_here"] _ _ := ⟨F__law_sides, F__law_sides.binds (ps := ["_law_formula_here"]) (fun _ _ _ _ _ _ us hl => match us, hl with | [_], _ => rfl), PySem.W.mg_of X G a__law_sides⟩
  have F__law_symbols := fun_mk (st := s__law_symbols) l__law_symbols c__law_symbols k__law_symbols
  have D__law_symbols : Df K mg "_law_symbols" s__law_symbols ["_law_term_here"] _ _ := ⟨F__law_symbols, F__law_symbols.binds (ps := ["_law_term_here"]) (fun _ _ _ _ _ _ us hl => match us, hl with | [_], _ => rfl), PySem.W.mg_of X G a__law_symbols⟩
  have F__law_signature := fun_mk (st := s__law_signature) l__law_signature c__law_signature k__law_signature
  have D__law_signature : Df K mg "_law_signature" s__law_signature ["_law_literals"] _ _ := ⟨F__law_signature, F__law_signature.binds (ps := ["_law_literals"]) (fun _ _ _ _ _ _ us hl => match us, hl with | [_], _ => rfl), PySem.W.mg_of X G a__law_signature⟩
  have F__law_names := fun_mk (st := s__law_names) l__law_names c__law_names k__law_names
  have D__law_names : Df K mg "_law_names" s__law_names ["_law_term_here"] _ _ := ⟨F__law_names, F__law_names.binds (ps := ["_law_term_here"]) (fun _ _ _ _ _ _ us hl => match us, hl with | [_], _ => rfl), PySem.W.mg_of X G a__law_names⟩
  have F__law_free := fun_mk (st := s__law_free) l__law_free c__law_free k__law_free
  have D__law_free : Df K mg "_law_free" s__law_free ["_law_formula_here", "_law_bound"] _ _ := ⟨F__law_free, F__law_free.binds (ps := ["_law_formula_here", "_law_bound"]) (fun _ _ _ _ _ _ us hl => match us, hl with | [_, _], _ => rfl), PySem.W.mg_of X G a__law_free⟩
  have F__law_told := fun_mk (st := s__law_told) l__law_told c__law_told k__law_told
  have D__law_told : Df K mg "_law_told" s__law_told ["_law_signature_here"] _ _ := ⟨F__law_told, F__law_told.binds (ps := ["_law_signature_here"]) (fun _ _ _ _ _ _ us hl => match us, hl with | [_], _ => rfl), PySem.W.mg_of X G a__law_told⟩
  have F_law := fun_mk (st := s_law) l_law c_law k_law
  have D_law : Df K mg "law" s_law ["_law_script"] _ _ := ⟨F_law, F_law.binds (ps := ["_law_script"]) (fun _ _ _ _ _ _ us hl => match us, hl with | [_], _ => rfl), PySem.W.mg_of X G a_law⟩
  have m_len := PySem.W.mg_none_of X G z_len
  have m_int := PySem.W.mg_none_of X G z_int
  have m_range := PySem.W.mg_none_of X G z_range
  have m_list := PySem.W.mg_none_of X G z_list
  have m_tuple := PySem.W.mg_none_of X G z_tuple
  have m_isinstance := PySem.W.mg_none_of X G z_isinstance
  have m_bool := PySem.W.mg_none_of X G z_bool
  have m_str := PySem.W.mg_none_of X G z_str
  have m_abs := PySem.W.mg_none_of X G z_abs
  have m_reversed := PySem.W.mg_none_of X G z_reversed
  have m_sorted := PySem.W.mg_none_of X G z_sorted
  have m_super := PySem.W.mg_none_of X G z_super
  have SC_KindError : SupC K C_KindError := ⟨⟨⟨nm_KindError, qn_KindError, NN_KindError, bs_KindError, bm_KindError, sn_KindError, su_KindError, ab_KindError, cl_KindError, dd_KindError, m0_KindError, m1_KindError, m2_KindError, m3_KindError, m5_KindError, xC_KindError, hv_KindError⟩, sa_KindError, eC_KindError, tC_KindError, kC_KindError⟩, up_KindError, vs_KindError, ow_KindError, oq_KindError⟩
  have IC_KindError : InitC l.prog K mg C_KindError fI_KindError cc_KindError ca_KindError "__init__" "KindError.__init__" (defArgs initK) (defBody initK) (defScope initK) _ := { sup := SC_KindError, fn := ⟨_, _, _, _, _, _, _, _, _, rfl, lI_KindError⟩, code := cI_KindError, file := ⟨_, _, _, _, lc_KindError, rfl, vf_KindError, hf_KindError⟩, top := ht_KindError, cell := ⟨_, _, _, ce_KindErrorx⟩, glob := m_super, self := ⟨_, rfl, rfl⟩, k1 := by decide +kernel, k2 := by decide +kernel, k3 := by decide +kernel, iC := iC_KindError, tI := tI_KindError }
  have EC_KindError : ErrC K C_KindError := ⟨ga_KindError, gg_KindError, eC_KindError, hd_KindError, ic_KindError, cc_KindErrorc, cn_KindError, ck_KindError, mo_KindError⟩
  have SC_TooLarge : SupC K C_TooLarge := ⟨⟨⟨nm_TooLarge, qn_TooLarge, NN_TooLarge, bs_TooLarge, bm_TooLarge, sn_TooLarge, su_TooLarge, ab_TooLarge, cl_TooLarge, dd_TooLarge, m0_TooLarge, m1_TooLarge, m2_TooLarge, m3_TooLarge, m5_TooLarge, xC_TooLarge, hv_TooLarge⟩, sa_TooLarge, eC_TooLarge, tC_TooLarge, kC_TooLarge⟩, up_TooLarge, vs_TooLarge, ow_TooLarge, oq_TooLarge⟩
  have IC_TooLarge : InitC l.prog K mg C_TooLarge fI_TooLarge cc_TooLarge ca_TooLarge "__init__" "TooLarge.__init__" (defArgs initL) (defBody initL) (defScope initL) _ := { sup := SC_TooLarge, fn := ⟨_, _, _, _, _, _, _, _, _, rfl, lI_TooLarge⟩, code := cI_TooLarge, file := ⟨_, _, _, _, lc_TooLarge, rfl, vf_TooLarge, hf_TooLarge⟩, top := ht_TooLarge, cell := ⟨_, _, _, ce_TooLargex⟩, glob := m_super, self := ⟨_, rfl, rfl⟩, k1 := by decide +kernel, k2 := by decide +kernel, k3 := by decide +kernel, iC := iC_TooLarge, tI := tI_TooLarge }
  have EC_TooLarge : ErrC K C_TooLarge := ⟨ga_TooLarge, gg_TooLarge, eC_TooLarge, hd_TooLarge, ic_TooLarge, cc_TooLargec, cn_TooLarge, ck_TooLarge, mo_TooLarge⟩
  have SC_ArityError : SupC K C_ArityError := ⟨⟨⟨nm_ArityError, qn_ArityError, NN_ArityError, bs_ArityError, bm_ArityError, sn_ArityError, su_ArityError, ab_ArityError, cl_ArityError, dd_ArityError, m0_ArityError, m1_ArityError, m2_ArityError, m3_ArityError, m5_ArityError, xC_ArityError, hv_ArityError⟩, sa_ArityError, eC_ArityError, tC_ArityError, kC_ArityError⟩, up_ArityError, vs_ArityError, ow_ArityError, oq_ArityError⟩
  have IC_ArityError : InitC l.prog K mg C_ArityError fI_ArityError cc_ArityError ca_ArityError "__init__" "ArityError.__init__" (defArgs initA) (defBody initA) (defScope initA) _ := { sup := SC_ArityError, fn := ⟨_, _, _, _, _, _, _, _, _, rfl, lI_ArityError⟩, code := cI_ArityError, file := ⟨_, _, _, _, lc_ArityError, rfl, vf_ArityError, hf_ArityError⟩, top := ht_ArityError, cell := ⟨_, _, _, ce_ArityErrorx⟩, glob := m_super, self := ⟨_, rfl, rfl⟩, k1 := by decide +kernel, k2 := by decide +kernel, k3 := by decide +kernel, iC := iC_ArityError, tI := tI_ArityError }
  have EC_ArityError : ErrC K C_ArityError := ⟨ga_ArityError, gg_ArityError, eC_ArityError, hd_ArityError, ic_ArityError, cc_ArityErrorc, cn_ArityError, ck_ArityError, mo_ArityError⟩
  refine ⟨PySem.W.fnOf "law" "law" (defArgs s_law) (defBody s_law) (defScope s_law) .none kV_law dc_law pm_law an_law cd_law ct_law, fun s v => .of_eq rfl, fun base _ _ => ?_⟩
  have FS0 := fun_mk (st := stInit) lS0 cS0 kS0
  have bS0 := FS0.binds (ps := ["self"]) fun _ _ _ _ _ _ us hl => match us, hl with | [_], _ => rfl
  have MS0 : Meth K CS "__init__" fS0 := ⟨aS0, iS0, kS0⟩
  have FS1 := fun_mk (st := stAddF) lS1 cS1 kS1
  have bS1 := FS1.binds (ps := ["self", "symbol", "arity"]) fun _ _ _ _ _ _ us hl => match us, hl with | [_, _, _], _ => rfl
  have MS1 : Meth K CS "add_function" fS1 := ⟨aS1, iS1, kS1⟩
  have FS2 := fun_mk (st := stAddP) lS2 cS2 kS2
  have bS2 := FS2.binds (ps := ["self", "symbol", "arity"]) fun _ _ _ _ _ _ us hl => match us, hl with | [_, _, _], _ => rfl
  have MS2 : Meth K CS "add_predicate" fS2 := ⟨aS2, iS2, kS2⟩
  have FS3 := fun_mk (st := stAdd) lS3 cS3 kS3
  have bS3 := FS3.binds (ps := ["self", "symbol", "kind", "arity"]) fun _ _ _ _ _ _ us hl => match us, hl with | [_, _, _, _], _ => rfl
  have MS3 : Meth K CS "_add_symbol" fS3 := ⟨aS3, iS3, kS3⟩
  have FS4 := fun_mk (st := stFuns) lS4 cS4 kS4
  have bS4 := FS4.binds (ps := ["self"]) fun _ _ _ _ _ _ us hl => match us, hl with | [_], _ => rfl
  have MS4 : Meth K CS "functions" fS4 := ⟨aS4, iS4, kS4⟩
  have FS5 := fun_mk (st := stPreds) lS5 cS5 kS5
  have bS5 := FS5.binds (ps := ["self"]) fun _ _ _ _ _ _ us hl => match us, hl with | [_], _ => rfl
  have MS5 : Meth K CS "predicates" fS5 := ⟨aS5, iS5, kS5⟩
  have FS6 := fun_mk (st := stPairs) lS6 cS6 kS6
  have bS6 := FS6.binds (ps := ["self", "kind"]) fun _ _ _ _ _ _ us hl => match us, hl with | [_, _], _ => rfl
  have MS6 : Meth K CS "_pairs" fS6 := ⟨aS6, iS6, kS6⟩
  have clS : Cls K CS := ⟨pgS, hdS, poS, saS⟩
  have mk_S : Mk K CS fS0 := ⟨mkS, aS0, iS0, kcS⟩
  have gP := PySem.W.mg_of X G a_PIECE
  have G_is_integer := ok_is_integer (P := l.prog) (w := w) (base := base) D_is_integer m_isinstance m_int m_bool
  have G_decimal := ok_decimal (P := l.prog) (w := w) (base := base) D_decimal gP m_str
  have G_worded := ok_worded (P := l.prog) (w := w) (base := base) D_worded D_is_integer G_is_integer D_decimal G_decimal m_isinstance m_tuple
  have G_initK := (ok_initK (P := l.prog) (w := w) (base := base) IC_KindError no_KindError_symbol).mono (show 1 ≤ 3 by decide)
  have T_initK : ExcC l.prog w K mg base "KindError" _ _ _ C_KindError fI_KindError _ := ⟨PySem.W.mg_of X G aC_KindError, SC_KindError.oex, iC_KindError, tI_KindError, G_initK, .all (fun us hl => match us, hl with | [_, _], _ => rfl), EC_KindError, exm_self eC_KindError ic_KindError tC_KindError sC_KindError⟩
  have G_initL := (ok_initL (P := l.prog) (w := w) (base := base) IC_TooLarge no_TooLarge_limit).mono (show 1 ≤ 3 by decide)
  have T_initL : ExcC l.prog w K mg base "TooLarge" _ _ _ C_TooLarge fI_TooLarge _ := ⟨PySem.W.mg_of X G aC_TooLarge, SC_TooLarge.oex, iC_TooLarge, tI_TooLarge, G_initL, .all (fun us hl => match us, hl with | [_, _], _ => rfl), EC_TooLarge, exm_self eC_TooLarge ic_TooLarge tC_TooLarge sC_TooLarge⟩
  have G_initA := (ok_initA (P := l.prog) (w := w) (base := base) IC_ArityError no_ArityError_symbol no_ArityError_expected no_ArityError_found D_worded G_worded)
  have T_initA : ExcC l.prog w K mg base "ArityError" _ _ _ C_ArityError fI_ArityError _ := ⟨PySem.W.mg_of X G aC_ArityError, SC_ArityError.oex, iC_ArityError, tI_ArityError, G_initA, .all (fun us hl => match us, hl with | [_, _, _, _], _ => rfl), EC_ArityError, exm_self eC_ArityError ic_ArityError tC_ArityError sC_ArityError⟩
  have T : SigT K mg CS := ⟨clS, noS_kinds, noS_arities, PySem.W.mg_of X G aCS⟩
  have hT : ∀ H, SqT K H f_TRUE [.str "true"] := fun H => .inr ⟨_, _, _, l_TRUE, rfl, rfl, by show 1 ≤ sizeLine; decide, .cons ⟨_, rfl⟩ .nil⟩
  have gT := PySem.W.mg_of X G a_TRUE
  have GSI := ok_sinit (P := l.prog) (w := w) (base := base) FS0 T
  have GAdd := ok_add (P := l.prog) (w := w) (base := base) FS3 T (PySem.W.mg_of X G gGA) gT hT T_initL T_initK T_initA
  have GAF := ok_addf (P := l.prog) (w := w) (base := base) FS1 T MS3 bS3 GAdd
  have GAP := ok_addp (P := l.prog) (w := w) (base := base) FS2 T MS3 bS3 GAdd
  have GPr := ok_pairs (P := l.prog) (w := w) (base := base) FS6 T
  have GFu := ok_funs (P := l.prog) (w := w) (base := base) FS4 T MS6 bS6 GPr
  have GPd := ok_preds (P := l.prog) (w := w) (base := base) FS5 T MS6 bS6 GPr
  have G_take := ok_law_take (P := l.prog) (w := w) (base := base) D__law_take m_len m_int
  have G_draws := ok_law_draws (P := l.prog) (w := w) (base := base) D__law_draws m_abs m_int m_range m_len m_list m_reversed
  have G_words := ok_law_words (P := l.prog) (w := w) (base := base) D__law_words D__law_take G_take m_range
  have G_var := ok_law_variable (P := l.prog) (w := w) (base := base) D__law_variable D__law_take G_take
  have G_term := ok_law_term (P := l.prog) (w := w) (base := base) D__law_term D__law_take G_take D__law_variable G_var m_range m_tuple 5
  have G_named := ok_law_named (P := l.prog) (w := w) (base := base) D__law_named m_isinstance m_tuple m_int 7
  have G_isv := ok_is_variable (P := l.prog) (w := w) (base := base) D_is_variable m_isinstance m_tuple
  have G_vof := ok_variables_of (P := l.prog) (w := w) (base := base) D_variables_of D_is_variable G_isv m_list
  have G_atom := ok_law_atom (P := l.prog) (w := w) (base := base) D__law_atom D__law_take G_take D__law_term G_term D__law_named G_named m_range m_tuple
  have G_lit := ok_law_literal (P := l.prog) (w := w) (base := base) D__law_literal D__law_take G_take D__law_term G_term m_range m_tuple
  have G_clause := ok_law_clause (P := l.prog) (w := w) (base := base) D__law_clause D__law_take G_take D__law_literal G_lit m_range m_tuple
  have G_form := ok_law_formula (P := l.prog) (w := w) (base := base) D__law_formula D__law_take G_take D__law_term G_term D__law_named G_named D__law_atom G_atom m_int 6
  have G_same := ok_law_same (P := l.prog) (w := w) (base := base) D__law_same m_isinstance m_tuple m_list m_len m_range m_bool m_int m_str 66
  have G_parts := ok_parts (P := l.prog) (w := w) (base := base) D_parts
  have G_ffv := ok_ffv (P := l.prog) (w := w) (base := base) D_first_free_variables D_variables_of G_vof D_parts G_parts m_list
  have G_fv := ok_fv (P := l.prog) (w := w) (base := base) D_free_variables D_first_free_variables G_ffv m_sorted
  have G_fl := ok_flits (P := l.prog) (w := w) (base := base) D_formula_literals D_parts G_parts
  have G_afs := ok_addfs (P := l.prog) (w := w) (base := base) D_add_functions T D_is_variable G_isv m_len MS1 bS1 GAF 62
  have G_al := ok_addl (P := l.prog) (w := w) (base := base) D_add_literal T m_len gT hT MS2 bS2 GAP D_add_functions G_afs
  have G_fs := ok_fsig (P := l.prog) (w := w) (base := base) D_formula_signature T mk_S bS0 GSI D_formula_literals G_fl D_add_literal G_al
  have G_cs := ok_csig (P := l.prog) (w := w) (base := base) D_clause_signature T mk_S bS0 GSI D_add_literal G_al
  have G_sides := ok_sides (P := l.prog) (w := w) (base := base) D__law_sides m_isinstance m_tuple 7
  have G_syms := ok_syms (P := l.prog) (w := w) (base := base) D__law_symbols m_isinstance m_tuple m_len 61
  have G_lsig := ok_lsig (P := l.prog) (w := w) (base := base) D__law_signature D__law_symbols G_syms m_len
  have G_names := ok_names (P := l.prog) (w := w) (base := base) D__law_names m_isinstance m_str 61
  have G_free := ok_free (P := l.prog) (w := w) (base := base) D__law_free D__law_names G_names 7
  have G_told := ok_told (P := l.prog) (w := w) (base := base) D__law_told T MS4 bS4 GFu MS5 bS5 GPd
  exact ok_law D_law m_range m_list D__law_draws G_draws D__law_words G_words D__law_take G_take D__law_formula G_form D__law_clause G_clause D__law_sides G_sides D__law_same G_same D_formula_literals G_fl D__law_free G_free D_free_variables G_fv D__law_told G_told D__law_signature G_lsig D_formula_signature G_fs D_clause_signature G_cs
end K15
open PySem PySem.W PyProof.Rows
set_option maxRecDepth 100000 in
set_option maxHeartbeats 0 in
theorem PySem.Challenge.cw_elenchus_k15_symbols_and_variables_of_fo_holds : PySem.Challenge.rw_elenchus_k15_symbols_and_variables_of_fo.Holds := by
  w_on; o_law; k_head; (case hw => w_witness2)
  k_fill
  refine L2.walk_of (l := PySem.Challenge.rw_elenchus_k15_symbols_and_variables_of_fo) (n := 63) (k := 71) (x := "_law_script") (CX := fun _ => L2.CX0) (sp := fun w => K15.spLaw _) rfl (by decide) rfl ⟨rfl, by decide, by decide⟩ (fun w h Y => PySem.W.kIn_of Y) ?F (fun _ _ a ns hl _ hS => ⟨a, ns, rfl, hS, hl, fun _ => rfl⟩) (fun _ _ _ _ _ h => h)
  case F =>
    intro w mg fa h KX G hmg
    refine' K15.all_mk (l := PySem.Challenge.rw_elenchus_k15_symbols_and_variables_of_fo) KX G hmg ?a_is_integer ?l_is_integer ?c_is_integer ?k_is_integer ?a_decimal ?l_decimal ?c_decimal ?k_decimal ?a_worded ?l_worded ?c_worded ?k_worded ?a_is_variable ?l_is_variable ?c_is_variable ?k_is_variable ?a_variables_of ?l_variables_of ?c_variables_of ?k_variables_of ?a_formula_signature ?l_formula_signature ?c_formula_signature ?k_formula_signature ?a_clause_signature ?l_clause_signature ?c_clause_signature ?k_clause_signature ?a_add_literal ?l_add_literal ?c_add_literal ?k_add_literal ?a_add_functions ?l_add_functions ?c_add_functions ?k_add_functions ?a_parts ?l_parts ?c_parts ?k_parts ?a_free_variables ?l_free_variables ?c_free_variables ?k_free_variables ?a_first_free_variables ?l_first_free_variables ?c_first_free_variables ?k_first_free_variables ?a_formula_literals ?l_formula_literals ?c_formula_literals ?k_formula_literals ?a__law_draws ?l__law_draws ?c__law_draws ?k__law_draws ?a__law_take ?l__law_take ?c__law_take ?k__law_take ?a__law_words ?l__law_words ?c__law_words ?k__law_words ?a__law_variable ?l__law_variable ?c__law_variable ?k__law_variable ?a__law_term ?l__law_term ?c__law_term ?k__law_term ?a__law_named ?l__law_named ?c__law_named ?k__law_named ?a__law_atom ?l__law_atom ?c__law_atom ?k__law_atom ?a__law_formula ?l__law_formula ?c__law_formula ?k__law_formula ?a__law_literal ?l__law_literal ?c__law_literal ?k__law_literal ?a__law_clause ?l__law_clause ?c__law_clause ?k__law_clause ?a__law_same ?l__law_same ?c__law_same ?k__law_same ?a__law_sides ?l__law_sides ?c__law_sides ?k__law_sides ?a__law_symbols ?l__law_symbols ?c__law_symbols ?k__law_symbols ?a__law_signature ?l__law_signature ?c__law_signature ?k__law_signature ?a__law_names ?l__law_names ?c__law_names ?k__law_names ?a__law_free ?l__law_free ?c__law_free ?k__law_free ?a__law_told ?l__law_told ?c__law_told ?k__law_told ?a_law ?l_law ?c_law ?k_law ?aC_KindError ?xC_KindError ?hv_KindError ?sa_KindError ?eC_KindError ?tC_KindError ?kC_KindError ?up_KindError ?vs_KindError ?ow_KindError ?oq_KindError ?iC_KindError ?tI_KindError ?lI_KindError ?cI_KindError ?lc_KindError ?vf_KindError ?hf_KindError ?ht_KindError ?ce_KindErrorx ?no_KindError_symbol ?ga_KindError ?gg_KindError ?hd_KindError ?ic_KindError ?cc_KindErrorc ?cn_KindError ?ck_KindError ?mo_KindError ?sC_KindError ?aC_TooLarge ?xC_TooLarge ?hv_TooLarge ?sa_TooLarge ?eC_TooLarge ?tC_TooLarge ?kC_TooLarge ?up_TooLarge ?vs_TooLarge ?ow_TooLarge ?oq_TooLarge ?iC_TooLarge ?tI_TooLarge ?lI_TooLarge ?cI_TooLarge ?lc_TooLarge ?vf_TooLarge ?hf_TooLarge ?ht_TooLarge ?ce_TooLargex ?no_TooLarge_limit ?ga_TooLarge ?gg_TooLarge ?hd_TooLarge ?ic_TooLarge ?cc_TooLargec ?cn_TooLarge ?ck_TooLarge ?mo_TooLarge ?sC_TooLarge ?aC_ArityError ?xC_ArityError ?hv_ArityError ?sa_ArityError ?eC_ArityError ?tC_ArityError ?kC_ArityError ?up_ArityError ?vs_ArityError ?ow_ArityError ?oq_ArityError ?iC_ArityError ?tI_ArityError ?lI_ArityError ?cI_ArityError ?lc_ArityError ?vf_ArityError ?hf_ArityError ?ht_ArityError ?ce_ArityErrorx ?no_ArityError_symbol ?no_ArityError_expected ?no_ArityError_found ?ga_ArityError ?gg_ArityError ?hd_ArityError ?ic_ArityError ?cc_ArityErrorc ?cn_ArityError ?ck_ArityError ?mo_ArityError ?sC_ArityError ?aCS ?pgS ?hdS ?poS ?saS ?mkS ?kcS ?noS_kinds ?noS_arities ?aS0 ?iS0 ?lS0 ?cS0 ?kS0 ?aS1 ?iS1 ?lS1 ?cS1 ?kS1 ?aS2 ?iS2 ?lS2 ?cS2 ?kS2 ?aS3 ?iS3 ?lS3 ?cS3 ?kS3 ?aS4 ?iS4 ?lS4 ?cS4 ?kS4 ?aS5 ?iS5 ?lS5 ?cS5 ?kS5 ?aS6 ?iS6 ?lS6 ?cS6 ?kS6 ?a_PIECE ?gGA ?a_TRUE ?l_TRUE ?z_len ?z_int ?z_range ?z_list ?z_tuple ?z_isinstance ?z_bool ?z_str ?z_abs ?z_reversed ?z_sorted ?z_super
    (case a_is_integer => k_is)
    (case l_is_integer => k_is)
    (case c_is_integer => k_is)
    (case k_is_integer => k_is)
    (case a_decimal => k_is)
    (case l_decimal => k_is)
    (case c_decimal => k_is)
    (case k_decimal => k_is)
    (case a_worded => k_is)
    (case l_worded => k_is)
    (case c_worded => k_is)
    (case k_worded => k_is)
    (case a_is_variable => k_is)
    (case l_is_variable => k_is)
    (case c_is_variable => k_is)
    (case k_is_variable => k_is)
    (case a_variables_of => k_is)
    (case l_variables_of => k_is)
    (case c_variables_of => k_is)
    (case k_variables_of => k_is)
    (case a_formula_signature => k_is)
    (case l_formula_signature => k_is)
    (case c_formula_signature => k_is)
    (case k_formula_signature => k_is)
    (case a_clause_signature => k_is)
    (case l_clause_signature => k_is)
    (case c_clause_signature => k_is)
    (case k_clause_signature => k_is)
    (case a_add_literal => k_is)
    (case l_add_literal => k_is)
    (case c_add_literal => k_is)
    (case k_add_literal => k_is)
    (case a_add_functions => k_is)
    (case l_add_functions => k_is)
    (case c_add_functions => k_is)
    (case k_add_functions => k_is)
    (case a_parts => k_is)
    (case l_parts => k_is)
    (case c_parts => k_is)
    (case k_parts => k_is)
    (case a_free_variables => k_is)
    (case l_free_variables => k_is)
    (case c_free_variables => k_is)
    (case k_free_variables => k_is)
    (case a_first_free_variables => k_is)
    (case l_first_free_variables => k_is)
    (case c_first_free_variables => k_is)
    (case k_first_free_variables => k_is)
    (case a_formula_literals => k_is)
    (case l_formula_literals => k_is)
    (case c_formula_literals => k_is)
    (case k_formula_literals => k_is)
    (case a__law_draws => k_is)
    (case l__law_draws => k_is)
    (case c__law_draws => k_is)
    (case k__law_draws => k_is)
    (case a__law_take => k_is)
    (case l__law_take => k_is)
    (case c__law_take => k_is)
    (case k__law_take => k_is)
    (case a__law_words => k_is)
    (case l__law_words => k_is)
    (case c__law_words => k_is)
    (case k__law_words => k_is)
    (case a__law_variable => k_is)
    (case l__law_variable => k_is)
    (case c__law_variable => k_is)
    (case k__law_variable => k_is)
    (case a__law_term => k_is)
    (case l__law_term => k_is)
    (case c__law_term => k_is)
    (case k__law_term => k_is)
    (case a__law_named => k_is)
    (case l__law_named => k_is)
    (case c__law_named => k_is)
    (case k__law_named => k_is)
    (case a__law_atom => k_is)
    (case l__law_atom => k_is)
    (case c__law_atom => k_is)
    (case k__law_atom => k_is)
    (case a__law_formula => k_is)
    (case l__law_formula => k_is)
    (case c__law_formula => k_is)
    (case k__law_formula => k_is)
    (case a__law_literal => k_is)
    (case l__law_literal => k_is)
    (case c__law_literal => k_is)
    (case k__law_literal => k_is)
    (case a__law_clause => k_is)
    (case l__law_clause => k_is)
    (case c__law_clause => k_is)
    (case k__law_clause => k_is)
    (case a__law_same => k_is)
    (case l__law_same => k_is)
    (case c__law_same => k_is)
    (case k__law_same => k_is)
    (case a__law_sides => k_is)
    (case l__law_sides => k_is)
    (case c__law_sides => k_is)
    (case k__law_sides => k_is)
    (case a__law_symbols => k_is)
    (case l__law_symbols => k_is)
    (case c__law_symbols => k_is)
    (case k__law_symbols => k_is)
    (case a__law_signature => k_is)
    (case l__law_signature => k_is)
    (case c__law_signature => k_is)
    (case k__law_signature => k_is)
    (case a__law_names => k_is)
    (case l__law_names => k_is)
    (case c__law_names => k_is)
    (case k__law_names => k_is)
    (case a__law_free => k_is)
    (case l__law_free => k_is)
    (case c__law_free => k_is)
    (case k__law_free => k_is)
    (case a__law_told => k_is)
    (case l__law_told => k_is)
    (case c__law_told => k_is)
    (case k__law_told => k_is)
    (case a_law => k_is)
    (case l_law => k_is)
    (case c_law => k_is)
    (case k_law => k_is)
    (case aC_KindError => k_is)
    (case xC_KindError => k_is)
    (case hv_KindError => first | rfl | decide +kernel)
    (case sa_KindError => k_is)
    (case eC_KindError => k_is)
    (case tC_KindError => k_is)
    (case kC_KindError => k_is)
    (case up_KindError => ks_is)
    (case vs_KindError => k_is)
    (case ow_KindError => k_is)
    (case oq_KindError => k_is)
    (case iC_KindError => k_is)
    (case tI_KindError => k_is)
    (case lI_KindError => k_is)
    (case cI_KindError => k_is)
    (case lc_KindError => k_is)
    (case vf_KindError => rfl)
    (case hf_KindError => first | rfl | decide +kernel)
    (case ht_KindError => first | rfl | decide +kernel)
    (case ce_KindErrorx => k_is)
    (case no_KindError_symbol => k_is)
    (case ga_KindError => k_is)
    (case gg_KindError => k_is)
    (case hd_KindError => k_is)
    (case ic_KindError => k_is)
    (case cc_KindErrorc => k_is)
    (case cn_KindError => k_is)
    (case ck_KindError => k_is)
    (case mo_KindError => k_is)
    (case sC_KindError => first | rfl | k_is)
    (case aC_TooLarge => k_is)
    (case xC_TooLarge => k_is)
    (case hv_TooLarge => first | rfl | decide +kernel)
    (case sa_TooLarge => k_is)
    (case eC_TooLarge => k_is)
    (case tC_TooLarge => k_is)
    (case kC_TooLarge => k_is)
    (case up_TooLarge => ks_is)
    (case vs_TooLarge => k_is)
    (case ow_TooLarge => k_is)
    (case oq_TooLarge => k_is)
    (case iC_TooLarge => k_is)
    (case tI_TooLarge => k_is)
    (case lI_TooLarge => k_is)
    (case cI_TooLarge => k_is)
    (case lc_TooLarge => k_is)
    (case vf_TooLarge => rfl)
    (case hf_TooLarge => first | rfl | decide +kernel)
    (case ht_TooLarge => first | rfl | decide +kernel)
    (case ce_TooLargex => k_is)
    (case no_TooLarge_limit => k_is)
    (case ga_TooLarge => k_is)
    (case gg_TooLarge => k_is)
    (case hd_TooLarge => k_is)
    (case ic_TooLarge => k_is)
    (case cc_TooLargec => k_is)
    (case cn_TooLarge => k_is)
    (case ck_TooLarge => k_is)
    (case mo_TooLarge => k_is)
    (case sC_TooLarge => first | rfl | k_is)
    (case aC_ArityError => k_is)
    (case xC_ArityError => k_is)
    (case hv_ArityError => first | rfl | decide +kernel)
    (case sa_ArityError => k_is)
    (case eC_ArityError => k_is)
    (case tC_ArityError => k_is)
    (case kC_ArityError => k_is)
    (case up_ArityError => ks_is)
    (case vs_ArityError => k_is)
    (case ow_ArityError => k_is)
    (case oq_ArityError => k_is)
    (case iC_ArityError => k_is)
    (case tI_ArityError => k_is)
    (case lI_ArityError => k_is)
    (case cI_ArityError => k_is)
    (case lc_ArityError => k_is)
    (case vf_ArityError => rfl)
    (case hf_ArityError => first | rfl | decide +kernel)
    (case ht_ArityError => first | rfl | decide +kernel)
    (case ce_ArityErrorx => k_is)
    (case no_ArityError_symbol => k_is)
    (case no_ArityError_expected => k_is)
    (case no_ArityError_found => k_is)
    (case ga_ArityError => k_is)
    (case gg_ArityError => k_is)
    (case hd_ArityError => k_is)
    (case ic_ArityError => k_is)
    (case cc_ArityErrorc => k_is)
    (case cn_ArityError => k_is)
    (case ck_ArityError => k_is)
    (case mo_ArityError => k_is)
    (case sC_ArityError => first | rfl | k_is)
    (case aCS => k_is)
    (case pgS => k_is)
    (case hdS => k_is)
    (case poS => k_is)
    (case saS => k_is)
    (case mkS => k_is)
    (case kcS => k_is)
    (case noS_kinds => k_is)
    (case noS_arities => k_is)
    (case aS0 => k_is)
    (case iS0 => k_is)
    (case lS0 => k_is)
    (case cS0 => k_is)
    (case kS0 => k_is)
    (case aS1 => k_is)
    (case iS1 => k_is)
    (case lS1 => k_is)
    (case cS1 => k_is)
    (case kS1 => k_is)
    (case aS2 => k_is)
    (case iS2 => k_is)
    (case lS2 => k_is)
    (case cS2 => k_is)
    (case kS2 => k_is)
    (case aS3 => k_is)
    (case iS3 => k_is)
    (case lS3 => k_is)
    (case cS3 => k_is)
    (case kS3 => k_is)
    (case aS4 => k_is)
    (case iS4 => k_is)
    (case lS4 => k_is)
    (case cS4 => k_is)
    (case kS4 => k_is)
    (case aS5 => k_is)
    (case iS5 => k_is)
    (case lS5 => k_is)
    (case cS5 => k_is)
    (case kS5 => k_is)
    (case aS6 => k_is)
    (case iS6 => k_is)
    (case lS6 => k_is)
    (case cS6 => k_is)
    (case kS6 => k_is)
    (case a_PIECE => k_is)
    (case gGA => k_is)
    (case a_TRUE => k_is)
    (case l_TRUE => k_is)
    (case z_len => k_is)
    (case z_int => k_is)
    (case z_range => k_is)
    (case z_list => k_is)
    (case z_tuple => k_is)
    (case z_isinstance => k_is)
    (case z_bool => k_is)
    (case z_str => k_is)
    (case z_abs => k_is)
    (case z_reversed => k_is)
    (case z_sorted => k_is)
    (case z_super => k_is)
