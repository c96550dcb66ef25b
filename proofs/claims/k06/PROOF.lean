import PyProof.Rows.All
import Wide.All
import OpenK.AllK
import Wide.FinOn
import HandS.ForMost
import HandS.Rev
import HandS.RevTup
import HandS.IsInst
import HandS.Style
import HandS.Conv
import HandS.Wide
import HandS.Flow
import HandS.ListEq
import HandS.More
import HandS.Codes
import HandS.FStr
import HandS.Zip
import HandS.Defaults
import HandS.DeepEq
import KE.SortData
import KE.DataCmp
import KE.KDictSum
import HandS.Deep
import KE.DatumOrd
import KE.KSortTupAny
import HandS.ExcInit
import HandS.ExcIs
import HandS.ExcField
import HandS.ForSpec
import HandS.Nested
import HandS.Struct
import KE.KExcSuper
import HandS.ExcInitHot
import HandS.FStrTup
import HandS.HotCalls
import KE.KExcIs
import HandS.TupAny
import HandS.Iter
import HandS.DictComp
import HandS.Walk
import HandS.ExcCtx
import PySem.Challenge.RW_elenchus_k06_apply_and_compose
set_option Elab.async false
set_option linter.all false
set_option maxRecDepth 100000
namespace Own
open PySem PySem.Spec PyProof.Rows L2 RT

/-! ### xs.extend(t), t a tuple -/
theorem ext_meets (l b : Addr) (xs ys : Array Value) (n m : Nat) (dd : Option Addr) (sl : Array (Option Value)) (long : ¬(!xs.isEmpty && Builtin.List.listTooLong (xs.size + ys.size)) = true) (hx : xs.size ≤ sizeLine) (hxy : xs.size + ys.size ≤ sizeLine + 1) :
    Meets (Builtin.«list.extend» ⟨[.ref l, .ref b], []⟩) (fun _ R s => s.heap.get? l = some { cls := .type "list", dict := none, data := .seq xs n, slots := #[] } ∧
      s.heap.get? b = some { cls := .type "tuple", dict := dd, data := .seq ys m, slots := sl } ∧ R (.ok (.ret Value.none)) { s with heap := s.heap.update l (Obj.mapSeq fun x => x ++ ys), toks := s.toks }) :=
  .of_wp fun prog w A R s h => by
    obtain ⟨hp, g, d, tk, os⟩ := s
    obtain ⟨h1, h2, h3⟩ := h
    have g1 := AutoSeq1.idx_int; have g2 := AutoSeq1.sub_tuple_tuple; have g3 := AutoSeq1.sub_list_list; have g4 := AutoSeq1.sub_tuple_list; have g5 := AutoSeq1.sub_list_tuple
    have fit : (xs ++ ys).size ≤ sizeLine + 1 := Array.size_append ▸ hxy
    wp_walk using (wpAny_updateSeq h1 rfl (hz := hx) (_hz' := fit)), AutoSeq1.wpAny_loadPart' h1, AutoSeq1.wpAny_loadPart' h2
    exact ⟨_, rfl, h3⟩
def rExtendT (K : PySem.W.Frag) : V → List V → Hp → VK → Prop := fun x vs H Q => ∃ l b xs zs, x = .ref l ∧ vs = [.ref b] ∧ H l = some (.lst xs) ∧ SqT K H b zs ∧ xs.length + zs.length ≤ sizeLine ∧ Q .non (upd H l (.lst (xs ++ zs)))
theorem mt_extendT {X : Cx} : MtR X "list.extend" (rExtendT X.K) := by
  intro pins s σ H x vs v us Q I rx rv h
  obtain ⟨l, b, xs, zs, rfl, rfl, hl, hb, fit, q⟩ := h
  cases rx
  obtain ⟨u, rfl, ru⟩ := rv.one
  cases ru
  obtain ⟨z, its, n, r, hlen, e⟩ := I.lstM hl
  obtain ⟨its2, r2, p2, z2⟩ := I.tuple hb
  obtain ⟨⟨c2, d2, dt2, sl2⟩, ho2, hc2, m2, hd2⟩ := id p2
  simp only at hc2 hd2
  subst hc2 hd2
  have e2 := r2.length
  have tot : its.toArray.size + its2.toArray.size ≤ sizeLine := by rw [List.size_toArray, List.size_toArray]; omega
  have notlong : ¬ (!its.toArray.isEmpty && Builtin.List.listTooLong (its.toArray.size + its2.toArray.size)) = true := by rw [notLongL tot, Bool.and_false]; exact Bool.false_ne_true
  refine call_meets PySem.F.slot_list_extend ⟨_, e, rfl⟩ PySem.F.entry_list_extend (PySem.F.args_list_extend_2 _ _) (ext_meets l b its.toArray its2.toArray n m2 d2 sl2 notlong (by rw [List.size_toArray]; omega) (by omega)) ⟨e, ho2, ?_⟩
  exact ⟨.non, _, I.lset (its' := its ++ its2) hl e (by simp) (r.append r2) (by rw [List.length_append]; omega), rfl, q⟩

/-! ### list(reversed(xs)) -/
section
variable {prog : Program} {w : World} {A : Around} {E : Value → Shared → Prop} {s : Shared}
theorem extend_rev {R : Result → Shared → Prop} {it l S : Addr} {items : Array Value} {res : Value} {c0 : Nat} (hh : A.handled = none) (hit : s.heap.IsRevIter it l ((items.size : Int) - 1)) (hl : s.heap.IsList l items) (hne : l ≠ it) (hn : items.size ≤ sizeLine)
    (hS : s.heap.get? S = some { cls := .type "list", data := .seq #[] c0 }) (hSi : S ≠ it) (hSl : S ≠ l)
    (hR : ∀ h' tk acc c', (∀ b o, b ≠ S → b ≠ it → s.heap.get? b = some o → h'.get? b = some o) → h'.get? S = some { cls := .type "list", dict := none, data := .seq acc c', slots := #[] } →
      ItemsOf (fun i v => items[items.size - 1 - i]? = some v) acc items.size → R (.ok (.ret res)) { s with heap := h', toks := tk }) :
    wpAny (model prog w) A.in1 (Builtin.List.listExtendWith (.ref S) (.ref it) res)
      (fun fin s' => match fin with | .done f => R (.ok f) s' | .again c' => c'.quiet = true ∧ codeAny (model prog w) A c' R s') (fun e s' => R (.error e) s') s := by
  have W := (Walks.listRev (prog := prog) (w := w) (A := A.in1) hh it l hne items).toS
  have hSf : S ∉ [it, l] := by simp only [List.mem_cons, List.not_mem_nil, or_false, not_or]; exact ⟨hSi, hSl⟩
  have hT : s.TypeIs (.ref it) "list_reverseiterator" := Heap.IsRevIter.typeIs hit
  have h1 : Builtin.List.listSameRef (.ref S) (.ref it) = false := by simp [Builtin.List.listSameRef, hSi]
  unfold Builtin.List.listExtendWith
  refine wpAny_bind (wpAny_typeOf hT ?_); rw [if_neg (by rw [h1]; decide)]
  refine wpAny_bind (wpAny_pyIter_revIter hit ?_); refine wpAny_bind (wpAny_holding ?_)
  unfold Builtin.List.listLengthHint
  refine wpAny_bind (wpAny_specialOf hT nolen_lri ?_); show wpAny _ A.in1 (specialOf (Value.ref it) (Str.ofString "__length_hint__") >>= _) _ _ s
  refine wpAny_bind (wpAny_specialOf hT hint_lri ?_); generalize hid : ("list_reverseiterator.__length_hint__" : String) = id0
  wp_delta
  rw [show splitId id0 = some ("list_reverseiterator", "__length_hint__") from by subst hid; decide +kernel]; subst hid
  refine wpAny_bind (wpAny_isInstance (b := true) hT (by rw [isSubtype_type]; kernel_rfl) ?_); refine wpAny_pure ?_; rw [if_neg (by decide)]
  have e0 : ((items.size : Nat) : Int) - 1 - ((0 : Nat) : Int) = (items.size : Int) - 1 := by omega
  refine wpAny_pure ⟨plainId_quiet F.plain_extend_loop _, codeAny_extend_loopS W hn S hSf res items.size 0 _ _ _ rfl (Nat.zero_le _) ⟨Nat.zero_le _, by rw [e0]; exact hit, hl⟩ hS (ItemsOf.nil _) fun s' acc' c' hm hS' hacc => ?_⟩
  rw [Moved.eq_with hm]
  refine hR s'.heap s'.toks acc' c' (fun b o hbS hbi e => hm.heap b o (fun hmem => ?_) e) hS' hacc
  rcases List.mem_cons.mp hmem with e' | hmem
  · exact hbS e'
  · exact hbi (List.mem_singleton.mp hmem)
theorem call_list_rev {it l : Addr} {items : Array Value} {Q : Value → Shared → Prop} (hh : A.handled = none) (hit : s.heap.IsRevIter it l ((items.size : Int) - 1)) (hl : s.heap.IsList l items) (hne : l ≠ it) (hn : items.size ≤ sizeLine)
    (hQ : ∀ h' tk acc c', (∀ b o, b ≠ it → s.heap.get? b = some o → h'.get? b = some o) → h'.get? s.heap.objs.size = some { cls := .type "list", dict := none, data := .seq acc c', slots := #[] } →
      ItemsOf (fun i v => items[items.size - 1 - i]? = some v) acc items.size → Q (.ref s.heap.objs.size) { s with heap := h', toks := tk }) :
    wpAny (model prog w) A (call (.type "list") [.ref it]) Q E s := by
  refine callType_codes (Q₁ := fun obj s₁ => obj = .ref s.heap.objs.size ∧ s₁ = { s with heap := s.heap.push { cls := .type "list", data := .seq #[] } }) PySem.F.called_list (PySem.F.typeCall_list_1 _) PySem.F.entry_list_init (code_list_new _ ⟨rfl, rfl⟩) fun obj s₁ h₁ => ?_
  obtain ⟨rfl, rfl⟩ := h₁
  have hS : (s.heap.push { cls := .type "list", data := .seq #[] }).get? s.heap.objs.size = some { cls := .type "list", data := .seq #[] } := Heap.get?_push_size _ rfl
  refine ⟨⟨_, hS, rfl⟩, PySem.F.args_list_init_2 _ _, ?_⟩
  obtain ⟨oi, hoi, _⟩ := id hit
  obtain ⟨ol, hol, _⟩ := id hl
  have nSi : s.heap.objs.size ≠ it := Nat.ne_of_gt (Heap.lt_size hoi)
  have nSl : s.heap.objs.size ≠ l := Nat.ne_of_gt (Heap.lt_size hol)
  have k0 : ∀ b o, s.heap.get? b = some o → ((s.heap.push { cls := .type "list", data := .seq #[] }).update s.heap.objs.size (Obj.mapSeq (fun _ => (#[] : Array Value)))).get? b = some o :=
    fun b o e => (Heap.get?_update_other _ _ (Nat.ne_of_gt (Heap.lt_size e))).trans (Heap.get?_push_of_some _ e)
  show wpAny _ _ (do let old ← Builtin.List.listItems (.ref s.heap.objs.size); Builtin.List.listUpdate (.ref s.heap.objs.size) (fun _ => #[]); letGo old.toList.reverse; Builtin.List.listExtendWith (.ref s.heap.objs.size) (.ref it) .none) _ _ _
  refine wpAny_bind ?_; unfold Builtin.List.listItems
  refine wpAny_bind (wpAny_seqItems hS rfl (wpAny_pure ?_))
  show wpAny _ _ (updateSeq s.heap.objs.size (fun _ => #[]) >>= fun _ => letGo (#[] : Array Value).toList.reverse >>= fun _ => Builtin.List.listExtendWith (.ref s.heap.objs.size) (.ref it) .none) _ _ _
  refine wpAny_bind (wpAny_updateSeq hS rfl ?_)
  refine wpAny_bind (wpAny_letGo ?_)
  refine extend_rev (A := A.in1) (l := l) (items := items) hh (hit.at fun o e => k0 _ _ e) ?_ hne hn (Heap.get?_update_self (Obj.mapSeq (fun _ => (#[] : Array Value))) hS rfl) nSi nSl fun h' tk acc c' hk hS' hacc => ?_
  · obtain ⟨o, ho, hc⟩ := id hl
    exact ⟨o, k0 _ _ ho, hc⟩
  · exact ⟨rfl, hQ h' tk acc c' (fun b o hb e => hk b o (Nat.ne_of_lt (Heap.lt_size e)) hb (k0 _ _ e)) hS' hacc⟩
end
def tListRev (K : PySem.W.Frag) (te : TE) : TE := fun σ H Q => te σ H fun v H1 => ∃ (a : Addr) (xs : List V), v = .ref a ∧ SqL K H1 a xs ∧ ∀ q, H1 q = none → Q (.ref q) (upd H1 q (.lst xs.reverse))
theorem pe_listRev {X : Cx} {e : Expr} {te : TE} {p p2 pos pos2 : Pos} (hc : X.calm = true) (hg : Gl X "list") (hm : X.mg "list" = none) (hg2 : Gl X "reversed") (hm2 : X.mg "reversed" = none) (he : PE X e te)
    (hs : starEach [e] X.env = (false, eval e X.env) :: starEach [] X.env := by rfl)
    (hs2 : starEach [.Call (.Name "reversed" p2) [e] [] pos2] X.env = (false, eval (.Call (.Name "reversed" p2) [e] [] pos2) X.env) :: starEach [] X.env := by rfl) :
    PE X (.Call (.Name "list" p) [.Call (.Name "reversed" p2) [e] [] pos2] [] pos) (tListRev X.K te) := by
  refine ⟨fun pins s σ H Q I h => ?_⟩
  refine Call_ (ld_blt I hg hm boot_list (callWith_type1 (args_cons (Call_ (ld_blt I hg2 hm2 boot_reversed (callWith_type1 (args_cons (thn (he.run pins s σ H _ I h) fun u s1 ⟨v, H1, I1, r1, q1⟩ => args_nil ?_) hs) hs rfl))) hs2) hs2 rfl))
  obtain ⟨a, xs, ev, hq, q⟩ := q1
  subst ev
  obtain rfl : u = Value.ref a := r1
  obtain ⟨its, rv, p', hz⟩ := I1.list hq
  refine call_reversed_list p'.isList (args_nil ?_)
  have k0 : ∀ b o, s1.heap.get? b = some o → (s1.heap.push (revObj a ((its.toArray.size : Int) - 1))).get? b = some o := fun b o e => Heap.get?_push_of_some _ e
  have I2 : Inv X pins σ H1 { s1 with heap := s1.heap.push (revObj a ((its.toArray.size : Int) - 1)) } := I1.kept (t' := s1.toks) k0
  obtain ⟨f0, f1, f2, f3, f4, f5⟩ := I1.fpOk (H' := H1) (b := s1.heap.objs.size) (Nat.le_refl _) (I1.hok.fresh (Nat.le_refl _))
  obtain ⟨ol, hol, _⟩ := id p'.isList
  have hne : a ≠ s1.heap.objs.size := Nat.ne_of_lt (Heap.lt_size hol)
  have hn : its.toArray.size ≤ sizeLine := by rw [List.size_toArray, ← rv.length]; exact hz
  refine call_list_rev (s := { s1 with heap := s1.heap.push (revObj a ((its.toArray.size : Int) - 1)) }) (I1.ok.hd hc) ⟨_, Heap.get?_push_size _ rfl, rfl, rfl⟩ (p'.isList.push _) hne hn fun h' tk acc c' hk hS' hi => ?_
  have kk : ∀ b o, s1.heap.get? b = some o → h'.get? b = some o := fun b o e => hk b o (Nat.ne_of_lt (Heap.lt_size e)) (k0 b o e)
  have hsz : (s1.heap.push (revObj a ((its.toArray.size : Int) - 1))).objs.size = s1.heap.objs.size + 1 := Heap.size_push ..
  have fresh : s1.heap.objs.size ≤ (s1.heap.push (revObj a ((its.toArray.size : Int) - 1))).objs.size := by rw [hsz]; exact Nat.le_succ _
  refine ⟨.ref _, upd H1 _ (.lst xs.reverse), I1.laid (t' := tk) kk fresh (show ObjOk X.prog X.w _ _ _ (.lst xs.reverse) from ⟨by rw [List.length_reverse]; exact hz, acc.toList, c', vals_rev rv hi, ?_⟩), rfl, q _ (I1.hok.fresh fresh)⟩
  rw [Array.toArray_toList]
  exact hS'
end Own
namespace Own
open PySem PySem.Spec PyProof.Rows L2 RT HT

/-! ### t[:0:-1], t a tuple: all but the first item, backwards -/
theorem adjust_back (n : Nat) (h : 0 < n) : Builtin.Slice.sliceAdjust none (some 0) (-1) (n : Int) = ((n : Int) - 1, 0) := by
  unfold Builtin.Slice.sliceAdjust
  have h1 : (-1 : Int) < 0 := by decide
  have h2 : ¬ ((0 : Int) < 0) := by decide
  simp only [h1, h2, if_true, if_false]
  refine Prod.ext rfl ?_
  show min (0 : Int) ((n : Int) - 1) = 0
  omega
theorem places_back (n : Nat) (h : 0 < n) : Builtin.Slice.slicePlaces ((n : Int) - 1) 0 (-1) = n - 1 := by
  unfold Builtin.Slice.slicePlaces
  have h1 : ¬ ((-1 : Int) > 0) := by decide
  simp only [h1, if_false]
  have e : (- -1 : Int) = 1 := by decide
  rw [e, Int.ediv_one]
  split <;> omega
theorem fm_congr {α β : Type} {f g : α → Option β} : ∀ l : List α, (∀ a ∈ l, f a = g a) → l.filterMap f = l.filterMap g
  | [], _ => rfl
  | a :: r, h => by
    rw [List.filterMap_cons, List.filterMap_cons, h a List.mem_cons_self, fm_congr r fun b hb => h b (List.mem_cons_of_mem _ hb)]
theorem pick_back (xs : Array Value) : ((List.range (xs.size - 1)).filterMap fun (m : Nat) => xs[(((xs.size : Int) - 1) + (m : Int) * (-1)).toNat]?).toArray = xs.toList.tail.reverse.toArray := by
  have e1 : (fun (m : Nat) => xs[(((xs.size : Int) - 1) + (m : Int) * (-1)).toNat]?) = fun m => xs[xs.size - 1 - m]? := by
    funext m
    have : (((xs.size : Int) - 1) + (m : Int) * (-1)).toNat = xs.size - 1 - m := by omega
    rw [this]
  rw [e1]
  congr 1
  have e2 : (List.range (xs.size - 1)).filterMap (fun m => xs[xs.size - 1 - m]?) = (List.range (xs.size - 1)).filterMap (fun m => xs.toList.tail.reverse[m]?) := by
    apply fm_congr
    intro m hm
    have hm := List.mem_range.mp hm
    have hl : xs.toList.tail.length = xs.size - 1 := by rw [List.length_tail, Array.length_toList]
    rw [List.getElem?_reverse (by omega), hl, List.getElem?_tail, Array.getElem?_toList]
    try (congr 1; omega)
  rw [e2]
  have hl : xs.toList.tail.reverse.length = xs.size - 1 := by rw [List.length_reverse, List.length_tail, Array.length_toList]
  rw [← hl]
  generalize xs.toList.tail.reverse = ys
  have q := PySem.W.krv_all ys.toArray
  simpa using q
section
variable {prog : Program} {w : World} {A : Around} {E : Value → Shared → Prop} {s : Shared}
theorem sliceApplied_back {sl : Addr} {vl vu vs : Value} {n : Nat} {Q : Int × Int × Nat → Shared → Prop} (hn : 0 < n) (hs : s.heap.IsSliceOf sl vl vu vs) (pl : IsPart vl none) (pu : IsPart vu (some 0)) (ps : IsPart vs (some (-1)))
    (h : Q ((n : Int) - 1, -1, n - 1) s) : wpAny (model prog w) A (Builtin.Slice.sliceApplied (.ref sl) (pure (n : Int))) Q E s := by
  obtain ⟨os, hos, hcs, hds⟩ := id hs
  unfold Builtin.Slice.sliceApplied Builtin.Slice.sliceFields
  refine wpAny_bind (wpAny_bind (wpAny_field hos hds (x := vl) rfl (wpAny_bind (wpAny_field hos hds (x := vu) rfl (wpAny_bind (wpAny_field hos hds (x := vs) rfl (wpAny_pure ?_)))))))
  refine wpAny_bind (slicePart_ ps ?_); show wpAny _ _ (if ((-1 : Int) == 0) = true then _ else _) _ _ s; rw [if_neg (by decide)]
  refine wpAny_bind (slicePart_ pl (wpAny_bind (slicePart_ pu (wpAny_bind (wpAny_pure ?_)))))
  show wpAny _ _ (match Builtin.Slice.sliceAdjust none (some 0) (-1) (n : Int) with | (lo, hi) => pure (lo, (-1 : Int), Builtin.Slice.slicePlaces lo hi (-1))) _ _ s
  rw [adjust_back n hn]
  show wpAny _ _ (pure ((n : Int) - 1, (-1 : Int), Builtin.Slice.slicePlaces ((n : Int) - 1) 0 (-1))) _ _ s
  rw [places_back n hn]
  exact wpAny_pure h
theorem getItem_tuple_back {t sl : Addr} {items : Array Value} {vl vu vs : Value} {Q : Value → Shared → Prop} (ht : IsTup s.heap t items) (hs : s.heap.IsSliceOf sl vl vu vs) (pl : IsPart vl none) (pu : IsPart vu (some 0)) (ps : IsPart vs (some (-1)))
    (hn : 0 < items.size) (h : Q (.ref s.heap.objs.size) { s with heap := s.heap.push { cls := .type "tuple", data := .seq items.toList.tail.reverse.toArray } })
    (hsz : items.size ≤ sizeLine) : wpAny (model prog w) A (getItem (.ref t) (.ref sl)) Q E s := by
  have fit : sizeOk (.seq items.toList.tail.reverse.toArray) := by
    show items.toList.tail.reverse.toArray.size ≤ sizeLine
    rw [List.size_toArray, List.length_reverse, List.length_tail, Array.length_toList]; omega
  obtain ⟨os, hos, hcs, hds⟩ := id hs
  have hTs : s.TypeIs (.ref sl) "slice" := ⟨os, hos, hcs⟩
  unfold getItem
  try with_reducible refine wpAny_holding ?_
  first | refine wpAny_bind (wpAny_pure ?_) | skip
  refine wpAny_bind (wpAny_sequenceKey ht.typeIs (by decide) ?_)
  refine wpAny_bind (wpAny_callSpecial?_slot (name := Str.ofString "__getitem__") ht.typeIs slot_tuple_getitem (wpAny_call_entry slot_tuple_getitem ht.typeIs entry_tuple_getitem ?_ (args_tuple_getitem _ _)))
  show wpAny _ _ (Builtin.Tuple.tupleItemsOf (.ref t) >>= _) _ _ s; refine wpAny_bind (tupleItemsOf_ ht ?_)
  refine wpAny_bind (wpAny_typeOf hTs ?_); rw [if_pos (by decide)]
  refine wpAny_bind (sliceApplied_back hn hs pl pu ps ?_)
  show wpAny _ _ (if (((items.size : Int) - 1) == 0 && (-1 : Int) == 1 && (items.size - 1) == items.size) = true then _ else _) _ _ s
  rw [if_neg (by simp), pick_back]
  first
    | exact wpAny_bind (m := Builtin.Tuple.tupleExact _) (wpAny_newObj_type (wpAny_pure ⟨_, rfl, wpAny_pure h⟩) fit)
    | exact wpAny_bind (m := Builtin.Tuple.tupleExact _) (wpAny_newObj_type (wpAny_bind (wpAny_pure (wpAny_pure ⟨_, rfl, wpAny_pure h⟩))) fit)
    | exact wpAny_bind (wpAny_bind (m := Builtin.Tuple.tupleExact _) (wpAny_newObj_type (wpAny_pure (wpAny_pure ⟨_, rfl, wpAny_pure h⟩)) fit))
    | exact wpAny_bind (wpAny_bind (m := Builtin.Tuple.tupleExact _) (wpAny_newObj_type (wpAny_pure ⟨_, rfl, wpAny_pure h⟩) fit))
end
def tSlBack (K : PySem.W.Frag) (te : TE) : TE := fun σ H Q => te σ H fun x H1 => ∃ a y xs, x = .ref a ∧ SqT K H1 a (y :: xs) ∧ ∀ p, H1 p = none → Q (.ref p) (upd H1 p (.tup xs.reverse))
theorem pe_slBack {X : Cx} {e : Expr} {te : TE} {k0 k1 : Nat} {p0 p1 p2 p3 pos : Pos} (he : PE X e te) :
    PE X (.Subscript e (.Slice none (some (.Constant (.int 0) k0 p0)) (some (.UnaryOp .USub (.Constant (.int 1) k1 p1) p2)) p3) pos) (tSlBack X.K te) := by
  refine ⟨fun pins s σ H Q I h => ?_⟩
  refine Subscript_ (thn (he.run pins s σ H _ I h) fun v s1 ⟨x, H1, I1, r1, q1⟩ => ?_)
  obtain ⟨a, y, xs, ex, hx, q⟩ := q1
  subst ex
  cases r1
  have hhi : PO X (some (.Constant (.int 0) k0 p0)) (tPart (tC (.int 0))) := po_some pe_int
  have hst : PO X (some (.UnaryOp .USub (.Constant (.int 1) k1 p1) p2)) (tPart (tUn (rU fun i => .int (-i)) (tC (.int 1)))) := po_some (pe_un un_neg pe_int)
  refine wpAny_Slice (thn (po_none.run pins s1 σ H1 (fun o H2 => o = none ∧ H2 = H1) I1 ⟨rfl, rfl⟩) fun vl s2 ⟨l, H2, I2, pl, el, e2⟩ => ?_)
  subst el e2
  refine thn (hhi.run pins s2 σ H2 (fun o H3 => o = some 0 ∧ H3 = H2) I2 ⟨0, rfl, rfl, rfl⟩) fun vu s3 ⟨u, H3, I3, pu, eu, e3⟩ => ?_
  subst eu e3
  refine thn (hst.run pins s3 σ H3 (fun o H4 => o = some (-1) ∧ H4 = H3) I3 ⟨1, rfl, -1, rfl, rfl, rfl⟩) fun vs s4 ⟨o, H4, I4, ps, eo, e4⟩ => ?_
  subst eo e4
  have I5 : Inv X pins σ H4 { s4 with heap := s4.heap.push { cls := .type "slice", data := .fields #[vl, vu, vs] } } := I4.kept (t' := s4.toks) fun b ob q => Heap.get?_push_of_some _ q
  obtain ⟨its, r, ht, hz⟩ := I5.tuple hx
  have hlen := r.length
  rw [List.length_cons] at hlen hz
  show wpAny (model X.prog X.w) X.A (subscriptTail e (.Slice none (some (.Constant (.int 0) k0 p0)) (some (.UnaryOp .USub (.Constant (.int 1) k1 p1) p2)) p3) (.ref a) (.ref s4.heap.objs.size)) (EP X pins σ Q) X.xe { s4 with heap := s4.heap.push { cls := .type "slice", data := .fields #[vl, vu, vs] } }
  refine tail_any (ops := [.ref a, .ref s4.heap.objs.size]) ht.typeIs slot_tuple_getitem.lookup ?_ (by with_unfolding_all rfl)
  refine getItem_tuple_back ht (Heap.IsSliceOf.new _ vl vu vs) pl pu ps (by rw [List.size_toArray]; omega) ?_ (by rw [List.size_toArray]; omega)
  have rt : Vals xs its.tail := by
    cases r with
    | cons _ t => exact t
  refine ⟨.ref _, _, I5.laid (t' := s4.toks) (o := .tup xs.reverse) (fun b ob q => Heap.get?_push_of_some _ q) (Nat.le_refl _) ?_, rfl, q _ (I5.hok.fresh (Nat.le_refl _))⟩
  exact ⟨by rw [List.length_reverse]; omega, _, rt.reverse, IsTup.new _ _⟩
end Own
namespace Own
open PySem PySem.Spec PyProof.Rows L2 RT HT

/-! ### heaps: all but one object stays; tuples stay -/
def But (d : Addr) (H H' : Hp) : Prop := ∀ b o, b ≠ d → H b = some o → H' b = some o
theorem But.refl (d : Addr) (H : Hp) : But d H H := fun _ _ _ e => e
theorem But.trans {d : Addr} {H H1 H2 : Hp} (a : But d H H1) (b : But d H1 H2) : But d H H2 := fun c o n e => b c o n (a c o n e)
theorem But.upd {d : Addr} {H : Hp} {o : HO} : But d H (upd H d o) := fun b u n e => by rw [upd_ne n]; exact e
theorem same_new {H : Hp} {p : Addr} (h : H p = none) (o : HO) : Same H (upd H p o) := fun b u e => by rw [upd_ne (ne_of_none e h)]; exact e
theorem _root_.L2.Same.but {d : Addr} {H H' : Hp} (a : Same H H') : But d H H' := fun b o _ e => a b o e
/-- a change of what is new is no change -/
theorem But.same {d : Addr} {H H1 H2 : Hp} (n : H d = none) (a : Same H H1) (b : But d H1 H2) : Same H H2 := fun c o e => b c o (ne_of_none e n) (a c o e)
theorem But.free {d : Addr} {H H' : Hp} (a : But d H H') {p : Addr} (n : p ≠ d) (h : H' p = none) : H p = none := by
  cases e : H p with
  | none => rfl
  | some o => rw [a p o n e] at h; cases h
def Tups (H H' : Hp) : Prop := ∀ b xs, H b = some (.tup xs) → H' b = some (.tup xs)
theorem Tups.trans {H H1 H2 : Hp} (a : Tups H H1) (b : Tups H1 H2) : Tups H H2 := fun c xs e => b c xs (a c xs e)
theorem Tups.refl (H : Hp) : Tups H H := fun _ _ e => e
theorem _root_.L2.Same.tups {H H' : Hp} (a : Same H H') : Tups H H' := fun b xs e => a b _ e
theorem But.tups {d : Addr} {H H' : Hp} {ys : List V} (a : But d H H') (h : H d = some (.lst ys)) : Tups H H' := fun b xs e => a b _ (ne_of e h (by intro z; cases z)) e
theorem tups_upd {H : Hp} {d : Addr} {ys : List V} {o : HO} (h : H d = some (.lst ys)) : Tups H (upd H d o) := But.upd.tups h
theorem tups_updD {H : Hp} {d : Addr} {ys : List (Key × V)} {o : HO} (h : H d = some (.dK ys)) : Tups H (upd H d o) := fun b xs e => by rw [upd_ne (ne_of e h (by intro z; cases z))]; exact e

/-! ### terms -/
inductive Ter where
  | var (k : Key)
  | ap (f : Str) (as : List Ter)
mutual
def Ter.size : Ter → Nat
  | .var _ => 1
  | .ap _ as => Ter.sizes as + 1
def Ter.sizes : List Ter → Nat
  | [] => 0
  | a :: r => a.size + Ter.sizes r
end
mutual
def Ter.nest : Ter → Nat
  | .var _ => 1
  | .ap _ as => Ter.nests as + 1
def Ter.nests : List Ter → Nat
  | [] => 0
  | a :: r => max a.nest (Ter.nests r)
end
mutual
def Ter.ground : Ter → Bool
  | .var _ => false
  | .ap _ as => Ter.grounds as
def Ter.grounds : List Ter → Bool
  | [] => true
  | a :: r => a.ground && Ter.grounds r
end
def Ter.isVar : Ter → Bool
  | .var _ => true
  | .ap _ _ => false
theorem Ter.size_pos : ∀ t : Ter, 1 ≤ t.size
  | .var _ => Nat.le_refl _
  | .ap _ _ => Nat.le_add_left _ _
theorem Ter.sizes_len : ∀ ts : List Ter, ts.length ≤ Ter.sizes ts
  | [] => Nat.zero_le _
  | a :: r => by
    have h1 := a.size_pos
    have h2 := Ter.sizes_len r
    show r.length + 1 ≤ a.size + Ter.sizes r
    omega
theorem Ter.sizes_app : ∀ (as bs : List Ter), Ter.sizes (as ++ bs) = Ter.sizes as + Ter.sizes bs
  | [], bs => by show Ter.sizes bs = 0 + Ter.sizes bs; omega
  | a :: r, bs => by
    show a.size + Ter.sizes (r ++ bs) = a.size + Ter.sizes r + Ter.sizes bs
    rw [Ter.sizes_app r bs]
    omega
mutual
inductive TmAt (H : Hp) : V → Ter → Prop
  | int (i : Int) : TmAt H (.int i) (.var (.inl i))
  | str (x : Str) : TmAt H (.str x) (.var (.inr x))
  | ap {p : Addr} {f : Str} {xs : List V} {as : List Ter} : H p = some (.tup (.str f :: xs)) → TmAll H xs as → TmAt H (.ref p) (.ap f as)
inductive TmAll (H : Hp) : List V → List Ter → Prop
  | nil : TmAll H [] []
  | cons {v : V} {vs : List V} {t : Ter} {ts : List Ter} : TmAt H v t → TmAll H vs ts → TmAll H (v :: vs) (t :: ts)
end
mutual
theorem TmAt.mono {H H' : Hp} (m : Tups H H') : ∀ (t : Ter) (v : V), TmAt H v t → TmAt H' v t
  | .var _, _, h => by
    cases h with
    | int i => exact .int i
    | str x => exact .str x
  | .ap f as, _, h => by
    cases h with
    | ap e hs => exact .ap (m _ _ e) (TmAll.mono m as _ hs)
theorem TmAll.mono {H H' : Hp} (m : Tups H H') : ∀ (ts : List Ter) (vs : List V), TmAll H vs ts → TmAll H' vs ts
  | [], _, h => by cases h; exact .nil
  | t :: ts, _, h => by
    cases h with
    | cons h1 h2 => exact .cons (TmAt.mono m t _ h1) (TmAll.mono m ts _ h2)
end
theorem TmAll.len {H : Hp} : ∀ {vs : List V} {ts : List Ter}, TmAll H vs ts → vs.length = ts.length
  | _, _, .nil => rfl
  | _, _, .cons _ t => congrArg (· + 1) t.len
theorem TmAll.app {H : Hp} : ∀ {vs ws : List V} {ts us : List Ter}, TmAll H vs ts → TmAll H ws us → TmAll H (vs ++ ws) (ts ++ us)
  | _, _, _, _, .nil, h => h
  | _, _, _, _, .cons a r, h => .cons a (r.app h)
theorem TmAll.rev {H : Hp} : ∀ {vs : List V} {ts : List Ter}, TmAll H vs ts → TmAll H vs.reverse ts.reverse
  | _, _, .nil => .nil
  | _, _, .cons a r => by
    rw [List.reverse_cons, List.reverse_cons]
    exact r.rev.app (.cons a .nil)
theorem TmAll.get {H : Hp} : ∀ {vs : List V} {ts : List Ter} {i : Nat} {v : V}, TmAll H vs ts → vs[i]? = some v → ∃ t, ts[i]? = some t ∧ TmAt H v t
  | _, _, _, _, .nil, e => by simp at e
  | _, _, 0, _, .cons a r, e => by
    simp at e
    subst e
    exact ⟨_, rfl, a⟩
  | _, _, i + 1, v, .cons a r, e => by
    obtain ⟨t, h1, h2⟩ := TmAll.get (i := i) (v := v) r (by simpa using e)
    exact ⟨t, by simpa using h1, h2⟩
/-- the last one -/
theorem TmAll.last {H : Hp} {vs : List V} {ts : List Ter} (h : TmAll H vs ts) (hv : vs ≠ []) : ∃ vs' v ts' t, vs = vs' ++ [v] ∧ ts = ts' ++ [t] ∧ TmAll H vs' ts' ∧ TmAt H v t := by
  have r := h.rev
  cases e1 : vs.reverse with
  | nil => exact absurd (List.reverse_eq_nil_iff.mp e1) hv
  | cons v vr =>
    cases e2 : ts.reverse with
    | nil => rw [e1, e2] at r; cases r
    | cons t tr =>
      rw [e1, e2] at r
      cases r with
      | cons a q =>
        refine ⟨vr.reverse, v, tr.reverse, t, ?_, ?_, q.rev, a⟩
        · rw [← List.reverse_reverse (as := vs), e1, List.reverse_cons]
        · rw [← List.reverse_reverse (as := ts), e2, List.reverse_cons]

/-! ### readings that come often -/
/-- isinstance(v, tuple), v a term -/
def rIsiTer : List V → Hp → VK → Prop := fun xs H Q => ∃ (v : V) (t : Ter), xs = [v, .ty "tuple"] ∧ TmAt H v t ∧ Q (.bl (!t.isVar)) H
theorem call_isiTer {X : Cx} : CallR X (.builtin "isinstance") rIsiTer := by
  intro pins s σ H xs us Q I r h
  obtain ⟨v, t, rfl, h, q⟩ := h
  refine call_isi pins s σ H _ us Q I r ?_
  cases h with
  | int i => exact ⟨_, _, _, _, false, rfl, .ty _, .base (.int i), kit_ty (by decide +kernel), q⟩
  | str x => exact ⟨_, _, _, _, false, rfl, .ty _, .base (.str x), kit_ty (by decide +kernel), q⟩
  | ap e _ => exact ⟨_, _, _, _, true, rfl, .ty _, .base (.tup e), kit_ty (by decide +kernel), q⟩
theorem cut_1 (y : V) (ys : List V) : cutV (y :: ys) (some 1) none = ys := by
  unfold cutV
  rw [show HT.sIx (y :: ys).length 0 (some 1) = min 1 (y :: ys).length from HT.sIx_nat (y :: ys).length 0 1, HT.sIx_none, List.length_cons, show min 1 (ys.length + 1) = 1 by omega]
  show List.take (ys.length + 1 - 1) ys = ys
  rw [Nat.add_sub_cancel]
  exact List.take_length
/-- t[1:] of a tuple that is not empty -/
def rSl1 (K : PySem.W.Frag) : V → Option Int → Option Int → Hp → VK → Prop := fun x lo hi H Q => ∃ a y ys, x = .ref a ∧ lo = some 1 ∧ hi = none ∧ SqT K H a (y :: ys) ∧ ∀ p, H p = none → Q (.ref p) (upd H p (.tup ys))
theorem sl_1 {X : Cx} : SlR X (rSl1 X.K) := by
  intro pins s σ H x v vl vu lo hi sl Q I rx hs pl pu h
  obtain ⟨a, y, ys, rfl, rfl, rfl, e, q⟩ := h
  refine sl_tup pins s σ H _ v vl vu _ _ sl Q I rx hs pl pu ⟨a, _, rfl, e, fun ⟨z, _⟩ => ?_, fun p hp => ?_⟩
  · rw [show HT.sIx (y :: ys).length 0 (some 1) = min 1 (y :: ys).length from HT.sIx_nat (y :: ys).length 0 1, List.length_cons] at z
    omega
  · rw [cut_1]
    exact q p hp
/-- xs.pop(), the last item told -/
def rPopL : V → List V → Hp → VK → Prop := fun x xs H Q => ∃ (l : Addr) (vs : List V) (v : V), x = .ref l ∧ xs = [] ∧ H l = some (.lst (vs ++ [v])) ∧ Q v (upd H l (.lst vs))
theorem mt_popL {X : Cx} : MtR X "list.pop" rPopL := by
  intro pins s σ H x xs v us Q I rx rxs h
  obtain ⟨l, vs, y, rfl, rfl, e, q⟩ := h
  refine mt_pop pins s σ H _ _ v us Q I rx rxs ⟨l, _, y, rfl, rfl, e, ?_, ?_⟩
  · rw [List.length_append, List.length_singleton, Nat.add_sub_cancel]
    exact List.getElem?_concat_length
  · rw [List.dropLast_concat]
    exact q
theorem tyl {K : PySem.W.Frag} {H : Hp} {l : Addr} {vs : List V} (h : H l = some (.lst vs)) : tyV K "list" (.ref l) H := .inl ⟨rfl, _, .inl (.inl h)⟩
theorem tru_l {K : PySem.W.Frag} {H : Hp} {l : Addr} {vs : List V} (h : H l = some (.lst vs)) : TruV K (.ref l) H (!vs.isEmpty) := .inl ⟨vs, .inl (.inl h), rfl⟩
theorem small6 {n : Nat} (h : n ≤ 1000000) : n ≤ sizeLine := Nat.le_trans h (by decide)
theorem small6' {n : Nat} (h : n ≤ 1000000) : n < sizeLine := Nat.lt_of_le_of_lt h (by decide)
end Own
namespace Own
open PySem PySem.Spec PyProof.Rows L2 RT HT

/-! ### walks within a comprehension, the turn's body any -/
theorem walk_l {K : PySem.W.Frag} {a : Addr} {xs : List V} {H0 : Hp} {Qd : Hp → Prop} {body : (Hp → Prop) → V → Hp → Prop} (Pv : Nat → Hp → Prop) (h0 : Pv 0 H0) (hl : ∀ i H, i ≤ xs.length → Pv i H → SqL K H a xs)
    (hs : ∀ i x H, xs[i]? = some x → Pv i H → body (Pv (i + 1)) x H) (hd : ∀ H, Pv xs.length H → Qd H) :
    ∃ W : Nat → Nat → Hp → Prop, (∃ m, W 0 m H0) ∧ ∀ i m H, W i m H → ((Itl K a).stop i H ∧ Qd H) ∨ ((Itl K a).go i H ∧ ∃ Nx : Hp → Prop, (∀ H', Nx H' → ∃ m', m' < m ∧ W (i + 1) m' H') ∧ ∀ x H', (Itl K a).yld i H x H' → body Nx x H') := by
  refine ⟨fun i m H => m = xs.length - i ∧ i ≤ xs.length ∧ Pv i H, ⟨xs.length, by simp, Nat.zero_le _, h0⟩, ?_⟩
  rintro i m H ⟨rfl, hi, p⟩
  have q := hl i H hi p
  by_cases hlt : i < xs.length
  · refine .inr ⟨⟨xs, xs[i], q, by simp [hlt]⟩, Pv (i + 1), fun H' p' => ⟨xs.length - (i + 1), by omega, rfl, hlt, p'⟩, fun x H' y => ?_⟩
    obtain ⟨e, y⟩ := y
    subst e
    exact hs i x _ (y xs q) p
  · have e : i = xs.length := by omega
    subst e
    exact .inl ⟨⟨xs, q, Nat.le_refl _⟩, hd H p⟩
theorem walk_t {K : PySem.W.Frag} {a : Addr} {xs : List V} {H0 : Hp} {Qd : Hp → Prop} {body : (Hp → Prop) → V → Hp → Prop} (Pv : Nat → Hp → Prop) (h0 : Pv 0 H0) (hl : ∀ i H, i ≤ xs.length → Pv i H → SqT K H a xs)
    (hs : ∀ i x H, xs[i]? = some x → Pv i H → body (Pv (i + 1)) x H) (hd : ∀ H, Pv xs.length H → Qd H) :
    ∃ W : Nat → Nat → Hp → Prop, (∃ m, W 0 m H0) ∧ ∀ i m H, W i m H → ((Itt K a).stop i H ∧ Qd H) ∨ ((Itt K a).go i H ∧ ∃ Nx : Hp → Prop, (∀ H', Nx H' → ∃ m', m' < m ∧ W (i + 1) m' H') ∧ ∀ x H', (Itt K a).yld i H x H' → body Nx x H') := by
  refine ⟨fun i m H => m = xs.length - i ∧ i ≤ xs.length ∧ Pv i H, ⟨xs.length, by simp, Nat.zero_le _, h0⟩, ?_⟩
  rintro i m H ⟨rfl, hi, p⟩
  have q := hl i H hi p
  by_cases hlt : i < xs.length
  · refine .inr ⟨⟨xs, xs[i], q, by simp [hlt]⟩, Pv (i + 1), fun H' p' => ⟨xs.length - (i + 1), by omega, rfl, hlt, p'⟩, fun x H' y => ?_⟩
    obtain ⟨e, y⟩ := y
    subst e
    exact hs i x _ (y xs q) p
  · have e : i = xs.length := by omega
    subst e
    exact .inl ⟨⟨xs, q, Nat.le_refl _⟩, hd H p⟩

/-! ### what the functions of terms compute -/
def Ter.args : Ter → List Ter
  | .var _ => []
  | .ap _ as => as
def argsOf (ts : List Ter) : List Ter := ts.flatMap Ter.args
theorem argsOf_app (as bs : List Ter) : argsOf (as ++ bs) = argsOf as ++ argsOf bs := List.flatMap_append
theorem argsOf_take {ts : List Ter} {i : Nat} {t : Ter} (h : ts[i]? = some t) : argsOf (ts.take (i + 1)) = argsOf (ts.take i) ++ t.args := by
  rw [List.take_add_one, h, argsOf_app]
  show _ ++ ([t].flatMap Ter.args) = _
  rw [List.flatMap_cons, List.flatMap_nil, List.append_nil]
theorem sizes_argsOf : ∀ ts : List Ter, Ter.sizes (argsOf ts) + ts.length = Ter.sizes ts
  | [] => rfl
  | .var k :: r => by
    have ih := sizes_argsOf r
    show Ter.sizes (argsOf r) + (r.length + 1) = 1 + Ter.sizes r
    omega
  | .ap f as :: r => by
    have ih := sizes_argsOf r
    show Ter.sizes (as ++ argsOf r) + (r.length + 1) = Ter.sizes as + 1 + Ter.sizes r
    rw [Ter.sizes_app]
    omega
theorem nests_app : ∀ (as bs : List Ter), Ter.nests (as ++ bs) = max (Ter.nests as) (Ter.nests bs)
  | [], bs => by show Ter.nests bs = max 0 _; omega
  | a :: r, bs => by
    show max a.nest (Ter.nests (r ++ bs)) = max (max a.nest (Ter.nests r)) (Ter.nests bs)
    rw [nests_app r bs]
    omega
theorem Ter.nest_pos : ∀ t : Ter, 1 ≤ t.nest
  | .var _ => Nat.le_refl _
  | .ap _ _ => Nat.le_add_left _ _
theorem nests_argsOf : ∀ ts : List Ter, ts ≠ [] → Ter.nests (argsOf ts) + 1 = Ter.nests ts
  | [], h => absurd rfl h
  | [.var k], _ => rfl
  | [.ap f as], _ => by
    show Ter.nests (as ++ []) + 1 = max (Ter.nests as + 1) 0
    rw [List.append_nil]
    omega
  | .var k :: b :: r, _ => by
    have ih := nests_argsOf (b :: r) (by simp)
    have p := b.nest_pos
    have e : Ter.nests (b :: r) = max b.nest (Ter.nests r) := rfl
    show Ter.nests (argsOf (b :: r)) + 1 = max 1 (Ter.nests (b :: r))
    omega
  | .ap f as :: b :: r, _ => by
    have ih := nests_argsOf (b :: r) (by simp)
    show Ter.nests (as ++ argsOf (b :: r)) + 1 = max (Ter.nests as + 1) (Ter.nests (b :: r))
    rw [nests_app]
    omega
def hasK (acc : List Key) (k : Key) : Bool := acc.any fun x => decide (x = k)
theorem hasK_iff {acc : List Key} {k : Key} : hasK acc k = true ↔ k ∈ acc := by
  unfold hasK
  rw [List.any_eq_true]
  constructor
  · rintro ⟨x, hx, h⟩
    have h : x = k := of_decide_eq_true h
    exact h ▸ hx
  · intro h
    exact ⟨k, h, decide_eq_true rfl⟩
def addK (acc : List Key) (k : Key) : List Key := if hasK acc k = true then acc else acc ++ [k]
mutual
def Ter.into (acc : List Key) : Ter → List Key
  | .var k => addK acc k
  | .ap _ as => Ter.intos acc as
def Ter.intos (acc : List Key) : List Ter → List Key
  | [] => acc
  | a :: r => Ter.intos (Ter.into acc a) r
end
theorem intos_app : ∀ (as bs : List Ter) (acc : List Key), Ter.intos acc (as ++ bs) = Ter.intos (Ter.intos acc as) bs
  | [], _, _ => rfl
  | a :: r, bs, acc => intos_app r bs (Ter.into acc a)
def Ter.vars (t : Ter) : List Key := Ter.into [] t
def yes (k : Key) : Key × V := (k, .bl true)
theorem put_yes (acc : List Key) (k : Key) : putK (acc.map yes) k (.bl true) = (addK acc k).map yes := by
  unfold putK addK
  have e : ((acc.map yes).any fun kv => decide (kv.1 = k)) = hasK acc k := by
    rw [List.any_map]
    rfl
  rw [e]
  by_cases hk : hasK acc k = true
  · rw [if_pos hk, if_pos hk, List.map_map]
    apply List.map_congr_left
    intro x _
    show (if x = k then (x, V.bl true) else (x, V.bl true)) = (x, V.bl true)
    split <;> rfl
  · rw [if_neg hk, if_neg hk, List.map_append]
    rfl
theorem addK_len (acc : List Key) (k : Key) : (addK acc k).length ≤ acc.length + 1 := by
  unfold addK
  split
  · omega
  · rw [List.length_append, List.length_singleton]; omega
theorem yes_keys (acc : List Key) : (acc.map yes).map (fun kv => kV kv.1) = acc.map kV := by
  rw [List.map_map]
  rfl
theorem addK_ne (acc : List Key) (k : Key) : addK acc k ≠ [] := by
  unfold addK
  split
  · rename_i h
    intro z
    rw [z] at h
    exact absurd (show false = true from h) Bool.false_ne_true
  · simp
mutual
theorem into_ne : ∀ (t : Ter) (acc : List Key), acc ≠ [] ∨ t.ground = false → Ter.into acc t ≠ []
  | .var k, acc, _ => addK_ne acc k
  | .ap f as, acc, h => intos_ne as acc h
theorem intos_ne : ∀ (ts : List Ter) (acc : List Key), acc ≠ [] ∨ Ter.grounds ts = false → Ter.intos acc ts ≠ []
  | [], acc, h => h.resolve_right (by intro z; cases z)
  | a :: r, acc, h => by
    refine intos_ne r _ ?_
    rcases h with h | h
    · exact .inl (into_ne a acc (.inl h))
    · have h : (a.ground && Ter.grounds r) = false := h
      cases ha : a.ground with
      | false => exact .inl (into_ne a acc (.inr ha))
      | true =>
        rw [ha] at h
        exact .inr h
end
mutual
theorem into_ground : ∀ (t : Ter) (acc : List Key), t.ground = true → Ter.into acc t = acc
  | .var k, _, h => by cases h
  | .ap f as, acc, h => intos_ground as acc h
theorem intos_ground : ∀ (ts : List Ter) (acc : List Key), Ter.grounds ts = true → Ter.intos acc ts = acc
  | [], _, _ => rfl
  | a :: r, acc, h => by
    have h : (a.ground && Ter.grounds r) = true := h
    rw [Bool.and_eq_true] at h
    show Ter.intos (Ter.into acc a) r = acc
    rw [into_ground a acc h.1, intos_ground r acc h.2]
end
theorem vars_nil (t : Ter) : decide (t.vars = []) = t.ground := by
  cases h : t.ground with
  | true => exact decide_eq_true (into_ground t [] h)
  | false => exact decide_eq_false (into_ne t [] (.inr h))
end Own
namespace Own
open PySem PySem.Spec PyProof.Rows L2 RT HT

/-! ### a list of ints at d, whatever they are -/
def Ints (H : Hp) (d : Addr) : Prop := ∃ ms : List Int, ms.length ≤ 100000 ∧ H d = some (.lst (ms.map V.int))
theorem Ints.lst {H : Hp} {d : Addr} (h : Ints H d) : ∃ vs, H d = some (.lst vs) := by
  obtain ⟨ms, _, e⟩ := h
  exact ⟨_, e⟩
theorem But.tupsI {d : Addr} {H H' : Hp} (a : But d H H') (h : Ints H d) : Tups H H' := by
  obtain ⟨ms, _, e⟩ := h
  exact a.tups e
theorem Ints.ne {H : Hp} {d p : Addr} (h : Ints H d) (n : H p = none) : p ≠ d := by
  obtain ⟨ms, _, e⟩ := h
  exact (ne_of_none e n).symm
theorem Ints.of_but {H H' : Hp} {d p : Addr} (h : Ints H d) (b : But p H H') (n : d ≠ p) : Ints H' d := by
  obtain ⟨ms, l, e⟩ := h
  exact ⟨ms, l, b d _ n e⟩
theorem Ints.same {H H' : Hp} {d : Addr} (h : Ints H d) (b : Same H H') : Ints H' d := by
  obtain ⟨ms, l, e⟩ := h
  exact ⟨ms, l, b d _ e⟩

/-! ### words -/
abbrev LET : Str := "abcdefghijklmnopqrstuvwxyz"
abbrev SGN : Str := LET ++ ("ABCDEFGHIJKLMNOPQRSTUVWXYZ0123456789_" : Str)
abbrev RES : List Str := ["true", "false", "all", "some", "goal", "axiom"]
def chOk (c : Nat) : Bool := (decide (97 ≤ c) && decide (c ≤ 122)) || (decide (65 ≤ c) && decide (c ≤ 90)) || (decide (48 ≤ c) && decide (c ≤ 57)) || decide (c = 95)
def isLow (c : Nat) : Bool := decide (97 ≤ c) && decide (c ≤ 122)
/-- a word: a small letter, then signs -/
structure WordOk (x : Str) : Prop where
  head : ∃ c r, x.cps.toList = c :: r ∧ isLow c = true
  all : x.cps.toList.all chOk = true
  len : x.length ≤ 40
theorem let_len : LET.length = 26 := by decide +kernel
theorem sgn_len : SGN.length = 63 := by decide +kernel
theorem let_at {i : Nat} (h : i < 26) : ∃ c, LET.cps[i]? = some c ∧ isLow c = true ∧ chOk c = true := by
  have a : LET.cps.toList.all (fun c => isLow c && chOk c) = true := by decide +kernel
  have l : LET.cps.toList.length = 26 := by decide +kernel
  have hi : i < LET.cps.toList.length := by omega
  have b := List.all_eq_true.mp a _ (List.getElem_mem hi)
  rw [Bool.and_eq_true] at b
  exact ⟨_, by rw [← Array.getElem?_toList, List.getElem?_eq_getElem hi], b.1, b.2⟩
theorem sgn_at {i : Nat} (h : i < 63) : ∃ c, SGN.cps[i]? = some c ∧ chOk c = true := by
  have a : SGN.cps.toList.all chOk = true := by decide +kernel
  have l : SGN.cps.toList.length = 63 := by decide +kernel
  have hi : i < SGN.cps.toList.length := by omega
  exact ⟨_, by rw [← Array.getElem?_toList, List.getElem?_eq_getElem hi], List.all_eq_true.mp a _ (List.getElem_mem hi)⟩
theorem app_cps (x y : Str) : (x ++ y).cps.toList = x.cps.toList ++ y.cps.toList := by
  show (x.cps ++ y.cps).toList = _
  rw [Array.toList_append]
theorem app_len (x y : Str) : (x ++ y).length = x.length + y.length := by
  show (x.cps ++ y.cps).size = x.cps.size + y.cps.size
  rw [Array.size_append]
/-- part of a word: all but the length -/
structure WordIn (x : Str) (n : Nat) : Prop where
  head : ∃ c r, x.cps.toList = c :: r ∧ isLow c = true
  all : x.cps.toList.all chOk = true
  len : x.length ≤ n
theorem word1 {c : Nat} (h1 : isLow c = true) (h2 : chOk c = true) : WordIn ⟨#[c]⟩ 1 := ⟨⟨c, [], rfl, h1⟩, by show (chOk c && true) = true; rw [h2]; rfl, Nat.le_refl _⟩
theorem WordIn.add {x y : Str} {n m : Nat} (h : WordIn x n) (a : y.cps.toList.all chOk = true) (l : y.length ≤ m) : WordIn (x ++ y) (n + m) := by
  obtain ⟨c, r, e, hc⟩ := h.head
  refine ⟨⟨c, r ++ y.cps.toList, by rw [app_cps, e]; rfl, hc⟩, by rw [app_cps, List.all_append, h.all, a]; rfl, by rw [app_len]; have := h.len; omega⟩
theorem WordIn.ok {x : Str} {n : Nat} (h : WordIn x n) (l : n ≤ 40) : WordOk x := ⟨h.head, h.all, Nat.le_trans h.len l⟩
/-- words of a law: all right, no two alike, none reserved -/
structure Words (ws : List Str) : Prop where
  ok : ∀ x ∈ ws, WordOk x
  nd : ws.Nodup
  res : ∀ x ∈ ws, x ∉ RES
/-- how many of the blocked ones are as long as n or longer -/
def longer (B : List Str) (n : Nat) : Nat := (B.filter fun y => decide (n ≤ y.length)).length
theorem longer_le (B : List Str) (n : Nat) : longer B n ≤ B.length := List.length_filter_le _ _
theorem longer_lt : ∀ {B : List Str} {x : Str}, x ∈ B → longer B (x.length + 1) < longer B x.length := by
  intro B
  have mono : ∀ (B : List Str) (n : Nat), longer B (n + 1) ≤ longer B n := fun B n => by
    induction B with
    | nil => exact Nat.le_refl _
    | cons y r ih =>
      unfold longer at ih ⊢
      rw [List.filter_cons, List.filter_cons]
      by_cases h1 : n + 1 ≤ y.length
      · rw [if_pos (decide_eq_true h1), if_pos (decide_eq_true (by omega)), List.length_cons, List.length_cons]; omega
      · rw [if_neg (by rw [decide_eq_false h1]; decide)]
        split
        · rw [List.length_cons]; omega
        · exact ih
  induction B with
  | nil => intro x h; cases h
  | cons y r ih =>
    intro x h
    unfold longer at ih ⊢
    rw [List.filter_cons, List.filter_cons]
    rcases List.mem_cons.mp h with e | h
    · subst e
      rw [if_neg (by rw [decide_eq_false (by omega)]; decide), if_pos (decide_eq_true (Nat.le_refl _)), List.length_cons]
      have := mono r x.length
      unfold longer at this
      omega
    · have q := ih h
      by_cases h1 : x.length + 1 ≤ y.length
      · rw [if_pos (decide_eq_true h1), if_pos (decide_eq_true (by omega)), List.length_cons, List.length_cons]; omega
      · rw [if_neg (by rw [decide_eq_false h1]; decide)]
        split
        · rw [List.length_cons]; omega
        · exact q
theorem inV_str (x : Str) (ws : List Str) : inV (.str x) (ws.map V.str) = true ↔ x ∈ ws := by
  unfold inV
  rw [List.any_map, List.any_eq_true]
  constructor
  · rintro ⟨y, hy, h⟩
    have h : (y == x) = true := h
    exact eq_of_beq h ▸ hy
  · intro h
    exact ⟨x, h, show (x == x) = true from beq_self_eq_true x⟩
theorem flat_strs (ws : List Str) : (ws.map V.str).all flatV = true := by
  rw [List.all_map, List.all_eq_true]
  intro x _
  rfl
end Own
namespace Own
open PySem PySem.Spec PyProof.Rows L2 RT HT

/-! ### terms over words -/
mutual
def Ter.wf (W : Str → Nat → Prop) (U : Key → Prop) : Ter → Prop
  | .var k => U k
  | .ap f as => W f as.length ∧ Ter.wfs W U as
def Ter.wfs (W : Str → Nat → Prop) (U : Key → Prop) : List Ter → Prop
  | [] => True
  | a :: r => a.wf W U ∧ Ter.wfs W U r
end
theorem wfs_app {W : Str → Nat → Prop} {U : Key → Prop} : ∀ {as bs : List Ter}, Ter.wfs W U as → Ter.wfs W U bs → Ter.wfs W U (as ++ bs)
  | [], _, _, h => h
  | _ :: _, _, h, h2 => ⟨h.1, wfs_app h.2 h2⟩
theorem wfs_get {W : Str → Nat → Prop} {U : Key → Prop} : ∀ {as : List Ter} {i : Nat} {t : Ter}, Ter.wfs W U as → as[i]? = some t → t.wf W U
  | [], _, _, _, e => by simp at e
  | a :: r, 0, t, h, e => by
    simp at e
    exact e ▸ h.1
  | a :: r, i + 1, t, h, e => wfs_get (as := r) (i := i) h.2 (by simpa using e)
/-- the i-th word has i - 2 arguments -/
def symOf (ws : List Str) (f : Str) (n : Nat) : Prop := ∃ i : Nat, i < 6 ∧ ws[i]? = some f ∧ n = i - 2
def numVar (k : Key) : Prop := ∃ r : Int, k = .inl r ∧ 0 ≤ r ∧ r < 900
theorem sizes_snoc (as : List Ter) (t : Ter) : Ter.sizes (as ++ [t]) = Ter.sizes as + t.size := by
  rw [Ter.sizes_app]
  show _ + (t.size + 0) = _
  omega
theorem nests_snoc (as : List Ter) (t : Ter) : Ter.nests (as ++ [t]) = max (Ter.nests as) t.nest := by
  rw [nests_app]
  show max _ (max t.nest 0) = _
  omega
theorem grounds_app : ∀ (as bs : List Ter), Ter.grounds (as ++ bs) = (Ter.grounds as && Ter.grounds bs)
  | [], _ => rfl
  | a :: r, bs => by
    show (a.ground && Ter.grounds (r ++ bs)) = _
    rw [grounds_app r bs, ← Bool.and_assoc]
    rfl
theorem grounds_snoc (as : List Ter) (t : Ter) : Ter.grounds (as ++ [t]) = (Ter.grounds as && t.ground) := by
  rw [grounds_app]
  show (_ && (t.ground && true)) = _
  rw [Bool.and_true]
theorem pow4 (n : Nat) : 1 ≤ 4 ^ n := Nat.one_le_pow _ _ (by decide)
mutual
theorem nest_size : ∀ t : Ter, t.nest ≤ t.size
  | .var _ => Nat.le_refl _
  | .ap _ as => Nat.succ_le_succ (nests_sizes as)
theorem nests_sizes : ∀ ts : List Ter, Ter.nests ts ≤ Ter.sizes ts
  | [] => Nat.le_refl _
  | a :: r => by
    have h1 := nest_size a
    have h2 := nests_sizes r
    show max a.nest (Ter.nests r) ≤ a.size + Ter.sizes r
    omega
end
theorem nest_le_of : ∀ {ts : List Ter} {i : Nat} {t : Ter}, ts[i]? = some t → t.nest ≤ Ter.nests ts
  | [], _, _, e => by simp at e
  | a :: r, 0, t, e => by
    simp at e
    subst e
    exact Nat.le_max_left _ _
  | a :: r, i + 1, t, e => Nat.le_trans (nest_le_of (ts := r) (i := i) (by simpa using e)) (Nat.le_max_right _ _)
theorem size_le_of : ∀ {ts : List Ter} {i : Nat} {t : Ter}, ts[i]? = some t → t.size ≤ Ter.sizes ts
  | [], _, _, e => by simp at e
  | a :: r, 0, t, e => by
    simp at e
    subst e
    exact Nat.le_add_right _ _
  | a :: r, i + 1, t, e => Nat.le_trans (size_le_of (ts := r) (i := i) (by simpa using e)) (Nat.le_add_left _ _)

/-! ### data: the kind of a value -/
def kindOf : PyData → String
  | .none => "NoneType"
  | .bool _ => "bool"
  | .int _ => "int"
  | .str _ => "str"
  | .list _ => "list"
  | .tuple _ => "tuple"
  | .dict _ => "dict"
theorem tyx_dp {K : PySem.W.Frag} {H : Hp} {v : V} {x : PyData} (h : Dp K H v x) : TyX K H v (.type (kindOf x)) := by
  cases h with
  | non => exact .base .non
  | bl b => exact .base (.bl b)
  | int i => exact .base (.int i)
  | str y => exact .base (.str y)
  | lst h _ =>
    rcases h with (h | ⟨o, h⟩) | ⟨o, its, n, h, c, _⟩
    · exact .base (.lst h)
    · exact .base (.frz h)
    · exact .kList h c
  | tup h _ =>
    rcases h with (h | ⟨o, h⟩) | ⟨o, its, n, h, c, _⟩
    · exact .base (.tup h)
    · exact .fTuple h
    · exact .kTuple h c
def rIsiDat (K : PySem.W.Frag) : List V → Hp → VK → Prop := fun xs H Q => ∃ (v : V) (x : PyData) (c : String) (b : Bool), xs = [v, .ty c] ∧ Dp K H v x ∧ kitB (kindOf x) c = some b ∧ Q (.bl b) H
theorem call_isiDat {X : Cx} : CallR X (.builtin "isinstance") (rIsiDat X.K) := by
  intro pins s σ H xs us Q I r h
  obtain ⟨v, x, c, b, rfl, h, e, q⟩ := h
  exact call_isi pins s σ H _ us Q I r ⟨v, .ty c, _, _, b, rfl, .ty c, tyx_dp h, kit_ty e, q⟩
theorem Dp.len {K : PySem.W.Frag} {H : Hp} : ∀ {vs : List V} {xs : List PyData}, DpAll K H vs xs → vs.length = xs.length
  | _, _, .nil => rfl
  | _, _, .cons _ t => congrArg (· + 1) (Dp.len t)
theorem Dp.get {K : PySem.W.Frag} {H : Hp} : ∀ {vs : List V} {xs : List PyData} {i : Nat} {v : V}, DpAll K H vs xs → vs[i]? = some v → ∃ x, xs[i]? = some x ∧ Dp K H v x
  | _, _, _, _, .nil, e => by simp at e
  | _, _, 0, _, .cons a r, e => by
    simp at e
    subst e
    exact ⟨_, rfl, a⟩
  | _, _, i + 1, v, .cons a r, e => by
    obtain ⟨t, h1, h2⟩ := Dp.get (i := i) (v := v) r (by simpa using e)
    exact ⟨t, by simpa using h1, h2⟩
theorem depth_le_of : ∀ {xs : List PyData} {i : Nat} {x : PyData}, xs[i]? = some x → x.depth ≤ PyData.depthAll xs
  | [], _, _, e => by simp at e
  | a :: r, 0, t, e => by
    simp at e
    subst e
    exact Nat.le_max_left _ _
  | a :: r, i + 1, t, e => Nat.le_trans (depth_le_of (xs := r) (i := i) (by simpa using e)) (Nat.le_max_right _ _)
mutual
theorem Dp.same {K : PySem.W.Frag} {H H' : Hp} (m : Same H H') : ∀ (x : PyData) (v : V), Dp K H v x → Dp K H' v x
  | .none, _, h => by cases h; exact .non
  | .bool b, _, h => by cases h; exact .bl b
  | .int i, _, h => by cases h; exact .int i
  | .str x, _, h => by cases h; exact .str x
  | .list ds, _, h => by
    cases h with
    | lst e hs => exact .lst (m.seq e) (Dp.sameA m ds _ hs)
  | .tuple ds, _, h => by
    cases h with
    | tup e hs =>
      refine .tup ?_ (Dp.sameA m ds _ hs)
      rcases e with (e | ⟨o, e⟩) | e
      · exact .inl (.inl (m _ _ e))
      · exact .inl (.inr ⟨o, m _ _ e⟩)
      · exact .inr e
  | .dict _, _, h => by cases h
theorem Dp.sameA {K : PySem.W.Frag} {H H' : Hp} (m : Same H H') : ∀ (xs : List PyData) (vs : List V), DpAll K H vs xs → DpAll K H' vs xs
  | [], _, h => by cases h; exact .nil
  | x :: xs, _, h => by
    cases h with
    | cons a r => exact .cons (Dp.same m x _ a) (Dp.sameA m xs _ r)
end
def isTupD : PyData → Bool
  | .tuple _ => true
  | _ => false
def isListD : PyData → Bool
  | .list _ => true
  | _ => false
def isBoolD : PyData → Bool
  | .bool _ => true
  | _ => false
def isIntD : PyData → Bool
  | .bool _ => true
  | .int _ => true
  | _ => false
def isStrD : PyData → Bool
  | .str _ => true
  | _ => false
theorem k_tup (x : PyData) : kitB (kindOf x) "tuple" = some (isTupD x) := by
  cases x <;> (unfold kindOf isTupD; dsimp only; decide +kernel)
theorem k_list (x : PyData) : kitB (kindOf x) "list" = some (isListD x) := by
  cases x <;> (unfold kindOf isListD; dsimp only; decide +kernel)
theorem k_bool (x : PyData) : kitB (kindOf x) "bool" = some (isBoolD x) := by
  cases x <;> (unfold kindOf isBoolD; dsimp only; decide +kernel)
theorem k_int (x : PyData) : kitB (kindOf x) "int" = some (isIntD x) := by
  cases x <;> (unfold kindOf isIntD; dsimp only; decide +kernel)
theorem k_str (x : PyData) : kitB (kindOf x) "str" = some (isStrD x) := by
  cases x <;> (unfold kindOf isStrD; dsimp only; decide +kernel)
/-- nested less than n deep, no dict, no item too long -/
def fitsD : Nat → PyData → Prop
  | 0, _ => False
  | n + 1, .list ds => ds.length ≤ 1000000 ∧ ∀ d ∈ ds, fitsD n d
  | n + 1, .tuple ds => ds.length ≤ 1000000 ∧ ∀ d ∈ ds, fitsD n d
  | _ + 1, .dict _ => False
  | _ + 1, _ => True
/-- a[i], a a list or a tuple -/
def rIxLT (K : PySem.W.Frag) : R2 := fun x y H Q => ∃ (p : Addr) (xs : List V) (i : Int) (v : V), x = .ref p ∧ y = .int i ∧ (SqL K H p xs ∨ SqT K H p xs) ∧ atI xs i = some v ∧ Q v H
theorem ix_lt {X : Cx} : IxR X (rIxLT X.K) := by
  intro value slice pins s σ H x y v u Q I rx ry h hs
  obtain ⟨p, xs, i, z, ex, ey, h, e, q⟩ := h
  rcases h with h | h
  · exact ix_list value slice pins s σ H x y v u Q I rx ry ⟨p, xs, i, z, ex, ey, h, e, q⟩ hs
  · exact ix_tup value slice pins s σ H x y v u Q I rx ry ⟨p, xs, i, z, ex, ey, h, e, q⟩ hs
theorem dp_ints {K : PySem.W.Frag} {H : Hp} : ∀ ns : List Int, DpAll K H (ns.map V.int) (ns.map PyData.int)
  | [] => .nil
  | n :: r => .cons (.int n) (dp_ints r)
end Own
namespace Own
open PySem PySem.Spec PyProof.Rows L2 RT HT

def isNum : Key → Prop
  | .inl _ => True
  | .inr _ => False
theorem addK_all {R : Key → Prop} {acc : List Key} {k : Key} (h : ∀ x ∈ acc, R x) (hk : R k) : ∀ x ∈ addK acc k, R x := by
  unfold addK
  split
  · exact h
  · intro x hx
    rcases List.mem_append.mp hx with hx | hx
    · exact h x hx
    · rw [List.mem_singleton.mp hx]; exact hk
mutual
theorem into_all {W : Str → Nat → Prop} {U R : Key → Prop} (ur : ∀ k, U k → R k) : ∀ (t : Ter) (acc : List Key), t.wf W U → (∀ x ∈ acc, R x) → ∀ x ∈ Ter.into acc t, R x
  | .var k, acc, h, a => addK_all a (ur k h)
  | .ap f as, acc, h, a => intos_all ur as acc h.2 a
theorem intos_all {W : Str → Nat → Prop} {U R : Key → Prop} (ur : ∀ k, U k → R k) : ∀ (ts : List Ter) (acc : List Key), Ter.wfs W U ts → (∀ x ∈ acc, R x) → ∀ x ∈ Ter.intos acc ts, R x
  | [], _, _, a => a
  | t :: r, acc, h, a => intos_all ur r _ h.2 (into_all ur t acc h.1 a)
end
/-- a key as data -/
def kD : Key → PyData
  | .inl i => .int i
  | .inr x => .str x
def keyFine : Key → Prop
  | .inl _ => True
  | .inr x => PyData.strOk x = true
theorem dp_keys {K : PySem.W.Frag} {H : Hp} : ∀ ks : List Key, DpAll K H (ks.map kV) (ks.map kD)
  | [] => .nil
  | .inl i :: r => .cons (.int i) (dp_keys r)
  | .inr x :: r => .cons (.str x) (dp_keys r)
theorem lay_keys : ∀ ks : List Key, (∀ k ∈ ks, keyFine k) → PyData.canLayAll0 (ks.map kD) = true ∧ PyData.depthAll (ks.map kD) = 0
  | [], _ => ⟨rfl, rfl⟩
  | .inl i :: r, h => by
    obtain ⟨h1, h2⟩ := lay_keys r fun k hk => h k (List.mem_cons_of_mem _ hk)
    exact ⟨by show (true && PyData.canLayAll0 (r.map kD)) = true; rw [h1]; rfl, by show max 0 (PyData.depthAll (r.map kD)) = 0; rw [h2]; rfl⟩
  | .inr x :: r, h => by
    obtain ⟨h1, h2⟩ := lay_keys r fun k hk => h k (List.mem_cons_of_mem _ hk)
    have hx : PyData.strOk x = true := h (.inr x) List.mem_cons_self
    exact ⟨by show (PyData.strOk x && PyData.canLayAll0 (r.map kD)) = true; rw [h1, hx]; rfl, by show max 0 (PyData.depthAll (r.map kD)) = 0; rw [h2]; rfl⟩
theorem shaped_keys {ks : List Key} (h : ∀ k ∈ ks, keyFine k) : SeqAt.shaped (.list (ks.map kD)) = true := by
  obtain ⟨h1, h2⟩ := lay_keys ks h
  show (PyData.canLayAll0 (ks.map kD) && decide (PyData.depthAll (ks.map kD) + 1 ≤ 64)) = true
  rw [h1, h2]
  rfl
theorem eqv_nil (ks : List Key) : PyData.eqv (.list (ks.map kD)) (.list []) = decide (ks = []) := by
  cases ks with
  | nil => rfl
  | cons a r => exact (decide_eq_false (by simp)).symm
theorem num_fine (k : Key) (h : numVar k) : keyFine k := by
  obtain ⟨r, rfl, _⟩ := h
  exact trivial
end Own
namespace Own
open PySem PySem.Spec PyProof.Rows L2 RT HT

theorem kV_inj {a b : Key} (h : kV a = kV b) : a = b := by
  cases a <;> cases b <;> simp [kV] at h <;> simp [h]
theorem flat_keys (ks : List Key) : (ks.map kV).all flatV = true := by
  rw [List.all_map, List.all_eq_true]
  intro k _
  cases k <;> rfl
theorem eqV_key (a b : Key) : eqV (kV a) (kV b) = decide (a = b) := by
  cases a with
  | inl i =>
    cases b with
    | inl j =>
      rw [key_ll]
      rfl
    | inr y => rw [key_lr]; rfl
  | inr x =>
    cases b with
    | inl j => rw [key_rl]; rfl
    | inr y =>
      rw [key_rr]
      show (x == y) = decide (x = y)
      rfl
theorem inV_key (k : Key) (ks : List Key) : inV (kV k) (ks.map kV) = hasK ks k := by
  unfold inV hasK
  rw [List.any_map]
  congr 1
  funext x
  exact eqV_key x k
theorem flat_key (k : Key) : flatV (kV k) = true := by cases k <;> rfl
/-- keys put in one by one -/
def addKs (acc : List Key) (ks : List Key) : List Key := ks.foldl addK acc
theorem hasK_addK (acc : List Key) (k x : Key) : hasK (addK acc k) x = (hasK acc x || decide (k = x)) := by
  unfold addK
  by_cases h : hasK acc k = true
  · rw [if_pos h]
    by_cases e : k = x
    · subst e
      rw [h, Bool.true_or]
    · rw [decide_eq_false e, Bool.or_false]
  · rw [if_neg h]
    unfold hasK
    rw [List.any_append]
    simp
theorem hasK_addKs : ∀ (ks acc : List Key) (x : Key), hasK (addKs acc ks) x = (hasK acc x || hasK ks x)
  | [], acc, x => by show hasK acc x = (hasK acc x || false); rw [Bool.or_false]
  | k :: r, acc, x => by
    show hasK (addKs (addK acc k) r) x = _
    rw [hasK_addKs r, hasK_addK, Bool.or_assoc]
    rfl
theorem addKs_addK (acc b : List Key) (k : Key) : addKs acc (addK b k) = addK (addKs acc b) k := by
  by_cases h : hasK b k = true
  · have e : addK b k = b := by unfold addK; rw [if_pos h]
    have h2 : hasK (addKs acc b) k = true := by rw [hasK_addKs, h, Bool.or_true]
    rw [e]
    unfold addK
    rw [if_pos h2]
  · have e : addK b k = b ++ [k] := by unfold addK; rw [if_neg h]
    rw [e]
    unfold addKs
    rw [List.foldl_append]
    rfl
mutual
theorem addKs_into (acc : List Key) : ∀ (t : Ter) (b : List Key), addKs acc (Ter.into b t) = Ter.into (addKs acc b) t
  | .var k, b => addKs_addK acc b k
  | .ap _ as, b => addKs_intos acc as b
theorem addKs_intos (acc : List Key) : ∀ (ts : List Ter) (b : List Key), addKs acc (Ter.intos b ts) = Ter.intos (addKs acc b) ts
  | [], _ => rfl
  | t :: r, b => by
    show addKs acc (Ter.intos (Ter.into b t) r) = _
    rw [addKs_intos acc r, addKs_into acc t]
    rfl
end
theorem into_met (acc : List Key) (t : Ter) : addKs acc t.vars = Ter.into acc t := addKs_into acc t []
theorem intos_snoc (acc : List Key) (as : List Ter) (t : Ter) : Ter.intos acc (as ++ [t]) = Ter.into (Ter.intos acc as) t := by
  rw [intos_app]
  rfl
mutual
theorem into_len : ∀ (t : Ter) (acc : List Key), (Ter.into acc t).length ≤ acc.length + t.size
  | .var k, acc => addK_len acc k
  | .ap _ as, acc => Nat.le_trans (intos_len as acc) (by show _ ≤ acc.length + (Ter.sizes as + 1); omega)
theorem intos_len : ∀ (ts : List Ter) (acc : List Key), (Ter.intos acc ts).length ≤ acc.length + Ter.sizes ts
  | [], acc => by show acc.length ≤ acc.length + 0; omega
  | t :: r, acc => by
    have h1 := into_len t acc
    have h2 := intos_len r (Ter.into acc t)
    show (Ter.intos (Ter.into acc t) r).length ≤ acc.length + (t.size + Ter.sizes r)
    omega
end
theorem fits_keys {ks : List Key} (n : Nat) (h : ks.length ≤ 1000000) : fitsD (n + 2) (.list (ks.map kD)) := by
  refine ⟨by rw [List.length_map]; exact h, fun d hd => ?_⟩
  obtain ⟨k, _, rfl⟩ := List.mem_map.mp hd
  cases k <;> exact trivial
/-- xs.pop(i) etc. read the list at its place; t[0] of an application -/
theorem head_at {f : V} {xs : List V} : atI (f :: xs) 0 = some f := atI_nat (j := 0) rfl
end Own
namespace Own
open PySem PySem.Spec PyProof.Rows L2 RT HT

/-! ### texts -/
theorem strE {a b : Str} (h : a.cps.toList = b.cps.toList) : a = b := by
  cases a with
  | mk x =>
    cases b with
    | mk y => exact congrArg Str.mk (Array.toList_inj.mp h)
theorem sApp (a b c : Str) : (a ++ b) ++ c = a ++ (b ++ c) := strE (by simp only [app_cps, List.append_assoc])
theorem sEmp (a : Str) : Str.empty ++ a = a := strE (by rw [app_cps]; rfl)
theorem eqS {a b : Str} {A B : Prop} (h : (a == b) = true) (k : A) : if decide (V.str a = V.str b) = true then A else B := by
  rw [dec_str, h]
  exact iteT k
theorem neS {a b : Str} {A B : Prop} (h : (a == b) = false) (k : B) : if decide (V.str a = V.str b) = true then A else B := by
  rw [dec_str, h]
  exact iteF k

/-! ### terms as data -/
mutual
def Ter.dat : Ter → PyData
  | .var k => kD k
  | .ap f as => .tuple (.str f :: Ter.dats as)
def Ter.dats : List Ter → List PyData
  | [] => []
  | a :: r => a.dat :: Ter.dats r
end
mutual
theorem dp_ter {K : PySem.W.Frag} {H : Hp} : ∀ (t : Ter) (v : V), TmAt H v t → Dp K H v t.dat
  | .var k, _, h => by
    cases h with
    | int i => exact .int i
    | str x => exact .str x
  | .ap f as, _, h => by
    cases h with
    | ap e hs => exact .tup (.inl (.inl e)) (.cons (.str f) (dp_ters as _ hs))
theorem dp_ters {K : PySem.W.Frag} {H : Hp} : ∀ (ts : List Ter) (vs : List V), TmAll H vs ts → DpAll K H vs (Ter.dats ts)
  | [], _, h => by cases h; exact .nil
  | t :: r, _, h => by
    cases h with
    | cons a b => exact .cons (dp_ter t _ a) (dp_ters r _ b)
end
def symFine (f : Str) (_ : Nat) : Prop := PyData.strOk f = true
mutual
theorem lay_ter : ∀ t : Ter, t.wf symFine keyFine → PyData.canLay0 t.dat = true ∧ PyData.depth t.dat ≤ t.nest
  | .var (.inl _), _ => ⟨rfl, Nat.zero_le _⟩
  | .var (.inr x), h => ⟨h, Nat.zero_le _⟩
  | .ap f as, h => by
    obtain ⟨h1, h2⟩ := lay_ters as h.2
    refine ⟨?_, ?_⟩
    · show (PyData.strOk f && PyData.canLayAll0 (Ter.dats as)) = true
      rw [show PyData.strOk f = true from h.1, h1]
      rfl
    · show max 0 (PyData.depthAll (Ter.dats as)) + 1 ≤ Ter.nests as + 1
      omega
theorem lay_ters : ∀ ts : List Ter, Ter.wfs symFine keyFine ts → PyData.canLayAll0 (Ter.dats ts) = true ∧ PyData.depthAll (Ter.dats ts) ≤ Ter.nests ts
  | [], _ => ⟨rfl, Nat.le_refl _⟩
  | t :: r, h => by
    obtain ⟨h1, h2⟩ := lay_ter t h.1
    obtain ⟨h3, h4⟩ := lay_ters r h.2
    refine ⟨?_, ?_⟩
    · show (PyData.canLay0 t.dat && PyData.canLayAll0 (Ter.dats r)) = true
      rw [h1, h3]
      rfl
    · show max t.dat.depth (PyData.depthAll (Ter.dats r)) ≤ max t.nest (Ter.nests r)
      omega
end
theorem shaped_ter {t : Ter} (h : t.wf symFine keyFine) (n : t.nest ≤ 64) : SeqAt.shaped t.dat = true := by
  obtain ⟨h1, h2⟩ := lay_ter t h
  unfold SeqAt.shaped
  rw [h1, decide_eq_true (Nat.le_trans h2 n)]
  rfl
mutual
theorem wf_mono {W W' : Str → Nat → Prop} {U U' : Key → Prop} (w : ∀ f n, W f n → W' f n) (u : ∀ k, U k → U' k) : ∀ t : Ter, t.wf W U → t.wf W' U'
  | .var k, h => u k h
  | .ap f as, h => ⟨w f _ h.1, wfs_mono w u as h.2⟩
theorem wfs_mono {W W' : Str → Nat → Prop} {U U' : Key → Prop} (w : ∀ f n, W f n → W' f n) (u : ∀ k, U k → U' k) : ∀ ts : List Ter, Ter.wfs W U ts → Ter.wfs W' U' ts
  | [], _ => trivial
  | t :: r, h => ⟨wf_mono w u t h.1, wfs_mono w u r h.2⟩
end
theorem wordok_str {x : Str} (h : WordOk x) : PyData.strOk x = true := by
  have a := h.all
  unfold PyData.strOk
  rw [← Array.all_toList, List.all_eq_true]
  intro c hc
  have q := List.all_eq_true.mp a c hc
  unfold chOk at q
  simp only [Bool.or_eq_true, Bool.and_eq_true, decide_eq_true_eq] at q
  exact decide_eq_true (by omega)
def trueT : Ter := .ap "true" []
def isTrueT (t : Ter) : Bool := PyData.eqv t.dat trueT.dat

/-! ### the written form of terms -/
/-- what may be written: short words, small numbers -/
def shSym (f : Str) (_ : Nat) : Prop := f.length ≤ 40 ∧ PyData.strOk f = true
def shKey : Key → Prop
  | .inl r => 0 ≤ r ∧ r < 900
  | .inr x => x.length ≤ 40 ∧ PyData.strOk x = true
theorem sh_fine : ∀ t : Ter, t.wf shSym shKey → t.wf symFine keyFine := wf_mono (fun _ _ h => h.2) (fun k h => by
  cases k with
  | inl r => trivial
  | inr x => exact h.2)
mutual
def showT : Ter → Str
  | .var (.inl i) => ("X" : Str) ++ (toString i : String)
  | .var (.inr x) => x
  | .ap f [] => f
  | .ap f (a :: r) => f ++ (("(" : Str) ++ (Txt.join "," (showTs (a :: r)) ++ (")" : Str)))
def showTs : List Ter → List Str
  | [] => []
  | a :: r => showT a :: showTs r
end
theorem showTs_len : ∀ ts : List Ter, (showTs ts).length = ts.length
  | [] => rfl
  | _ :: r => congrArg (· + 1) (showTs_len r)
theorem showTs_app : ∀ as bs : List Ter, showTs (as ++ bs) = showTs as ++ showTs bs
  | [], _ => rfl
  | a :: r, bs => congrArg (showT a :: ·) (showTs_app r bs)
theorem num_len (r : Int) (h0 : 0 ≤ r) (h1 : r < 900) : ((toString r : String) : Str).length ≤ 4 := by
  have a : ∀ r : Fin 900, (((toString ((r.val : Nat) : Int)) : String) : Str).length ≤ 4 := by decide +kernel
  have e : r = ((r.toNat : Nat) : Int) := by omega
  rw [e]
  exact a ⟨r.toNat, by omega⟩
end Own
namespace Own
open PySem PySem.Spec PyProof.Rows L2 RT HT

def tlen (ys : List Str) : Nat := (ys.map (·.length)).sum
theorem tlen_cons (y : Str) (ys : List Str) : tlen (y :: ys) = y.length + tlen ys := by
  unfold tlen
  rw [List.map_cons, List.sum_cons]
theorem join_len (sep : Str) : ∀ ys : List Str, (Txt.join sep ys).length ≤ tlen ys + ys.length * sep.length
  | [] => by rw [TL.join_eq]; exact Nat.zero_le _
  | [x] => by
    rw [TL.join_eq, tlen_cons]
    show x.length ≤ _
    omega
  | x :: y :: r => by
    have ih := join_len sep (y :: r)
    rw [TL.join_eq] at ih ⊢
    show (x ++ sep ++ Str.join sep (y :: r)).length ≤ _
    rw [app_len, app_len, tlen_cons, List.length_cons, Nat.succ_mul]
    omega
theorem len1 : ("X" : Str).length = 1 ∧ ("(" : Str).length = 1 ∧ (")" : Str).length = 1 ∧ ("," : Str).length = 1 := by decide +kernel
mutual
theorem showT_len : ∀ t : Ter, t.wf shSym shKey → (showT t).length + 1 ≤ 60 * t.size
  | .var (.inl i), h => by
    have q := num_len i h.1 h.2
    show (("X" : Str) ++ (toString i : String)).length + 1 ≤ 60
    rw [app_len, len1.1]
    omega
  | .var (.inr x), h => by
    have q : x.length ≤ 40 := h.1
    show x.length + 1 ≤ 60
    omega
  | .ap f [], h => by
    have q : f.length ≤ 40 := h.1.1
    show f.length + 1 ≤ 60
    omega
  | .ap f (a :: r), h => by
    have q : f.length ≤ 40 := h.1.1
    have q2 := showTs_len2 (a :: r) h.2
    have q3 := join_len "," (showTs (a :: r))
    rw [showTs_len, len1.2.2.2] at q3
    show (f ++ (("(" : Str) ++ (Txt.join "," (showTs (a :: r)) ++ (")" : Str)))).length + 1 ≤ 60 * (Ter.sizes (a :: r) + 1)
    rw [app_len, app_len, app_len, len1.2.1, len1.2.2.1]
    omega
theorem showTs_len2 : ∀ ts : List Ter, Ter.wfs shSym shKey ts → tlen (showTs ts) + ts.length ≤ 60 * Ter.sizes ts
  | [], _ => Nat.le_refl _
  | t :: r, h => by
    have q1 := showT_len t h.1
    have q2 := showTs_len2 r h.2
    show tlen (showT t :: showTs r) + (r.length + 1) ≤ 60 * (t.size + Ter.sizes r)
    rw [tlen_cons]
    omega
end
/-! ### literals -/
def showL (b : Bool) (l r : Ter) : Str :=
  if isTrueT r = true then (if b = true then showT l else ("~" : Str) ++ showT l) else showT l ++ ((if b = true then (" = " : Str) else (" != " : Str)) ++ showT r)
def Lit := Bool × Ter × Ter
def Lit.ok (x : Lit) : Prop := x.2.1.wf shSym shKey ∧ x.2.2.wf shSym shKey ∧ x.2.1.nest ≤ 60 ∧ x.2.2.nest ≤ 60 ∧ x.2.1.size ≤ 1000 ∧ x.2.2.size ≤ 1000
inductive LitAt (H : Hp) : V → Lit → Prop
  | mk {p : Addr} {b : Bool} {x y : V} {l r : Ter} : H p = some (.tup [.bl b, x, y]) → TmAt H x l → TmAt H y r → LitAt H (.ref p) (b, l, r)
theorem LitAt.mono {H H' : Hp} (m : Tups H H') {v : V} {x : Lit} (h : LitAt H v x) : LitAt H' v x := by
  cases h with
  | mk e a b => exact .mk (m _ _ e) (TmAt.mono m _ _ a) (TmAt.mono m _ _ b)
inductive LitAll (H : Hp) : List V → List Lit → Prop
  | nil : LitAll H [] []
  | cons {v : V} {vs : List V} {x : Lit} {xs : List Lit} : LitAt H v x → LitAll H vs xs → LitAll H (v :: vs) (x :: xs)
theorem LitAll.mono {H H' : Hp} (m : Tups H H') : ∀ {vs : List V} {xs : List Lit}, LitAll H vs xs → LitAll H' vs xs
  | _, _, .nil => .nil
  | _, _, .cons a r => .cons (a.mono m) (r.mono m)
theorem LitAll.app {H : Hp} : ∀ {vs ws : List V} {xs ys : List Lit}, LitAll H vs xs → LitAll H ws ys → LitAll H (vs ++ ws) (xs ++ ys)
  | _, _, _, _, .nil, h => h
  | _, _, _, _, .cons a r, h => .cons a (r.app h)
theorem LitAll.len {H : Hp} : ∀ {vs : List V} {xs : List Lit}, LitAll H vs xs → vs.length = xs.length
  | _, _, .nil => rfl
  | _, _, .cons _ t => congrArg (· + 1) t.len
theorem LitAll.get {H : Hp} : ∀ {vs : List V} {xs : List Lit} {i : Nat} {v : V}, LitAll H vs xs → vs[i]? = some v → ∃ x, xs[i]? = some x ∧ LitAt H v x
  | _, _, _, _, .nil, e => by simp at e
  | _, _, 0, _, .cons a r, e => by
    simp at e
    subst e
    exact ⟨_, rfl, a⟩
  | _, _, i + 1, v, .cons a r, e => by
    obtain ⟨t, h1, h2⟩ := LitAll.get (i := i) (v := v) r (by simpa using e)
    exact ⟨t, by simpa using h1, h2⟩
def showC (c : List Lit) : List Str := c.map fun x => showL x.1 x.2.1 x.2.2
theorem showL_len {b : Bool} {l r : Ter} (h1 : l.wf shSym shKey) (h2 : r.wf shSym shKey) (s1 : l.size ≤ 1000) (s2 : r.size ≤ 1000) : (showL b l r).length ≤ 200000 := by
  have q1 := showT_len l h1
  have q2 := showT_len r h2
  have z1 : ("~" : Str).length = 1 := by decide +kernel
  have z2 : (" = " : Str).length = 3 := by decide +kernel
  have z3 : (" != " : Str).length = 4 := by decide +kernel
  unfold showL
  split
  · split
    · omega
    · rw [app_len, z1]; omega
  · rw [app_len, app_len]
    split
    · rw [z2]; omega
    · rw [z3]; omega
/-! ### formulas -/
inductive Op | and | or | imp | iff
def Op.word : Op → Str
  | .and => "and"
  | .or => "or"
  | .imp => "implies"
  | .iff => "iff"
def Op.sign : Op → Str
  | .and => "&"
  | .or => "|"
  | .imp => "->"
  | .iff => "<->"
def qWord (a : Bool) : Str := if a = true then "all" else "some"
inductive Fm where
  | tt (b : Bool)
  | eq (l r : Ter)
  | neg (f : Fm)
  | bin (o : Op) (f g : Fm)
  | qu (a : Bool) (x : Str) (f : Fm)
def Fm.ter : Fm → Ter
  | .tt b => .ap (if b = true then "true" else "false") []
  | .eq l r => .ap "equal" [l, r]
  | .neg f => .ap "not" [f.ter]
  | .bin o f g => .ap o.word [f.ter, g.ter]
  | .qu a x f => .ap (qWord a) [.var (.inr x), f.ter]
def Fm.high : Fm → Nat
  | .tt _ => 1
  | .eq _ _ => 1
  | .neg f => f.high + 1
  | .bin _ f g => max f.high g.high + 1
  | .qu _ _ f => f.high + 1
def Fm.all (R : Ter → Prop) (S : Str → Prop) : Fm → Prop
  | .tt _ => True
  | .eq l r => R l ∧ R r
  | .neg f => f.all R S
  | .bin _ f g => f.all R S ∧ g.all R S
  | .qu _ x f => S x ∧ f.all R S
def showF : Fm → Str
  | .tt b => if b = true then "true" else "false"
  | .eq l r => showL true l r
  | .neg (.eq l r) => showL false l r
  | .neg f => ("~" : Str) ++ showF f
  | .bin o f g => ("(" : Str) ++ (showF f ++ ((" " : Str) ++ (o.sign ++ ((" " : Str) ++ (showF g ++ (")" : Str))))))
  | .qu a x f => ("(" : Str) ++ (qWord a ++ ((" " : Str) ++ (x ++ ((": " : Str) ++ (showF f ++ (")" : Str))))))
end Own
namespace Own
open PySem PySem.Spec PyProof.Rows L2 RT HT

def fmTer (t : Ter) : Prop := t.wf shSym shKey ∧ t.nest ≤ 60 ∧ t.size ≤ 200
def fmStr (x : Str) : Prop := x.length ≤ 40
theorem showL_len2 {b : Bool} {l r : Ter} (h1 : l.wf shSym shKey) (h2 : r.wf shSym shKey) (s1 : l.size ≤ 200) (s2 : r.size ≤ 200) : (showL b l r).length ≤ 25000 := by
  have q1 := showT_len l h1
  have q2 := showT_len r h2
  have z1 : ("~" : Str).length = 1 := by decide +kernel
  have z2 : (" = " : Str).length = 3 := by decide +kernel
  have z3 : (" != " : Str).length = 4 := by decide +kernel
  unfold showL
  split
  · split
    · omega
    · rw [app_len, z1]; omega
  · rw [app_len, app_len]
    split
    · rw [z2]; omega
    · rw [z3]; omega
theorem lens : ("(" : Str).length = 1 ∧ (")" : Str).length = 1 ∧ (" " : Str).length = 1 ∧ (": " : Str).length = 2 ∧ ("~" : Str).length = 1 := by decide +kernel
theorem sign_len (o : Op) : o.sign.length ≤ 3 := by cases o <;> decide +kernel
theorem q_len (a : Bool) : (qWord a).length ≤ 4 := by cases a <;> decide +kernel
theorem two_max (a b : Nat) : 2 ^ a ≤ 2 ^ max a b ∧ 2 ^ b ≤ 2 ^ max a b := ⟨Nat.pow_le_pow_right (by decide) (Nat.le_max_left _ _), Nat.pow_le_pow_right (by decide) (Nat.le_max_right _ _)⟩
theorem showF_len : ∀ f : Fm, f.all fmTer fmStr → (showF f).length + 60 ≤ 25100 * 2 ^ f.high
  | .tt b, _ => by
    show (if b = true then ("true" : Str) else "false").length + 60 ≤ 25100 * 2 ^ 1
    have z1 : ("true" : Str).length = 4 := by decide +kernel
    have z2 : ("false" : Str).length = 5 := by decide +kernel
    split <;> omega
  | .eq l r, h => by
    have q := showL_len2 (b := true) h.1.1 h.2.1 h.1.2.2 h.2.2.2
    show (showL true l r).length + 60 ≤ 25100 * 2 ^ 1
    omega
  | .neg (.eq l r), h => by
    have q := showL_len2 (b := false) h.1.1 h.2.1 h.1.2.2 h.2.2.2
    show (showL false l r).length + 60 ≤ 25100 * 2 ^ 2
    omega
  | .neg (.tt b), h => neg_len (.tt b) (showF_len (.tt b) h)
  | .neg (.neg f), h => neg_len (.neg f) (showF_len (.neg f) h)
  | .neg (.bin o f g), h => neg_len (.bin o f g) (showF_len (.bin o f g) h)
  | .neg (.qu a x f), h => neg_len (.qu a x f) (showF_len (.qu a x f) h)
  | .bin o f g, h => by
    have q1 := showF_len f h.1
    have q2 := showF_len g h.2
    obtain ⟨z1, z2, z3, z4, z5⟩ := lens
    have z6 := sign_len o
    obtain ⟨m1, m2⟩ := two_max f.high g.high
    show (("(" : Str) ++ (showF f ++ ((" " : Str) ++ (o.sign ++ ((" " : Str) ++ (showF g ++ (")" : Str))))))).length + 60 ≤ 25100 * 2 ^ (max f.high g.high + 1)
    rw [app_len, app_len, app_len, app_len, app_len, app_len, Nat.pow_succ]
    omega
  | .qu a x f, h => by
    have q1 := showF_len f h.2
    have q2 : x.length ≤ 40 := h.1
    obtain ⟨z1, z2, z3, z4, z5⟩ := lens
    have z6 := q_len a
    have p : 1 ≤ 2 ^ f.high := Nat.one_le_two_pow
    show (("(" : Str) ++ (qWord a ++ ((" " : Str) ++ (x ++ ((": " : Str) ++ (showF f ++ (")" : Str))))))).length + 60 ≤ 25100 * 2 ^ (f.high + 1)
    rw [app_len, app_len, app_len, app_len, app_len, app_len, Nat.pow_succ]
    omega
where
  neg_len (f : Fm) (h : (showF f).length + 60 ≤ 25100 * 2 ^ f.high) : (("~" : Str) ++ showF f).length + 60 ≤ 25100 * 2 ^ (f.high + 1) := by
    obtain ⟨z1, z2, z3, z4, z5⟩ := lens
    have p : 1 ≤ 2 ^ f.high := Nat.one_le_two_pow
    rw [app_len, Nat.pow_succ]
    omega
def Fm.isEq : Fm → Bool
  | .eq _ _ => true
  | _ => false
theorem showF_neg {f : Fm} (h : f.isEq = false) : showF (.neg f) = ("~" : Str) ++ showF f := by
  cases f with
  | eq l r => cases h
  | _ => rfl
theorem zB {n : Nat} (h : n ≤ 16000000) : n ≤ sizeLine := Nat.le_trans h (by decide)
def Fm.head : Fm → Str
  | .tt b => if b = true then "true" else "false"
  | .eq _ _ => "equal"
  | .neg _ => "not"
  | .bin o _ _ => o.word
  | .qu a _ _ => qWord a
def Fm.tail : Fm → List Ter
  | .tt _ => []
  | .eq l r => [l, r]
  | .neg f => [f.ter]
  | .bin _ f g => [f.ter, g.ter]
  | .qu _ x f => [.var (.inr x), f.ter]
theorem fm_ter (f : Fm) : f.ter = .ap f.head f.tail := by cases f <;> rfl
theorem fm_at {H : Hp} {v : V} {f : Fm} (h : TmAt H v f.ter) : ∃ a xs, v = .ref a ∧ H a = some (.tup (.str f.head :: xs)) ∧ TmAll H xs f.tail := by
  rw [fm_ter] at h
  cases h with
  | ap e hs => exact ⟨_, _, rfl, e, hs⟩
theorem headN {f : Fm} {s : Str} {b : Bool} (w : Str) (h : f.head = w) (d : (w == s) = b) : (f.head == s) = b := by
  rw [h]
  exact d
theorem head_eq (f : Fm) : (f.head == ("equal" : Str)) = f.isEq := by
  cases f with
  | tt b => cases b <;> decide +kernel
  | eq l r => exact headN (b := true) "equal" rfl (by decide +kernel)
  | neg f => exact headN (b := false) "not" rfl (by decide +kernel)
  | bin o f g => exact headN (b := false) o.word rfl (by cases o <;> decide +kernel)
  | qu a x f => exact headN (b := false) (qWord a) rfl (by cases a <;> decide +kernel)
theorem all_two {H : Hp} {xs : List V} {a b : Ter} (h : TmAll H xs [a, b]) : ∃ x y, xs = [x, y] ∧ TmAt H x a ∧ TmAt H y b := by
  cases h with
  | cons h1 h2 =>
    cases h2 with
    | cons h3 h4 =>
      cases h4
      exact ⟨_, _, rfl, h1, h3⟩
theorem all_one {H : Hp} {xs : List V} {a : Ter} (h : TmAll H xs [a]) : ∃ x, xs = [x] ∧ TmAt H x a := by
  cases h with
  | cons h1 h2 =>
    cases h2
    exact ⟨_, rfl, h1⟩
theorem all_nil {H : Hp} {xs : List V} (h : TmAll H xs []) : xs = [] := by cases h; rfl
theorem at_1 {x y : V} {zs : List V} : atI (x :: y :: zs) 1 = some y := atI_nat (j := 1) rfl
theorem at_2 {x y z : V} {zs : List V} : atI (x :: y :: z :: zs) 2 = some z := atI_nat (j := 2) rfl
end Own
namespace Own
open PySem PySem.Spec PyProof.Rows L2 RT HT

abbrev NAMES5 : List Str := ["X", "Y", "Zeta", "X1", "W_0"]
def nameVar (k : Key) : Prop := ∃ x, k = .inr x ∧ x ∈ NAMES5
theorem name_sh (k : Key) (h : nameVar k) : shKey k := by
  obtain ⟨x, rfl, hx⟩ := h
  have a : ∀ x ∈ NAMES5, x.length ≤ 40 ∧ PyData.strOk x = true := by decide +kernel
  exact a x hx
theorem num_sh (k : Key) (h : numVar k) : shKey k := by
  obtain ⟨r, rfl, h0, h1⟩ := h
  exact ⟨h0, h1⟩
theorem sym_sh {ws : List Str} (hw : Words ws) (f : Str) (n : Nat) (h : symOf ws f n) : shSym f n := by
  obtain ⟨i, _, e, _⟩ := h
  have o := hw.ok f (List.mem_of_getElem? e)
  exact ⟨o.len, wordok_str o⟩
theorem word_sh {ws : List Str} (hw : Words ws) {f : Str} {n : Nat} (h : f ∈ ws) : shSym f n := ⟨(hw.ok f h).len, wordok_str (hw.ok f h)⟩
theorem true_sh : trueT.wf shSym shKey := ⟨⟨by decide +kernel, by decide +kernel⟩, trivial⟩
/-- the law's own joining of a literal -/
theorem joinC (c : List Lit) : showC c = c.map fun x => showL x.1 x.2.1 x.2.2 := rfl
theorem showC_snoc (c : List Lit) (x : Lit) : showC (c ++ [x]) = showC c ++ [showL x.1 x.2.1 x.2.2] := by
  unfold showC
  rw [List.map_append]
  rfl
end Own
namespace Own
open PySem PySem.Spec PyProof.Rows L2 HT
/-! ### terms with the places where they stand, and what a match binds -/
inductive DTer where
  | var (k : Key)
  | ap (p : Addr) (f : Str) (as : List DTer)
def DTer.val : DTer → V
  | .var k => kV k
  | .ap p _ _ => .ref p
mutual
def DTer.ter : DTer → Ter
  | .var k => .var k
  | .ap _ f as => .ap f (DTer.ters as)
def DTer.ters : List DTer → List Ter
  | [] => []
  | a :: r => a.ter :: DTer.ters r
end
mutual
def DAt (H : Hp) : DTer → Prop
  | .var _ => True
  | .ap p f as => H p = some (.tup (.str f :: as.map DTer.val)) ∧ DAts H as
def DAts (H : Hp) : List DTer → Prop
  | [] => True
  | a :: r => DAt H a ∧ DAts H r
end
mutual
theorem DAt.mono {H H' : Hp} (m : Tups H H') : ∀ d : DTer, DAt H d → DAt H' d
  | .var _, _ => trivial
  | .ap p f as, h => ⟨m _ _ h.1, DAts.mono m as h.2⟩
theorem DAts.mono {H H' : Hp} (m : Tups H H') : ∀ ds : List DTer, DAts H ds → DAts H' ds
  | [], _ => trivial
  | a :: r, h => ⟨DAt.mono m a h.1, DAts.mono m r h.2⟩
end
mutual
theorem DAt.tm {H : Hp} : ∀ d : DTer, DAt H d → TmAt H d.val d.ter
  | .var (.inl i), _ => .int i
  | .var (.inr x), _ => .str x
  | .ap p f as, h => .ap h.1 (DAts.tm as h.2)
theorem DAts.tm {H : Hp} : ∀ ds : List DTer, DAts H ds → TmAll H (ds.map DTer.val) (DTer.ters ds)
  | [], _ => .nil
  | a :: r, h => .cons (DAt.tm a h.1) (DAts.tm r h.2)
end
mutual
theorem TmAt.deco {H : Hp} : ∀ (t : Ter) (v : V), TmAt H v t → ∃ d : DTer, d.val = v ∧ d.ter = t ∧ DAt H d
  | .var k, v, h => by
    cases h with
    | int i => exact ⟨.var (.inl i), rfl, rfl, trivial⟩
    | str x => exact ⟨.var (.inr x), rfl, rfl, trivial⟩
  | .ap f as, v, h => by
    cases h with
    | @ap p _ xs _ e hs =>
      obtain ⟨ds, e1, e2, h2⟩ := TmAll.deco as xs hs
      subst e1
      subst e2
      exact ⟨.ap p f ds, rfl, rfl, e, h2⟩
theorem TmAll.deco {H : Hp} : ∀ (ts : List Ter) (vs : List V), TmAll H vs ts → ∃ ds : List DTer, ds.map DTer.val = vs ∧ DTer.ters ds = ts ∧ DAts H ds
  | [], vs, h => by
    cases h
    exact ⟨[], rfl, rfl, trivial⟩
  | t :: ts, vs, h => by
    cases h with
    | cons a r =>
      obtain ⟨d, e1, e2, h1⟩ := TmAt.deco t _ a
      obtain ⟨ds, e3, e4, h2⟩ := TmAll.deco ts _ r
      subst e1
      subst e2
      subst e3
      subst e4
      exact ⟨d :: ds, rfl, rfl, h1, h2⟩
end
theorem ters_len : ∀ ds : List DTer, (DTer.ters ds).length = ds.length
  | [] => rfl
  | _ :: r => congrArg (· + 1) (ters_len r)
theorem ters_get : ∀ (ds : List DTer) (i : Nat), (DTer.ters ds)[i]? = (ds[i]?).map DTer.ter
  | [], i => by simp [DTer.ters]
  | a :: r, 0 => by simp [DTer.ters]
  | a :: r, i + 1 => by simp [DTer.ters, ters_get r i]
theorem DAts.get {H : Hp} : ∀ {ds : List DTer} {i : Nat} {d : DTer}, DAts H ds → ds[i]? = some d → DAt H d
  | [], _, _, _, e => by simp at e
  | a :: r, 0, d, h, e => by simp at e; exact e ▸ h.1
  | a :: r, i + 1, d, h, e => DAts.get (ds := r) (i := i) h.2 (by simpa using e)
abbrev Bd := List (Key × DTer)
def bKvs (B : Bd) : List (Key × V) := B.map fun e => (e.1, e.2.val)
def look (B : Bd) (k : Key) : Option DTer := (B.find? fun e => decide (e.1 = k)).map (·.2)
theorem look_val : ∀ (B : Bd) (k : Key), valV (bKvs B) k = (look B k).map DTer.val
  | [], k => rfl
  | e :: r, k => by
    by_cases h : e.1 = k
    · rw [show bKvs (e :: r) = (e.1, e.2.val) :: bKvs r from rfl, valV_pos (p := (e.1, e.2.val)) h]
      unfold look
      rw [List.find?_cons, decide_eq_true h]
      rfl
    · rw [show bKvs (e :: r) = (e.1, e.2.val) :: bKvs r from rfl, valV_neg (p := (e.1, e.2.val)) h, look_val r k]
      unfold look
      rw [List.find?_cons, decide_eq_false h]
theorem look_mem {B : Bd} {k : Key} {u : DTer} (h : look B k = some u) : (k, u) ∈ B := by
  unfold look at h
  cases e : B.find? fun e => decide (e.1 = k) with
  | none => rw [e] at h; cases h
  | some p =>
    rw [e] at h
    have h1 := List.find?_some e
    have h2 := List.mem_of_find?_eq_some e
    have h3 : p.1 = k := of_decide_eq_true h1
    have h4 : p.2 = u := Option.some.inj h
    rw [← h3, ← h4]
    exact h2
mutual
def mtch : Ter → DTer → Bd → Bool × Bd
  | .var k, u, B => match look B k with
    | some s => (PyData.eqv s.ter.dat u.ter.dat, B)
    | none => (true, B ++ [(k, u)])
  | .ap g as, u, B => match u with
    | .var _ => (false, B)
    | .ap _ h bs => if g = h ∧ as.length = bs.length then mtchs as bs B else (false, B)
def mtchs : List Ter → List DTer → Bd → Bool × Bd
  | [], _, B => (true, B)
  | a :: as, us, B => match us with
    | [] => (true, B)
    | b :: bs => if (mtch a b B).1 = true then mtchs as bs (mtch a b B).2 else (false, (mtch a b B).2)
end
theorem val_of_mem : ∀ {kvs : List (Key × V)} {e : Key × V}, (kvs.map (·.1)).Nodup → e ∈ kvs → valV kvs e.1 = some e.2
  | [], _, _, h => by cases h
  | p :: r, e, hn, h => by
    have hn : p.1 ∉ r.map (·.1) ∧ (r.map (·.1)).Nodup := List.nodup_cons.mp hn
    rcases List.mem_cons.mp h with rfl | h
    · exact valV_pos rfl
    · have n : ¬ p.1 = e.1 := fun z => hn.1 (z ▸ List.mem_map_of_mem h)
      rw [valV_neg n]
      exact val_of_mem hn.2 h
/-- small symbols of at most two arguments -/
def s7 (f : Str) (n : Nat) : Prop := shSym f n ∧ n ≤ 2
theorem s7_sh : ∀ t : Ter, t.wf s7 numVar → t.wf shSym shKey := wf_mono (fun _ _ h => h.1) (fun k h => by
  obtain ⟨r, rfl, h1, h2⟩ := h
  exact ⟨h1, h2⟩)
structure Gd (H : Hp) (u : DTer) (N : Nat) : Prop where
  at_ : DAt H u
  wf : u.ter.wf s7 numVar
  ne : u.ter.nest ≤ N
theorem Gd.mono {H H' : Hp} {u : DTer} {N : Nat} (g : Gd H u N) (m : Tups H H') : Gd H' u N := ⟨DAt.mono m _ g.at_, g.wf, g.ne⟩
structure BOk (H : Hp) (B : Bd) (N : Nat) : Prop where
  nd : (B.map (·.1)).Nodup
  al : ∀ e ∈ B, (∃ i, e.1 = .inl i ∧ 0 ≤ i) ∧ Gd H e.2 N
theorem BOk.mono {H H' : Hp} {B : Bd} {N : Nat} (g : BOk H B N) (m : Tups H H') : BOk H' B N := ⟨g.nd, fun e h => ⟨(g.al e h).1, (g.al e h).2.mono m⟩⟩
theorem look_none {B : Bd} {k : Key} (h : look B k = none) : k ∉ B.map (·.1) := by
  intro z
  obtain ⟨e, he, h2⟩ := List.mem_map.mp z
  unfold look at h
  cases q : B.find? fun e => decide (e.1 = k) with
  | none =>
    have := List.find?_eq_none.mp q e he
    exact this (decide_eq_true h2)
  | some p => rw [q] at h; cases h
theorem BOk.snoc {H : Hp} {B : Bd} {N : Nat} (g : BOk H B N) {i : Int} (hi : 0 ≤ i) {u : DTer} (hu : Gd H u N) (h : look B (.inl i) = none) : BOk H (B ++ [(.inl i, u)]) N := by
  refine ⟨?_, fun e he => ?_⟩
  · rw [List.map_append]
    exact nd_snoc g.nd (look_none h)
  · rcases List.mem_append.mp he with he | he
    · exact g.al e he
    · rcases List.mem_cons.mp he with rfl | he
      · exact ⟨⟨i, rfl, hi⟩, hu⟩
      · cases he
mutual
theorem mtch_ok {H : Hp} {N : Nat} : ∀ (p : Ter) (u : DTer) (B : Bd), p.wf s7 numVar → Gd H u N → BOk H B N → BOk H (mtch p u B).2 N ∧ (mtch p u B).2.length ≤ B.length + p.size
  | .var k, u, B, hp, hu, hB => by
    obtain ⟨r, rfl, h1, h2⟩ := hp
    unfold mtch
    cases e : look B (.inl r) with
    | some s => exact ⟨hB, Nat.le_add_right _ _⟩
    | none => exact ⟨hB.snoc h1 hu e, by rw [List.length_append]; exact Nat.le_refl _⟩
  | .ap g as, u, B, hp, hu, hB => by
    unfold mtch
    cases u with
    | var k => exact ⟨hB, Nat.le_add_right _ _⟩
    | ap q h bs =>
      show BOk H (if g = h ∧ as.length = bs.length then mtchs as bs B else (false, B)).2 N ∧ (if g = h ∧ as.length = bs.length then mtchs as bs B else (false, B)).2.length ≤ _
      by_cases c : g = h ∧ as.length = bs.length
      · rw [if_pos c]
        have hn : Ter.nests (DTer.ters bs) + 1 ≤ N := hu.ne
        obtain ⟨a, b⟩ := mtchs_ok as bs B hp.2 hu.at_.2 hu.wf.2 (by omega) hB
        exact ⟨a, Nat.le_trans b (Nat.add_le_add_left (Nat.le_succ _) _)⟩
      · rw [if_neg c]
        exact ⟨hB, Nat.le_add_right _ _⟩
theorem mtchs_ok {H : Hp} {N : Nat} : ∀ (ps : List Ter) (us : List DTer) (B : Bd), Ter.wfs s7 numVar ps → DAts H us → Ter.wfs s7 numVar (DTer.ters us) → Ter.nests (DTer.ters us) ≤ N → BOk H B N → BOk H (mtchs ps us B).2 N ∧ (mtchs ps us B).2.length ≤ B.length + Ter.sizes ps
  | [], _, B, _, _, _, _, hB => ⟨hB, Nat.le_add_right _ _⟩
  | a :: as, [], B, _, _, _, _, hB => ⟨hB, Nat.le_add_right _ _⟩
  | a :: as, b :: bs, B, hp, hu, hw, hn, hB => by
    have hn : max b.ter.nest (Ter.nests (DTer.ters bs)) ≤ N := hn
    have z : Ter.sizes (a :: as) = a.size + Ter.sizes as := rfl
    obtain ⟨x, y⟩ := mtch_ok a b B hp.1 ⟨hu.1, hw.1, by omega⟩ hB
    show BOk H (if (mtch a b B).1 = true then mtchs as bs (mtch a b B).2 else (false, (mtch a b B).2)).2 N ∧ (if (mtch a b B).1 = true then mtchs as bs (mtch a b B).2 else (false, (mtch a b B).2)).2.length ≤ _
    by_cases c : (mtch a b B).1 = true
    · rw [if_pos c]
      obtain ⟨x2, y2⟩ := mtchs_ok as bs _ hp.2 hu.2 hw.2 (by omega) x
      exact ⟨x2, by omega⟩
    · rw [if_neg c]
      exact ⟨x, by show (mtch a b B).2.length ≤ _; omega⟩
end
mutual
theorem ter_refl : ∀ t : Ter, PyData.eqv t.dat t.dat = true
  | .var (.inl i) => by show PyData.eqv (.int i) (.int i) = true; simp [PyData.eqv]
  | .var (.inr x) => by show PyData.eqv (.str x) (.str x) = true; simp [PyData.eqv]
  | .ap f as => by
    show PyData.eqv (.tuple (.str f :: Ter.dats as)) (.tuple (.str f :: Ter.dats as)) = true
    rw [PyData.eqv, PyData.eqvAll, ters_refl as]
    simp [PyData.eqv]
theorem ters_refl : ∀ ts : List Ter, PyData.eqvAll (Ter.dats ts) (Ter.dats ts) = true
  | [] => rfl
  | t :: r => by
    show PyData.eqvAll (t.dat :: Ter.dats r) (t.dat :: Ter.dats r) = true
    rw [PyData.eqvAll, ter_refl t, ters_refl r]
    rfl
end
theorem Gd.fine {H : Hp} {u : DTer} (g : Gd H u 40) : SeqAt.shaped u.ter.dat = true := shaped_ter (sh_fine _ (s7_sh _ g.wf)) (by have := g.ne; omega)
theorem But.tupsK {d : Addr} {H H' : Hp} {kvs : List (Key × V)} (a : But d H H') (h : H d = some (.dK kvs)) : Tups H H' := fun b xs e => a b _ (ne_of e h (by intro z; cases z)) e
end Own
namespace Own
open PySem PySem.Spec PyProof.Rows L2 HT
/-! ### < of data; sorted over a dict with tuple keys -/
section
variable {X : Cx}
def rLtD (K : PySem.W.Frag) : R2 := fun x y H Q => ∃ d e, Dp K H x d ∧ Dp K H y e ∧ PySem.W.alike d e = true ∧ d ≠ .none ∧ d.depth ≤ 64 ∧ Q (.bl (PySem.W.dataLt d e)) H
theorem op_ltD (hu : X.A.units + 64 < cLine) : OpR X (compareOp .Lt) (rLtD X.K) := by
  intro pins s σ H x y v u Q I rx ry h
  obtain ⟨d, e, hd, he, ha, hn, h64, q⟩ := h
  obtain ⟨as, r1⟩ := Dp.reads I d x v hd rx
  obtain ⟨bs, r2⟩ := Dp.reads I e y u he ry
  exact PySem.W.lt_data r1 r2 ha hn (by omega) ⟨.bl _, H, I, rfl, q⟩
/-- a key tuple as data -/
def keyD (k : List Key) : PyData := .tuple (k.map kD)
def keysLe : Addr × List Key → Addr × List Key → Bool := PySem.W.dataLe false fun z => keyD z.2
def rSortedDT (K : PySem.W.Frag) : List V → Hp → VK → Prop := fun vs H Q => ∃ (a : Addr) (kvs : List (List Key × V)), vs = [V.ref a] ∧ H a = some (.dT kvs) ∧ kvs.length ≤ 100000 ∧
  PySem.W.AllAlike (kvs.map fun p => keyD p.1) ∧ (∀ p ∈ kvs, ∃ x r, p.1 = x :: r) ∧ (∀ p ∈ kvs, (keyD p.1).depth ≤ 60) ∧
  ∀ (ps : List (Addr × List Key)) (p : Addr), ps.map (·.2) = kvs.map (·.1) → (∀ z ∈ ps, H z.1 = some (.tup (z.2.map kV))) → H p = none → Q (.ref p) (upd H p (.lst ((ps.mergeSort keysLe).map fun z => V.ref z.1)))
theorem dp_key {K : PySem.W.Frag} {H : Hp} : ∀ k : List Key, DpAll K H (k.map kV) (k.map kD)
  | [] => .nil
  | .inl i :: r => .cons (.int i) (dp_key r)
  | .inr x :: r => .cons (.str x) (dp_key r)
theorem cr_sortedDT (hc : X.calm = true) (hu : X.A.units + 64 < cLine) : CallR X (.builtin "sorted") (rSortedDT X.K) := by
  intro pins s σ H xs us Q I r h
  obtain ⟨a, kvs, rfl, hd, hlen, hal, hne, hdep, q⟩ := h
  obtain ⟨u, rfl, rx⟩ := r.one
  cases rx
  obtain ⟨z, hs, ks, pr, o, es, ep, ho, hx, hdt, he, hn⟩ := (show ObjOk X.prog X.w H s.heap a (.dT kvs) from I.hok _ _ hd)
  have l1 : es.size = ks.length := size_of_entries he
  have l2 : kvs.length = ks.length := Paired.length pr
  refine Calls.call_function_entry PyProof.Rows.kind_sorted PyProof.Rows.plain_sorted PyProof.Rows.entry_sorted (PyProof.Rows.args_sorted1 _) ?_
  unfold Builtin.«sorted»
  refine wpAny_bind (m := checkCount "sorted" 1 1 _) (wpAny_pure ?_)
  refine wpAny_bind (PySem.W.kdu_collect (A := X.A.in1) (kdl_raw hs hx hdt) (I.ok.hd hc) ho (by rw [l1, ← l2]; exact Nat.le_trans hlen (by decide)) fun h' tk acc' kp it => ?_)
  have ea : acc'.toList = (ks.map fun x => x.2.1).map Value.ref := by
    rw [List.map_map]
    have hl : acc'.toList.length = ks.length := by rw [Array.length_toList, it.1]; exact l1
    apply List.ext_getElem?
    intro j
    rw [List.getElem?_map]
    cases hj : acc'.toList[j]? with
    | none =>
      have h1 := List.getElem?_eq_none_iff.mp hj
      rw [List.getElem?_eq_none (by omega)]
      all_goals rfl
    | some v =>
      obtain ⟨en, hen, hv⟩ := it.2 j v (by rw [← Array.getElem?_toList]; exact hj)
      have qe := entry_at he j
      rw [hen] at qe
      cases hb : ks[j]? with
      | none =>
        rw [hb] at qe
        exact nomatch (show some en = none from qe)
      | some b =>
        rw [hb] at qe
        have e2 : en = entryOfKey (tupleKind (mixKind X.prog X.w)) b := Option.some.inj qe
        rw [hv, e2]
        all_goals rfl
  -- the keys with their places
  generalize hps : (ks.map fun x => (x.2.1, x.1)) = ps
  have e1 : ps.map (·.2) = kvs.map (·.1) := by
    rw [← hps, List.map_map]
    clear hps q ea it he hdt l1 l2 hal hne hdep hlen hd z hn
    induction pr with
    | nil => rfl
    | cons h t ih => rw [List.map_cons, List.map_cons, ih]; exact congrArg (· :: _) h.1.symm
  have e2 : ∀ z ∈ ps, H z.1 = some (.tup (z.2.map kV)) := by
    rw [← hps]
    clear hps q ea it he hdt l1 l2 hal hne hdep hlen hd e1 z hn
    induction pr with
    | nil => intro z hz; cases hz
    | cons h t ih =>
      intro z hz
      rcases List.mem_cons.mp hz with rfl | hz
      · show H _ = some (.tup (_))
        rw [h.2.1, h.1]
      · exact ih z hz
  have e3 : (ks.map fun x => x.2.1) = ps.map (·.1) := by rw [← hps, List.map_map]; rfl
  have lps : ps.length = kvs.length := by rw [← hps, List.length_map, l2]
  have hvs : acc'.toList = ps.map fun z => Value.ref z.1 := by rw [ea, e3, List.map_map]; rfl
  have hsz : acc'.toList.length ≤ sizeLine := by rw [hvs, List.length_map, lps]; exact Nat.le_trans hlen (by decide)
  have er : ∀ (h'' : Heap), (∀ b ob, s.heap.get? b = some ob → h''.get? b = some ob) → PySem.W.EachIs (fun v b => ∃ as, Reads h'' v (keyD b.2) as) acc'.toList ps := fun h'' k => by
    rw [hvs]
    have : ∀ qs : List (Addr × List Key), (∀ z ∈ qs, H z.1 = some (.tup (z.2.map kV))) → PySem.W.EachIs (fun v b => ∃ as, Reads h'' v (keyD b.2) as) (qs.map fun z => Value.ref z.1) qs := fun qs => by
      induction qs with
      | nil => exact fun _ => .nil
      | cons z r ih =>
        intro hq
        obtain ⟨as, rd⟩ := Dp.reads I (keyD z.2) (.ref z.1) (.ref z.1) (.tup (.inl (.inl (hq z List.mem_cons_self))) (dp_key _)) rfl
        exact .cons ⟨as, PyProof.Rows.Reads.keeps k rd⟩ (ih fun y hy => hq y (List.mem_cons_of_mem _ hy))
    exact this ps e2
  have I1 : Inv X pins σ H { s with heap := h', toks := tk } := I.kept kp
  refine wpAny_bind (wpAny_newList ?_ hsz)
  have hoL : (h'.push (seqObj "list" acc'.toList.toArray 0)).get? h'.objs.size = some (seqObj "list" acc'.toList.toArray 0) := Heap.get?_push_size _ rfl
  show wpAny _ _ _ _ _ { s with heap := h'.push (seqObj "list" acc'.toList.toArray 0), toks := tk }
  have hk2 : ∀ b ob, s.heap.get? b = some ob → (PySem.W.sortingHeap (h'.push (seqObj "list" acc'.toList.toArray 0)) h'.objs.size acc'.toList).get? b = some ob := fun b ob e => by
    have e4 := kp b ob e
    exact PySem.W.sortingHeap_old (Nat.ne_of_lt (Heap.lt_size e4)) (Heap.get?_push_of_some _ e4)
  have er2 := er _ hk2
  have hmm : ∀ z ∈ ps, ∃ p ∈ kvs, p.1 = z.2 := fun z hz => by
    have : z.2 ∈ kvs.map (·.1) := by rw [← e1]; exact List.mem_map_of_mem hz
    obtain ⟨p, hp, e⟩ := List.mem_map.mp this
    exact ⟨p, hp, e⟩
  have hal2 : PySem.W.AllAlike (ps.map fun z => keyD z.2) := fun d hd d' hd' => by
    obtain ⟨z, hz, rfl⟩ := List.mem_map.mp hd
    obtain ⟨z', hz', rfl⟩ := List.mem_map.mp hd'
    obtain ⟨p, hp, e⟩ := hmm z hz
    obtain ⟨p', hp', e'⟩ := hmm z' hz'
    rw [← e, ← e']
    exact hal _ (List.mem_map_of_mem (f := fun p : List Key × V => keyD p.1) hp) _ (List.mem_map_of_mem (f := fun p : List Key × V => keyD p.1) hp')
  have hso : PySem.W.Sortable (ps.map fun z => keyD z.2) := .inl fun d hd => by
    obtain ⟨z, hz, rfl⟩ := List.mem_map.mp hd
    obtain ⟨p, hp, e⟩ := hmm z hz
    obtain ⟨x, r, e5⟩ := hne p hp
    refine ⟨kD x, r.map kD, ?_⟩
    show PyData.tuple (z.2.map kD) = _
    rw [← e, e5]
    rfl
  have S := PySem.W.SortsAt.data (prog := X.prog) (w := X.w) (A := X.A.in1.in1) (s := { s with heap := PySem.W.sortingHeap (h'.push (seqObj "list" acc'.toList.toArray 0)) h'.objs.size acc'.toList, toks := tk }) (PySem.W.each_map (R := fun v d => ∃ as, Reads (PySem.W.sortingHeap (h'.push (seqObj "list" acc'.toList.toArray 0)) h'.objs.size acc'.toList) v d as) (fun z : Addr × List Key => keyD z.2) er2) hal2 hso (fun d hd => by
    obtain ⟨z, hz, rfl⟩ := List.mem_map.mp hd
    obtain ⟨p, hp, e⟩ := hmm z hz
    have := hdep p hp
    rw [e] at this
    show X.A.units + 2 + _ < cLine
    omega)
  have out := PySem.W.sortVals_data (R := fun v (z : Addr × List Key) => v = Value.ref z.1) false (show PySem.W.EachIs (fun v (z : Addr × List Key) => v = Value.ref z.1) acc'.toList ps from by
    rw [hvs]
    clear hps e1 e2 e3 lps hvs er er2 hmm hal2 hso S
    induction ps with
    | nil => exact .nil
    | cons z r ih => exact .cons rfl ih) er2 hal2
  refine wpAny_bind (wpAny_holding (wpAny_call_entry PyProof.Rows.slot_list_sort ⟨_, hoL, rfl⟩ PyProof.Rows.entry_list_sort
    (PySem.W.list_sort_vals (s := { s with heap := h'.push (seqObj "list" acc'.toList.toArray 0), toks := tk }) hoL S hsz ⟨_, rfl, ?_⟩)
    (PyProof.Rows.args_list_sort _)))
  generalize (PySem.W.sortVals (PySem.W.dataKind (PySem.W.sortingHeap (h'.push (seqObj "list" acc'.toList.toArray 0)) h'.objs.size acc'.toList) (ps.map fun z => keyD z.2)) false acc'.toList acc'.toList) = ov at out
  obtain ⟨e', he'⟩ := PyProof.Rows.sortedHeap_at (vs := acc'.toList) (out := ov.toArray) hoL
  have hov : ov = (ps.mergeSort keysLe).map fun z => Value.ref z.1 := by
    have : ∀ (vs : List Value) (qs : List (Addr × List Key)), PySem.W.EachIs (fun v (z : Addr × List Key) => v = Value.ref z.1) vs qs → vs = qs.map fun z => Value.ref z.1 := fun vs qs h => by
      induction h with
      | nil => rfl
      | cons a _ ih => rw [List.map_cons, ← ih, a]
    exact this _ _ out
  have lov : ((ps.mergeSort keysLe).map fun z => V.ref z.1).length ≤ sizeLine := by
    rw [List.length_map, List.length_mergeSort, lps]
    exact Nat.le_trans hlen (by decide)
  have rv : Vals ((ps.mergeSort keysLe).map fun z => V.ref z.1) ov := by
    rw [hov]
    have := vals_refs ((ps.mergeSort keysLe).map (·.1))
    rw [List.map_map, List.map_map] at this
    exact this
  refine wpAny_pure ⟨_, rfl, .ref h'.objs.size, upd H h'.objs.size (.lst ((ps.mergeSort keysLe).map fun z => V.ref z.1)), I1.laid (t' := tk) (fun b u e => ?_) (Nat.le_refl _)
    (show ObjOk X.prog X.w _ _ _ (.lst ((ps.mergeSort keysLe).map fun z => V.ref z.1)) from ⟨lov, ov, e', rv, he'⟩), rfl, q ps _ e1 e2 (I1.hok.fresh (Nat.le_refl _))⟩
  have hb : b < h'.objs.size := Heap.lt_size e
  rw [PyProof.Rows.sortedHeap_old (Nat.ne_of_lt hb) (by rw [size_push']; exact Nat.lt_succ_of_lt hb)]
  exact Heap.get?_push_of_some _ e
end
end Own
namespace Own
open PySem PySem.Spec PyProof.Rows L2 HT
/-! ### pairs of a symbol and its number of arguments -/
abbrev Pr := Str × Nat
def prD (p : Pr) : PyData := .tuple [.str p.1, .int p.2]
def prV (p : Pr) : List V := [.str p.1, .int (p.2 : Int)]
def prK (p : Pr) : List Key := [.inr p.1, .inl (p.2 : Int)]
theorem prK_inj {p q : Pr} (h : prK p = prK q) : p = q := by
  obtain ⟨a, b⟩ := p
  obtain ⟨c, d⟩ := q
  unfold prK at h
  simp only [List.cons.injEq, Sum.inr.injEq, Sum.inl.injEq, and_true] at h
  obtain ⟨h1, h2⟩ := h
  exact Prod.ext h1 (by show b = d; omega)
theorem keyD_pr (p : Pr) : keyD (prK p) = prD p := rfl
theorem prK_V (p : Pr) : (prK p).map kV = prV p := rfl
inductive PrAt (H : Hp) : V → Pr → Prop
  | mk {a : Addr} {p : Pr} : H a = some (.tup (prV p)) → PrAt H (.ref a) p
inductive PrAll (H : Hp) : List V → List Pr → Prop
  | nil : PrAll H [] []
  | cons {v : V} {p : Pr} {vs : List V} {ps : List Pr} : PrAt H v p → PrAll H vs ps → PrAll H (v :: vs) (p :: ps)
theorem PrAt.mono {H H' : Hp} (m : Tups H H') {v : V} {p : Pr} (h : PrAt H v p) : PrAt H' v p := by
  cases h with
  | mk e => exact .mk (m _ _ e)
theorem PrAll.mono {H H' : Hp} (m : Tups H H') : ∀ {vs : List V} {ps : List Pr}, PrAll H vs ps → PrAll H' vs ps
  | _, _, .nil => .nil
  | _, _, .cons a r => .cons (a.mono m) (r.mono m)
theorem PrAll.len {H : Hp} : ∀ {vs : List V} {ps : List Pr}, PrAll H vs ps → vs.length = ps.length
  | _, _, .nil => rfl
  | _, _, .cons _ r => congrArg (· + 1) r.len
theorem PrAll.app {H : Hp} : ∀ {vs ws : List V} {ps qs : List Pr}, PrAll H vs ps → PrAll H ws qs → PrAll H (vs ++ ws) (ps ++ qs)
  | _, _, _, _, .nil, b => b
  | _, _, _, _, .cons a r, b => .cons a (r.app b)
theorem PrAll.get {H : Hp} : ∀ {vs : List V} {ps : List Pr} {i : Nat} {v : V}, PrAll H vs ps → vs[i]? = some v → ∃ p, ps[i]? = some p ∧ PrAt H v p
  | _, _, _, _, .nil, h => by cases h
  | _, _, 0, _, .cons a r, h => by
    cases (show some _ = some _ from h)
    exact ⟨_, rfl, a⟩
  | _, _, i + 1, _, .cons a r, h => r.get (i := i) h
theorem PrAll.erase {H : Hp} : ∀ {vs : List V} {ps : List Pr} (i : Nat), PrAll H vs ps → PrAll H (vs.eraseIdx i) (ps.eraseIdx i)
  | _, _, _, .nil => .nil
  | _, _, 0, .cons a r => r
  | _, _, i + 1, .cons a r => .cons a (r.erase i)
theorem dp_pr {K : PySem.W.Frag} {H : Hp} {v : V} {p : Pr} (h : PrAt H v p) : Dp K H v (prD p) := by
  cases h with
  | mk e => exact .tup (.inl (.inl e)) (.cons (.str _) (.cons (.int _) .nil))
theorem dp_prs {K : PySem.W.Frag} {H : Hp} : ∀ {vs : List V} {ps : List Pr}, PrAll H vs ps → DpAll K H vs (ps.map prD)
  | _, _, .nil => .nil
  | _, _, .cons a r => .cons (dp_pr a) (dp_prs r)
/-! ### the order -/
def prLt (p q : Pr) : Bool := PySem.W.dataLt (prD p) (prD q)
theorem eqv_pr (p q : Pr) : PyData.eqv (prD p) (prD q) = decide (p = q) := by
  obtain ⟨a, b⟩ := p
  obtain ⟨c, d⟩ := q
  have e : PyData.eqv (prD (a, b)) (prD (c, d)) = ((a == c) && (((b : Int) == (d : Int)) && true)) := rfl
  rw [e, Bool.and_true]
  by_cases h1 : a = c
  · by_cases h2 : b = d
    · subst h1 h2
      simp
    · have h3 : ¬ ((b : Int) = (d : Int)) := fun z => h2 (by omega)
      rw [beq_eq_false_iff_ne.mpr h3, Bool.and_false]
      exact (decide_eq_false fun z => h2 (congrArg Prod.snd z)).symm
  · rw [beq_eq_false_iff_ne.mpr h1, Bool.false_and]
    exact (decide_eq_false fun z => h1 (congrArg Prod.fst z)).symm
theorem prLt_irr (p : Pr) : prLt p p = false := PySem.W.dataLt_self _
theorem prLt_tr {p q r : Pr} (h1 : prLt p q = true) (h2 : prLt q r = true) : prLt p r = true := PyProof.Rows.lex_trans _ _ _ h1 h2
theorem prLt_asym {p q : Pr} (h1 : prLt p q = true) : prLt q p = false := by
  cases h : prLt q p with
  | false => rfl
  | true => exact absurd ((prLt_irr p).symm.trans (prLt_tr h1 h)) (by decide)
theorem prLt_tot {p q : Pr} (h : p ≠ q) (h1 : prLt p q = false) : prLt q p = true := by
  obtain ⟨a, b⟩ := p
  obtain ⟨c, d⟩ := q
  have e1 : prLt (a, b) (c, d) = if PyData.eqv (.str a) (.str c) = true then (if PyData.eqv (.int (b : Int)) (.int (d : Int)) = true then false else PySem.W.dataLt (.int (b : Int)) (.int (d : Int))) else PySem.W.dataLt (.str a) (.str c) := PySem.W.dataLt_pair rfl rfl
  have e2 : prLt (c, d) (a, b) = if PyData.eqv (.str c) (.str a) = true then (if PyData.eqv (.int (d : Int)) (.int (b : Int)) = true then false else PySem.W.dataLt (.int (d : Int)) (.int (b : Int))) else PySem.W.dataLt (.str c) (.str a) := PySem.W.dataLt_pair rfl rfl
  have es : ∀ x y : Str, PyData.eqv (.str x) (.str y) = (x == y) := fun x y => by rw [PyData.eqv]
  have ei : ∀ x y : Int, PyData.eqv (.int x) (.int y) = (x == y) := fun x y => by rw [PyData.eqv]
  rw [e1, es, ei, PySem.W.dataLt_int, PySem.W.dataLt_str] at h1
  rw [e2, es, ei, PySem.W.dataLt_int, PySem.W.dataLt_str]
  by_cases g1 : a = c
  · subst g1
    have g2 : b ≠ d := fun z => h (by rw [z])
    have g3 : ¬ ((b : Int) = (d : Int)) := fun z => g2 (by omega)
    have g4 : ¬ ((d : Int) = (b : Int)) := fun z => g2 (by omega)
    rw [if_pos (beq_self_eq_true a), if_neg (by rw [beq_eq_false_iff_ne.mpr g3]; decide)] at h1
    rw [if_pos (beq_self_eq_true a), if_neg (by rw [beq_eq_false_iff_ne.mpr g4]; decide)]
    have h1 := of_decide_eq_false h1
    exact decide_eq_true (by omega)
  · have g2 : ¬ c = a := fun z => g1 z.symm
    rw [if_neg (by rw [beq_eq_false_iff_ne.mpr g1]; decide)] at h1
    rw [if_neg (by rw [beq_eq_false_iff_ne.mpr g2]; decide)]
    have h1 := of_decide_eq_false h1
    by_cases h2 : c.cps.toList < a.cps.toList
    · exact decide_eq_true h2
    · exact absurd (strE (List.le_antisymm h2 h1)) g1
theorem prLt_neg {p q r : Pr} (h1 : prLt q p = false) (h2 : prLt r q = false) : prLt r p = false := by
  cases h : prLt r p with
  | false => rfl
  | true =>
    rcases PyProof.Rows.lex_negTrans _ (PySem.W.keyToks (prD q)) _ h with a | a
    · exact absurd (h2.symm.trans a) (by decide)
    · exact absurd (h1.symm.trans a) (by decide)
theorem _root_.L2.Room.units65 {k : Nat} {A : Around} (r : Room k A) : A.units + 65 < cLine := by have := r.un; omega
abbrev Asc (ps : List Pr) : Prop := ps.Pairwise fun a b => prLt a b = true
theorem asc_eq : ∀ {as bs : List Pr}, Asc as → Asc bs → (∀ x, x ∈ as ↔ x ∈ bs) → as = bs
  | [], [], _, _, _ => rfl
  | [], b :: r, _, _, h => by have := (h b).mpr List.mem_cons_self; cases this
  | a :: r, [], _, _, h => by have := (h a).mp List.mem_cons_self; cases this
  | a :: r, b :: s, h1, h2, h => by
    have k1 := List.pairwise_cons.mp h1
    have k2 := List.pairwise_cons.mp h2
    have e : a = b := by
      rcases List.mem_cons.mp ((h a).mp List.mem_cons_self) with e | m1
      · exact e
      rcases List.mem_cons.mp ((h b).mpr List.mem_cons_self) with e | m2
      · exact e.symm
      exact absurd ((prLt_asym (k1.1 b m2)).symm.trans (k2.1 a m1)) (by decide)
    subst e
    refine congrArg (a :: ·) (asc_eq k1.2 k2.2 fun x => ⟨fun m => ?_, fun m => ?_⟩)
    · rcases List.mem_cons.mp ((h x).mp (List.mem_cons_of_mem _ m)) with e | m'
      · subst e
        exact absurd ((prLt_irr x).symm.trans (k1.1 x m)) (by decide)
      · exact m'
    · rcases List.mem_cons.mp ((h x).mpr (List.mem_cons_of_mem _ m)) with e | m'
      · subst e
        exact absurd ((prLt_irr x).symm.trans (k2.1 x m)) (by decide)
      · exact m'
/-! ### the symbols of a term, and the term with greater variables -/
mutual
def Ter.syms : Ter → List Pr
  | .var _ => []
  | .ap f as => (f, as.length) :: Ter.symss as
def Ter.symss : List Ter → List Pr
  | [] => []
  | a :: r => a.syms ++ Ter.symss r
end
theorem symss_app : ∀ as bs : List Ter, Ter.symss (as ++ bs) = Ter.symss as ++ Ter.symss bs
  | [], _ => rfl
  | a :: r, bs => by
    show a.syms ++ Ter.symss (r ++ bs) = (a.syms ++ Ter.symss r) ++ Ter.symss bs
    rw [symss_app r bs, List.append_assoc]
mutual
def Ter.shift (n : Int) : Ter → Ter
  | .var (.inl i) => .var (.inl (i + n))
  | .var (.inr x) => .var (.inr x)
  | .ap f as => .ap f (Ter.shifts n as)
def Ter.shifts (n : Int) : List Ter → List Ter
  | [] => []
  | a :: r => a.shift n :: Ter.shifts n r
end
theorem shifts_len (n : Int) : ∀ as : List Ter, (Ter.shifts n as).length = as.length
  | [] => rfl
  | _ :: r => congrArg (· + 1) (shifts_len n r)
theorem shifts_app (n : Int) : ∀ as bs : List Ter, Ter.shifts n (as ++ bs) = Ter.shifts n as ++ Ter.shifts n bs
  | [], _ => rfl
  | a :: r, bs => congrArg (a.shift n :: ·) (shifts_app n r bs)
mutual
theorem shift_same (n : Int) : ∀ t : Ter, (t.shift n).size = t.size ∧ (t.shift n).nest = t.nest ∧ (t.shift n).syms = t.syms
  | .var (.inl i) => ⟨rfl, rfl, rfl⟩
  | .var (.inr x) => ⟨rfl, rfl, rfl⟩
  | .ap f as => by
    obtain ⟨h1, h2, h3⟩ := shifts_same n as
    refine ⟨?_, ?_, ?_⟩
    · show Ter.sizes (Ter.shifts n as) + 1 = Ter.sizes as + 1
      rw [h1]
    · show Ter.nests (Ter.shifts n as) + 1 = Ter.nests as + 1
      rw [h2]
    · show (f, (Ter.shifts n as).length) :: Ter.symss (Ter.shifts n as) = (f, as.length) :: Ter.symss as
      rw [h3, shifts_len]
theorem shifts_same (n : Int) : ∀ ts : List Ter, Ter.sizes (Ter.shifts n ts) = Ter.sizes ts ∧ Ter.nests (Ter.shifts n ts) = Ter.nests ts ∧ Ter.symss (Ter.shifts n ts) = Ter.symss ts
  | [] => ⟨rfl, rfl, rfl⟩
  | t :: r => by
    obtain ⟨h1, h2, h3⟩ := shift_same n t
    obtain ⟨k1, k2, k3⟩ := shifts_same n r
    refine ⟨?_, ?_, ?_⟩
    · show (t.shift n).size + Ter.sizes (Ter.shifts n r) = t.size + Ter.sizes r
      rw [h1, k1]
    · show max (t.shift n).nest (Ter.nests (Ter.shifts n r)) = max t.nest (Ter.nests r)
      rw [h2, k2]
    · show (t.shift n).syms ++ Ter.symss (Ter.shifts n r) = t.syms ++ Ter.symss r
      rw [h3, k3]
end
def anyNum (k : Key) : Prop := ∃ i : Int, k = .inl i
mutual
theorem shift_wf {W : Str → Nat → Prop} (n : Int) : ∀ t : Ter, t.wf W anyNum → (t.shift n).wf W anyNum
  | .var (.inl i), _ => ⟨_, rfl⟩
  | .var (.inr x), h => h
  | .ap f as, h => ⟨by rw [shifts_len]; exact h.1, shifts_wf n as h.2⟩
theorem shifts_wf {W : Str → Nat → Prop} (n : Int) : ∀ ts : List Ter, Ter.wfs W anyNum ts → Ter.wfs W anyNum (Ter.shifts n ts)
  | [], _ => trivial
  | t :: r, h => ⟨shift_wf n t h.1, shifts_wf n r h.2⟩
end
/-! ### terms as data are not too long -/
mutual
theorem fits_ter : ∀ (t : Ter) (n : Nat), t.nest < n → t.size ≤ 1000000 → fitsD n t.dat
  | .var (.inl i), n + 1, _, _ => trivial
  | .var (.inr x), n + 1, _, _ => trivial
  | .ap f as, n + 1, h, hz => by
    have h : Ter.nests as + 1 < n + 1 := h
    have hz : Ter.sizes as + 1 ≤ 1000000 := hz
    have l1 := Ter.sizes_len as
    have e : (Ter.dats as).length = as.length := by
      have : ∀ as : List Ter, (Ter.dats as).length = as.length := fun as => by
        induction as with
        | nil => rfl
        | cons a r ih => exact congrArg (· + 1) ih
      exact this as
    show (PyData.str f :: Ter.dats as).length ≤ 1000000 ∧ ∀ d ∈ PyData.str f :: Ter.dats as, fitsD n d
    refine ⟨by rw [List.length_cons, e]; omega, fun d hd => ?_⟩
    rcases List.mem_cons.mp hd with rfl | hd
    · obtain ⟨m, rfl⟩ : ∃ m, n = m + 1 := ⟨n - 1, by omega⟩
      trivial
    · exact fits_ters as n (by omega) (by omega) d hd
theorem fits_ters : ∀ (ts : List Ter) (n : Nat), Ter.nests ts < n → Ter.sizes ts ≤ 1000000 → ∀ d ∈ Ter.dats ts, fitsD n d
  | [], _, _, _, d, hd => by cases hd
  | t :: r, n, h, hz, d, hd => by
    have h : max t.nest (Ter.nests r) < n := h
    have hz : t.size + Ter.sizes r ≤ 1000000 := hz
    rcases List.mem_cons.mp hd with rfl | hd
    · exact fits_ter t n (by omega) (by omega)
    · exact fits_ters r n (by omega) (by omega) d hd
end
theorem fits_prs {ps : List Pr} (n : Nat) (h : ps.length ≤ 1000000) : fitsD (n + 3) (.list (ps.map prD)) := by
  refine ⟨by rw [List.length_map]; exact h, fun d hd => ?_⟩
  obtain ⟨p, _, rfl⟩ := List.mem_map.mp hd
  refine ⟨by show 2 ≤ 1000000; decide, fun d hd => ?_⟩
  rcases List.mem_cons.mp hd with rfl | hd
  · trivial
  · rcases List.mem_cons.mp hd with rfl | hd
    · trivial
    · cases hd
/-- pairs whose symbols can be laid -/
theorem shaped_pr {p : Pr} (h : PyData.strOk p.1 = true) : SeqAt.shaped (prD p) = true := by
  show ((PyData.strOk p.1 && (true && true)) && decide (max 0 (max 0 0) + 1 ≤ 64)) = true
  rw [h]
  rfl
theorem lay_prs : ∀ ps : List Pr, (∀ p ∈ ps, PyData.strOk p.1 = true) → PyData.canLayAll0 (ps.map prD) = true ∧ PyData.depthAll (ps.map prD) ≤ 1
  | [], _ => ⟨rfl, Nat.zero_le _⟩
  | p :: r, h => by
    obtain ⟨h1, h2⟩ := lay_prs r fun k hk => h k (List.mem_cons_of_mem _ hk)
    have hp := h p List.mem_cons_self
    refine ⟨?_, ?_⟩
    · show ((PyData.strOk p.1 && (true && true)) && PyData.canLayAll0 (r.map prD)) = true
      rw [h1, hp]
      rfl
    · show max (max 0 (max 0 0) + 1) (PyData.depthAll (r.map prD)) ≤ 1
      omega
theorem shaped_prs {ps : List Pr} (h : ∀ p ∈ ps, PyData.strOk p.1 = true) : SeqAt.shaped (.list (ps.map prD)) = true := by
  obtain ⟨h1, h2⟩ := lay_prs ps h
  show (PyData.canLayAll0 (ps.map prD) && decide (PyData.depthAll (ps.map prD) + 1 ≤ 64)) = true
  rw [h1, decide_eq_true (by omega)]
  rfl
theorem any_pr (ps : List Pr) (p : Pr) : ((ps.map prD).any fun z => PyData.eqv z (prD p)) = decide (p ∈ ps) := by
  induction ps with
  | nil => rfl
  | cons q r ih =>
    rw [List.map_cons, List.any_cons, ih, eqv_pr]
    by_cases h : q = p
    · subst h
      rw [decide_eq_true rfl, decide_eq_true List.mem_cons_self]
      rfl
    · rw [decide_eq_false h, Bool.false_or]
      by_cases h2 : p ∈ r
      · rw [decide_eq_true h2, decide_eq_true (List.mem_cons_of_mem _ h2)]
      · rw [decide_eq_false h2]
        refine (decide_eq_false fun z => ?_).symm
        rcases List.mem_cons.mp z with z | z
        · exact h z.symm
        · exact h2 z
mutual
theorem syms_wf {W : Str → Nat → Prop} {U : Key → Prop} : ∀ (t : Ter), t.wf W U → ∀ p ∈ t.syms, W p.1 p.2
  | .var _, _, p, hp => by cases hp
  | .ap f as, h, p, hp => by
    rcases List.mem_cons.mp hp with rfl | hp
    · exact h.1
    · exact symss_wf as h.2 p hp
theorem symss_wf {W : Str → Nat → Prop} {U : Key → Prop} : ∀ (ts : List Ter), Ter.wfs W U ts → ∀ p ∈ Ter.symss ts, W p.1 p.2
  | [], _, p, hp => by cases hp
  | t :: r, h, p, hp => by
    rcases List.mem_append.mp hp with hp | hp
    · exact syms_wf t h.1 p hp
    · exact symss_wf r h.2 p hp
end
/-! ### sets of pairs as dicts -/
def addP (acc : List Pr) (p : Pr) : List Pr := if p ∈ acc then acc else acc ++ [p]
def yesT (p : Pr) : List Key × V := (prK p, .bl true)
theorem put_yesT (acc : List Pr) (k : Pr) : putK (acc.map yesT) (prK k) (.bl true) = (addP acc k).map yesT := by
  unfold putK addP
  have e : ((acc.map yesT).any fun kv => decide (kv.1 = prK k)) = decide (k ∈ acc) := by
    rw [List.any_map]
    induction acc with
    | nil => rfl
    | cons x r ih =>
      rw [List.any_cons, ih]
      show (decide (prK x = prK k) || decide (k ∈ r)) = _
      by_cases h : x = k
      · subst h
        rw [decide_eq_true rfl, decide_eq_true List.mem_cons_self]
        rfl
      · rw [decide_eq_false (fun z => h (prK_inj z)), Bool.false_or]
        by_cases h2 : k ∈ r
        · rw [decide_eq_true h2, decide_eq_true (List.mem_cons_of_mem _ h2)]
        · rw [decide_eq_false h2]
          refine (decide_eq_false fun z => ?_).symm
          rcases List.mem_cons.mp z with z | z
          · exact h z.symm
          · exact h2 z
  rw [e]
  by_cases hk : k ∈ acc
  · rw [if_pos (decide_eq_true hk), if_pos hk, List.map_map]
    apply List.map_congr_left
    intro x _
    show (if prK x = prK k then (prK x, V.bl true) else (prK x, V.bl true)) = (prK x, V.bl true)
    split <;> rfl
  · rw [if_neg (by rw [decide_eq_false hk]; decide), if_neg hk, List.map_append]
    rfl
theorem addP_len (acc : List Pr) (k : Pr) : (addP acc k).length ≤ acc.length + 1 := by
  unfold addP
  split
  · omega
  · rw [List.length_append, List.length_singleton]; omega
theorem mem_addP (acc : List Pr) (k x : Pr) : x ∈ addP acc k ↔ x ∈ acc ∨ x = k := by
  unfold addP
  split
  · rename_i h
    exact ⟨.inl, fun z => z.elim id fun e => e ▸ h⟩
  · rw [List.mem_append, List.mem_singleton]
theorem addP_nd {acc : List Pr} (h : acc.Nodup) (k : Pr) : (addP acc k).Nodup := by
  unfold addP
  split
  · exact h
  · rename_i n
    exact List.nodup_append.mpr ⟨h, List.nodup_cons.mpr ⟨by simp, List.nodup_nil⟩, fun a ha b hb e => n (by rw [← List.mem_singleton.mp hb, ← e]; exact ha)⟩
/-- what sorted gives of such a dict -/
theorem sorted_prs {H : Hp} {acc : List Pr} (nd : acc.Nodup) {ps : List (Addr × List Key)} (e : ps.map (·.2) = acc.map prK) (h : ∀ z ∈ ps, H z.1 = some (.tup (z.2.map kV))) :
    ∃ L, PrAll H ((ps.mergeSort keysLe).map fun z => V.ref z.1) L ∧ Asc L ∧ (∀ x, x ∈ L ↔ x ∈ acc) ∧ L.length = acc.length := by
  have hp := List.mergeSort_perm ps keysLe
  have hs : (ps.mergeSort keysLe).Pairwise fun a b => keysLe a b = true := by
    have lle : ∀ a b : Addr × List Key, keysLe a b = !PySem.W.dataLt (keyD b.2) (keyD a.2) := fun a b => rfl
    refine List.pairwise_mergeSort (fun a b c h1 h2 => ?_) (fun a b => ?_) ps
    · rw [lle] at h1 h2 ⊢
      cases h3 : PySem.W.dataLt (keyD c.2) (keyD a.2) with
      | false => rfl
      | true =>
        rcases PyProof.Rows.lex_negTrans _ (PySem.W.keyToks (keyD b.2)) _ h3 with z | z
        · have z : PySem.W.dataLt (keyD c.2) (keyD b.2) = true := z
          rw [z] at h2
          exact h2
        · have z : PySem.W.dataLt (keyD b.2) (keyD a.2) = true := z
          rw [z] at h1
          exact h1
    · rw [lle, lle]
      cases h3 : PySem.W.dataLt (keyD b.2) (keyD a.2) with
      | false => rfl
      | true =>
        cases h4 : PySem.W.dataLt (keyD a.2) (keyD b.2) with
        | false => rfl
        | true => exact absurd (show false = true from (PySem.W.dataLt_self (keyD b.2)).symm.trans (PyProof.Rows.lex_trans _ _ _ h3 h4)) (by decide)
  have n2 : ((ps.mergeSort keysLe).map (·.2)).Nodup := by
    refine (hp.map (·.2)).nodup_iff.mpr ?_
    rw [e]
    exact List.pairwise_map.mpr (nd.imp fun {a b} h z => h (prK_inj z))
  have m2 : ∀ x : List Key, x ∈ (ps.mergeSort keysLe).map (·.2) ↔ x ∈ acc.map prK := fun x => by
    rw [(hp.map (·.2)).mem_iff, e]
  have h2 : ∀ z ∈ ps.mergeSort keysLe, H z.1 = some (.tup (z.2.map kV)) := fun z hz => h z (hp.mem_iff.mp hz)
  have hl : (ps.mergeSort keysLe).length = acc.length := by
    rw [List.length_mergeSort]
    have := congrArg List.length e
    rw [List.length_map, List.length_map] at this
    exact this
  have hq : ∃ L : List Pr, (ps.mergeSort keysLe).map (·.2) = L.map prK := by
    have : ∀ l : List (List Key), (∀ x ∈ l, x ∈ acc.map prK) → ∃ L : List Pr, l = L.map prK := fun l => by
      induction l with
      | nil => exact fun _ => ⟨[], rfl⟩
      | cons x r ih =>
        intro hx
        obtain ⟨L, rfl⟩ := ih fun y hy => hx y (List.mem_cons_of_mem _ hy)
        obtain ⟨p, _, rfl⟩ := List.mem_map.mp (hx x List.mem_cons_self)
        exact ⟨p :: L, rfl⟩
    exact this _ fun x hx => (m2 x).mp hx
  obtain ⟨L, eL⟩ := hq
  refine ⟨L, ?_, ?_, ?_, ?_⟩
  · generalize ps.mergeSort keysLe = qs at eL h2
    clear hl m2 n2 hs hp
    induction qs generalizing L with
    | nil =>
      cases L with
      | nil => exact .nil
      | cons p r => cases eL
    | cons z r ih =>
      cases L with
      | nil => cases eL
      | cons p s =>
        obtain ⟨e1, e2⟩ := List.cons.inj eL
        have e1 : z.2 = prK p := e1
        refine .cons (.mk ?_) (ih s e2 fun y hy => h2 y (List.mem_cons_of_mem _ hy))
        rw [h2 z List.mem_cons_self, e1]
        rfl
  · have h5 : ((ps.mergeSort keysLe).map (·.2)).Pairwise fun a b => a ≠ b ∧ PySem.W.dataLt (keyD b) (keyD a) = false := by
      refine List.Pairwise.and n2 ?_
      refine List.pairwise_map.mpr (hs.imp fun {a b} h => ?_)
      have h : (!PySem.W.dataLt (keyD b.2) (keyD a.2)) = true := h
      cases h6 : PySem.W.dataLt (keyD b.2) (keyD a.2) with
      | false => rfl
      | true => rw [h6] at h; cases h
    rw [eL] at h5
    exact (List.pairwise_map.mp h5).imp fun {a b} h => prLt_tot (fun z => h.1 (by rw [z])) h.2
  · intro x
    constructor
    · intro hx
      have := (m2 (prK x)).mp (by rw [eL]; exact List.mem_map_of_mem hx)
      obtain ⟨y, hy, e9⟩ := List.mem_map.mp this
      rw [← prK_inj e9]
      exact hy
    · intro hx
      have := (m2 (prK x)).mpr (List.mem_map_of_mem hx)
      rw [eL] at this
      obtain ⟨y, hy, e9⟩ := List.mem_map.mp this
      rw [← prK_inj e9]
      exact hy
  · have := congrArg List.length eL
    rw [List.length_map, List.length_map] at this
    omega
theorem alike_keys (acc : List Pr) : PySem.W.AllAlike ((acc.map yesT).map fun p => keyD p.1) := by
  intro d hd d' hd'
  rw [List.map_map] at hd hd'
  obtain ⟨p, _, rfl⟩ := List.mem_map.mp hd
  obtain ⟨q, _, rfl⟩ := List.mem_map.mp hd'
  rfl
end Own
set_option maxHeartbeats 2000000
namespace Own
open PySem PySem.Spec PyProof.Rows L2 HT
/-! ### super().__init__(..) in an own exception class above ValueError -/
section
variable {prog : Program} {w : World} {A : Around} {E : Value → Shared → Prop} {hp : Heap} {g : Array GenState} {dr : Drawn} {tk : Nat} {os : OsState}
variable {nm qn : Str} {C N : Addr} {bs bm : List Value} {hd : Bool} {sn : List Str} {sub : List Value} {ab : Bool} {col : Option Bool} {dd : Option Addr} {k0 k1 k2 k3 k5 : Option Value}
/-- the bound built-in __init__ is called: the exception's arguments are laid anew, nothing else changes -/
theorem vi_call {u x t0 : Addr} {vs : List Value} {Q : Value → Shared → Prop}
    (hC : hp.get? C = some (excClassObj nm qn C N bs bm hd sn sub ab col dd k0 k1 k2 k3 k5 "ValueError.__new__"))
    (hx : hp.get? x = some (PySem.HandSPX.excO C t0)) (hu : hp.get? u = some (PySem.W.kxs_mw "ValueError.__init__" x)) (hz : vs.length ≤ sizeLine)
    (hq : ∀ h' t1, (∀ b o, b ≠ x → hp.get? b = some o → h'.get? b = some o) → h'.get? x = some (PySem.HandSPX.excO C t1) → Q .none ⟨h', g, dr, tk, os⟩) :
    wpAny (model prog w) A (call (.ref u) vs) Q E ⟨hp, g, dr, tk, os⟩ := by
  have FB := F.excBase_ValueError
  refine wpAny_call (codeAny_of_tree ?_)
  show wpAny _ _ (callAny (.ref u) ⟨vs, []⟩) _ _ ⟨hp, g, dr, tk, os⟩
  simp only [callAny]
  refine wpAny_bind (wpAny_load hu ?_)
  have b1 : (Value.type "method-wrapper" == Value.type "method" || Value.type "method-wrapper" == Value.type "builtin_function_or_method" || Value.type "method-wrapper" == Value.type "method-wrapper") = true := by decide
  simp only [PySem.W.kxs_mw, b1, if_true]
  refine PySem.W.KFB.if_so b1 (wpAny_bind (PySem.W.check_bound_init FB.toExcCallFacts hC hx rfl (wpAny_bind (wpAny_pure (wpAny_pure ?_)))))
  refine ⟨plainId_quiet FB.init.plain _, codeAny_builtin FB.initEntry ?_⟩
  exact PySem.W.exc_init_tree (cls := .ref C) (t0 := t0) (dv := none) (c2 := .none) (c3 := .none) (b4 := .bool false) hx hz fun h' k e _ => hq h' _ k e
end
/-- a statement, a block that must know its own activation (body: that of the whole def) -/
structure PSAt (X : Cx) (body : List Stmt) (st : Stmt) (t : TS) : Prop where
  run : ∀ (pins : List (Addr × Obj)) (s : Shared) (σ : L2.St) (H : Hp) (D : Ends), Inv X pins σ H s → t D σ H → PySem.wpAt (model X.prog X.w) X.A (.func body X.env) (exec st X.env) (SP X pins D) X.xe s
structure PSsAt (X : Cx) (body st : List Stmt) (t : TS) : Prop where
  run : ∀ (pins : List (Addr × Obj)) (s : Shared) (σ : L2.St) (H : Hp) (D : Ends), Inv X pins σ H s → t D σ H → PySem.wpAt (model X.prog X.w) X.A (.func body X.env) (execs st X.env) (SP X pins D) X.xe s
theorem pssAt_cons {X : Cx} {body : List Stmt} {st : Stmt} {rest : List Stmt} {t u : TS} (h1 : PSAt X body st t) (h2 : PSs X rest u) : PSsAt X body (st :: rest) (tSeq t u) := by
  refine ⟨fun pins s σ H D I h => ?_⟩
  refine ks_wpAt_execs_cons (PySem.ks_wpAt_mono (h1.run pins s σ H { D with nx := u D } I h) (fun f s1 q => ?_) fun _ _ z => z)
  cases f with
  | next =>
    obtain ⟨σ1, H1, J, q⟩ := q
    exact PySem.wpAt_of_wpAny (h2.run pins s1 σ1 H1 D J q)
  | ret u => exact q
  | brk => exact q
  | cont => exact q
/-- what the activation must have for super() -/
structure SupX (X : Cx) (C cc : Addr) : Prop where
  ks : X.env.kindOf "super" = some .globalImplicit
  kc : X.env.kindOf "__class__" = some .free
  fn : ∃ f o fd, X.env.func = some f ∧ X.K.lookup f = some o ∧ o.data = .func fd ∧ ∃ ar, (fd.params.posonlyargs ++ fd.params.args).head? = some ar ∧ ar.arg = ("self" : Str)
  code : ∃ cda o vs file tf, X.env.code = .ref cda ∧ X.K.lookup cda = some o ∧ o.data = .fields vs ∧ vs[2]? = some (.str file tf) ∧ ((X.prog.main.file : Str) == file) = true
  top : (X.prog.main.scope.names.lookup ("super" : Str)).isSome = false
  cell : X.env.cells.lookup ("__class__" : Str) = some cc
  cellv : ∃ cl cld csl, X.K.lookup cc = some ⟨cl, cld, .cell (some (.ref C)), csl⟩
  glob : X.mg "super" = none
  self : X.env.kindOf "self" = some .local
  n0 : X.N[0]? = some ("self" : Str)
/-- what the class must have for super().__init__ to be ValueError's -/
structure SupC (K : PySem.W.Frag) (C : Addr) : Prop where
  oex : OexC K C
  up : PySem.W.ks_superIn K C C "__init__" = some (some (.builtin "ValueError.__init__"))
  sub : PySem.W.subIn K (.ref C) (.type "ValueError") = some true
  own : PySem.W.mroIn K C (.ref C) = some true
  opq : PySem.W.nsIn K cStatics "thirdparty.any" = some none
def tSup (C : Addr) (ta : TA) : TS := fun D σ H => ∃ a, σ[0]? = some (some (.ref a)) ∧ H a = some (exo a C none) ∧ ta σ H fun vs H1 => vs.length ≤ 1000 ∧ H1 a = some (exo a C none) ∧ D.nx σ H1
theorem exo_get {X : Cx} {pins : List (Addr × Obj)} {σ : L2.St} {H : Hp} {s : Shared} {a C : Addr} (I : Inv X pins σ H s) (e : H a = some (exo a C none)) : ∃ t0, s.heap.get? a = some (PySem.HandSPX.excO C t0) := exo_at I.hok e
theorem ps_superAt {X : Cx} {body : List Stmt} {C cc : Addr} {p0 p1 p2 pos pos2 : Pos} {e : Expr} {es : List Expr} {ta : TA} (S : SupX X C cc) (T : SupC X.K C) (ha : PA X (e :: es) ta)
    (hev : eval (.Call (.Attribute (.Call (.Name "super" p0) [] [] p1) "__init__" p2) (e :: es) [] pos) X.env = (do
      let ov ← attributeBase (.Call (.Name "super" p0) [] [] p1) "__init__" X.env (eval (.Call (.Name "super" p0) [] [] p1) X.env)
      standAt p2.atName
      let (f, first) ← holding [ov] (getMethod ov "__init__" (pure false))
      callWith pos f first (backTo pos (starEach (e :: es) X.env)) []) := by rfl)
    (hi : interactive X.env = false := by rfl) (hs : swapsWith (.Call (.Attribute (.Call (.Name "super" p0) [] [] p1) "__init__" p2) (e :: es) [] pos) none pos2.line X.env = pure false := by rfl)
    (he : starEach (e :: es) X.env = (false, eval e X.env) :: starEach es X.env := by rfl) (hpl : (backTo pos (starEach es X.env)).any (·.1) = false := by rfl) :
    PSAt X body (.Expr (.Call (.Attribute (.Call (.Name "super" p0) [] [] p1) "__init__" p2) (e :: es) [] pos) pos2) (tSup C ta) := by
  refine ⟨fun pins s σ H D I h => ?_⟩
  obtain ⟨a, h0, hex, h⟩ := h
  obtain ⟨f, o, fd, hfu, hfl, hfd, ar, hhd, har⟩ := S.fn
  obtain ⟨cda, oc, fvs, file, tf, hco, hcl, hcd, hfv, hfile⟩ := S.code
  obtain ⟨cl, cld, csl, hcell⟩ := S.cellv
  obtain ⟨nm, qn, N, bs, bm, sn, sub, ab, col, dd, k0, k1, k2, k3, k5, hC, hbm⟩ := T.oex.cls
  have KX := I.kIn
  have hCg := KX _ _ hC
  obtain ⟨m, hns, hl⟩ := I.loc
  obtain ⟨u0, r0, lk⟩ := hl 0 "self" (.ref a) S.n0 h0 (.inl S.self)
  cases r0
  have hself : m "self" = some (.ref a) := by
    rcases lk with ⟨_, q⟩ | ⟨q, _⟩
    · exact q
    · rw [S.self] at q
      rcases q with q | q <;> cases q
  obtain ⟨t0, hox⟩ := exo_get I hex
  have hcls : PySem.W.clsIn X.K C = some { name := nm, bases := bs, mro := .ref C :: bm, ns := N, qualname := qn, hasDict := true, slotNames := sn, subclasses := sub, abstract := ab, collection := col, hasDel := false } := by unfold PySem.W.clsIn; rw [hC] <;> rfl
  have J : PySem.W.InstAt s.heap a (PySem.HandSPX.excO C t0) C none := ⟨hox, rfl, rfl, trivial⟩
  obtain ⟨mb, hb1, hb2⟩ := I.mod.blt
  refine PySem.ks_wpAt_Expr_any (PySem.ks_wpAt_MethodCall (pl := pure false) ?_ hev) hi hs
  refine PySem.ks_wpAt_super_base (env := X.env) S.ks S.kc rfl hfu (KX _ _ hfl) hfd hhd hco (KX _ _ hcl) hcd hfv hfile S.top ?_
  refine PySem.W.ks_loadName_global I.ok.kind S.ks ?_
  refine Calls.loadGlobal_builtin (by rw [I.ok.glob]; exact I.mod.glob.keeps I.bk) S.glob (by rw [I.ok.blt]; exact hb1.keeps I.bk) ((hb2 "super" (by decide)).trans (show bootBuiltins "super" = some (.type "super") by first | rfl | kernel_rfl)) ?_
  refine ⟨rfl, ?_⟩
  refine wpAny_loadName_free I.ok.kind S.kc S.cell ⟨_, KX _ _ hcell, rfl⟩ ?_
  rw [har]
  refine wpAny_loadName_local I.ok.kind S.self hns hself ?_
  obtain ⟨hh, gg, dr, tk, os⟩ := s
  refine PySem.ks_wpAny_isType_cls hCg rfl ⟨rfl, ?_⟩
  refine PySem.ks_wpAny_call_super hCg rfl hox rfl (fun c z => by cases z) (PySem.W.looks_mroIn KX T.own) (fun h1 ho1 k1 => ?_)
  -- the super object stands at hh.objs.size
  have KX1 : X.K.In h1 := KX.keeps k1
  have J1 : PySem.W.InstAt h1 a (PySem.HandSPX.excO C t0) C none := ⟨k1 _ _ hox, rfl, rfl, trivial⟩
  have I1 : Inv X pins σ H ⟨h1, gg, dr, tk, os⟩ := I.kept (t' := tk) k1
  have up := T.up
  unfold PySem.W.ks_superIn at up
  rw [hcls] at up
  refine PySem.W.kxs_getMethod PySem.W.kxs_ValueError ho1 (PySem.W.looks_opaque KX1 T.opq) (l₀ := .ref C :: bm) (fun A Q E s k q => wpAny_bind ((PySem.W.looks_clsIn KX1 hcls) A _ E s k (wpAny_pure q))) rfl KX1 up
    (J1.type.andThen (PySem.W.looks_subIn KX1 T.sub)) (PySem.W.ks_ne KX1 J1 hcls) rfl ?_
  have k2 : ∀ b ob, h1.get? b = some ob → (h1.push (PySem.W.kxs_mw "ValueError.__init__" a)).get? b = some ob := fun b ob q => Heap.get?_push_of_some _ q
  have I2 : Inv X pins σ H ⟨h1.push (PySem.W.kxs_mw "ValueError.__init__" a), gg, dr, tk + 1, os⟩ := I1.kept (t' := tk + 1) k2
  have hw : (h1.push (PySem.W.kxs_mw "ValueError.__init__" a)).get? h1.objs.size = some (PySem.W.kxs_mw "ValueError.__init__" a) := Heap.get?_push_at rfl rfl
  have hnew : H h1.objs.size = none := I1.hok.fresh (Nat.le_refl _)
  have I3 : Inv X (pins ++ [(h1.objs.size, PySem.W.kxs_mw "ValueError.__init__" a)]) σ H ⟨h1.push (PySem.W.kxs_mw "ValueError.__init__" a), gg, dr, tk + 1, os⟩ := I2.pins_of fun p hp => by
    rcases List.mem_append.mp hp with hp | hp
    · exact I2.pin p (List.mem_append_right _ hp)
    · rw [List.mem_singleton.mp hp]
      exact ⟨hw, hnew, Ne.symm (Nat.ne_of_lt I1.lt), I1.nofs (Nat.le_refl _), fun v z => by cases z⟩
  show wpAny _ _ (callWith pos (Value.ref h1.objs.size) [] (backTo pos (starEach (e :: es) X.env)) []) _ _ _
  rw [he]
  refine PySem.W.kxs_callWith (i := "ValueError.__init__") (x := a) (by show (false || (backTo pos (starEach es X.env)).any (·.1)) = false; rw [hpl]; rfl) ?_
  refine Calls.evalArgs_plain ?_
  have hr := ha.run pos _ _ σ H _ I3 h
  rw [he] at hr
  refine thn hr fun us s2 hq => ?_
  obtain ⟨vs, H2, I4, rv, hlen, hex2, hD⟩ := hq
  refine ⟨(I4.pin (h1.objs.size, _) (List.mem_append_right _ (List.mem_append_right _ (List.mem_singleton.mpr rfl)))).1, ?_⟩
  have hw4 := (I4.pin (h1.objs.size, PySem.W.kxs_mw "ValueError.__init__" a) (List.mem_append_right _ (List.mem_append_right _ (List.mem_singleton.mpr rfl)))).1
  obtain ⟨t4, hox4⟩ := exo_get I4 hex2
  have hC4 := I4.kIn _ _ hC
  have I5 : Inv X pins σ H2 s2 := I4.pins_of fun p hp => I4.pin p (List.mem_append_right _ (List.mem_append_left _ hp))
  obtain ⟨h4, g4, d4, tk4, os4⟩ := s2
  show wpAny _ _ (call (Value.ref h1.objs.size) ([] ++ us)) _ _ _
  refine vi_call hC4 hox4 hw4 (by rw [List.nil_append, ← Paired.length rv, sizeLine_eq]; omega) fun h' t1 kk hx' => ?_
  have J5 := I5.write (t' := tk4) (x := a) (e := a) (o := exo a C none) (by rw [hex2]; exact True.intro) (.inl rfl) kk ⟨_, hx'⟩ (exo_ok hx')
  have eu : upd H2 a (exo a C none) = H2 := by
    funext b
    by_cases hb : b = a
    · rw [hb, upd_same, hex2]
    · rw [upd_ne hb]
  rw [eu] at J5
  exact ⟨σ, H2, J5, hD⟩
end Own
set_option maxHeartbeats 2000000
namespace Own
open PySem PySem.Spec PyProof.Rows L2 HT NdefX
/-! ### the def __init__ that says super().__init__(..) first -/
section
variable {CX : CXT} {P : Program} {w : World} {K : PySem.W.Frag} {mg : Str → Option Value} {base : Heap} {k : Nat} {fI cc cda C : Addr} {name qual : Str} {params : Arguments} {body : List Stmt} {scope : Scope} {dV kV doc pm ct oc : Value} {an od : Option Addr}
  {osl : Array (Option Value)} {N ps : List Str} {sp : Sp}
abbrev iNF (name qual : Str) (params : Arguments) (body : List Stmt) (scope : Scope) (cc cda : Addr) : NF := ⟨name, qual, params, body, scope, [("__class__", cc)], cda⟩
abbrev icx (CX : CXT) (P : Program) (w : World) (K : PySem.W.Frag) (mg : Str → Option Value) (base : Heap) (N : List Str) (name qual : Str) (params : Arguments) (body : List Stmt) (scope : Scope) (cc cda fI : Addr) (A : Around) (outer : List Env) (s : Shared) (H : Hp) (E : XK) : Cx :=
  ncx CX P w K mg base N (iNF name qual params body scope cc cda) fI A outer s H E
theorem init_of (lk : K.lookup fI = some ⟨oc, od, .func (PySem.W.fnX name qual params body scope [("__class__", cc)] dV kV doc pm an (.ref cda) ct), osl⟩) (hcd : PySem.W.codeIn K (.ref cda) qual = true)
    (hcell : ∃ cl cld csl, K.lookup cc = some ⟨cl, cld, .cell (some (.ref C)), csl⟩) (S : NScope N ps ["__class__"] scope) (len : ∀ vs H Q E, sp vs H Q E → vs.length = ps.length)
    (hb : ∀ (A : Around) (outer : List Env) (s : Shared) (H : Hp) (vs : List V) (Q : VK) (E : XK), Room k (A.deeper (envF (iNF name qual params body scope cc cda) fI s.heap.objs.size)) → sp vs H Q E →
      ∃ t, PSsAt (icx CX P w K mg base N name qual params body scope cc cda fI A outer s H E) body body t ∧ t { nx := fun _ H' => Q .non H', rt := Q } (startF N vs [some (.ref C)]) H) :
    FnOk P w K mg base CX (k + 1) fI (PySem.W.fnX name qual params body scope [("__class__", cc)] dV kV doc pm an (.ref cda) ct) ps sp := by
  refine ⟨len, fun A outer s H args us vs Q E hr e0 hbd rv hsp => ?_⟩
  have hlen := len _ _ _ _ hsp
  have kx : K.In s.heap := e0.mod.kin.keeps fun b o e => (e0.bs b o e).1
  have nolim : s.heap.NoLimit := e0.mod.nolimit.keeps fun b o e => (e0.bs b o e).1
  obtain ⟨cl, cld, csl, hcl⟩ := hcell
  refine PySem.ks_codeAny_call_defAt (body := body) (binds := ps.zip us) hr.depth (kx _ _ lk) rfl nolim (PySem.W.codeRec_of kx hcd) rfl hbd S.nocell (fun ⟨n, _⟩ hy => S.par n (List.of_mem_zip hy).1) (fun h1 hns kp => ?_) S.co S.gen S.kind
  have hcells : CellsAt [("__class__", cc)] ["__class__"] [some (V.ref C)] s.heap H := by
    refine ⟨rfl, fun y c e => ?_, fun x y c e1 e2 => ?_, fun i y hy => ?_⟩
    · have ec : c = cc := by
        by_cases hy : y = "__class__"
        · subst hy
          simpa [List.lookup] using e.symm
        · have : (y == ("__class__" : Str)) = false := by simpa using hy
          simp [List.lookup, this] at e
      subst ec
      exact ⟨(e0.bs _ _ (e0.mod.kin _ _ hcl)).2, _, _, kx _ _ hcl, rfl⟩
    · have key : ∀ {z : Str} {d : Addr}, List.lookup z [(("__class__" : Str), cc)] = some d → z = "__class__" := fun {z d} h => by
        by_cases hz : z = "__class__"
        · exact hz
        · have : (z == ("__class__" : Str)) = false := by simpa using hz
          simp [List.lookup, this] at h
      rw [key e1, key e2]
    · cases i with
      | zero =>
        cases (show some _ = some _ from hy)
        refine ⟨cc, by simp [List.lookup], fun v hv => ?_⟩
        cases (show some (some _) = some (some _) from hv)
        exact ⟨.ref C, rfl, _, kx _ _ hcl, rfl⟩
      | succ i => cases (show none = some _ from hy)
  have I : Inv (icx CX P w K mg base N name qual params body scope cc cda fI A outer s H E) [] (startF N vs [some (.ref C)]) H { s with heap := h1, toks := s.toks + (ps.zip us).length } := inv_startN S hr.hd e0 hlen rv hcells hns kp
  obtain ⟨t, ht, hq⟩ := hb A outer s H vs Q E (hr.deeper _) hsp
  refine PySem.ks_wpAt_mono (ht.run [] _ _ H _ I hq) (fun fl s' hs => ?_) fun e s' hs => hs
  have close : ∀ {σ' : L2.St} {H' : Hp} {v : V} {u : Value}, Inv (icx CX P w K mg base N name qual params body scope cc cda fI A outer s H E) [] σ' H' s' → L2.RelV v u → Q v H' → CE outer P w H s Q u s' :=
    fun {σ' H' v u} J r q => ⟨v, H', J.os, J.bare, J.base, J.hok, r, q⟩
  cases fl with
  | ret u =>
    obtain ⟨v, σ', H', J, r, q⟩ := hs
    exact close J r q
  | next =>
    obtain ⟨σ', H', J, q⟩ := hs
    exact close (v := V.non) (u := Value.none) J rfl q
  | brk => exact False.elim hs.choose_spec.choose_spec.2
  | cont => exact False.elim hs.choose_spec.choose_spec.2
/-- what the written part says of such a def, and of its class -/
structure InitC (P : Program) (K : PySem.W.Frag) (mg : Str → Option Value) (C fI cc cda : Addr) (name qual : Str) (params : Arguments) (body : List Stmt) (scope : Scope) (fd : FuncData) : Prop where
  sup : SupC K C
  fn : ∃ oc od dV kV doc pm an ct osl, fd = PySem.W.fnX name qual params body scope [("__class__", cc)] dV kV doc pm an (.ref cda) ct ∧ K.lookup fI = some ⟨oc, od, .func fd, osl⟩
  code : PySem.W.codeIn K (.ref cda) qual = true
  file : ∃ o vs file tf, K.lookup cda = some o ∧ o.data = .fields vs ∧ vs[2]? = some (.str file tf) ∧ ((P.main.file : Str) == file) = true
  top : (P.main.scope.names.lookup ("super" : Str)).isSome = false
  cell : ∃ cl cld csl, K.lookup cc = some ⟨cl, cld, .cell (some (.ref C)), csl⟩
  glob : mg "super" = none
  self : ∃ ar, (params.posonlyargs ++ params.args).head? = some ar ∧ ar.arg = ("self" : Str)
  k1 : scope.names.lookup ("super" : Str) = some .globalImplicit
  k2 : scope.names.lookup ("__class__" : Str) = some .free
  k3 : scope.names.lookup ("self" : Str) = some .local
  iC : PySem.W.findIn K (.ref C) "__init__" = some (some (.ref fI))
  tI : PySem.W.typeIn K (.ref fI) = some (.type "function")
theorem InitC.supX {fd : FuncData} {A : Around} {outer : List Env} {s : Shared} {H : Hp} {E : XK} (T : InitC P K mg C fI cc cda name qual params body scope fd) (h0 : N[0]? = some ("self" : Str)) :
    SupX (icx CX P w K mg base N name qual params body scope cc cda fI A outer s H E) C cc := by
  obtain ⟨oc, od, dV, kV, doc, pm, an, ct, osl, rfl, l⟩ := T.fn
  obtain ⟨o, vs, file, tf, e1, e2, e3, e4⟩ := T.file
  obtain ⟨ar, e5, e6⟩ := T.self
  exact ⟨T.k1, T.k2, ⟨fI, _, _, rfl, l, rfl, ar, e5, e6⟩, ⟨cda, o, vs, file, tf, rfl, e1, e2, e3, e4⟩, T.top, by show List.lookup _ [(("__class__" : Str), cc)] = _; simp [List.lookup], T.cell, T.glob, T.k3, h0⟩
/-- the promise: the fields, each with its argument; ok: what the text of super().__init__ asks of the arguments -/
def spInit (C : Addr) (fs : List Str) (ok : List V → Hp → Prop) : Sp := fun vs H Q _ => ∃ a ws, vs = .ref a :: ws ∧ ws.length = fs.length ∧ H a = some (exo a C none) ∧ ok ws H ∧
  ∀ H2 dx, (∀ b, b ≠ a → b ≠ dx → H2 b = H b) → H dx = none → dx ≠ a → H2 a = some (exo a C (some dx)) → H2 dx = some (exd dx (fs.zip ws).reverse) → Q .non H2
end
/-! ### the call C(e, ..), where nothing is handled -/
section
variable {X : Cx} {CX : CXT} {x : Str} {e : Expr} {es : List Expr} {ta : TA} {p pos : Pos} {C fI : Addr} {k : Nat} {fd : FuncData} {ps : List Str} {sp : Sp}
theorem pmkN_sup (T : OexC X.K C) (iC : PySem.W.findIn X.K (.ref C) "__init__" = some (some (.ref fI))) (tI : PySem.W.typeIn X.K (.ref fI) = some (.type "function"))
    (F1 : FnOk X.prog X.w X.K X.mg X.base CX k fI fd ps sp) (hr : Room (k + 1) X.A) (hb : Binds X.K fd ps []) (hx : Passes CX X (fun _ _ _ => False)) (hg : Gl X x) (hm : X.mg x = some (.ref C)) (ha : PA X (e :: es) ta)
    (hdb : (x == ("__debug__" : Str)) = false := by decide) (he : starEach (e :: es) X.env = (false, eval e X.env) :: starEach es X.env := by rfl) (hpl : (backTo pos (starEach es X.env)).any (·.1) = false := by rfl) :
    L2N.PMk X (.Call (.Name x p) (e :: es) [] pos) (tMkO C sp [] ta) := by
  intro pins s σ H Q I h
  obtain ⟨nm, qn, N, bs, bm, sn, sub, ab, col, dd, k0, k1, k2, k3, k5, hcl, hve⟩ := T.cls
  refine wpAny_Call_Name_kw (ld_glob I hg hm ?_ hdb)
  refine PySem.W.callWith_K (h₀ := X.base) I.ok.mod.kin T.kC (thn (ha.run pos pins s σ H _ I h) fun us s1 hq => ?_) he hpl
  obtain ⟨vs, H1, I1, rv, hlen, hsp⟩ := hq
  refine ⟨I1.kIn, ?_⟩
  show wpAny _ _ (call (.ref C) us) _ _ _
  obtain ⟨h1, g1, d1, tk1, os1⟩ := s1
  have free1 : H1 (h1.objs.size + 1) = none := I1.hok.fresh (Nat.le_succ _)
  have hsp := hsp _ free1
  rw [List.append_nil] at hsp
  have older : ∀ b o, h1.get? b = some o → ((h1.push (PySem.W.kdv_tup us)).push (PySem.HandSPX.excO C h1.objs.size)).get? b = some o := fun b o q => Heap.get?_push_of_some _ (Heap.get?_push_of_some _ q)
  have there : ((h1.push (PySem.W.kdv_tup us)).push (PySem.HandSPX.excO C h1.objs.size)).get? (h1.objs.size + 1) = some (PySem.HandSPX.excO C h1.objs.size) := by heap_get
  have I2 := I1.laid (t' := tk1) (a := h1.objs.size + 1) (o := exo (h1.objs.size + 1) C none) older (Nat.le_succ _) (exo_ok there)
  have rv2 : Vals (V.ref (h1.objs.size + 1) :: vs) (Value.ref (h1.objs.size + 1) :: us) := .cons rfl rv
  have elen : (Value.ref (h1.objs.size + 1) :: us ++ []).length = ps.length := by
    rw [List.append_nil, ← rv2.length]
    exact F1.len _ _ _ _ hsp
  have ulen : us.length ≤ sizeLine := by
    have := Paired.length rv
    rw [sizeLine_eq]
    omega
  have bind2 := hb _ (Value.ref (h1.objs.size + 1) :: us) I2.kIn elen
  rw [List.append_nil] at bind2
  have init := F1.run _ X.stack _ _ ⟨Value.ref (h1.objs.size + 1) :: us, []⟩ (Value.ref (h1.objs.size + 1) :: us) _ _ (fun _ _ _ => False) (hr.make C us []) (I2.env0.make C us []) bind2 rv2 hsp
  refine wpAny_call (PySem.HandSPX.call_own F.excBase_ValueError (fun Y => PySem.HandSPX.refsVE_contains Y bm hve) (I1.kIn _ _ hcl) (PySem.W.looks_findIn I1.kIn iC) (fun self => PySem.W.bind_fn I1.kIn self tI) ulen (codeAny_mono init fun r s' hq => ?_))
  cases r with
  | error er => exact hx pins σ _ _ er s' I2 hq
  | ok fl =>
    cases fl with
    | ret u =>
      obtain ⟨v, H2, hos, hbare, hun, hok2, hrel, ev, d, fs, ea, ed, free2, q⟩ := hq
      subst ev
      obtain ⟨h2, g2, d2, tk2, os2⟩ := s'
      obtain ⟨t0, G, J, kG, gone, hoe, nota⟩ := mk_end0 (d2 := d2) (t2 := tk2) I1 (Nat.le_succ _) older hun hok2 hos hbare ea ed free2
      refine ⟨hrel, h1.objs.size + 1, _, _, ⟨G, g2, d2, tk2, os2⟩, _, .ref C, some d, rfl, J, kG, gone, hoe, ⟨rfl, rfl, fun vs hv => ?_⟩, rfl, rfl, nota, rfl, hbare, raises_own T.exC T.tyC, q⟩
      cases hv
      rfl
    | next => exact hq.elim
    | brk => exact hq.elim
    | cont => exact hq.elim
/-- the reading of raise C(e, ..) -/
def tMkS (C : Addr) (fs : List Str) (ok : List V → Hp → Prop) (ta : TA) : L2.St → Hp → XK → Prop := fun σ H Q => ta σ H fun vs H1 => vs.length = fs.length ∧ vs.length ≤ 1000 ∧ (∀ a, H1 a = none → ok vs (upd H1 a (exo a C none))) ∧
  ∀ d, H1 d = none → Q (.ref C) (some d) (upd H1 d (.xd (fs.zip vs).reverse))
theorem tMk_of {fs : List Str} {ok : List V → Hp → Prop} {σ : L2.St} {H : Hp} {Q : XK} (hm : ∀ {P Q : List V → Hp → Prop}, (∀ vs H, P vs H → Q vs H) → ∀ {σ H}, ta σ H P → ta σ H Q) (h : tMkS C fs ok ta σ H Q) : tMkO C (spInit C fs ok) [] ta σ H Q := by
  refine hm (fun vs H1 hq => ?_) h
  obtain ⟨h1, h2, h3, h4⟩ := hq
  refine ⟨h2, fun a na => ?_⟩
  rw [List.append_nil]
  refine ⟨a, vs, rfl, h1, upd_same, h3 a na, fun H2 dx same fx nx ea ed => ⟨rfl, dx, _, ea, ed, ?_, ?_⟩⟩
  · rw [← upd_ne (H := H1) (o := exo a C none) nx]
    exact fx
  · have e9 : upd (del H2 a) dx (.xd (fs.zip vs).reverse) = upd H1 dx (.xd (fs.zip vs).reverse) := by
      funext b
      by_cases hb : b = dx
      · rw [hb, upd_same, upd_same]
      · rw [upd_ne hb, upd_ne hb]
        by_cases hb2 : b = a
        · rw [hb2, del_same, na]
        · rw [del_ne hb2, same b hb2 hb, upd_ne hb2]
    rw [e9]
    refine h4 dx ?_
    rw [← upd_ne (H := H1) (o := exo a C none) nx]
    exact fx
end
/-! ### the fields -/
section
variable {X : Cx}
theorem fst_field {K : PySem.W.Frag} {σ : L2.St} {H : Hp} {D : Ends} {a C : Addr} {f : Str} {y : V} {to te : TE} (T : OexC K C) (hf : PySem.W.findIn K (.ref C) f = some none) (e : H a = some (exo a C none)) (h1 : ∀ Q, te σ H Q ↔ Q y H) (h2 : ∀ Q, to σ H Q ↔ Q (.ref a) H)
    (h : ∀ dx, H dx = none → dx ≠ a → D.nx σ (upd (upd H dx (exd dx [(f, y)])) a (exo a C (some dx)))) : tOst K f to te D σ H :=
  (h1 _).mpr ((h2 _).mpr ⟨a, C, rfl, T, hf, .inl ⟨e, h⟩⟩)
theorem nxt_field {K : PySem.W.Frag} {σ : L2.St} {H : Hp} {D : Ends} {a C dx : Addr} {f : Str} {y : V} {fs : List (Str × V)} {to te : TE} (T : OexC K C) (hf : PySem.W.findIn K (.ref C) f = some none) (e : H a = some (exo a C (some dx))) (ed : H dx = some (exd dx fs)) (hl : fs.length ≤ 900)
    (h1 : ∀ Q, te σ H Q ↔ Q y H) (h2 : ∀ Q, to σ H Q ↔ Q (.ref a) H) (h : D.nx σ (upd H dx (exd dx ((f, y) :: fs)))) : tOst K f to te D σ H :=
  (h1 _).mpr ((h2 _).mpr ⟨a, C, rfl, T, hf, .inr ⟨dx, fs, e, ed, hl, h⟩⟩)
end
/-! ### {t}, t a tuple of whole numbers, in an f-string: some text -/
section
variable {X : Cx}
theorem repr_ints {prog : Program} {w : World} : ∀ {l : List Int} {its : List Value}, Vals (l.map V.int) its → (∀ y ∈ l, y.natAbs.log2 < 1920) → ReprAll prog w its (l.map fun y => ((toString y : String) : Str))
  | [], _, r, _ => by
    cases r
    exact .nil
  | y :: l, _, r, h => by
    cases r with
    | cons ra rb =>
      obtain ⟨t, rfl⟩ := ra
      exact .cons (ReprIs.int t (h y List.mem_cons_self)) (repr_ints rb fun z hz => h z (List.mem_cons_of_mem _ hz))
def tFmtI (K : PySem.W.Frag) (te : TE) : TE := fun σ H Q => te σ H fun x H1 => ∃ (a : Addr) (l : List Int), x = .ref a ∧ SqT K H1 a (l.map V.int) ∧ (∀ y ∈ l, y.natAbs.log2 < 1920) ∧ (tupleText (l.map fun y => ((toString y : String) : Str))).length ≤ 1000000 ∧ ∀ m : Str, m.length ≤ 1000005 → Q (.str m) H1
theorem pe_fmtI {e : Expr} {te : TE} {pos : Pos} {k : Nat} (hr : Room k X.A) (he : PE X e te) : PE X (.FormattedValue e (-1) none pos) (tFmtI X.K te) := by
  refine ⟨fun pins s σ H Q I h => ?_⟩
  refine wpAny_FormattedValue_plain (thn (he.run pins s σ H _ I h) fun v s1 hv => ?_)
  obtain ⟨x, H1, I1, r1, a, l, rfl, ht, hl, hz, q⟩ := hv
  cases r1
  obtain ⟨its, rv, ⟨o, ho, hcl, n, hd⟩, _⟩ := I1.tuple ht
  have hu := hr.units
  refine fmt_tuple (ts := l.map fun y => ((toString y : String) : Str)) (by omega) ho hcl hd (repr_ints rv hl) (by rw [sizeLine_eq]; omega) fun m u tk hm => ?_
  exact ⟨.str m, H1, I1.tok _, ⟨u, rfl⟩, q m (by omega)⟩
end
end Own
set_option maxHeartbeats 2000000
namespace Own
open PySem PySem.Spec PyProof.Rows L2 HT NdefX
/-- the j-th statement of a class's body -/
def clsAt (s : Stmt) (j : Nat) : Stmt := match s with
  | .ClassDef _ _ _ b _ _ _ _ _ _ _ => b.getD j (.Pass ⟨0, 0, 0, 0⟩)
  | _ => .Pass ⟨0, 0, 0, 0⟩
/-! ### defs that may raise, defs called within an except suite -/
section
variable {P : Program} {w : World} {K : PySem.W.Frag} {mg : Str → Option Value} {base : Heap} {x qual : Str} {st : Stmt} {f : Addr} {fd : FuncData} {N ps : List Str} {k : Nat} {sp : Sp}
theorem _root_.L2.Fun.okN (F : Fun K x qual st f fd) (S : FnScope N ps (defScope st)) (len : ∀ vs H Q E, sp vs H Q E → vs.length = ps.length)
    (hb : ∀ (cdv : Value) (A : Around) (outer : List Env) (s : Shared) (H : Hp) (vs : List V) (Q : VK) (E : XK), Room k (A.deeper (envOfC qual (defScope st) s.heap.objs.size f cdv)) → sp vs H Q E →
      ∃ t, PSs (cxOf (L2N.CX P w) P w K mg base N qual (defScope st) f cdv A outer s H E) (defBody st) t ∧ t { nx := fun _ H' => Q .non H', rt := Q } (start N vs) H) : FnOk P w K mg base (L2N.CX P w) (k + 1) f fd ps sp := by
  obtain ⟨oc, od, kV, doc, pm, an, cdv, ct, osl, rfl, l, c⟩ := F.ex
  exact fn_of l c S len fun A outer s H vs Q E r q => hb cdv A outer s H vs Q E r q
theorem _root_.L2.Fun.okH (F : Fun K x qual st f fd) (S : FnScope N ps (defScope st)) (len : ∀ vs H Q E, sp vs H Q E → vs.length = ps.length)
    (hb : ∀ (cdv : Value) (A : Around) (outer : List Env) (s : Shared) (H : Hp) (vs : List V) (Q : VK) (E : XK) (p : Addr × Obj), L2H.HotC (L2H.cxH CX0 P w K mg base N qual (defScope st) f cdv A outer s H E p) → L2H.RoomH k (A.deeper (envOfC qual (defScope st) s.heap.objs.size f cdv)) → sp vs H Q E →
      ∃ t, PSs (L2H.cxH CX0 P w K mg base N qual (defScope st) f cdv A outer s H E p) (defBody st) t ∧ t { nx := fun _ H' => Q .non H', rt := Q } (start N vs) H) : L2H.FnH P w K mg base CX0 (k + 1) f fd ps sp := by
  obtain ⟨oc, od, kV, doc, pm, an, cdv, ct, osl, rfl, l, c⟩ := F.ex
  exact L2H.fn_ofH l c S len fun A outer s H vs Q E p hot r q => hb cdv A outer s H vs Q E p ⟨p, ⟨hot.1, hot.2⟩, List.mem_singleton.mpr rfl⟩ r q
end
theorem passA0 {X : Cx} {E : L2.St → XK} (σ : L2.St) : PassesAt CX0 X σ (E σ) := fun _ _ _ _ _ _ z => z.elim
/-- around a body nothing is let out -/
theorem takesN0 {X : Cx} : L2N.Takes X (fun _ _ _ _ => False) := fun _ _ x => by
  obtain ⟨_, _, _, _, _, _, _, _, _, _, _, _, _, _, _, _, z⟩ := x
  exact z.elim
/-! ### raise C(e, ..) -/
section
variable {X : Cx} {CX : CXT} {x : Str} {e : Expr} {es : List Expr} {ta : TA} {p pos pos2 : Pos} {C fI : Addr} {k : Nat} {fd : FuncData} {ps : List Str} {fs : List Str} {ok : List V → Hp → Prop} {W : WX}
theorem ps_raiseS (hc : X.calm = true) (tk : L2N.Takes X W) (T : OexC X.K C) (iC : PySem.W.findIn X.K (.ref C) "__init__" = some (some (.ref fI))) (tI : PySem.W.typeIn X.K (.ref fI) = some (.type "function"))
    (F1 : FnOk X.prog X.w X.K X.mg X.base CX k fI fd ps (spInit C fs ok)) (hr : Room (k + 1) X.A) (hb : Binds X.K fd ps []) (hx : Passes CX X (fun _ _ _ => False)) (hg : Gl X x) (hm : X.mg x = some (.ref C)) (ha : PA X (e :: es) ta)
    (mono : ∀ {P Q : List V → Hp → Prop}, (∀ vs H, P vs H → Q vs H) → ∀ {σ H}, ta σ H P → ta σ H Q)
    (hdb : (x == ("__debug__" : Str)) = false := by decide) (he : starEach (e :: es) X.env = (false, eval e X.env) :: starEach es X.env := by rfl) (hpl : (backTo pos (starEach es X.env)).any (·.1) = false := by rfl) :
    PS X (.Raise (some (.Call (.Name x p) (e :: es) [] pos)) none pos2) (fun _ σ H => tMkS C fs ok ta σ H fun cls d H' => W cls d σ H') := by
  have m := pmkN_sup (p := p) (pos := pos) T iC tI F1 hr hb hx hg hm ha hdb he hpl
  exact L2N.ps_raise (t := tMkS C fs ok ta) hc tk fun pins s σ H Q I h => m pins s σ H Q I (tMk_of mono h)
end
/-! ### the caught exception, asked -/
structure ErrC (K : PySem.W.Frag) (C : Addr) : Prop where
  ga : PySem.W.findIn K (.ref C) "__getattribute__" = some (some (.builtin "BaseException.__getattribute__"))
  gg : PySem.W.findIn K (.ref C) "__getattr__" = some none
  exC : PySem.W.subIn K (.ref C) (.type "BaseException") = some true
  hdC : PySem.W.hasDictIn K C = true
  ic : PySem.W.isClsIn K C = true
  ca : PySem.W.findIn K (.ref C) "__class__" = some (some (.builtin "object.__class__"))
  cn : PySem.W.specialIn K (.builtin "object.__class__") "__get__" = some (some (.builtin "getset_descriptor.__get__"))
  ct : PySem.W.takesIn K (.builtin "object.__class__") = some true
  mo : PySem.W.mroIn K C (.type "object") = some true
theorem ErrC.xf {K : PySem.W.Frag} {C : Addr} (T : ErrC K C) : XfC K C := ⟨T.ga, T.gg, T.exC, T.hdC⟩
def rIsD (K : PySem.W.Frag) (C a : Addr) (cls : Value) (d : Option Addr) : List V → Hp → VK → Prop := fun xs H Q => cls = .ref C ∧ ∃ (dd : Addr) (fs : List (Str × V)) (c : V) (cv : Value) (b : Bool), d = some dd ∧ H dd = some (.xd fs) ∧ xs = [.ref a, c] ∧ (∀ u, RelV c u → u = cv) ∧ PySem.W.kitOne K (.ref C) cv = some b ∧ Q (.bl b) H
theorem call_isD {X : Cx} {a C : Addr} {cls : Value} {d : Option Addr} {oe : Obj} {pn : List (Addr × Obj)} (T : ErrC X.K C) (hz : Zc cls d oe) (hf : ∃ vs, oe.data = .fields vs) : CallR (X.suite a ((a, oe) :: pn)) (.builtin "isinstance") (rIsD X.K C a cls d) := by
  intro pins s σ H xs us Q I r h
  obtain ⟨ec, dd, fs, c, cv, b, ed, hdd, rfl, hcv, hk, q⟩ := h
  subst ec
  subst ed
  obtain ⟨u1, rest, rfl, r1, rr⟩ : ∃ u1 rest, us = u1 :: rest ∧ RelV (.ref a) u1 ∧ Vals [c] rest := by
    cases r with
    | cons x y => exact ⟨_, _, rfl, x, y⟩
  obtain ⟨u2, rfl, r2⟩ := rr.one
  cases r1
  have e2 := hcv _ r2
  subst e2
  obtain ⟨hget, _⟩ := I.pin (a, oe) (List.mem_append_left _ List.mem_cons_self)
  obtain ⟨vs, hv⟩ := hf
  obtain ⟨mA, hns, _⟩ := (show ObjOk X.prog X.w H s.heap dd (.xd fs) from I.hok dd _ hdd)
  obtain ⟨od, ho, _⟩ := lookIn_ns hns
  have J : PySem.W.InstAt s.heap a oe C (some od) := ⟨hget, hz.1, by unfold PySem.W.notCls; rw [hv] <;> rfl, by rw [hz.2]; exact ho⟩
  exact PySem.W.kia_one (PySem.W.kitx_exc T.ic T.ga T.gg T.exC T.ca T.cn T.ct T.mo) I.kIn J hk (fun z => nomatch z) fun tk => ⟨.bl b, H, I.kept (t' := tk) fun _ _ z => z, rfl, q⟩
/-- the handled exception of a suite, for calls within it -/
theorem hot_suite {X : Cx} {a : Addr} {oe : Obj} {cls : Value} {d : Option Addr} {pn : List (Addr × Obj)} (hz : L2N.Zn cls d oe) (hf : ∃ vs, oe.data = .fields vs) : L2H.HotC (X.suite a ((a, oe) :: pn)) := by
  obtain ⟨vs, hv⟩ := hf
  exact ⟨(a, oe), ⟨rfl, vs, hv, hz.2.2 vs hv⟩, List.mem_cons_self⟩
/-- a class in an except clause, of itself -/
theorem exm_self {K : PySem.W.Frag} {C : Addr} (h1 : PySem.W.subIn K (.ref C) (.type "BaseException") = some true) (h2 : PySem.W.isClsIn K C = true) (h3 : PySem.W.typeIn K (.ref C) = some (.type "type")) {cls : Value} {b : Bool} (h4 : PySem.W.subIn K cls (.ref C) = some b) : PySem.W.exmOne K cls (.ref C) = some b := by
  have e1 : (PySem.W.subIn K (.ref C) (.type "BaseException") == some true) = true := by rw [h1] <;> rfl
  have e2 : ((PySem.W.clsIn K C).isSome && PySem.W.typeIn K (.ref C) == some (.type "type")) = true := by
    have h5 : (PySem.W.clsIn K C).isSome = true := h2
    rw [h5, h3] <;> rfl
  show (if (PySem.W.subIn K (.ref C) (.type "BaseException") == some true) = true then (if ((PySem.W.clsIn K C).isSome && PySem.W.typeIn K (.ref C) == some (.type "type")) = true then PySem.W.subIn K cls (.ref C) else none) else none) = some b
  rw [if_pos e1, if_pos e2]
  exact h4
end Own
namespace Own
open PySem PySem.Spec PyProof.Rows L2 HT
theorem mono1 {i : Nat} {P Q : List V → Hp → Prop} (hm : ∀ vs H, P vs H → Q vs H) {σ : L2.St} {H : Hp} (h : tCons (tVar i) tNil σ H P) : tCons (tVar i) tNil σ H Q := by
  obtain ⟨v, hv, hp⟩ := h
  exact ⟨v, hv, hm _ _ hp⟩
theorem monoS {x : Str} {P Q : List V → Hp → Prop} (hm : ∀ vs H, P vs H → Q vs H) {σ : L2.St} {H : Hp} (h : tCons (tC (.str x)) tNil σ H P) : tCons (tC (.str x)) tNil σ H Q := hm _ _ h
end Own
namespace Own
open PySem PySem.Spec PyProof.Rows L2 HT
/-! ### positions -/
def Ter.step (n : Int) : Ter → Option Ter
  | .var _ => none
  | .ap _ as => if 1 ≤ n then as[(n - 1).toNat]? else none
def Ter.at : Ter → List Int → Option Ter
  | t, [] => some t
  | t, n :: r => (t.step n).bind fun u => u.at r
theorem at_app : ∀ (ns ms : List Int) (t : Ter), t.at (ns ++ ms) = (t.at ns).bind fun u => u.at ms
  | [], _, _ => rfl
  | n :: r, ms, t => by
    show ((t.step n).bind fun u => u.at (r ++ ms)) = _
    rw [show t.at (n :: r) = (t.step n).bind fun u => u.at r from rfl]
    cases t.step n with
    | none => rfl
    | some u => exact at_app r ms u
theorem at_one (n : Int) (t : Ter) : t.at [n] = t.step n := by
  show ((t.step n).bind fun u => some u) = _
  cases t.step n <;> rfl
theorem at_snoc {ns : List Int} {n : Int} {t u : Ter} (h : t.at ns = some u) : t.at (ns ++ [n]) = u.step n := by
  rw [at_app, h]
  exact at_one n u
theorem at_none {ns : List Int} (ms : List Int) {t : Ter} (h : t.at ns = none) : t.at (ns ++ ms) = none := by rw [at_app, h]; rfl
/-- put in the place of the subterm at a position -/
def Ter.put : Ter → Ter → List Int → Ter
  | _, s, [] => s
  | .var k, _, _ :: _ => .var k
  | .ap f as, s, n :: r => .ap f (as.modify (n - 1).toNat fun a => a.put s r)
theorem step_eq (f : Str) (as : List Ter) (n : Int) : (Ter.ap f as).step n = if 1 ≤ n then as[(n - 1).toNat]? else none := rfl
theorem step_ap {f : Str} {as : List Ter} {n : Int} {u : Ter} (h : (Ter.ap f as).step n = some u) : 1 ≤ n ∧ as[(n - 1).toNat]? = some u := by
  rw [step_eq] at h
  by_cases c : 1 ≤ n
  · rw [if_pos c] at h
    exact ⟨c, h⟩
  · rw [if_neg c] at h
    cases h
theorem step_var {k : Key} {n : Int} : (Ter.var k).step n = none := rfl
theorem put_at (s : Ter) : ∀ (ns : List Int) (t u : Ter), t.at ns = some u → (t.put s ns).at ns = some s
  | [], t, u, _ => by cases t <;> rfl
  | n :: r, .var k, u, h => by cases h
  | n :: r, .ap f as, u, h => by
    cases e : (Ter.ap f as).step n with
    | none => rw [show (Ter.ap f as).at (n :: r) = ((Ter.ap f as).step n).bind fun u => u.at r from rfl, e] at h; cases h
    | some a =>
      have h : a.at r = some u := by rw [show (Ter.ap f as).at (n :: r) = ((Ter.ap f as).step n).bind fun u => u.at r from rfl, e] at h; exact h
      obtain ⟨h1, h2⟩ := step_ap e
      show ((Ter.ap f _).step n).bind _ = _
      rw [step_eq]
      rw [if_pos h1, List.getElem?_modify_eq, h2]
      exact put_at s r a u h
theorem put_put (s : Ter) : ∀ (ns : List Int) (t u : Ter), t.at ns = some u → (t.put s ns).put u ns = t
  | [], t, u, h => by
    cases (show some t = some u from h)
    cases s <;> rfl
  | n :: r, .var k, u, h => by cases h
  | n :: r, .ap f as, u, h => by
    cases e : (Ter.ap f as).step n with
    | none => rw [show (Ter.ap f as).at (n :: r) = ((Ter.ap f as).step n).bind fun u => u.at r from rfl, e] at h; cases h
    | some a =>
      have h : a.at r = some u := by rw [show (Ter.ap f as).at (n :: r) = ((Ter.ap f as).step n).bind fun u => u.at r from rfl, e] at h; exact h
      obtain ⟨h1, h2⟩ := step_ap e
      show Ter.ap f ((as.modify (n - 1).toNat fun a => a.put s r).modify (n - 1).toNat fun a => a.put u r) = Ter.ap f as
      congr 1
      apply List.ext_getElem?
      intro j
      by_cases hj : (n - 1).toNat = j
      · subst hj
        rw [List.getElem?_modify_eq, List.getElem?_modify_eq, h2]
        exact congrArg some (put_put s r a u h)
      · rw [List.getElem?_modify_ne _ _ hj, List.getElem?_modify_ne _ _ hj]
/-- what stands at a place that is neither above nor below -/
theorem put_beside (s : Ter) : ∀ (ms ns : List Int) (t u v : Ter), (∀ k ∈ ms, 1 ≤ k) → t.at ns = some u → t.at ms = some v → ms.take (min ms.length ns.length) ≠ ns.take (min ms.length ns.length) → (t.put s ns).at ms = some v
  | [], ns, t, u, v, _, _, _, d => by
    rw [show min ([] : List Int).length ns.length = 0 from Nat.zero_min _] at d
    exact absurd rfl d
  | m :: ms, [], t, u, v, _, _, _, d => by
    rw [show min (m :: ms).length ([] : List Int).length = 0 from Nat.min_zero _] at d
    exact absurd rfl d
  | m :: ms, n :: r, .var k, u, v, _, h, _, _ => by cases h
  | m :: ms, n :: r, .ap f as, u, v, pos, h, hm, d => by
    have key : ∀ (q : List Int) (x : Int) (w : Ter), (Ter.ap f as).at (x :: q) = some w → ∃ a, (Ter.ap f as).step x = some a ∧ a.at q = some w := fun q x w h => by
      cases e : (Ter.ap f as).step x with
      | none => rw [show (Ter.ap f as).at (x :: q) = ((Ter.ap f as).step x).bind fun u => u.at q from rfl, e] at h; cases h
      | some a => exact ⟨a, rfl, by rw [show (Ter.ap f as).at (x :: q) = ((Ter.ap f as).step x).bind fun u => u.at q from rfl, e] at h; exact h⟩
    obtain ⟨a, ea, ha⟩ := key r n u h
    obtain ⟨b, eb, hb⟩ := key ms m v hm
    obtain ⟨h1, h2⟩ := step_ap ea
    obtain ⟨g1, g2⟩ := step_ap eb
    show ((Ter.ap f (as.modify (n - 1).toNat fun a => a.put s r)).step m).bind _ = some v
    rw [step_eq]
    rw [if_pos g1]
    by_cases e : m = n
    · subst e
      rw [h2] at g2
      cases g2
      rw [List.getElem?_modify_eq, h2]
      refine put_beside s ms r a u v (fun k hk => pos k (List.mem_cons_of_mem _ hk)) ha hb fun z => d ?_
      rw [List.length_cons, List.length_cons, Nat.succ_min_succ, List.take_succ_cons, List.take_succ_cons, z]
    · rw [List.getElem?_modify_ne _ _ (show (n - 1).toNat ≠ (m - 1).toNat by omega), g2]
      exact hb
/-- what stands above -/
theorem put_above (s : Ter) : ∀ (ms ns : List Int) (t u v : Ter), t.at ns = some u → t.at ms = some v → ms.length < ns.length → ms.take (min ms.length ns.length) = ns.take (min ms.length ns.length) → ∃ f as bs, v = .ap f as ∧ (t.put s ns).at ms = some (.ap f bs) ∧ bs.length = as.length
  | [], [], _, _, _, _, _, l, _ => absurd l (by simp)
  | [], n :: r, .var k, u, v, h, _, _, _ => by cases h
  | [], n :: r, .ap f as, u, v, h, hv, l, _ => by
    cases (show some _ = some v from hv)
    exact ⟨f, as, _, rfl, rfl, List.length_modify _ _ _⟩
  | m :: ms, [], _, _, _, _, _, l, _ => absurd l (by simp)
  | m :: ms, n :: r, .var k, u, v, h, _, _, _ => by cases h
  | m :: ms, n :: r, .ap f as, u, v, h, hv, l, e => by
    rw [List.length_cons, List.length_cons, Nat.succ_min_succ, List.take_succ_cons, List.take_succ_cons] at e
    obtain ⟨e1, e2⟩ := List.cons.inj e
    subst e1
    have key : ∀ (q : List Int) (x : Int) (w : Ter), (Ter.ap f as).at (x :: q) = some w → ∃ a, (Ter.ap f as).step x = some a ∧ a.at q = some w := fun q x w h => by
      cases e : (Ter.ap f as).step x with
      | none => rw [show (Ter.ap f as).at (x :: q) = ((Ter.ap f as).step x).bind fun u => u.at q from rfl, e] at h; cases h
      | some a => exact ⟨a, rfl, by rw [show (Ter.ap f as).at (x :: q) = ((Ter.ap f as).step x).bind fun u => u.at q from rfl, e] at h; exact h⟩
    obtain ⟨a, ea, ha⟩ := key r m u h
    obtain ⟨b, eb, hb⟩ := key ms m v hv
    obtain ⟨h1, h2⟩ := step_ap ea
    rw [ea] at eb
    cases eb
    obtain ⟨g, xs, ys, rfl, hy, ly⟩ := put_above s ms r a u v ha hb (by simp only [List.length_cons] at l; omega) e2
    refine ⟨g, xs, ys, rfl, ?_, ly⟩
    show ((Ter.ap f (as.modify (m - 1).toNat fun a => a.put s r)).step m).bind _ = _
    rw [step_eq]
    rw [if_pos h1, List.getElem?_modify_eq, h2]
    exact hy
/-- from below: one level of put -/
theorem put_up {s : Ter} {ns ms : List Int} {n : Int} {t : Ter} {f : Str} {as : List Ter} {a : Ter} (ht : t.at ns = some (.ap f as)) (h1 : 1 ≤ n) (ha : as[(n - 1).toNat]? = some a) :
    (Ter.ap f as).put s (n :: ms) = .ap f (as.take (n - 1).toNat ++ a.put s ms :: as.drop ((n - 1).toNat + 1)) := by
  show Ter.ap f (as.modify (n - 1).toNat fun a => a.put s ms) = _
  congr 1
  obtain ⟨hl, e⟩ := List.getElem?_eq_some_iff.mp ha
  rw [List.modify_eq_take_cons_drop hl, e]
/-! ### the walk -/
abbrev Row := List Int × Ter
mutual
def Ter.walk (here : List Int) : Ter → List Row
  | .var k => [(here, .var k)]
  | .ap f as => (here, .ap f as) :: Ter.walks here 1 as
def Ter.walks (here : List Int) (i : Int) : List Ter → List Row
  | [] => []
  | a :: r => a.walk (here ++ [i]) ++ Ter.walks here (i + 1) r
end
theorem walks_app (here : List Int) : ∀ (as bs : List Ter) (i : Int), Ter.walks here i (as ++ bs) = Ter.walks here i as ++ Ter.walks here (i + as.length) bs
  | [], bs, i => by
    show Ter.walks here i bs = [] ++ Ter.walks here (i + (0 : Nat)) bs
    simp
  | a :: r, bs, i => by
    show a.walk (here ++ [i]) ++ Ter.walks here (i + 1) (r ++ bs) = (a.walk (here ++ [i]) ++ Ter.walks here (i + 1) r) ++ Ter.walks here (i + ((r.length + 1 : Nat) : Int)) bs
    rw [walks_app here r bs (i + 1), List.append_assoc, show i + 1 + (r.length : Int) = i + ((r.length + 1 : Nat) : Int) by omega]
mutual
theorem walk_len (here : List Int) : ∀ t : Ter, (t.walk here).length = t.size
  | .var k => rfl
  | .ap f as => by
    show (Ter.walks here 1 as).length + 1 = Ter.sizes as + 1
    rw [walks_len here as 1]
theorem walks_len (here : List Int) : ∀ (ts : List Ter) (i : Int), (Ter.walks here i ts).length = Ter.sizes ts
  | [], _ => rfl
  | t :: r, i => by
    show (t.walk _ ++ Ter.walks here (i + 1) r).length = t.size + Ter.sizes r
    rw [List.length_append, walk_len, walks_len here r]
end
/-- symbols of at most three arguments -/
def ar3 (f : Str) (n : Nat) : Prop := PyData.strOk f = true ∧ n ≤ 3
def anyKey (_ : Key) : Prop := True
theorem at_wf {W : Str → Nat → Prop} {U : Key → Prop} : ∀ (ns : List Int) (t u : Ter), t.wf W U → t.at ns = some u → u.wf W U ∧ u.size ≤ t.size ∧ u.nest + ns.length ≤ t.nest
  | [], t, u, h, e => by
    cases (show some t = some u from e)
    exact ⟨h, Nat.le_refl _, Nat.le_refl _⟩
  | n :: r, .var k, u, h, e => by cases e
  | n :: r, .ap f as, u, h, e => by
    cases e2 : (Ter.ap f as).step n with
    | none => rw [show (Ter.ap f as).at (n :: r) = ((Ter.ap f as).step n).bind fun u => u.at r from rfl, e2] at e; cases e
    | some a =>
      have e : a.at r = some u := by rw [show (Ter.ap f as).at (n :: r) = ((Ter.ap f as).step n).bind fun u => u.at r from rfl, e2] at e; exact e
      obtain ⟨h1, h2⟩ := step_ap e2
      have hm := wfs_get h.2 h2
      obtain ⟨k1, k2, k3⟩ := at_wf r a u hm e
      have s1 := size_le_of h2
      have n1 := nest_le_of h2
      refine ⟨k1, ?_, ?_⟩
      · show _ ≤ Ter.sizes as + 1
        omega
      · show u.nest + (r.length + 1) ≤ Ter.nests as + 1
        omega
mutual
theorem walk_mem (here : List Int) : ∀ (t : Ter), t.wf ar3 anyKey → ∀ x ∈ t.walk here, ∃ q, x.1 = here ++ q ∧ t.at q = some x.2 ∧ ∀ y ∈ q, 1 ≤ y ∧ y ≤ 3
  | .var k, _, x, hx => by
    rw [List.mem_singleton.mp hx]
    exact ⟨[], (List.append_nil _).symm, rfl, fun y hy => by cases hy⟩
  | .ap f as, h, x, hx => by
    rcases List.mem_cons.mp hx with rfl | hx
    · exact ⟨[], (List.append_nil _).symm, rfl, fun y hy => by cases hy⟩
    · obtain ⟨j, a, q, hj, e1, e2, e3⟩ := walks_mem here as 1 (by omega) h.2 x hx
      have lt := (List.getElem?_eq_some_iff.mp hj).1
      have l3 := h.1.2
      refine ⟨(1 + (j : Int)) :: q, e1, ?_, fun y hy => ?_⟩
      · show ((Ter.ap f as).step (1 + (j : Int))).bind _ = _
        rw [step_eq]
        rw [if_pos (by omega), show (1 + (j : Int) - 1).toNat = j by omega, hj]
        exact e2
      · rcases List.mem_cons.mp hy with rfl | hy
        · omega
        · exact e3 y hy
theorem walks_mem (here : List Int) : ∀ (ts : List Ter) (i : Int), 0 ≤ i → Ter.wfs ar3 anyKey ts → ∀ x ∈ Ter.walks here i ts, ∃ (j : Nat) (a : Ter) (q : List Int), ts[j]? = some a ∧ x.1 = here ++ (i + (j : Int)) :: q ∧ a.at q = some x.2 ∧ ∀ y ∈ q, 1 ≤ y ∧ y ≤ 3
  | [], _, _, _, x, hx => by cases hx
  | t :: r, i, hi, h, x, hx => by
    rcases List.mem_append.mp hx with hx | hx
    · obtain ⟨q, e1, e2, e3⟩ := walk_mem (here ++ [i]) t h.1 x hx
      refine ⟨0, t, q, rfl, ?_, e2, e3⟩
      rw [e1, List.append_assoc]
      show here ++ (i :: q) = here ++ (i + ((0 : Nat) : Int)) :: q
      rw [show i + ((0 : Nat) : Int) = i by omega]
    · obtain ⟨j, a, q, hj, e1, e2, e3⟩ := walks_mem here r (i + 1) (by omega) h.2 x hx
      refine ⟨j + 1, a, q, hj, ?_, e2, e3⟩
      rw [e1, show i + 1 + (j : Int) = i + ((j + 1 : Nat) : Int) by omega]
end
/-! ### rows on the heap -/
inductive RowAt (H : Hp) : V → Row → Prop
  | mk {r b : Addr} {x : V} {p : List Int} {u : Ter} : H r = some (.tup [.ref b, x]) → H b = some (.tup (p.map V.int)) → TmAt H x u → RowAt H (.ref r) (p, u)
inductive RowAll (H : Hp) : List V → List Row → Prop
  | nil : RowAll H [] []
  | cons {v : V} {p : Row} {vs : List V} {ps : List Row} : RowAt H v p → RowAll H vs ps → RowAll H (v :: vs) (p :: ps)
theorem RowAt.mono {H H' : Hp} (m : Tups H H') {v : V} {p : Row} (h : RowAt H v p) : RowAt H' v p := by
  cases h with
  | mk e1 e2 e3 => exact .mk (m _ _ e1) (m _ _ e2) (TmAt.mono m _ _ e3)
theorem RowAll.mono {H H' : Hp} (m : Tups H H') : ∀ {vs : List V} {ps : List Row}, RowAll H vs ps → RowAll H' vs ps
  | _, _, .nil => .nil
  | _, _, .cons a r => .cons (a.mono m) (r.mono m)
theorem RowAll.len {H : Hp} : ∀ {vs : List V} {ps : List Row}, RowAll H vs ps → vs.length = ps.length
  | _, _, .nil => rfl
  | _, _, .cons _ r => congrArg (· + 1) r.len
theorem RowAll.app {H : Hp} : ∀ {vs ws : List V} {ps qs : List Row}, RowAll H vs ps → RowAll H ws qs → RowAll H (vs ++ ws) (ps ++ qs)
  | _, _, _, _, .nil, b => b
  | _, _, _, _, .cons a r, b => .cons a (r.app b)
theorem RowAll.get {H : Hp} : ∀ {vs : List V} {ps : List Row} {i : Nat} {v : V}, RowAll H vs ps → vs[i]? = some v → ∃ p, ps[i]? = some p ∧ RowAt H v p
  | _, _, _, _, .nil, h => by cases h
  | _, _, 0, _, .cons a r, h => by
    cases (show some _ = some _ from h)
    exact ⟨_, rfl, a⟩
  | _, _, i + 1, _, .cons a r, h => r.get (i := i) h
/-! ### a position's text -/
def posOk (ns : List Int) : Prop := ns.length ≤ 100 ∧ ∀ y ∈ ns, 0 ≤ y ∧ y < 900
theorem pos_text {ns : List Int} (h : posOk ns) : (∀ y ∈ ns, y.natAbs.log2 < 1920) ∧ (tupleText (ns.map fun y => ((toString y : String) : Str))).length ≤ 1000000 := by
  refine ⟨fun y hy => ?_, ?_⟩
  · have := h.2 y hy
    refine Nat.lt_of_le_of_lt (Nat.log2_le_self _) ?_
    omega
  · have t1 := fmt_text (ns.map fun y => ((toString y : String) : Str))
    have t2 : ∀ l : List Int, (∀ y ∈ l, 0 ≤ y ∧ y < 900) → piled (l.map fun y => ((toString y : String) : Str)) ≤ 10 * l.length := fun l => by
      induction l with
      | nil => exact fun _ => Nat.zero_le _
      | cons y r ih =>
        intro hl
        have i1 := ih fun z hz => hl z (List.mem_cons_of_mem _ hz)
        have i2 := hl y List.mem_cons_self
        have i3 := num_len y i2.1 i2.2
        rw [List.map_cons, piled_cons, List.length_cons]
        omega
    have t3 := t2 ns h.2
    have t4 := h.1
    omega
theorem posOk_walk {t : Ter} {x : Row} (h : t.wf ar3 anyKey) (n : t.nest ≤ 50) (hx : x ∈ t.walk []) : posOk x.1 ∧ t.at x.1 = some x.2 ∧ ∀ y ∈ x.1, 1 ≤ y := by
  obtain ⟨q, e1, e2, e3⟩ := walk_mem [] t h x hx
  have e1 : x.1 = q := e1
  obtain ⟨_, _, k3⟩ := at_wf q t x.2 h e2
  rw [e1]
  exact ⟨⟨by omega, fun y hy => by have := e3 y hy; omega⟩, e2, fun y hy => (e3 y hy).1⟩
end Own
namespace Own
open PySem PySem.Spec PyProof.Rows L2 HT
theorem cut_take (xs : List V) (i : Nat) (h : i ≤ xs.length) : cutV xs none (some (i : Int)) = xs.take i := by
  unfold cutV
  rw [HT.sIx_nat, HT.sIx_none, Nat.min_eq_left h]
  simp
theorem cut_drop (xs : List V) (i : Nat) (h : i ≤ xs.length) : cutV xs (some (i : Int)) none = xs.drop i := by
  unfold cutV
  rw [HT.sIx_nat, HT.sIx_none, Nat.min_eq_left h]
  exact List.take_of_length_le (by rw [List.length_drop]; omega)
theorem TmAll.take {H : Hp} : ∀ {vs : List V} {ts : List Ter} (i : Nat), TmAll H vs ts → TmAll H (vs.take i) (ts.take i)
  | _, _, 0, _ => .nil
  | _, _, i + 1, .nil => .nil
  | _, _, i + 1, .cons a r => .cons a (r.take i)
theorem TmAll.drop {H : Hp} : ∀ {vs : List V} {ts : List Ter} (i : Nat), TmAll H vs ts → TmAll H (vs.drop i) (ts.drop i)
  | _, _, 0, h => h
  | _, _, i + 1, .nil => .nil
  | _, _, i + 1, .cons a r => r.drop i
/-- a position and one with more behind it -/
theorem catA_ints {K : PySem.W.Frag} {H : Hp} {a b : Addr} {ns ms : List Int} {Q : VK} (ha : H a = some (.tup (ns.map V.int))) (hb : H b = some (.tup (ms.map V.int))) (ne : ms ≠ []) (hl : ns.length + ms.length ≤ 1000)
    (q : ∀ (p : Addr) (H' : Hp), Same H H' → H' p = some (.tup ((ns ++ ms).map V.int)) → Q (.ref p) H') : rCatA K (.ref a) (.ref b) H Q := by
  refine ⟨a, b, _, _, rfl, rfl, .inl (.inl ha), .inl (.inl hb), small6 (by rw [List.length_map, List.length_map]; omega), fun z => ?_, fun _ z => ?_, fun _ _ p np => ?_⟩
  · have : ns = [] := List.map_eq_nil_iff.mp z
    subst this
    exact q b H (Same.refl _) hb
  · exact absurd (List.map_eq_nil_iff.mp z) ne
  · refine q p _ (same_new np _) ?_
    rw [upd_same, List.map_append]
end Own
namespace Own
open PySem PySem.Spec PyProof.Rows L2 HT
mutual
theorem wf_true : ∀ t : Ter, t.wf (fun _ _ => True) (fun _ => True)
  | .var _ => trivial
  | .ap _ as => ⟨trivial, wfs_true as⟩
theorem wfs_true : ∀ ts : List Ter, Ter.wfs (fun _ _ => True) (fun _ => True) ts
  | [] => trivial
  | t :: r => ⟨wf_true t, wfs_true r⟩
end
end Own
namespace Own
open PySem PySem.Spec PyProof.Rows L2 HT
theorem sizes_modify (f : Ter → Ter) (n : Nat) (h : ∀ a, (f a).size ≤ a.size + n) : ∀ (as : List Ter) (i : Nat), Ter.sizes (as.modify i f) ≤ Ter.sizes as + n
  | [], i => by rw [List.modify_nil]; exact Nat.zero_le _
  | a :: r, 0 => by
    rw [List.modify_zero_cons]
    have := h a
    show (f a).size + Ter.sizes r ≤ a.size + Ter.sizes r + n
    omega
  | a :: r, i + 1 => by
    rw [List.modify_succ_cons]
    have := sizes_modify f n h r i
    show a.size + Ter.sizes (r.modify i f) ≤ a.size + Ter.sizes r + n
    omega
theorem put_size (s : Ter) : ∀ (ns : List Int) (t : Ter), (t.put s ns).size ≤ t.size + s.size
  | [], t => by cases t <;> exact Nat.le_add_left _ _
  | n :: r, .var k => Nat.le_add_right _ _
  | n :: r, .ap f as => by
    have := sizes_modify (fun a => a.put s r) s.size (fun a => put_size s r a) as (n - 1).toNat
    show Ter.sizes (as.modify (n - 1).toNat fun a => a.put s r) + 1 ≤ Ter.sizes as + 1 + s.size
    omega
theorem eqv_ints : ∀ ns ms : List Int, PyData.eqvAll (ns.map PyData.int) (ms.map PyData.int) = decide (ns = ms)
  | [], [] => rfl
  | [], m :: ms => rfl
  | n :: ns, [] => rfl
  | n :: ns, m :: ms => by
    show ((n == m) && PyData.eqvAll (ns.map PyData.int) (ms.map PyData.int)) = _
    rw [eqv_ints ns ms]
    by_cases h1 : n = m
    · subst h1
      by_cases h2 : ns = ms
      · subst h2
        simp
      · simp [h2]
    · simp [h1]
theorem eqv_tints (ns ms : List Int) : PyData.eqv (.tuple (ns.map PyData.int)) (.tuple (ms.map PyData.int)) = decide (ns = ms) := eqv_ints ns ms
theorem lay_ints : ∀ ns : List Int, PyData.canLayAll0 (ns.map PyData.int) = true ∧ PyData.depthAll (ns.map PyData.int) = 0
  | [] => ⟨rfl, rfl⟩
  | n :: r => by
    obtain ⟨h1, h2⟩ := lay_ints r
    exact ⟨by show (true && PyData.canLayAll0 (r.map PyData.int)) = true; rw [h1]; rfl, by show max 0 (PyData.depthAll (r.map PyData.int)) = 0; rw [h2]; rfl⟩
theorem shaped_tints (ns : List Int) : SeqAt.shaped (.tuple (ns.map PyData.int)) = true := by
  obtain ⟨h1, h2⟩ := lay_ints ns
  show (PyData.canLayAll0 (ns.map PyData.int) && decide (PyData.depthAll (ns.map PyData.int) + 1 ≤ 64)) = true
  rw [h1, h2]
  rfl
/-- the beginning of a position -/
theorem slA_ints {K : PySem.W.Frag} {H : Hp} {a : Addr} {ns : List Int} {n : Nat} {Q : VK} (ha : H a = some (.tup (ns.map V.int))) (hn : n ≤ ns.length)
    (q : ∀ (p : Addr) (H' : Hp), Same H H' → H' p = some (.tup ((ns.take n).map V.int)) → Q (.ref p) H') : rSlA K (.ref a) none (some (n : Int)) H Q := by
  refine ⟨a, _, rfl, .inl (.inl ha), fun z => ?_, fun _ p np => ?_⟩
  · obtain ⟨_, z⟩ := z
    rw [HT.sIx_nat, List.length_map] at z
    refine q a H (Same.refl _) ?_
    rw [ha, show ns.take n = ns from List.take_of_length_le (by omega)]
  · refine q p _ (same_new np _) ?_
    rw [upd_same, cut_take _ _ (by rw [List.length_map]; exact hn), List.map_take]
theorem passLN {X : Cx} (σ : L2.St) : PassesAt (L2N.CX X.prog X.w) X σ ((fun _ => E0 : L2.St → XK) σ) := fun _ _ _ _ _ _ h => by
  obtain ⟨_, _, _, _, _, _, _, _, _, _, _, _, z⟩ := h
  exact z.elim
end Own
namespace Own
open PySem PySem.Spec PyProof.Rows L2 HT
/-! ### positions as a list, by a stack -/
def kids (p : List Int) (i : Int) : List Ter → List Row
  | [] => []
  | a :: r => (p ++ [i], a) :: kids p (i + 1) r
def allWalk (rs : List Row) : List Row := rs.flatMap fun x => x.2.walk x.1
theorem kids_walk (p : List Int) : ∀ (as : List Ter) (i : Int), allWalk (kids p i as) = Ter.walks p i as
  | [], _ => rfl
  | a :: r, i => by
    show a.walk (p ++ [i]) ++ allWalk (kids p (i + 1) r) = _
    rw [kids_walk p r (i + 1)]
    rfl
theorem kids_len (p : List Int) : ∀ (as : List Ter) (i : Int), (kids p i as).length = as.length
  | [], _ => rfl
  | _ :: r, i => congrArg (· + 1) (kids_len p r (i + 1))
theorem kids_get (p : List Int) : ∀ (as : List Ter) (i : Int) (j : Nat) (a : Ter), as[j]? = some a → (kids p i as)[j]? = some (p ++ [i + (j : Int)], a)
  | [], _, _, _, h => by cases h
  | b :: r, i, 0, a, h => by
    cases (show some b = some a from h)
    show some (p ++ [i], b) = some (p ++ [i + ((0 : Nat) : Int)], b)
    rw [show i + ((0 : Nat) : Int) = i by omega]
  | b :: r, i, j + 1, a, h => by
    show (kids p (i + 1) r)[j]? = _
    rw [kids_get p r (i + 1) j a h, show i + 1 + (j : Int) = i + ((j + 1 : Nat) : Int) by omega]
def rsize (rs : List Row) : Nat := Ter.sizes (rs.map (·.2))
theorem rsize_app (a b : List Row) : rsize (a ++ b) = rsize a + rsize b := by
  unfold rsize
  rw [List.map_append, Ter.sizes_app]
theorem rsize_rev (a : List Row) : rsize a.reverse = rsize a := by
  induction a with
  | nil => rfl
  | cons x r ih =>
    rw [List.reverse_cons, rsize_app, ih]
    show rsize r + (x.2.size + 0) = x.2.size + rsize r
    omega
theorem kids_size (p : List Int) : ∀ (as : List Ter) (i : Int), rsize (kids p i as) = Ter.sizes as
  | [], _ => rfl
  | a :: r, i => by
    have := kids_size p r (i + 1)
    show a.size + rsize (kids p (i + 1) r) = a.size + Ter.sizes r
    rw [this]
/-- what positions keeps -/
def posOf (wv : Bool) (rs : List Row) : List (List Int) := (rs.filter fun x => wv || !x.2.isVar).map (·.1)
theorem posOf_app (wv : Bool) (a b : List Row) : posOf wv (a ++ b) = posOf wv a ++ posOf wv b := by
  unfold posOf
  rw [List.filter_append, List.map_append]
theorem posOf_true (a : List Row) : posOf true a = a.map (·.1) := by
  unfold posOf
  have e : (a.filter fun x => true || !x.2.isVar) = a := List.filter_eq_self.mpr fun x _ => rfl
  rw [e]
theorem walk_ap (p : List Int) (f : Str) (as : List Ter) : (Ter.ap f as).walk p = (p, .ap f as) :: allWalk (kids p 1 as) := by rw [kids_walk]; rfl
/-! ### positions on the heap -/
inductive PosAt (H : Hp) : V → List Int → Prop
  | mk {b : Addr} {p : List Int} : H b = some (.tup (p.map V.int)) → PosAt H (.ref b) p
inductive PosAll (H : Hp) : List V → List (List Int) → Prop
  | nil : PosAll H [] []
  | cons {v : V} {p : List Int} {vs : List V} {ps : List (List Int)} : PosAt H v p → PosAll H vs ps → PosAll H (v :: vs) (p :: ps)
theorem PosAt.mono {H H' : Hp} (m : Tups H H') {v : V} {p : List Int} (h : PosAt H v p) : PosAt H' v p := by
  cases h with
  | mk e => exact .mk (m _ _ e)
theorem PosAll.mono {H H' : Hp} (m : Tups H H') : ∀ {vs : List V} {ps : List (List Int)}, PosAll H vs ps → PosAll H' vs ps
  | _, _, .nil => .nil
  | _, _, .cons a r => .cons (a.mono m) (r.mono m)
theorem PosAll.len {H : Hp} : ∀ {vs : List V} {ps : List (List Int)}, PosAll H vs ps → vs.length = ps.length
  | _, _, .nil => rfl
  | _, _, .cons _ r => congrArg (· + 1) r.len
theorem PosAll.app {H : Hp} : ∀ {vs ws : List V} {ps qs : List (List Int)}, PosAll H vs ps → PosAll H ws qs → PosAll H (vs ++ ws) (ps ++ qs)
  | _, _, _, _, .nil, b => b
  | _, _, _, _, .cons a r, b => .cons a (r.app b)
theorem PosAll.get {H : Hp} : ∀ {vs : List V} {ps : List (List Int)} {i : Nat} {v : V}, PosAll H vs ps → vs[i]? = some v → ∃ p, ps[i]? = some p ∧ PosAt H v p
  | _, _, _, _, .nil, h => by cases h
  | _, _, 0, _, .cons a r, h => by
    cases (show some _ = some _ from h)
    exact ⟨_, rfl, a⟩
  | _, _, i + 1, _, .cons a r, h => r.get (i := i) h
def posD (p : List Int) : PyData := .tuple (p.map PyData.int)
theorem dp_poss {K : PySem.W.Frag} {H : Hp} : ∀ {vs : List V} {ps : List (List Int)}, PosAll H vs ps → DpAll K H vs (ps.map posD)
  | _, _, .nil => .nil
  | _, _, .cons (.mk e) r => .cons (.tup (.inl (.inl e)) (dp_ints _)) (dp_poss r)
theorem fits_poss {ps : List (List Int)} (n : Nat) (h : ps.length ≤ 1000000) (hl : ∀ p ∈ ps, p.length ≤ 1000000) : fitsD (n + 3) (.list (ps.map posD)) := by
  refine ⟨by rw [List.length_map]; exact h, fun d hd => ?_⟩
  obtain ⟨p, hp, rfl⟩ := List.mem_map.mp hd
  refine ⟨by rw [List.length_map]; exact hl p hp, fun d hd => ?_⟩
  obtain ⟨x, _, rfl⟩ := List.mem_map.mp hd
  exact trivial
/-- the last row of a stack -/
theorem RowAll.last {H : Hp} : ∀ {vs : List V} {rs : List Row}, RowAll H vs rs → vs ≠ [] → ∃ vs' v rs' r, vs = vs' ++ [v] ∧ rs = rs' ++ [r] ∧ RowAll H vs' rs' ∧ RowAt H v r
  | _, _, .nil, h => absurd rfl h
  | _, _, .cons a .nil, _ => ⟨[], _, [], _, rfl, rfl, .nil, a⟩
  | _, _, .cons a (.cons b r), _ => by
    obtain ⟨vs', v, rs', x, e1, e2, h1, h2⟩ := RowAll.last (.cons b r) (by simp)
    exact ⟨_ :: vs', v, _ :: rs', x, by rw [e1]; rfl, by rw [e2]; rfl, .cons a h1, h2⟩
/-! ### leaves -/
def isLeaf : Ter → Bool
  | .var _ => true
  | .ap _ as => as.isEmpty
mutual
theorem has_leaf (here : List Int) : ∀ t : Ter, ∃ x ∈ t.walk here, isLeaf x.2 = true
  | .var k => ⟨_, List.mem_singleton.mpr rfl, rfl⟩
  | .ap f [] => ⟨_, List.mem_cons_self, rfl⟩
  | .ap f (a :: r) => by
    obtain ⟨x, hx, hl⟩ := has_leaf (here ++ [1]) a
    exact ⟨x, List.mem_cons_of_mem _ (List.mem_append_left _ hx), hl⟩
end
def leafOf (rs : List Row) : List Row := rs.filter fun x => isLeaf x.2
theorem leaf_step {t u : Ter} {ns : List Int} (h : t.at ns = some u) (hl : isLeaf u = true) (n : Int) (ms : List Int) : t.at (ns ++ (n :: ms)) = none := by
  rw [at_app, h]
  show (u.step n).bind _ = none
  cases u with
  | var k => rfl
  | ap f as =>
    have e : as = [] := by
      cases as with
      | nil => rfl
      | cons a r => cases hl
    subst e
    rw [step_eq]
    split <;> rfl
end Own
set_option maxHeartbeats 2000000
namespace Own
open PySem PySem.Spec PyProof.Rows L2 HT
/-! ### == of deep data -/
section
variable {X : Cx}
def rEqDeep (K : PySem.W.Frag) : R2 := fun x y H Q => ∃ d e, Dp K H x d ∧ Dp K H y e ∧ d.canLay0 = true ∧ e.canLay0 = true ∧ d.depth ≤ 150 ∧ Q (.bl (PyData.eqv d e)) H
theorem op_eqDeep (room : X.A.units + 150 < cLine) : OpR X (compareOp .Eq) (rEqDeep X.K) := by
  intro pn t τ G p r vp vr Q J kp kr
  rintro ⟨d, e, h1, h2, c1, c2, dl, q⟩
  obtain ⟨_, g1⟩ := Dp.reads J d p vp h1 kp
  obtain ⟨_, g2⟩ := Dp.reads J e r vr h2 kr
  exact SeqAt.compareEq_reads g1 g2 c1 c2 (by have := Nat.min_le_left d.depth e.depth; omega) ⟨.bl _, G, J, rfl, q⟩
/-! ### != of two dicts that hold the same data -/
theorem hits_data {pn : List (Addr × Obj)} {τ : L2.St} {G : Hp} {t : Shared} (J : Inv X pn τ G t) {A : Around} (room : A.units + 64 < cLine) {ls : List (Key × V)} {wb : List (Key × Value)} (kb : KV ls wb) {ks : List (Key × V)} {wa : List (Key × Value)} (ka : KV ks wa) :
    (∀ p ∈ ks, ∃ u d, valV ls p.1 = some u ∧ Dp X.K G p.2 d ∧ Dp X.K G u d ∧ SeqAt.shaped d = true ∧ PyData.eqv d d = true) → PySem.W.KeqHits A t wb wa true := by
  unfold KV at ka
  induction ka with
  | nil => exact fun _ => .nil
  | @cons e1 e2 _ _ g _ ih =>
    intro all
    obtain ⟨kk, uu⟩ := e2
    obtain ⟨g1, g2⟩ := g
    have g1 : e1.1 = kk := g1
    obtain ⟨u, d, f1, f2, f3, f4, f5⟩ := all e1 List.mem_cons_self
    have ro := kb.val e1.1
    rw [f1] at ro
    obtain ⟨z, hz, rz⟩ := RelO.some_of ro
    rw [g1] at hz
    obtain ⟨_, r1⟩ := Dp.reads J d _ _ f2 g2
    obtain ⟨_, r2⟩ := Dp.reads J d _ _ f3 rz
    have eq1 := SeqAt.eqAt_reads d d A t _ _ _ _ r1 r2 (SeqAt.canLay_of_shaped f4) (SeqAt.canLay_of_shaped f4) (SeqAt.room_of_shaped f4 room)
    rw [f5] at eq1
    show PySem.W.KeqHits A t wb ((kk, uu) :: _) (true && true)
    exact .hit hz eq1 (ih fun p m => all p (List.mem_cons_of_mem _ m))
def rNeDct (K : PySem.W.Frag) : R2 := fun x y H Q => ∃ a b ks ls, x = .ref a ∧ y = .ref b ∧ H a = some (.dK ks) ∧ H b = some (.dK ls) ∧ ks.length = ls.length ∧
  (∀ p ∈ ks, ∃ u d, valV ls p.1 = some u ∧ Dp K H p.2 d ∧ Dp K H u d ∧ SeqAt.shaped d = true ∧ PyData.eqv d d = true) ∧ Q (.bl false) H
theorem op_neDct (room : X.A.units + 65 < cLine) : OpR X (compareOp .NotEq) (rNeDct X.K) := by
  intro pn t τ G p r vp vr Q J kp kr
  rintro ⟨a, b, ks, ls, rfl, rfl, ea, eb, len, all, q⟩
  cases (show vp = Value.ref a from kp)
  cases (show vr = Value.ref b from kr)
  obtain ⟨_, ya, wa, ra, da⟩ := (show ObjOk X.prog X.w G t.heap a (.dK ks) from J.hok a _ ea)
  obtain ⟨_, yb, wb, rb, db⟩ := (show ObjOk X.prog X.w G t.heap b (.dK ls) from J.hok b _ eb)
  have el : wa.length = wb.length := ra.length.symm.trans (len.trans rb.length)
  refine PySem.W.keq_ne (knd := mixKind X.prog X.w) (r := true) ya yb da db (by omega) (fun _ => hits_data J (A := X.A.in1) (by show X.A.units + 1 + 64 < cLine; omega) rb ra all) ?_
  rw [el, beq_self_eq_true]
  exact ⟨.bl false, G, J, rfl, q⟩
end
/-! ### a dict comprehension over what is walked -/
theorem dc_it {J : It} {n : Nat} {G : Hp → Prop} {Y : Nat → Hp → V → Hp → Prop} (w : Walk J n G Y) {g : TG} {tt : TT} {tk tv : TE} {vs : List Nat} {τ : L2.St} {F1 : Hp} {D : Addr} {Qd : Hp → Prop} (Pv : Nat → Hp → Prop) (h0 : Pv 0 (upd F1 D (.dK []))) (hG : ∀ i F, i ≤ n → Pv i F → G F)
    (hs : ∀ i x F F2, i < n → Pv i F → Y i F x F2 → g x (wipe τ vs) F2 fun τ3 F3 => wipe τ3 vs = wipe τ vs ∧ tt τ3 F3 fun b F4 =>
      if b = true then tk τ3 F4 fun y F5 => tv τ3 F5 fun z F6 => ∃ kvs k, y = kV k ∧ F6 D = some (.dK kvs) ∧ kvs.length < sizeLine ∧ Pv (i + 1) (upd F6 D (.dK (putK kvs k z))) else Pv (i + 1) F4) (hd : ∀ F, Pv n F → Qd F) :
    ∃ W : Nat → Nat → Hp → Prop, (∃ m, W 0 m (upd F1 D (.dK []))) ∧ ∀ i m F, W i m F →
      (J.stop i F ∧ Qd F) ∨ (J.go i F ∧ ∃ Nx : Hp → Prop, (∀ F2, Nx F2 → ∃ m', m' < m ∧ W (i + 1) m' F2) ∧ ∀ x F2, J.yld i F x F2 → g x (wipe τ vs) F2 fun τ3 F3 => wipe τ3 vs = wipe τ vs ∧ tt τ3 F3 fun b F4 =>
        if b = true then tk τ3 F4 fun y F5 => tv τ3 F5 fun z F6 => ∃ kvs k, y = kV k ∧ F6 D = some (.dK kvs) ∧ kvs.length < sizeLine ∧ Nx (upd F6 D (.dK (putK kvs k z))) else Nx F4) := by
  refine ⟨fun i m F => m = n - i ∧ i ≤ n ∧ Pv i F, ⟨n, (Nat.sub_zero n).symm, Nat.zero_le _, h0⟩, ?_⟩
  rintro i m F ⟨rfl, le, pv⟩
  have gf := hG i F le pv
  rcases Nat.lt_or_eq_of_le le with lt | rfl
  · exact .inr ⟨w.goes i F lt gf, Pv (i + 1), fun F2 p2 => ⟨_, by omega, rfl, lt, p2⟩, fun x F2 y => hs i x F F2 lt pv (w.yields i F x F2 lt gf y)⟩
  · exact .inl ⟨w.stops F gf, hd F pv⟩
/-! ### several except clauses, named or not -/
abbrev HdT := Value × Option Nat × (Addr → Value → Option Addr → TS)
def wHds (K : PySem.W.Frag) (Wout : WX) (D : Ends) : List HdT → WX
  | [] => Wout
  | (c, none, ts) :: r => fun cls d σ H => ∃ b, PySem.W.exmOne K cls c = some b ∧ (b = true → ∀ a, H a = none → ts a cls d D σ H) ∧ (b = false → wHds K Wout D r cls d σ H)
  | (c, some i, ts) :: r => fun cls d σ H => ∃ b, PySem.W.exmOne K cls c = some b ∧ (b = true → ∀ a, H a = none → ts a cls d { nx := fun τ G => D.nx (τ.set i none) G, rt := D.rt, bk := fun τ G => D.bk (τ.set i none) G, ct := fun τ G => D.ct (τ.set i none) G } (σ.set i (some (.ref a))) H) ∧
      (b = false → wHds K Wout D r cls d σ H)
inductive Hds (X : Cx) : List ExceptHandler → List HdT → Prop
  | nil : Hds X [] []
  | one {x : Str} {c : Value} {ts : Addr → Value → Option Addr → TS} {b₀ : Stmt} {suite : List Stmt} {np pp : Pos} {hds : List ExceptHandler} {l : List HdT} (hc : Names X x c)
      (hsu : ∀ (a : Addr) (oe : Obj) (cls : Value) (d : Option Addr) (pn : List (Addr × Obj)), L2N.Zn cls d oe → (∃ vs, oe.data = .fields vs) → PSs (X.suite a ((a, oe) :: pn)) (b₀ :: suite) (ts a cls d)) (r : Hds X hds l) :
      Hds X (.ExceptHandler (some (.Name x np)) none (b₀ :: suite) pp :: hds) ((c, none, ts) :: l)
  | as {x n : Str} {c : Value} {i : Nat} {ts : Addr → Value → Option Addr → TS} {b₀ : Stmt} {suite : List Stmt} {np pp : Pos} {hds : List ExceptHandler} {l : List HdT} (hi : X.N[i]? = some n) (hln : X.env.kindOf n = some .local) (hc : Names X x c)
      (hsu : ∀ (a : Addr) (oe : Obj) (cls : Value) (d : Option Addr) (pn : List (Addr × Obj)), L2N.Zn cls d oe → (∃ vs, oe.data = .fields vs) → PSs (X.suite a ((a, oe) :: pn)) (b₀ :: suite) (ts a cls d)) (r : Hds X hds l) :
      Hds X (.ExceptHandler (some (.Name x np)) (some n) (b₀ :: suite) pp :: hds) ((c, some i, ts) :: l)
section
variable {X : Cx} {body : List Stmt} {h₀ : ExceptHandler} {hds : List ExceptHandler} {l : List HdT} {pos : Pos} {tb : WX → TS} {Wout : WX}
theorem ps_try_hds (hs : X.stack = X.env :: X.outer) (hf : X.env.frame = some X.env.locals) (nd : X.N.Nodup) (tk : L2N.Takes X Wout)
    (hb : ∀ (W : WX) (pn : List (Addr × Obj)) (xe : Value → Shared → Prop), L2N.Takes (X.tr pn xe) W → PassesOwn (model X.prog X.w) X.A X.env xe → PSs (X.tr pn xe) body (tb W))
    (hh : Hds X (h₀ :: hds) l) : PS X (.Try body (h₀ :: hds) [] [] pos) (fun D σ H => tb (wHds X.K Wout D l) D σ H) := by
  refine ⟨fun pn t τ G D J h => ?_⟩
  have okJ := J.ok
  have frs0 : X.A.frames = some (X.env :: X.outer) := okJ.frames.trans (congrArg some hs)
  refine wpAny_Try_except ?_
  have run := (hb (wHds X.K Wout D l) (X.pn ++ pn) (fun e t1 => wpAny (model X.prog X.w) X.A (noteFrame e X.env) (fun _ t2 => wpAny (model X.prog X.w) X.A (setFlight e none) (fun _ t3 => wpAny (model X.prog X.w) X.A (handleBy e X.env (h₀ :: hds)) (SP X pn D) X.xe t3) X.xe t2) X.xe t1) (fun u t9 air => ?_) PassesOwn.looking).run [] t τ G D (J.toTry _) h
  · refine wpAny_mono run (fun fl t1 sp => ?_) (fun _ _ z => z)
    cases fl with
    | next => obtain ⟨τ2, G2, J2, q⟩ := sp; exact wpAny_execs_nil ⟨_, _, J2.ofTry okJ, q⟩
    | brk => obtain ⟨τ2, G2, J2, q⟩ := sp; exact ⟨_, _, J2.ofTry okJ, q⟩
    | cont => obtain ⟨τ2, G2, J2, q⟩ := sp; exact ⟨_, _, J2.ofTry okJ, q⟩
    | ret u => obtain ⟨v, τ2, G2, J2, r, q⟩ := sp; exact ⟨v, _, _, J2.ofTry okJ, r, q⟩
  -- caught
  obtain ⟨x, B, t5, pn5, τ5, G5, cls, d, rfl, K5, newB, up5, sky5, nx5, os5, ag5, wish⟩ := air
  have J5 : Inv X pn τ5 G5 t5 := K5.ofTry okJ
  rw [show (X.tr (X.pn ++ pn) _).stack = X.env :: X.outer from hs] at sky5
  show wpAny (model X.prog X.w) X.A (noteFrame (.ref x) X.env) _ _ _
  refine L2N.Sky.land L2N.Zn.steady frs0 hf sky5 fun hp6 land6 up6 => ?_
  have J6 : Inv X pn τ5 G5 { t9 with heap := hp6 } := J5.landed newB land6.1 (up5.trans up6) os5 ag5
  obtain ⟨o6, w6, at6, z6, f6⟩ := land6.there
  have apart : x ∉ frs (X.env :: X.outer) := fun m => by
    obtain ⟨_, o8, at8, n8⟩ := land6.2.2.1.mem m
    cases at6.symm.trans at8
    exact n8 _ f6
  have apL : x ≠ X.env.locals := fun z => apart (List.mem_filterMap.mpr ⟨X.env, List.mem_cons_self, hf.trans (congrArg some z.symm)⟩)
  have apF : x ∉ X.fs := fun m => by
    obtain ⟨e, me, q⟩ := List.mem_filterMap.mp m
    exact apart (List.mem_filterMap.mpr ⟨e, List.mem_cons_of_mem _ me, q⟩)
  have S6 := J6.suite at6 f6 nx5 apL apF
  have test : ∀ {y : Str} {c : Value} {np : Pos} {Q E : Value → Shared → Prop}, Names X y c → Q c { t9 with heap := hp6 } → wpAny (model X.prog X.w) (X.A.mark (some (.ref x))) (eval (.Name y np) X.env) Q E { t9 with heap := hp6 } := fun {y c np Q E} nm q => by
    rcases nm with ⟨n1, n2, n3 | ⟨n3, n4, n5⟩⟩
    · exact ld_glob (X := X.suite x ((x, o6) :: (X.pn ++ pn))) S6 n1 n3 q n2
    · exact ld_blt (X := X.suite x ((x, o6) :: (X.pn ++ pn))) S6 n1 n3 n4 q n5 n2
  have looks : PySem.W.Looks (model X.prog X.w) hp6 (typeOf (.ref x)) cls := fun A Q E s k q => wpAny_typeOf_ref (k _ _ at6) (z6.1.symm ▸ q)
  have go : ∀ {hs2 : List ExceptHandler} {l2 : List HdT}, Hds X hs2 l2 → wHds X.K Wout D l2 cls d τ5 G5 → wpAny (model X.prog X.w) X.A (handleBy (.ref x) X.env hs2) (SP X pn D) X.xe { t9 with heap := hp6 } := by
    intro hs2 l2 hk
    induction hk with
    | nil =>
      intro out
      refine wpAny_handleBy_nil ?_
      obtain ⟨_, _, _, o7, w7, T, oT, _, at7, _, f7, tb7, _⟩ := id land6
      unfold PySem.passOn
      refine wpAny_bind (wpAny_field at7 f7 tb7 ?_)
      rw [if_neg (show ¬ ((Value.ref T == Value.none) = true) from fun z => by simp at z)]
      have leave : wpAny (model X.prog X.w) X.A (setFlight (.ref x) X.env.frame) (fun _ t8 => wpAny (model X.prog X.w) X.A (throw (.ref x) : Sem Flow) (SP X pn D) X.xe t8) X.xe { t9 with heap := hp6 } := by
        rw [hf]
        refine HandSPX.setFlight_upZ land6 fun hp8 in8 up8 => wpAny_throw (tk _ _ ⟨x, B, t5, pn, τ5, G5, cls, d, rfl, J5, newB, (up5.trans up6).trans up8, .inr (.inr (hs.symm ▸ in8)), nx5, os5, ag5, out⟩)
      first | exact wpAny_bind (wpAny_pure (wpAny_bind leave)) | exact wpAny_bind leave
    | @one y c ts b₀ suite np pp hds3 l3 hc hsu r ih =>
      rintro ⟨b, hb1, yes, no⟩
      refine wpAny_handleBy_cons (codeAny_handlers_test ?_) (by intro z; cases z)
      refine test hc ((PySem.W.exm_one (M := model X.prog X.w) J6.kIn looks hb1).here ?_)
      cases b with
      | false =>
        show wpAny _ X.A (handleBy (.ref x) X.env hds3) _ _ _
        exact ih (no rfl)
      | true =>
        refine codeAny_handlers_suite (HandSPX.lands_againZ land6 fun hp8 land8 up8 => ?_)
        have J8 : Inv X pn τ5 G5 { t9 with heap := hp8 } := J5.landed newB land8.1 ((up5.trans up6).trans up8) os5 ag5
        obtain ⟨o8, w8, at8, z8, f8⟩ := land8.there
        refine wpAny_mono ((hsu x o8 cls d (X.pn ++ pn) z8 ⟨w8, f8⟩).run [] _ _ G5 _ (J8.suite at8 f8 nx5 apL apF) (yes rfl x nx5)) (fun fl t1 sp => ?_) (fun _ _ z => z.elim)
        cases fl with
        | next => obtain ⟨τ2, G2, S2, q⟩ := sp; exact ⟨_, _, S2.unsuite okJ, q⟩
        | brk => obtain ⟨τ2, G2, S2, q⟩ := sp; exact ⟨_, _, S2.unsuite okJ, q⟩
        | cont => obtain ⟨τ2, G2, S2, q⟩ := sp; exact ⟨_, _, S2.unsuite okJ, q⟩
        | ret u => obtain ⟨v2, τ2, G2, S2, r2, q⟩ := sp; exact ⟨_, _, _, S2.unsuite okJ, r2, q⟩
    | @as y n c i ts b₀ suite np pp hds3 l3 hi hln hc hsu r ih =>
      rintro ⟨b, hb1, yes, no⟩
      refine wpAny_handleBy_cons (codeAny_handlers_test ?_) (by intro z; cases z)
      refine test hc ((PySem.W.exm_one (M := model X.prog X.w) J6.kIn looks hb1).here ?_)
      cases b with
      | false =>
        show wpAny _ X.A (handleBy (.ref x) X.env hds3) _ _ _
        exact ih (no rfl)
      | true =>
        refine codeAny_handlers_suite_as (HandSPX.lands_againZ land6 fun hp8 land8 up8 => ?_)
        have J8 : Inv X pn τ5 G5 { t9 with heap := hp8 } := J5.landed newB land8.1 ((up5.trans up6).trans up8) os5 ag5
        obtain ⟨o8, w8, at8, z8, f8⟩ := land8.there
        refine store_ok (X := X.suite x ((x, o8) :: (X.pn ++ pn))) (v := .ref x) (J8.suite at8 f8 nx5 apL apF) nd hi (.inl hln) rfl (fun t7 S7 => ?_) (.inr hln)
        refine wpAny_mono ((hsu x o8 cls d (X.pn ++ pn) z8 ⟨w8, f8⟩).run [] t7 _ G5 _ S7 (yes rfl x nx5)) (fun fl t1 sp => ?_) (fun _ _ z => z.elim)
        have fin : ∀ {τ2 : L2.St} {G2 : Hp} {Q : Shared → Prop}, Inv (X.suite x ((x, o8) :: (X.pn ++ pn))) [] τ2 G2 t1 → (∀ t2, Inv X pn (τ2.set i none) G2 t2 → Q t2) → wpAny (model X.prog X.w) X.A (do bindName X.env n .none; unbindBehindTheSuite X.env n pp) (fun _ t2 => Q t2) X.xe t1 := fun S2 hq => gone_ok (S2.unsuite okJ) nd hi hln hq
        cases fl with
        | next => obtain ⟨τ2, G2, S2, q⟩ := sp; exact fin S2 fun t2 J2 => ⟨_, _, J2, q⟩
        | brk => obtain ⟨τ2, G2, S2, q⟩ := sp; exact fin S2 fun t2 J2 => ⟨_, _, J2, q⟩
        | cont => obtain ⟨τ2, G2, S2, q⟩ := sp; exact fin S2 fun t2 J2 => ⟨_, _, J2, q⟩
        | ret u => obtain ⟨v2, τ2, G2, S2, r2, q⟩ := sp; exact fin S2 fun t2 J2 => ⟨_, _, _, J2, r2, q⟩
  exact go hh wish
end
end Own
set_option maxHeartbeats 2000000
namespace Own
open PySem PySem.Spec PyProof.Rows L2 HT
/-! ### substitutions -/
abbrev Sb := List (Key × Ter)
def Sb.look : Sb → Key → Option Ter
  | [], _ => none
  | e :: r, k => if e.1 = k then some e.2 else Sb.look r k
def Sb.has (θ : Sb) (k : Key) : Bool := (Sb.look θ k).isSome
def Sb.keys (θ : Sb) : List Key := θ.map (·.1)
mutual
def Ter.sub (θ : Sb) : Ter → Ter
  | .var k => (Sb.look θ k).getD (.var k)
  | .ap f as => .ap f (Ter.subs θ as)
def Ter.subs (θ : Sb) : List Ter → List Ter
  | [] => []
  | a :: r => a.sub θ :: Ter.subs θ r
end
theorem subs_len (θ : Sb) : ∀ as : List Ter, (Ter.subs θ as).length = as.length
  | [] => rfl
  | a :: r => congrArg (· + 1) (subs_len θ r)
theorem subs_app (θ : Sb) : ∀ as bs : List Ter, Ter.subs θ (as ++ bs) = Ter.subs θ as ++ Ter.subs θ bs
  | [], _ => rfl
  | a :: r, bs => congrArg (a.sub θ :: ·) (subs_app θ r bs)
theorem slook_mem : ∀ {θ : Sb} {k : Key} {t : Ter}, Sb.look θ k = some t → (k, t) ∈ θ
  | e :: r, k, t, h => by
    obtain ⟨a, b⟩ := e
    unfold Sb.look at h
    by_cases c : a = k
    · rw [if_pos c] at h
      cases h
      subst c
      exact List.mem_cons_self
    · rw [if_neg c] at h
      exact List.mem_cons_of_mem _ (slook_mem h)
theorem look_not : ∀ {θ : Sb} {k : Key}, Sb.look θ k = none → k ∉ Sb.keys θ
  | [], _, _ => fun z => by cases z
  | e :: r, k, h => by
    unfold Sb.look at h
    by_cases c : e.1 = k
    · rw [if_pos c] at h; cases h
    · rw [if_neg c] at h
      intro z
      rcases List.mem_cons.mp z with z | z
      · exact c z.symm
      · exact look_not h z
theorem look_key : ∀ {θ : Sb} {k : Key}, k ∉ Sb.keys θ → Sb.look θ k = none
  | [], _, _ => rfl
  | e :: r, k, h => by
    unfold Sb.look
    have h1 : ¬ e.1 = k := fun z => h (z ▸ List.mem_cons_self)
    rw [if_neg h1]
    exact look_key fun z => h (List.mem_cons_of_mem _ z)
theorem look_at : ∀ {θ : Sb} {k : Key} {t : Ter}, (Sb.keys θ).Nodup → (k, t) ∈ θ → Sb.look θ k = some t
  | e :: r, k, t, nd, h => by
    have nd : e.1 ∉ Sb.keys r ∧ (Sb.keys r).Nodup := List.nodup_cons.mp nd
    unfold Sb.look
    rcases List.mem_cons.mp h with rfl | h
    · exact if_pos rfl
    · have : ¬ e.1 = k := fun z => nd.1 (z ▸ List.mem_map_of_mem (f := fun e : Key × Ter => e.1) h)
      rw [if_neg this]
      exact look_at nd.2 h
theorem look_app : ∀ (a b : Sb) (k : Key), Sb.look (a ++ b) k = (Sb.look a k).or (Sb.look b k)
  | [], _, _ => rfl
  | e :: r, b, k => by
    show (if e.1 = k then some e.2 else Sb.look (r ++ b) k) = ((if e.1 = k then some e.2 else Sb.look r k).or (Sb.look b k))
    by_cases c : e.1 = k
    · rw [if_pos c, if_pos c]; rfl
    · rw [if_neg c, if_neg c]; exact look_app r b k
theorem look_map (g : Ter → Ter) : ∀ (a : Sb) (k : Key), Sb.look (a.map fun e => (e.1, g e.2)) k = (Sb.look a k).map g
  | [], _ => rfl
  | e :: r, k => by
    show (if e.1 = k then some (g e.2) else Sb.look (r.map fun e => (e.1, g e.2)) k) = ((if e.1 = k then some e.2 else Sb.look r k).map g)
    by_cases c : e.1 = k
    · rw [if_pos c, if_pos c]; rfl
    · rw [if_neg c, if_neg c]; exact look_map g r k
theorem keys_filter_sub {p : Key × Ter → Bool} {θ : Sb} {k : Key} (h : k ∈ Sb.keys (θ.filter p)) : k ∈ Sb.keys θ := by
  obtain ⟨e, he, h2⟩ := List.mem_map.mp h
  exact List.mem_map.mpr ⟨e, (List.mem_filter.mp he).1, h2⟩
theorem keys_filter_nd {p : Key × Ter → Bool} {θ : Sb} (h : (Sb.keys θ).Nodup) : (Sb.keys (θ.filter p)).Nodup := List.Sublist.nodup (List.Sublist.map _ List.filter_sublist) h
theorem look_filter (p : Key × Ter → Bool) : ∀ (θ : Sb) (k : Key), (Sb.keys θ).Nodup → Sb.look (θ.filter p) k = (Sb.look θ k).bind fun t => if p (k, t) = true then some t else none
  | [], _, _ => rfl
  | e :: r, k, nd => by
    obtain ⟨a, t⟩ := e
    have nd : a ∉ Sb.keys r ∧ (Sb.keys r).Nodup := List.nodup_cons.mp nd
    show Sb.look (List.filter p ((a, t) :: r)) k = (if a = k then some t else Sb.look r k).bind _
    by_cases c : a = k
    · subst c
      rw [if_pos rfl]
      show _ = if p (a, t) = true then some t else none
      by_cases q : p (a, t) = true
      · rw [List.filter_cons_of_pos q, if_pos q]
        exact if_pos rfl
      · rw [List.filter_cons_of_neg q, if_neg q]
        exact look_key fun z => nd.1 (keys_filter_sub z)
    · rw [if_neg c]
      by_cases q : p (a, t) = true
      · rw [List.filter_cons_of_pos q]
        show (if a = k then some t else Sb.look (List.filter p r) k) = _
        rw [if_neg c]
        exact look_filter p r k nd.2
      · rw [List.filter_cons_of_neg q]
        exact look_filter p r k nd.2
/-- a variable bound to itself -/
def triv (e : Key × Ter) : Bool := match e.2 with
  | .var k => decide (k = e.1)
  | .ap _ _ => false
theorem triv_var {k : Key} {t : Ter} (h : triv (k, t) = true) : t = .var k := by
  unfold triv at h
  cases t with
  | var j => exact congrArg Ter.var (of_decide_eq_true h)
  | ap f as => cases h
def Sb.comp (θ η : Sb) : Sb := ((θ.map fun e => (e.1, e.2.sub η)) ++ η.filter fun e => !Sb.has θ e.1).filter fun e => !triv e
theorem keys_map (θ η : Sb) : Sb.keys (θ.map fun e => (e.1, e.2.sub η)) = Sb.keys θ := by
  unfold Sb.keys
  rw [List.map_map]
  rfl
theorem keys_union {θ η : Sb} (h1 : (Sb.keys θ).Nodup) (h2 : (Sb.keys η).Nodup) : (Sb.keys ((θ.map fun e => (e.1, e.2.sub η)) ++ η.filter fun e => !Sb.has θ e.1)).Nodup := by
  show (List.map (fun e : Key × Ter => e.1) _).Nodup
  rw [List.map_append]
  have k1 : (Sb.keys (θ.map fun e => (e.1, e.2.sub η))).Nodup := by rw [keys_map]; exact h1
  refine List.nodup_append.mpr ⟨k1, keys_filter_nd h2, fun a ha b hb z => ?_⟩
  subst z
  have ha : a ∈ Sb.keys (θ.map fun e => (e.1, e.2.sub η)) := ha
  rw [keys_map] at ha
  obtain ⟨e, he, rfl⟩ := List.mem_map.mp hb
  have q := (List.mem_filter.mp he).2
  unfold Sb.has at q
  cases c : Sb.look θ e.1 with
  | none => exact look_not c ha
  | some t => rw [c] at q; cases q
theorem keys_comp {θ η : Sb} (h1 : (Sb.keys θ).Nodup) (h2 : (Sb.keys η).Nodup) : (Sb.keys (Sb.comp θ η)).Nodup := keys_filter_nd (keys_union h1 h2)
theorem look_comp {θ η : Sb} (h1 : (Sb.keys θ).Nodup) (h2 : (Sb.keys η).Nodup) (k : Key) : (Sb.look (Sb.comp θ η) k).getD (.var k) = Ter.sub η ((Sb.look θ k).getD (.var k)) := by
  unfold Sb.comp
  rw [look_filter _ _ k (keys_union h1 h2), look_app, look_map, look_filter _ _ k h2]
  have fin : ∀ t : Ter, ((some t).bind fun t => if (!triv (k, t)) = true then some t else none).getD (.var k) = t := fun t => by
    show (if (!triv (k, t)) = true then some t else none).getD (.var k) = t
    by_cases c : triv (k, t) = true
    · rw [c]
      show Ter.var k = t
      exact (triv_var c).symm
    · rw [Bool.not_eq_true] at c
      rw [c]
      rfl
  cases c : Sb.look θ k with
  | some t =>
    show (((some (t.sub η)).or _).bind _).getD _ = t.sub η
    exact fin _
  | none =>
    show (((Sb.look η k).bind fun t => if (!Sb.has θ k) = true then some t else none).bind _).getD _ = (Sb.look η k).getD (.var k)
    have e : (!Sb.has θ k) = true := by unfold Sb.has; rw [c]; rfl
    cases d : Sb.look η k with
    | none => rfl
    | some t =>
      show ((if (!Sb.has θ k) = true then some t else none).bind _).getD _ = t
      rw [if_pos e]
      exact fin t
mutual
theorem sub_comp {θ η : Sb} (h1 : (Sb.keys θ).Nodup) (h2 : (Sb.keys η).Nodup) : ∀ t : Ter, t.sub (Sb.comp θ η) = (t.sub θ).sub η
  | .var k => look_comp h1 h2 k
  | .ap f as => congrArg (Ter.ap f) (subs_comp h1 h2 as)
theorem subs_comp {θ η : Sb} (h1 : (Sb.keys θ).Nodup) (h2 : (Sb.keys η).Nodup) : ∀ ts : List Ter, Ter.subs (Sb.comp θ η) ts = Ter.subs η (Ter.subs θ ts)
  | [] => rfl
  | t :: r => by
    show t.sub _ :: Ter.subs _ r = (t.sub θ).sub η :: Ter.subs η (Ter.subs θ r)
    rw [sub_comp h1 h2 t, subs_comp h1 h2 r]
end
/-! ### how large -/
mutual
theorem sub_nest {θ : Sb} {N : Nat} (h : ∀ e ∈ θ, e.2.nest ≤ N) (h1 : 1 ≤ N) : ∀ t : Ter, (t.sub θ).nest + 1 ≤ t.nest + N
  | .var k => by
    show ((Sb.look θ k).getD (.var k)).nest + 1 ≤ 1 + N
    cases c : Sb.look θ k with
    | none => show 1 + 1 ≤ 1 + N; omega
    | some t =>
      have := h _ (slook_mem c)
      show t.nest + 1 ≤ 1 + N
      have : t.nest ≤ N := this
      omega
  | .ap f as => by
    have := subs_nests h h1 as
    show (Ter.nests (Ter.subs θ as) + 1) + 1 ≤ (Ter.nests as + 1) + N
    omega
theorem subs_nests {θ : Sb} {N : Nat} (h : ∀ e ∈ θ, e.2.nest ≤ N) (h1 : 1 ≤ N) : ∀ ts : List Ter, Ter.nests (Ter.subs θ ts) + 1 ≤ Ter.nests ts + N
  | [] => by show 0 + 1 ≤ 0 + N; omega
  | t :: r => by
    have a := sub_nest h h1 t
    have b := subs_nests h h1 r
    show max (t.sub θ).nest (Ter.nests (Ter.subs θ r)) + 1 ≤ max t.nest (Ter.nests r) + N
    omega
end
mutual
theorem sub_wf {W : Str → Nat → Prop} {U : Key → Prop} {θ : Sb} (h : ∀ e ∈ θ, e.2.wf W U) : ∀ t : Ter, t.wf W U → (t.sub θ).wf W U
  | .var k, hw => by
    show ((Sb.look θ k).getD (.var k)).wf W U
    cases c : Sb.look θ k with
    | none => exact hw
    | some t => exact h _ (slook_mem c)
  | .ap f as, hw => ⟨by rw [subs_len]; exact hw.1, subs_wf h as hw.2⟩
theorem subs_wf {W : Str → Nat → Prop} {U : Key → Prop} {θ : Sb} (h : ∀ e ∈ θ, e.2.wf W U) : ∀ ts : List Ter, Ter.wfs W U ts → Ter.wfs W U (Ter.subs θ ts)
  | [], _ => trivial
  | t :: r, hw => ⟨sub_wf h t hw.1, subs_wf h r hw.2⟩
end
mutual
theorem size_pow {W : Str → Nat → Prop} {U : Key → Prop} (h : ∀ f n, W f n → n ≤ 2) : ∀ t : Ter, t.wf W U → t.size + 1 ≤ 2 ^ t.nest
  | .var k, _ => by show 1 + 1 ≤ 2 ^ 1; decide
  | .ap f as, hw => by
    have a := sizes_pow h as hw.2
    have b := h _ _ hw.1
    have c : 1 ≤ 2 ^ Ter.nests as := Nat.one_le_pow _ _ (by decide)
    show (Ter.sizes as + 1) + 1 ≤ 2 ^ (Ter.nests as + 1)
    rw [Nat.pow_succ]
    have d : as.length = 0 ∨ as.length = 1 ∨ as.length = 2 := by omega
    rcases d with d | d | d <;> rw [d] at a <;> omega
theorem sizes_pow {W : Str → Nat → Prop} {U : Key → Prop} (h : ∀ f n, W f n → n ≤ 2) : ∀ ts : List Ter, Ter.wfs W U ts → Ter.sizes ts + ts.length ≤ ts.length * 2 ^ Ter.nests ts
  | [], _ => Nat.zero_le _
  | t :: r, hw => by
    have a := size_pow h t hw.1
    have b := sizes_pow h r hw.2
    have c : 2 ^ t.nest ≤ 2 ^ (max t.nest (Ter.nests r)) := Nat.pow_le_pow_right (by decide) (Nat.le_max_left _ _)
    have d : 2 ^ Ter.nests r ≤ 2 ^ (max t.nest (Ter.nests r)) := Nat.pow_le_pow_right (by decide) (Nat.le_max_right _ _)
    have e : r.length * 2 ^ Ter.nests r ≤ r.length * 2 ^ (max t.nest (Ter.nests r)) := Nat.mul_le_mul_left _ d
    show (t.size + Ter.sizes r) + (r.length + 1) ≤ (r.length + 1) * 2 ^ (max t.nest (Ter.nests r))
    rw [Nat.add_mul, Nat.one_mul]
    omega
end
/-! ### dicts that hold a substitution -/
inductive SubT (H : Hp) : List (Key × V) → Sb → Prop
  | nil : SubT H [] []
  | cons {k : Key} {v : V} {t : Ter} {kvs : List (Key × V)} {θ : Sb} : TmAt H v t → SubT H kvs θ → SubT H ((k, v) :: kvs) ((k, t) :: θ)
theorem SubT.mono {H H' : Hp} (m : Tups H H') : ∀ {kvs : List (Key × V)} {θ : Sb}, SubT H kvs θ → SubT H' kvs θ
  | _, _, .nil => .nil
  | _, _, .cons a r => .cons (TmAt.mono m _ _ a) (r.mono m)
theorem SubT.len {H : Hp} : ∀ {kvs : List (Key × V)} {θ : Sb}, SubT H kvs θ → kvs.length = θ.length
  | _, _, .nil => rfl
  | _, _, .cons _ r => congrArg (· + 1) r.len
theorem SubT.keys {H : Hp} : ∀ {kvs : List (Key × V)} {θ : Sb}, SubT H kvs θ → kvs.map (·.1) = Sb.keys θ
  | _, _, .nil => rfl
  | _, _, .cons (k := k) _ r => congrArg (k :: ·) r.keys
theorem SubT.app {H : Hp} : ∀ {kvs ls : List (Key × V)} {θ η : Sb}, SubT H kvs θ → SubT H ls η → SubT H (kvs ++ ls) (θ ++ η)
  | _, _, _, _, .nil, h => h
  | _, _, _, _, .cons a r, h => .cons a (r.app h)
theorem SubT.get {H : Hp} : ∀ {kvs : List (Key × V)} {θ : Sb} {i : Nat} {k : Key} {v : V}, SubT H kvs θ → kvs[i]? = some (k, v) → ∃ t, θ[i]? = some (k, t) ∧ TmAt H v t
  | _, _, _, _, _, .nil, e => by simp at e
  | _, _, 0, _, _, .cons a r, e => by
    simp at e
    obtain ⟨e1, e2⟩ := e
    subst e1
    subst e2
    exact ⟨_, rfl, a⟩
  | _, _, i + 1, k, v, .cons a r, e => by
    obtain ⟨t, h1, h2⟩ := SubT.get (i := i) (k := k) (v := v) r (by simpa using e)
    exact ⟨t, by simpa using h1, h2⟩
theorem SubT.look {H : Hp} : ∀ {kvs : List (Key × V)} {θ : Sb}, SubT H kvs θ → ∀ k : Key, (valV kvs k = none ∧ Sb.look θ k = none) ∨ ∃ v t, valV kvs k = some v ∧ Sb.look θ k = some t ∧ TmAt H v t
  | _, _, .nil, _ => .inl ⟨rfl, rfl⟩
  | _, _, .cons (k := j) (v := v) (t := t) (kvs := kvs) (θ := θ) a r, k => by
    by_cases c : j = k
    · exact .inr ⟨v, t, valV_pos c, if_pos c, a⟩
    · have e1 : valV ((j, v) :: kvs) k = valV kvs k := valV_neg c
      have e2 : Sb.look ((j, t) :: θ) k = Sb.look θ k := if_neg c
      rw [e1, e2]
      exact r.look k
theorem SubT.put {H : Hp} {kvs : List (Key × V)} {θ : Sb} (h : SubT H kvs θ) {k : Key} {v : V} {t : Ter} (n : k ∉ Sb.keys θ) (ht : TmAt H v t) : SubT H (putK kvs k v) (θ ++ [(k, t)]) := by
  rcases h.look k with ⟨e, _⟩ | ⟨_, _, _, e, _⟩
  · rw [putK_new v e]
    exact h.app (.cons ht .nil)
  · rw [look_key n] at e
    cases e
/-- small numbers for variables, terms of k06 and its like, of nesting up to N -/
structure SbOk (θ : Sb) (N : Nat) : Prop where
  nd : (Sb.keys θ).Nodup
  num : ∀ e ∈ θ, ∃ i : Int, e.1 = .inl i ∧ 0 ≤ i
  wf : ∀ e ∈ θ, e.2.wf s7 numVar
  ne : ∀ e ∈ θ, e.2.nest ≤ N
theorem SbOk.comp {θ η : Sb} {N M : Nat} (h : SbOk θ N) (g : SbOk η M) (m1 : 1 ≤ M) : SbOk (Sb.comp θ η) (N + M) := by
  have al : ∀ e ∈ Sb.comp θ η, (∃ i : Int, e.1 = .inl i ∧ 0 ≤ i) ∧ e.2.wf s7 numVar ∧ e.2.nest ≤ N + M := fun e he => by
    rcases List.mem_append.mp (List.mem_filter.mp he).1 with he | he
    · obtain ⟨a, ha, rfl⟩ := List.mem_map.mp he
      have q := sub_nest g.ne m1 a.2
      have q2 := h.ne a ha
      exact ⟨h.num a ha, sub_wf g.wf _ (h.wf a ha), by show (a.2.sub η).nest ≤ N + M; omega⟩
    · have ha := (List.mem_filter.mp he).1
      exact ⟨g.num e ha, g.wf e ha, Nat.le_trans (g.ne e ha) (Nat.le_add_left _ _)⟩
  exact ⟨keys_comp h.nd g.nd, fun e he => (al e he).1, fun e he => (al e he).2.1, fun e he => (al e he).2.2⟩
theorem SbOk.nil {N : Nat} : SbOk [] N := ⟨List.nodup_nil, (fun _ z => by cases z), (fun _ z => by cases z), (fun _ z => by cases z)⟩
theorem triv_data {i : Int} {t : Ter} (h : t.wf s7 numVar) : PyData.eqv t.dat (kD (.inl i)) = triv (.inl i, t) := by
  cases t with
  | var k =>
    obtain ⟨r, rfl, _⟩ := h
    show PyData.eqv (.int r) (.int i) = decide ((Sum.inl r : Key) = Sum.inl i)
    have : PyData.eqv (.int r) (.int i) = (r == i) := by rw [PyData.eqv]
    rw [this]
    by_cases c : r = i
    · subst c; simp
    · simp [c]
  | ap f as => rfl
/-! ### what is given of some size -/
def Ter.chain : Nat → Ter → Ter
  | 0, t => t
  | n + 1, t => .ap "f" [Ter.chain n t]
def Ter.dbl : Nat → Ter
  | 0 => .ap "a" []
  | n + 1 => .ap "g" [Ter.dbl n, Ter.dbl n]
theorem chain_sub (θ : Sb) (t : Ter) : ∀ n : Nat, (Ter.chain n t).sub θ = Ter.chain n (t.sub θ)
  | 0 => rfl
  | n + 1 => by
    show Ter.ap "f" [(Ter.chain n t).sub θ] = Ter.ap "f" [Ter.chain n (t.sub θ)]
    rw [chain_sub θ t n]
theorem chain_chain (t : Ter) (m : Nat) : ∀ n : Nat, Ter.chain n (Ter.chain m t) = Ter.chain (n + m) t
  | 0 => by rw [Nat.zero_add]; rfl
  | n + 1 => by
    rw [Nat.add_right_comm]
    show Ter.ap "f" [Ter.chain n (Ter.chain m t)] = Ter.ap "f" [Ter.chain (n + m) t]
    rw [chain_chain t m n]
theorem chain_nest (t : Ter) : ∀ n : Nat, (Ter.chain n t).nest = n + t.nest
  | 0 => (Nat.zero_add _).symm
  | n + 1 => by
    show max (Ter.chain n t).nest 0 + 1 = n + 1 + t.nest
    rw [chain_nest t n]
    omega
theorem chain_size (t : Ter) : ∀ n : Nat, (Ter.chain n t).size = n + t.size
  | 0 => (Nat.zero_add _).symm
  | n + 1 => by
    show ((Ter.chain n t).size + 0) + 1 = n + 1 + t.size
    rw [chain_size t n]
    omega
theorem chain_wf {W : Str → Nat → Prop} {U : Key → Prop} (h : W "f" 1) {t : Ter} (ht : t.wf W U) : ∀ n : Nat, (Ter.chain n t).wf W U
  | 0 => ht
  | n + 1 => ⟨h, chain_wf h ht n, trivial⟩
theorem dbl_sub (θ : Sb) : ∀ n : Nat, (Ter.dbl n).sub θ = Ter.dbl n
  | 0 => rfl
  | n + 1 => by
    show Ter.ap "g" [(Ter.dbl n).sub θ, (Ter.dbl n).sub θ] = _
    rw [dbl_sub θ n]
    rfl
theorem dbl_nest : ∀ n : Nat, (Ter.dbl n).nest = n + 1
  | 0 => rfl
  | n + 1 => by
    show max (Ter.dbl n).nest (max (Ter.dbl n).nest 0) + 1 = n + 1 + 1
    rw [dbl_nest n]
    omega
theorem dbl_size : ∀ n : Nat, (Ter.dbl n).size + 1 = 2 ^ (n + 1)
  | 0 => rfl
  | n + 1 => by
    have := dbl_size n
    show (((Ter.dbl n).size + ((Ter.dbl n).size + 0)) + 1) + 1 = 2 ^ (n + 1 + 1)
    rw [Nat.pow_succ]
    omega
theorem dbl_wf {W : Str → Nat → Prop} {U : Key → Prop} (h0 : W "a" 0) (h2 : W "g" 2) : ∀ n : Nat, (Ter.dbl n).wf W U
  | 0 => ⟨h0, trivial⟩
  | n + 1 => ⟨h2, dbl_wf h0 h2 n, dbl_wf h0 h2 n, trivial⟩
def Ter.fits (t : Ter) : Bool := decide (t.size ≤ 1000) && decide (t.nest ≤ 100)
end Own
set_option maxHeartbeats 2000000
namespace Own
open PySem PySem.Spec PyProof.Rows L2 HT
/-! ### a dict that is locked for a while -/
theorem But.tupsD {d : Addr} {H H' : Hp} {ys : List (Key × V)} (a : But d H H') (h : H d = some (.dK ys)) : Tups H H' := fun b xs e => a b _ (ne_of e h (by intro z; cases z)) e
theorem tups_frz {H : Hp} {d : Addr} {od : Obj} {u o : HO} (h : H d = some (.frz od u)) : Tups H (upd H d o) := fun b xs e => by rw [upd_ne (ne_of e h (by intro z; cases z))]; exact e
theorem but_unlock {a : Addr} {H H2 : Hp} {u : HO} (e : H a = some u) (b : But a H H2) : Same H (upd H2 a u) := fun c o h => by
  by_cases q : c = a
  · subst q
    rw [upd_same, ← e]
    exact h
  · rw [upd_ne q]
    exact b c o q h
theorem but_fresh {a p : Addr} {H H2 : Hp} {o : HO} (b : But a H H2) (np : H p = none) : But a H (upd H2 p o) := fun c x n e => by
  rw [upd_ne (ne_of_none e np)]
  exact b c x n e
theorem same_fresh {p : Addr} {H H2 : Hp} {o : HO} (s : Same H H2) (np : H p = none) : Same H (upd H2 p o) := fun c x e => by
  rw [upd_ne (ne_of_none e np)]
  exact s c x e
theorem DGet.frz {H : Hp} {a : Addr} {od : Obj} {kvs : List (Key × V)} {k : Key} {v : V} (e : H a = some (.frz od (.dK kvs))) (h : valV kvs k = some v) : DGet H a (kV k) (some v) := .inl ⟨kvs, k, .inr ⟨od, e⟩, rfl, h.symm⟩
theorem DGet.of {H : Hp} {a : Addr} {kvs : List (Key × V)} {k : Key} {v : V} (e : H a = some (.dK kvs)) (h : valV kvs k = some v) : DGet H a (kV k) (some v) := .inl ⟨kvs, k, .inl e, rfl, h.symm⟩
/-! ### one more of a substitution -/
theorem sb_take {U : Sb} {i : Nat} {k : Key} {t : Ter} (h : U[i]? = some (k, t)) : U.take (i + 1) = U.take i ++ [(k, t)] := by rw [List.take_add_one, h]; rfl
theorem sb_fresh {U : Sb} {i : Nat} {k : Key} {t : Ter} (nd : (Sb.keys U).Nodup) (h : U[i]? = some (k, t)) : k ∉ Sb.keys (U.take i) := by
  intro z
  have e : Sb.keys U = Sb.keys (U.take i) ++ Sb.keys (U.drop i) := by
    unfold Sb.keys
    rw [← List.map_append, List.take_append_drop]
  rw [e] at nd
  refine (List.nodup_append.mp nd).2.2 k z k ?_ rfl
  have : (U.drop i)[0]? = some (k, t) := by rw [List.getElem?_drop]; exact h
  exact List.mem_map.mpr ⟨(k, t), List.mem_of_getElem? this, rfl⟩
theorem sb_filter (p : Key × Ter → Bool) {U : Sb} {i : Nat} {k : Key} {t : Ter} (h : U[i]? = some (k, t)) : (U.take (i + 1)).filter p = (U.take i).filter p ++ (if p (k, t) = true then [(k, t)] else []) := by
  rw [sb_take h, List.filter_append]
  by_cases c : p (k, t) = true
  · rw [if_pos c, List.filter_cons_of_pos c]; rfl
  · rw [if_neg c, List.filter_cons_of_neg c]; rfl
theorem sb_ffresh (p : Key × Ter → Bool) {U : Sb} {i : Nat} {k : Key} {t : Ter} (nd : (Sb.keys U).Nodup) (h : U[i]? = some (k, t)) : k ∉ Sb.keys ((U.take i).filter p) := fun z => sb_fresh nd h (keys_filter_sub z)
theorem sb_map {θ η : Sb} {i : Nat} {k : Key} {t : Ter} (h : θ[i]? = some (k, t)) : (θ.map fun e => (e.1, e.2.sub η))[i]? = some (k, t.sub η) := by rw [List.getElem?_map, h]; rfl
theorem sb_look {U : Sb} {i : Nat} {k : Key} {t : Ter} (nd : (Sb.keys U).Nodup) (h : U[i]? = some (k, t)) : Sb.look U k = some t := look_at nd (List.mem_of_getElem? h)
theorem SubT.val {H : Hp} {kvs : List (Key × V)} {θ : Sb} (h : SubT H kvs θ) (nd : (Sb.keys θ).Nodup) {i : Nat} {k : Key} {v : V} (e : kvs[i]? = some (k, v)) : valV kvs k = some v := val_of_mem (e := (k, v)) (by rw [h.keys]; exact nd) (List.mem_of_getElem? e)
theorem shaped_num (i : Int) : SeqAt.shaped (kD (.inl i)) = true := rfl
theorem has_some {θ : Sb} {k : Key} {t : Ter} (h : Sb.look θ k = some t) : Sb.has θ k = true := by unfold Sb.has; rw [h]; rfl
theorem has_none {θ : Sb} {k : Key} (h : Sb.look θ k = none) : Sb.has θ k = false := by unfold Sb.has; rw [h]; rfl
theorem comp_eq (θ η : Sb) : Sb.comp θ η = ((θ.map fun e => (e.1, e.2.sub η)).filter fun e => !triv e) ++ η.filter fun e => !triv e && !Sb.has θ e.1 := by
  unfold Sb.comp
  rw [List.filter_append, List.filter_filter]
theorem s7_fine {t : Ter} (h : t.wf s7 numVar) : t.wf symFine keyFine := wf_mono (fun _ _ h => h.1.2) (fun k h => by
  obtain ⟨r, rfl, _⟩ := h
  exact trivial) t h
theorem shaped7 {t : Ter} (h : t.wf s7 numVar) (n : t.nest ≤ 64) : SeqAt.shaped t.dat = true := shaped_ter (s7_fine h) n
theorem s7_two (f : Str) (n : Nat) (h : s7 f n) : n ≤ 2 := h.2
theorem fits_small {t : Ter} (h : t.wf s7 numVar) (n : t.nest ≤ 9) : t.fits = true := by
  have a := size_pow s7_two t h
  have b : 2 ^ t.nest ≤ 2 ^ 9 := Nat.pow_le_pow_right (by decide) n
  have c : 2 ^ 9 = 512 := by decide
  unfold Ter.fits
  rw [decide_eq_true (show t.size ≤ 1000 by omega), decide_eq_true (show t.nest ≤ 100 by omega)]
  rfl
theorem size_small {t : Ter} (h : t.wf s7 numVar) (n : t.nest ≤ 9) : t.size ≤ 1000000 := by
  have a := size_pow s7_two t h
  have b : 2 ^ t.nest ≤ 2 ^ 9 := Nat.pow_le_pow_right (by decide) n
  have c : 2 ^ 9 = 512 := by decide
  omega
/-- two dicts of one substitution -/
theorem SubT.same {K : PySem.W.Frag} {H : Hp} {ks ls : List (Key × V)} {θ : Sb} {N : Nat} (h : SubT H ks θ) (g : SubT H ls θ) (o : SbOk θ N) (hN : N ≤ 64) : ks.length = ls.length ∧ ∀ p ∈ ks, ∃ u d, valV ls p.1 = some u ∧ Dp K H p.2 d ∧ Dp K H u d ∧ SeqAt.shaped d = true ∧ PyData.eqv d d = true := by
  refine ⟨h.len.trans g.len.symm, fun p hp => ?_⟩
  obtain ⟨i, hi⟩ := List.getElem?_of_mem hp
  obtain ⟨k, v⟩ := p
  obtain ⟨t, h1, h2⟩ := h.get hi
  have hm := List.mem_of_getElem? h1
  rcases g.look k with ⟨_, e2⟩ | ⟨u, t2, e1, e2, hu⟩
  · rw [sb_look o.nd h1] at e2
    cases e2
  · rw [sb_look o.nd h1] at e2
    cases e2
    exact ⟨u, t.dat, e1, dp_ter t v h2, dp_ter t u hu, shaped7 (o.wf (k, t) hm) (Nat.le_trans (o.ne (k, t) hm) hN), ter_refl t⟩
end Own
namespace K06
open PySem PySem.Spec PyProof.Rows L2 Own HT
def topS (i : Nat) : Stmt := PySem.Challenge.pw_elenchus_k06_apply_and_compose.main.body.getD i (.Pass ⟨0, 0, 0, 0⟩)
abbrev s_is_integer : Stmt := topS 3
abbrev s_decimal : Stmt := topS 4
abbrev s_worded : Stmt := topS 6
abbrev s_ElenchusError : Stmt := topS 7
abbrev s_TextError : Stmt := topS 8
abbrev s_TooLarge : Stmt := topS 9
abbrev s_is_variable : Stmt := topS 13
abbrev s_fits : Stmt := topS 14
abbrev s_arguments_of : Stmt := topS 15
abbrev s_replace_variables : Stmt := topS 16
abbrev s_apply : Stmt := topS 18
abbrev s_compose : Stmt := topS 19
abbrev s__law_state : Stmt := topS 21
abbrev s__law_draw : Stmt := topS 22
abbrev s__law_term : Stmt := topS 23
abbrev s__law_is_integer : Stmt := topS 24
abbrev s__law_is_term : Stmt := topS 25
abbrev s__law_is_substitution : Stmt := topS 26
abbrev s__law_replaced : Stmt := topS 27
abbrev s__law_substitution : Stmt := topS 28
abbrev s__law_doubled : Stmt := topS 29
abbrev s__law_chain : Stmt := topS 30
abbrev s__law_refused : Stmt := topS 31
abbrev s__law_large : Stmt := topS 32
abbrev s__law_composed : Stmt := topS 33
abbrev s_law : Stmt := topS 34
structure Df (K : PySem.W.Frag) (mg : Str → Option Value) (x : Str) (st : Stmt) (ps : List Str) (f : Addr) (fd : FuncData) : Prop where
  F : Fun K x x st f fd
  b : Binds K fd ps []
  m : mg x = some (.ref f)
section
variable {P : Program} {w : World} {K : PySem.W.Frag} {mg : Str → Option Value} {base : Heap}
/-! ### is_variable -/
def spIsVar : Sp := fun vs H Q _ => ∃ v t, vs = [v] ∧ TmAt H v t ∧ Q (.bl t.isVar) H
theorem sc_is_variable : FnScope ["term"] ["term"] (defScope s_is_variable) := ⟨rfl, rfl, rfl, by decide +kernel, rfl, by decide +kernel, by decide +kernel⟩
theorem ok_is_variable {f : Addr} {fd : FuncData} (D : Df K mg "is_variable" s_is_variable ["term"] f fd) (mi : mg "isinstance" = none) (mt : mg "tuple" = none) : FnOk P w K mg base CX0 1 f fd ["term"] spIsVar := by
  refine D.F.ok sc_is_variable (fun vs H Q E h => ?_) (fun cdv A outer s H vs Q E hr h => ?_)
  · obtain ⟨v, t, rfl, _⟩ := h; rfl
  obtain ⟨v, t, rfl, ht, q⟩ := h
  refine ⟨_, pss_one (ps_ret (pe_not (pe_callB call_isiTer (by rfl) mi (by decide +kernel) (pa_cons (pv 0) (pa_cons (pe_bltn (v := .ty "tuple") (by rfl) mt (by decide +kernel) rfl) pa_nil))))), ?_⟩
  refine ⟨v, rfl, v, t, rfl, ht, _, rfl, ?_⟩
  rw [Bool.not_not]
  exact q
end

/-! ### the state of the draws: a list with the script's copy in it -/
structure Sta (H : Hp) (d c : Addr) : Prop where
  ex : ∃ (ns : List Int) (i : Nat) (r s k : Int), H d = some (.lst [.ref c, .int (i : Nat), .int r, .int s, .int k]) ∧ H c = some (.lst (ns.map V.int)) ∧ c ≠ d
theorem Sta.same {H H' : Hp} {d c : Addr} (h : Sta H d c) (m : Same H H') : Sta H' d c := by
  obtain ⟨ns, i, r, s, k, e, e2, n⟩ := h.ex
  exact ⟨ns, i, r, s, k, m _ _ e, m _ _ e2, n⟩
theorem Sta.lst {H : Hp} {d c : Addr} (h : Sta H d c) : ∃ xs, H d = some (.lst xs) := by
  obtain ⟨ns, i, r, s, k, e, e2, n⟩ := h.ex
  exact ⟨_, e⟩
theorem Sta.ne {H : Hp} {d c p : Addr} (h : Sta H d c) (n : H p = none) : p ≠ d := by
  obtain ⟨xs, e⟩ := h.lst
  exact fun z => by rw [z, e] at n; cases n
theorem Sta.nec {H : Hp} {d c p : Addr} (h : Sta H d c) (n : H p = none) : p ≠ c := by
  obtain ⟨ns, i, r, s, k, e, e2, _⟩ := h.ex
  exact fun z => by rw [z, e2] at n; cases n
theorem Sta.tups {H H' : Hp} {d c : Addr} (h : Sta H d c) (b : But d H H') : Tups H H' := by
  obtain ⟨xs, e⟩ := h.lst
  exact b.tups e
/-- another place changes -/
theorem Sta.upd {H : Hp} {d c p : Addr} {o : HO} (h : Sta H d c) (n1 : p ≠ d) (n2 : p ≠ c) : Sta (upd H p o) d c := by
  obtain ⟨ns, i, r, s, k, e1, e2, n⟩ := h.ex
  refine ⟨ns, i, r, s, k, ?_, ?_, n⟩
  · rw [upd_ne n1.symm]; exact e1
  · rw [upd_ne n2.symm]; exact e2
/-- a dict changes -/
theorem Sta.updD {H : Hp} {d c p : Addr} {o : HO} {kvs : List (Key × V)} (h : Sta H d c) (e : H p = some (.dK kvs)) : Sta (L2.upd H p o) d c := by
  obtain ⟨ns, i, r, s, k, e1, e2, n⟩ := h.ex
  exact h.upd (fun z => by rw [z, e1] at e; cases e) (fun z => by rw [z, e2] at e; cases e)
section
variable {P : Program} {w : World} {K : PySem.W.Frag} {mg : Str → Option Value} {base : Heap}
def spState (K : PySem.W.Frag) : Sp := fun vs H Q _ => ∃ (a : Addr) (ns : List Int), vs = [.ref a] ∧ SqL K H a (ns.map V.int) ∧ ns.length ≤ 63 ∧ ∀ (p c : Addr) (H' : Hp), Same H H' → H p = none → H c = none → Sta H' p c → Q (.ref p) H'
theorem sc_law_state : FnScope ["script"] ["script"] (defScope s__law_state) := ⟨rfl, rfl, rfl, by decide +kernel, rfl, by decide +kernel, by decide +kernel⟩
theorem ok_law_state {f : Addr} {fd : FuncData} (D : Df K mg "_law_state" s__law_state ["script"] f fd) (mli : mg "list" = none) : FnOk P w K mg base CX0 1 f fd ["script"] (spState K) := by
  refine D.F.ok sc_law_state (fun vs H Q E h => ?_) (fun cdv A outer s H vs Q E hr h => ?_)
  · obtain ⟨a, ns, rfl, _⟩ := h; rfl
  obtain ⟨a, ns, rfl, hS, hn, q⟩ := h
  refine ⟨_, pss_one (ps_ret (pe_lst (pa_cons (pe_callTy call_list_of (by rfl) mli (by decide +kernel) (pa_cons (pv 0) pa_nil)) (pa_cons pe_int (pa_cons pe_int (pa_cons pe_int (pa_cons pe_int pa_nil))))))), ?_⟩
  refine ⟨_, rfl, a, _, rfl, .inl hS, fun c nc => ?_⟩
  refine ⟨by show 5 ≤ sizeLine; decide, fun p np => ?_⟩
  have s1 := same_new nc (.lst (ns.map V.int))
  have s2 := same_new np (.lst [.ref c, .int 0, .int 0, .int 1, .int 0])
  have ncp : c ≠ p := fun z => by rw [← z, upd_same] at np; cases np
  have np0 : H p = none := by
    rw [upd_ne ncp.symm] at np
    exact np
  exact q p c _ (s1.trans s2) np0 nc ⟨ns, 0, 0, 1, 0, upd_same, s2 _ _ upd_same, ncp⟩
def spDraw : Sp := fun vs H Q _ => ∃ (d : Addr) (b : Int), vs = [.ref d, .int b] ∧ ∃ c, Sta H d c ∧ 0 < b ∧ b < 1073741824 ∧ ∀ (r : Int) (H' : Hp), 0 ≤ r → r < b → But d H H' → Sta H' d c → Q (.int r) H'
theorem sc_law_draw : FnScope ["state", "many", "value", "cell", "first"] ["state", "many"] (defScope s__law_draw) := ⟨rfl, rfl, rfl, by decide +kernel, rfl, by decide +kernel, by decide +kernel⟩
theorem ok_law_draw {f : Addr} {fd : FuncData} (D : Df K mg "_law_draw" s__law_draw ["state", "many"] f fd) (ml : mg "len" = none) (mint : mg "int" = none) : FnOk P w K mg base CX0 1 f fd ["state", "many"] spDraw := by
  refine D.F.ok sc_law_draw (fun vs H Q E h => ?_) (fun cdv A outer s H vs Q E hr h => ?_)
  · obtain ⟨a, b, rfl, _⟩ := h; rfl
  obtain ⟨d, b, rfl, c, hS, hb, hb2, q⟩ := h
  have nd := sc_law_draw.nd
  refine ⟨_, C8.pss_cut (ps_if (PW.pt (pw_and (pt_cmpR op_gt (pe_ix ix_list (pv 0) pe_int (fun _ _ => rfl)) pe_int (nomark _)) (pw_and1 (pt_cmpR op_gt (pe_ix ix_list (pv 0) pe_int (fun _ _ => rfl)) pe_int (nomark _)))))
      (pss_cons (ps_set (i := 2) nd rfl (.inl rfl) (pe_op op_mod (pe_callTy call_int1 (by rfl) mint (by decide +kernel) (pa_cons (pe_ix ix_list (pv 0) pe_int (fun _ _ => rfl)) pa_nil)) (pv 1)))
      (pss_cons (ps_asg (pe_op op_fdiv (pe_ix ix_list (pv 0) pe_int (fun _ _ => rfl)) (pv 1)) (pg_sub (pv 0) pe_int set_list))
      (pss_cons (ps_asg (pe_op op_sub (pe_ix ix_list (pv 0) pe_int (fun _ _ => rfl)) pe_int) (pg_sub (pv 0) pe_int set_list))
      (pss_one (ps_ret (pv 2)))))) pss_nil)
    (pss_cons (ps_set (i := 3) nd rfl (.inl rfl) (pe_op op_add (pe_ix ix_list (pv 0) pe_int (fun _ _ => rfl)) (pe_op op_mul pe_int (pe_ix ix_list (pv 0) pe_int (fun _ _ => rfl)))))
    (C8.pss_cut (ps_if (pt_cmpR op_lt (pe_ix ix_list (pv 0) pe_int (fun _ _ => rfl)) (pe_callB call_len_seq (by rfl) ml PySem.boot_len (pa_cons (pe_ix ix_list (pv 0) pe_int (fun _ _ => rfl)) pa_nil)) (nomark _))
      (pss_one (ps_set (i := 3) nd rfl (.inl rfl) (pe_ix ix_list (pe_ix ix_list (pv 0) pe_int (fun _ _ => rfl)) (pe_ix ix_list (pv 0) pe_int (fun _ _ => rfl)) (fun _ _ => rfl)))) pss_nil)
    (pss_cons (ps_asg (pe_op op_add (pe_ix ix_list (pv 0) pe_int (fun _ _ => rfl)) pe_int) (pg_sub (pv 0) pe_int set_list))
    (pss_cons (ps_if (pt_cmpR op_ge (pv 3) (pe_op op_pow pe_int pe_int) (nomark _))
      (pss_cons (ps_asg (pe_op op_fdiv (pv 3) (pv 1)) (pg_sub (pv 0) pe_int set_list))
      (pss_cons (ps_asg pe_int (pg_sub (pv 0) pe_int set_list))
      (pss_one (ps_ret (pe_op op_mod (pe_callTy call_int1 (by rfl) mint (by decide +kernel) (pa_cons (pv 3) pa_nil)) (pv 1)))))) pss_nil)
    (pss_cons (ps_set (i := 4) nd rfl (.inl rfl) (pe_op op_mod (pe_callTy call_int1 (by rfl) mint (by decide +kernel) (pa_cons (pe_op op_add (pe_op op_add (pe_op op_mul (pv 3) pe_int) (pe_op op_mul (pe_ix ix_list (pv 0) pe_int (fun _ _ => rfl)) pe_int)) (pe_ix ix_list (pv 0) pe_int (fun _ _ => rfl))) pa_nil)) pe_int))
    (pss_cons (ps_asg (pe_op op_mod (pe_callTy call_int1 (by rfl) mint (by decide +kernel) (pa_cons (pe_op op_add (pe_op op_add (pe_op op_mul (pv 4) pe_int) (pe_op op_mul (pv 4) (pv 4))) pe_int) pa_nil)) pe_int) (pg_sub (pv 0) pe_int set_list))
    (pss_one (ps_ret (pe_op op_mod (pe_callTy call_int1 (by rfl) mint (by decide +kernel) (pa_cons (pe_op op_fdiv (pe_ix ix_list (pv 0) pe_int (fun _ _ => rfl)) pe_int) pa_nil)) (pv 1)))))))))), ?_⟩
  obtain ⟨ns, i, r, z, k, e, ec, ncd⟩ := hS.ex
  have L : ∀ {H' : Hp} {xs : List V}, H' d = some (.lst xs) → SqL K H' d xs := fun e => .inl (.inl e)
  have i0 : ∀ {a0 a1 a2 a3 a4 : V}, atI [a0, a1, a2, a3, a4] 0 = some a0 := atI_nat (j := 0) rfl
  have i1 : ∀ {a0 a1 a2 a3 a4 : V}, atI [a0, a1, a2, a3, a4] 1 = some a1 := atI_nat (j := 1) rfl
  have i2 : ∀ {a0 a1 a2 a3 a4 : V}, atI [a0, a1, a2, a3, a4] 2 = some a2 := atI_nat (j := 2) rfl
  have i3 : ∀ {a0 a1 a2 a3 a4 : V}, atI [a0, a1, a2, a3, a4] 3 = some a3 := atI_nat (j := 3) rfl
  have i4 : ∀ {a0 a1 a2 a3 a4 : V}, atI [a0, a1, a2, a3, a4] 4 = some a4 := atI_nat (j := 4) rfl
  have up : ∀ {H' : Hp} {xs : List V}, H' c = some (.lst (ns.map V.int)) → (upd H' d (.lst xs)) c = some (.lst (ns.map V.int)) := fun h => by rw [upd_ne ncd]; exact h
  have fin : ∀ (H' : Hp) (i' : Nat) (r' s' k' : Int) (x : Int), But d H H' → H' d = some (.lst [.ref c, .int (i' : Nat), .int r', .int s', .int k']) → Q (.int (x % b)) H' := fun H' i' r' s' k' x b1 e1 => q _ _ (Int.emod_nonneg _ (by omega)) (Int.emod_lt_of_pos _ hb) b1 ⟨ns, i', r', s', k', e1, b1 _ _ ncd ec, ncd⟩
  have dv : CDiv 0 b := ⟨hb, hb2⟩
  refine ⟨fun σ H1 => σ = [some (.ref d), some (.int b), none, none, none] ∧ H1 = H, ?_, fun σ H1 h => ?_⟩
  · refine ⟨_, rfl, d, _, 4, _, rfl, rfl, L e, i4, _, _, rfl, rfl, _, rfl, ?_⟩
    refine ite2 (fun _ => ?_) (fun _ => ite2 (fun z => absurd z (by decide)) (fun _ => ⟨rfl, rfl⟩))
    refine ⟨_, rfl, d, _, 2, _, rfl, rfl, L e, i2, _, _, rfl, rfl, _, rfl, ite2 (fun _ => ?_) (fun _ => ⟨rfl, rfl⟩)⟩
    refine ⟨_, rfl, d, _, 2, _, rfl, rfl, L e, i2, .inl ⟨_, rfl, _, rfl, _, _, rfl, rfl, hb, ?_⟩⟩
    refine ⟨_, rfl, d, _, 2, _, rfl, rfl, L e, i2, _, rfl, _, _, rfl, rfl, dv, _, rfl, d, _, 2, 2, rfl, rfl, e, rfl, ?_⟩
    refine ⟨_, rfl, d, _, 4, _, rfl, rfl, L upd_same, i4, _, _, rfl, rfl, _, rfl, d, _, 4, 4, rfl, rfl, upd_same, rfl, ?_⟩
    exact ⟨_, rfl, fin _ i _ z _ _ (But.upd.trans But.upd) upd_same⟩
  obtain ⟨rfl, rfl⟩ := h
  refine ⟨_, rfl, d, _, 3, _, rfl, rfl, L e, i3, _, rfl, d, _, 1, _, rfl, rfl, L e, i1, _, _, rfl, rfl, .inl ⟨by decide, by decide⟩, _, _, rfl, rfl, ?_⟩
  refine ⟨fun σ H2 => ∃ x : Int, σ = [some (.ref d), some (.int b), none, some (.int x), none] ∧ H2 = H1, ?_, fun σ H2 h => ?_⟩
  · refine ⟨_, rfl, d, _, 1, _, rfl, rfl, L e, i1, _, rfl, d, _, 0, _, rfl, rfl, L e, i0, c, _, rfl, .inl (.inl (.inl ec)), _, _, rfl, rfl, _, rfl, ite2 (fun lt => ?_) (fun _ => ⟨_, rfl, rfl⟩)⟩
    have lt : i < ns.length := by
      have := of_decide_eq_true lt
      rw [List.length_map] at this
      omega
    refine ⟨_, rfl, d, _, 0, _, rfl, rfl, L e, i0, _, rfl, d, _, 1, _, rfl, rfl, L e, i1, c, _, _, .int ns[i], rfl, rfl, .inl (.inl ec), atI_nat (j := i) (by rw [List.getElem?_map, List.getElem?_eq_getElem lt]; rfl), _, rfl, rfl⟩
  obtain ⟨x, rfl, rfl⟩ := h
  refine ⟨_, rfl, d, _, 1, _, rfl, rfl, L e, i1, _, _, rfl, rfl, _, rfl, d, _, 1, 1, rfl, rfl, e, rfl, ?_⟩
  have u1 : ∀ {xs : List V}, (upd H2 d (.lst xs)) d = some (.lst xs) := upd_same
  refine ⟨_, rfl, _, _, rfl, rfl, ⟨by decide, by decide, by decide⟩, _, _, rfl, rfl, _, rfl, ite2 (fun _ => ?_) (fun _ => ?_)⟩
  · refine ⟨_, rfl, _, rfl, _, _, rfl, rfl, dv, _, rfl, d, _, 2, 2, rfl, rfl, u1, rfl, ?_⟩
    refine ⟨_, rfl, d, _, 4, 4, rfl, rfl, upd_same, rfl, ?_⟩
    exact ⟨_, rfl, .inl ⟨_, rfl, _, rfl, _, _, rfl, rfl, hb, fin _ (i + 1) _ _ _ _ (But.upd.trans (But.upd.trans But.upd)) upd_same⟩⟩
  · refine ⟨_, rfl, _, _, rfl, rfl, .inr ⟨by decide, by decide⟩, _, rfl, d, _, 1, _, rfl, rfl, L u1, i1, _, _, rfl, rfl, .inr ⟨by decide, by decide⟩, _, _, rfl, rfl, _, rfl, d, _, 3, _, rfl, rfl, L u1, i3, _, _, rfl, rfl, .inl ⟨_, rfl, _, _, rfl, rfl, (by show (0 : Int) < 2147483647; decide), ?_⟩⟩
    have y1 : -(2 ^ 64) < (x * 48271 + ((i : Int) + 1) * 69621 + z) % 2147483647 ∧ (x * 48271 + ((i : Int) + 1) * 69621 + z) % 2147483647 < 2 ^ 64 := by
      have q1 := Int.emod_nonneg (x * 48271 + ((i : Int) + 1) * 69621 + z) (show (2147483647 : Int) ≠ 0 by decide)
      have q2 := Int.emod_lt_of_pos (x * 48271 + ((i : Int) + 1) * 69621 + z) (show (0 : Int) < 2147483647 by decide)
      omega
    refine ⟨_, rfl, _, _, rfl, rfl, .inr ⟨by decide, by decide⟩, _, rfl, _, rfl, _, _, rfl, rfl, .inl y1, _, _, rfl, rfl, _, _, rfl, rfl, .inl ⟨_, rfl, _, _, rfl, rfl, (by show (0 : Int) < 2147483629; decide), ?_⟩⟩
    refine ⟨_, rfl, d, _, 3, 3, rfl, rfl, u1, rfl, ?_⟩
    refine ⟨_, rfl, d, _, 3, _, rfl, rfl, L upd_same, i3, _, _, rfl, rfl, ⟨by decide, by decide⟩, .inl ⟨_, rfl, _, rfl, _, _, rfl, rfl, hb, fin _ (i + 1) _ _ _ _ (But.upd.trans But.upd) upd_same⟩⟩
end

section
variable {P : Program} {w : World} {K : PySem.W.Frag} {mg : Str → Option Value} {base : Heap}
/-! ### _law_term over the state -/
theorem sh1 (x : Str) (h : x.length ≤ 40 := by decide +kernel) (o : PyData.strOk x = true := by decide +kernel) : s7 x 0 ∧ s7 x 1 ∧ s7 x 2 := ⟨⟨⟨h, o⟩, by decide⟩, ⟨⟨h, o⟩, by decide⟩, ⟨⟨h, o⟩, by decide⟩⟩
def spTerm7 (n : Nat) : Sp := fun vs H Q _ => ∃ (d : Addr) (k m : Nat), vs = [.ref d, .int k, .int m] ∧ ∃ c, Sta H d c ∧ k < n ∧ m ≤ 900 ∧
  ∀ v t H', But d H H' → Sta H' d c → TmAt H' v t → t.wf s7 numVar → t.nest ≤ k + 1 → t.size < 2 ^ (k + 1) → Q v H'
theorem sc_law_term : FnScope ["state", "depth", "names", "pick", "leaf", "left"] ["state", "depth", "names"] (defScope s__law_term) := ⟨rfl, rfl, rfl, by decide +kernel, rfl, by decide +kernel, by decide +kernel⟩
theorem ok_law_term1 {f fD : Addr} {fd dD : FuncData} (D : Df K mg "_law_term" s__law_term ["state", "depth", "names"] f fd) (DD : Df K mg "_law_draw" s__law_draw ["state", "many"] fD dD) (GD : FnOk P w K mg base CX0 1 fD dD ["state", "many"] spDraw)
    {n : Nat} (G : FnOk P w K mg base CX0 (n + 1) f fd ["state", "depth", "names"] (spTerm7 n)) : FnOk P w K mg base CX0 (n + 1 + 1) f fd ["state", "depth", "names"] (spTerm7 (n + 1)) := by
  refine D.F.ok sc_law_term (fun vs H Q E h => ?_) (fun cdv A outer s H vs Q E hr h => ?_)
  · obtain ⟨d, k, m, rfl, _⟩ := h; rfl
  obtain ⟨d, k, m, rfl, c, hI, hk, hm, q⟩ := h
  have nd := sc_law_term.nd
  have hr1 : Room 1 _ := hr.mono (by omega)
  refine ⟨_, pss_cons (ps_set (i := 3) nd rfl (.inl rfl) (pe_call GD hr1 (by rfl) DD.m DD.F.kp DD.b .nil pass0 (pa_cons (pv 0) (pa_cons pe_int pa_nil))))
    (pss_cons (ps_if (PW.pt (pw_or (pt_cmpR op_eq (pv 1) pe_int (nomark _)) (pw_or1 (pt_cmpR op_lt (pv 3) pe_int (nomark _)))))
      (pss_cons (ps_set (i := 4) nd rfl (.inl rfl) (pe_call GD hr1 (by rfl) DD.m DD.F.kp DD.b .nil pass0 (pa_cons (pv 0) (pa_cons (pe_op op_add (pv 2) pe_int) pa_nil))))
      (pss_cons (ps_if (pt_cmpR op_lt (pv 4) (pv 2) (nomark _)) (pss_one (ps_ret (pv 4))) pss_nil)
      (pss_one (ps_ret (pe_tup (pa_cons (pe_ix ix_list (pe_lst (pa_cons pe_str (pa_cons pe_str (pa_cons pe_str pa_nil)))) (pe_op op_sub (pv 4) (pv 2)) (fun _ _ => rfl)) pa_nil)))))) pss_nil)
    (pss_cons (ps_if (pt_cmpR op_lt (pv 3) pe_int (nomark _)) (pss_one (ps_ret (pe_tup (pa_cons pe_str (pa_cons (pe_call G hr (by rfl) D.m D.F.kp D.b .nil pass0 (pa_cons (pv 0) (pa_cons (pe_op op_sub (pv 1) pe_int) (pa_cons (pv 2) pa_nil)))) pa_nil))))) pss_nil)
    (pss_cons (ps_set (i := 5) nd rfl (.inl rfl) (pe_call G hr (by rfl) D.m D.F.kp D.b .nil pass0 (pa_cons (pv 0) (pa_cons (pe_op op_sub (pv 1) pe_int) (pa_cons (pv 2) pa_nil)))))
    (pss_one (ps_ret (pe_tup (pa_cons pe_str (pa_cons (pv 5) (pa_cons (pe_call G hr (by rfl) D.m D.F.kp D.b .nil pass0 (pa_cons (pv 0) (pa_cons (pe_op op_sub (pv 1) pe_int) (pa_cons (pv 2) pa_nil)))) pa_nil))))))))), ?_⟩
  refine ⟨_, rfl, d, 7, rfl, _, hI, by decide, by decide, fun r H1 r0 r1 b1 hI1 => ?_⟩
  have p1 : 2 ≤ 2 ^ (k + 1) := by
    have := Nat.pow_le_pow_right (n := 2) (by decide) (show 1 ≤ k + 1 by omega)
    omega
  -- one less deep
  have sub : ∀ {H2 : Hp} {Q2 : VK}, 1 ≤ k → Sta H2 d c → (∀ v t H', But d H2 H' → Sta H' d c → TmAt H' v t → t.wf s7 numVar → t.nest ≤ k → t.size < 2 ^ k → Q2 v H') → spTerm7 n [.ref d, .int ((k : Int) - 1), .int (m : Int)] H2 Q2 E0 := fun {H2 Q2} k1 hI2 h => by
    have e : k - 1 + 1 = k := by omega
    refine ⟨d, k - 1, m, ?_, c, hI2, by omega, hm, fun v t H' b hI' hv hw hn hs => h v t H' b hI' hv hw (by omega) (by rw [e] at hs; exact hs)⟩
    rw [show ((k - 1 : Nat) : Int) = (k : Int) - 1 by omega]
  refine ⟨_, rfl, rfl, _, rfl, ?_⟩
  refine (fun (leaf : _) (rest : 1 ≤ k → _) => ite2 (fun _ => leaf) (fun z => ⟨_, rfl, _, _, rfl, rfl, _, rfl, ite2 (fun _ => leaf) (fun z2 => rest (Nat.pos_of_ne_zero fun e => z (decide_eq_true (congrArg (fun j : Nat => V.int j) e))))⟩)) ?_ ?_
  · refine ⟨_, rfl, _, rfl, _, _, rfl, rfl, d, _, rfl, _, hI1, by omega, by omega, fun r2 H2 q0 q1 b2 hI2 => ?_⟩
    refine ⟨_, rfl, _, rfl, _, _, rfl, rfl, _, rfl, ite2 (fun z => ?_) (fun z => ?_)⟩
    · have z := of_decide_eq_true z
      exact ⟨_, rfl, q _ (.var (.inl r2)) _ (b1.trans b2) hI2 (.int r2) ⟨r2, rfl, q0, by omega⟩ (by show 1 ≤ _; omega) (by show 1 < _; omega)⟩
    · have z : ¬ r2 < (m : Int) := fun x => z (decide_eq_true x)
      refine ⟨by show 3 ≤ sizeLine; decide, fun l nl => ?_⟩
      have s1 := same_new nl (.lst [.str "a", .str "b", .str "c"])
      obtain ⟨x, hx, hw⟩ : ∃ x : Str, atI [V.str "a", V.str "b", V.str "c"] (r2 - (m : Int)) = some (.str x) ∧ s7 x 0 := by
        rcases (show r2 - (m : Int) = 0 ∨ r2 - (m : Int) = 1 ∨ r2 - (m : Int) = 2 by omega) with e | e | e <;> rw [e]
        · exact ⟨"a", rfl, (sh1 "a").1⟩
        · exact ⟨"b", rfl, (sh1 "b").1⟩
        · exact ⟨"c", rfl, (sh1 "c").1⟩
      refine ⟨_, rfl, _, rfl, _, _, rfl, rfl, l, _, _, _, rfl, rfl, .inl (.inl upd_same), hx, by show 1 ≤ sizeLine; decide, fun p np => ?_⟩
      have s2 := same_new np (.tup [.str x])
      exact q (.ref p) (.ap x []) _ (b1.trans (b2.trans (s1.trans s2).but)) (hI2.same (s1.trans s2)) (.ap upd_same .nil) ⟨hw, trivial⟩ (by show 0 + 1 ≤ _; omega) (by show 0 + 1 < _; omega)
  intro k1
  have pk : 2 ^ (k + 1) = 2 ^ k * 2 := Nat.pow_succ 2 k
  have pk1 : 2 ≤ 2 ^ k := by
    have := Nat.pow_le_pow_right (n := 2) (by decide) k1
    omega
  refine ⟨_, rfl, _, _, rfl, rfl, _, rfl, ite2 (fun z => ?_) (fun z => ?_)⟩
  · refine ⟨_, rfl, _, rfl, _, _, rfl, rfl, _, rfl, sub k1 hI1 fun v t H2 b2 hI2 hv hw hn hs => ?_⟩
    refine ⟨by show 2 ≤ sizeLine; decide, fun p np => ?_⟩
    have s2 := same_new np (.tup [.str "f", v])
    exact q (.ref p) (.ap "f" [t]) _ (b1.trans (b2.trans s2.but)) (hI2.same s2) (.ap upd_same (.cons (TmAt.mono s2.tups _ _ hv) .nil)) ⟨(sh1 "f").2.1, hw, trivial⟩ (by show max t.nest 0 + 1 ≤ _; omega) (by show (t.size + 0) + 1 < _; omega)
  · refine ⟨_, rfl, _, rfl, _, _, rfl, rfl, _, rfl, sub k1 hI1 fun v t H2 b2 hI2 hv hw hn hs => ?_⟩
    refine ⟨_, rfl, _, rfl, _, rfl, _, _, rfl, rfl, _, rfl, sub k1 hI2 fun v2 t2 H3 b3 hI3 hv2 hw2 hn2 hs2 => ?_⟩
    refine ⟨by show 3 ≤ sizeLine; decide, fun p np => ?_⟩
    have s2 := same_new np (.tup [.str "g", v, v2])
    exact q (.ref p) (.ap "g" [t, t2]) _ (b1.trans (b2.trans (b3.trans s2.but))) (hI3.same s2) (.ap upd_same (.cons (TmAt.mono ((hI2.tups b3).trans s2.tups) _ _ hv) (.cons (TmAt.mono s2.tups _ _ hv2) .nil))) ⟨(sh1 "g").2.2, hw, hw2, trivial⟩ (by show max t.nest (max t2.nest 0) + 1 ≤ _; omega) (by show (t.size + (t2.size + 0)) + 1 < _; omega)
theorem ok_law_term {f fD : Addr} {fd dD : FuncData} (D : Df K mg "_law_term" s__law_term ["state", "depth", "names"] f fd) (DD : Df K mg "_law_draw" s__law_draw ["state", "many"] fD dD) (GD : FnOk P w K mg base CX0 1 fD dD ["state", "many"] spDraw) :
    ∀ n : Nat, FnOk P w K mg base CX0 (n + 1) f fd ["state", "depth", "names"] (spTerm7 n)
  | 0 => by
    have no : ∀ vs H Q E, ¬ spTerm7 0 vs H Q E := fun vs H Q E h => by
      obtain ⟨d, k, m, _, _, hk, _⟩ := h
      omega
    exact ⟨fun vs H Q E h => absurd h (no vs H Q E), fun A outer s H args us vs Q E _ _ _ _ h => absurd h (no vs H Q E)⟩
  | n + 1 => ok_law_term1 D DD GD (ok_law_term D DD GD n)
end

end K06
namespace K06
open PySem PySem.Spec PyProof.Rows L2 Own HT
section
variable {X : Cx}
def rIsiDct : List V → Hp → VK → Prop := fun xs H Q => ∃ (a : Addr) (kvs : List (Key × V)), xs = [.ref a, .ty "dict"] ∧ H a = some (.dK kvs) ∧ Q (.bl true) H
theorem call_isiDct : CallR X (.builtin "isinstance") rIsiDct := by
  intro pins s σ H xs us Q I r h
  obtain ⟨a, kvs, rfl, e, q⟩ := h
  exact call_isi pins s σ H _ us Q I r ⟨.ref a, .ty "dict", .type "dict", .type "dict", true, rfl, .ty "dict", .base (.dK e), kit_ty (by decide +kernel), q⟩
end
section
variable {P : Program} {w : World} {K : PySem.W.Frag} {mg : Str → Option Value} {base : Heap}
/-! ### _law_is_integer, _law_is_term, _law_is_substitution -/
def spIsInt : Sp := fun vs H Q _ => ∃ i : Int, vs = [.int i] ∧ Q (.bl true) H
theorem sc_law_is_integer : FnScope ["value"] ["value"] (defScope s__law_is_integer) := ⟨rfl, rfl, rfl, by decide +kernel, rfl, by decide +kernel, by decide +kernel⟩
theorem ok_law_is_integer {f : Addr} {fd : FuncData} (D : Df K mg "_law_is_integer" s__law_is_integer ["value"] f fd) (mi : mg "isinstance" = none) (mint : mg "int" = none) (mb : mg "bool" = none) : FnOk P w K mg base CX0 1 f fd ["value"] spIsInt := by
  refine D.F.ok sc_law_is_integer (fun vs H Q E h => ?_) (fun cdv A outer s H vs Q E hr h => ?_)
  · obtain ⟨x, rfl, _⟩ := h; rfl
  obtain ⟨x, rfl, q⟩ := h
  have nd := sc_law_is_integer.nd
  refine ⟨_, pss_one (ps_ret (pe_and (pe_callB call_isiDat (by rfl) mi (by decide +kernel) (pa_cons (pv 0) (pa_cons (pe_bltn (v := .ty "int") (by rfl) mint (by decide +kernel) rfl) pa_nil)))
    (pe_one (pe_not (pe_callB call_isiDat (by rfl) mi (by decide +kernel) (pa_cons (pv 0) (pa_cons (pe_bltn (v := .ty "bool") (by rfl) mb (by decide +kernel) rfl) pa_nil))))))), ?_⟩
  exact ⟨_, rfl, _, .int x, "int", _, rfl, .int x, k_int _, true, rfl, _, rfl, _, .int x, "bool", _, rfl, .int x, k_bool _, _, rfl, q⟩
def spIsTm (n : Nat) : Sp := fun vs H Q _ => ∃ (v : V) (t : Ter), vs = [v] ∧ TmAt H v t ∧ t.wf s7 numVar ∧ t.nest < n ∧ ∀ H', Same H H' → Q (.bl true) H'
theorem sc_law_is_term : FnScope ["value", "part"] ["value"] (defScope s__law_is_term) := ⟨rfl, rfl, rfl, by decide +kernel, rfl, by decide +kernel, by decide +kernel⟩
theorem ok_law_is_term1 {f fI : Addr} {fd dI : FuncData} (D : Df K mg "_law_is_term" s__law_is_term ["value"] f fd) (DI : Df K mg "_law_is_integer" s__law_is_integer ["value"] fI dI) (GI : FnOk P w K mg base CX0 1 fI dI ["value"] spIsInt)
    (mi : mg "isinstance" = none) (mt : mg "tuple" = none) (ms : mg "str" = none) (ml : mg "len" = none) {n : Nat} (G : FnOk P w K mg base CX0 (n + 1) f fd ["value"] (spIsTm n)) : FnOk P w K mg base CX0 (n + 1 + 1) f fd ["value"] (spIsTm (n + 1)) := by
  refine D.F.ok sc_law_is_term (fun vs H Q E h => ?_) (fun cdv A outer s H vs Q E hr h => ?_)
  · obtain ⟨x, t, rfl, _⟩ := h; rfl
  obtain ⟨v, t, rfl, ht, hw, hn, q⟩ := h
  have nd := sc_law_is_term.nd
  have r1 : Room 1 _ := hr.mono (by omega)
  refine ⟨_, pss_cons (ps_if (pt_not (pt_val (pe_callB call_isiTer (by rfl) mi (by decide +kernel) (pa_cons (pv 0) (pa_cons (pe_bltn (v := .ty "tuple") (by rfl) mt (by decide +kernel) rfl) pa_nil)))))
      (pss_one (ps_ret (pe_and (pe_call GI r1 (by rfl) DI.m DI.F.kp DI.b .nil pass0 (pa_cons (pv 0) pa_nil)) (pe_one (pe_cmpR op_ge (pv 0) pe_int (nomark _)))))) pss_nil)
    (pss_cons (ps_if (PW.pt (pw_or (pt_cmpR op_eq (pe_callB call_len_seq (by rfl) ml PySem.boot_len (pa_cons (pv 0) pa_nil)) pe_int (nomark _)) (pw_or1 (pt_not (pt_val (pe_callB call_isiDat (by rfl) mi (by decide +kernel) (pa_cons (pe_ix ix_tup (pv 0) pe_int (fun _ _ => rfl)) (pa_cons (pe_bltn (v := .ty "str") (by rfl) ms (by decide +kernel) rfl) pa_nil))))))))
      (pss_one (ps_ret pe_bl)) pss_nil)
    (pss_cons (ps_for PassesOwn.never rfl (pi_tup (pe_slice sl_1 (pv 0) (po_some pe_int) po_none)) (pg_name (i := 1) nd rfl (.inl rfl))
      (pss_one (ps_if (pt_not (pt_val (pe_call G hr (by rfl) D.m D.F.kp D.b .nil pass0 (pa_cons (pv 1) pa_nil)))) (pss_one (ps_ret pe_bl)) pss_nil)))
    (pss_one (ps_ret pe_bl)))), ?_⟩
  refine ⟨v, rfl, v, t, rfl, ht, _, rfl, ?_⟩
  cases ht with
  | int i =>
    obtain ⟨r, e, h0, h1⟩ := hw
    cases e
    refine iteT ⟨_, rfl, _, rfl, true, rfl, _, rfl, _, _, rfl, rfl, ?_⟩
    show Q (.bl (decide ((0 : Int) ≤ i))) H
    rw [decide_eq_true h0]
    exact q H (Same.refl _)
  | str x =>
    obtain ⟨r, e, h0, h1⟩ := hw
    cases e
  | @ap a g xs as e hs =>
    have hn : Ter.nests as + 1 < n + 1 := hn
    refine iteF ⟨_, rfl, a, _, rfl, .inr (.inl (.inl e)), rfl, _, rfl, ite2 (fun z => ?_) (fun _ => ?_)⟩
    · have z : ((xs.length + 1 : Nat) : Int) = 0 := V.int.inj (of_decide_eq_true z)
      exact absurd z (by omega)
    refine ⟨_, rfl, a, _, 0, .str g, rfl, rfl, .inl (.inl e), head_at, _, .str g, "str", _, rfl, .str g, k_str _, _, rfl, iteF ?_⟩
    refine ⟨.ref a, rfl, 1, rfl, a, .str g, xs, rfl, rfl, rfl, .inl (.inl e), fun p2 np2 => ?_⟩
    have s2 := same_new np2 (.tup xs)
    refine ⟨p2, rfl, ⟨xs, .inl (.inl upd_same)⟩, for_tup (xs := xs) (fun i σ H2 => ∃ y, σ = [some (.ref a), y] ∧ Same (upd H p2 (.tup xs)) H2) ⟨none, rfl, Same.refl _⟩ (fun i σ H2 _ h => ?_) (fun i x σ H2 hx h => ?_) (fun σ H2 h => ?_)⟩
    · obtain ⟨_, _, sm⟩ := h
      exact .inl (.inl (sm _ _ upd_same))
    · obtain ⟨y, rfl, sm⟩ := h
      obtain ⟨t1, et, hx1⟩ := hs.get hx
      have n1 := nest_le_of et
      exact ⟨x, rfl, x, t1, rfl, TmAt.mono (s2.trans sm).tups _ _ hx1, wfs_get hw.2 et, by omega, fun H3 s3 => ⟨_, rfl, iteF ⟨_, rfl, sm.trans s3⟩⟩⟩
    · obtain ⟨y, rfl, sm⟩ := h
      exact q H2 (s2.trans sm)
theorem ok_law_is_term {f fI : Addr} {fd dI : FuncData} (D : Df K mg "_law_is_term" s__law_is_term ["value"] f fd) (DI : Df K mg "_law_is_integer" s__law_is_integer ["value"] fI dI) (GI : FnOk P w K mg base CX0 1 fI dI ["value"] spIsInt)
    (mi : mg "isinstance" = none) (mt : mg "tuple" = none) (ms : mg "str" = none) (ml : mg "len" = none) : ∀ n : Nat, FnOk P w K mg base CX0 (n + 1) f fd ["value"] (spIsTm n)
  | 0 => by
    have no : ∀ vs H Q E, ¬ spIsTm 0 vs H Q E := fun vs H Q E h => by
      obtain ⟨v, t, _, _, _, hk, _⟩ := h
      omega
    exact ⟨fun vs H Q E h => absurd h (no vs H Q E), fun A outer s H args us vs Q E _ _ _ _ h => absurd h (no vs H Q E)⟩
  | n + 1 => ok_law_is_term1 D DI GI mi mt ms ml (ok_law_is_term D DI GI mi mt ms ml n)
/-- a dict of terms for variables -/
structure SubAt (H : Hp) (kvs : List (Key × V)) (N : Nat) : Prop where
  nd : (kvs.map (·.1)).Nodup
  al : ∀ e ∈ kvs, (∃ i, e.1 = .inl i ∧ 0 ≤ i) ∧ ∃ t, TmAt H e.2 t ∧ t.wf s7 numVar ∧ t.nest ≤ N
theorem SubAt.mono {H H' : Hp} {kvs : List (Key × V)} {N : Nat} (h : SubAt H kvs N) (m : Tups H H') : SubAt H' kvs N := ⟨h.nd, fun e he => by
  obtain ⟨a, t, ht, b⟩ := h.al e he
  exact ⟨a, t, TmAt.mono m _ _ ht, b⟩⟩
def spIsSub : Sp := fun vs H Q _ => ∃ (a : Addr) (kvs : List (Key × V)) , vs = [.ref a] ∧ H a = some (.dK kvs) ∧ SubAt H kvs 60 ∧ ∀ H', Same H H' → Q (.bl true) H'
theorem sc_law_is_substitution : FnScope ["value", "variable"] ["value"] (defScope s__law_is_substitution) := ⟨rfl, rfl, rfl, by decide +kernel, rfl, by decide +kernel, by decide +kernel⟩
theorem ok_law_is_substitution {f fI fT : Addr} {fd dI dT : FuncData} (D : Df K mg "_law_is_substitution" s__law_is_substitution ["value"] f fd) (DI : Df K mg "_law_is_integer" s__law_is_integer ["value"] fI dI) (GI : FnOk P w K mg base CX0 1 fI dI ["value"] spIsInt)
    (DT : Df K mg "_law_is_term" s__law_is_term ["value"] fT dT) (GT : FnOk P w K mg base CX0 62 fT dT ["value"] (spIsTm 61)) (mi : mg "isinstance" = none) (md : mg "dict" = none) (mli : mg "list" = none) : FnOk P w K mg base CX0 63 f fd ["value"] spIsSub := by
  refine D.F.ok sc_law_is_substitution (fun vs H Q E h => ?_) (fun cdv A outer s H vs Q E hr h => ?_)
  · obtain ⟨x, t, rfl, _⟩ := h; rfl
  obtain ⟨a, kvs, rfl, ea, hS, q⟩ := h
  have nd := sc_law_is_substitution.nd
  have r1 : Room 1 _ := hr.mono (by omega)
  refine ⟨_, pss_cons (ps_if (pt_not (pt_val (pe_callB call_isiDct (by rfl) mi (by decide +kernel) (pa_cons (pv 0) (pa_cons (pe_bltn (v := .ty "dict") (by rfl) md (by decide +kernel) rfl) pa_nil))))) (pss_one (ps_ret pe_bl)) pss_nil)
    (pss_cons (ps_for PassesOwn.never rfl (pi_list (pe_callTy (call_listD rfl) (by rfl) mli (by decide +kernel) (pa_cons (pv 0) pa_nil))) (pg_name (i := 1) nd rfl (.inl rfl))
      (pss_one (ps_if (PW.pt (pw_or (pt_not (pt_val (pe_call GI r1 (by rfl) DI.m DI.F.kp DI.b .nil pass0 (pa_cons (pv 1) pa_nil)))) (pw_or1 (pt_not (pt_val (pe_call GT hr (by rfl) DT.m DT.F.kp DT.b .nil pass0 (pa_cons (pe_dget (hu_of hr) (pv 0) (pv 1) (fun _ _ => rfl)) pa_nil))))))) (pss_one (ps_ret pe_bl)) pss_nil)))
    (pss_one (ps_ret pe_bl))), ?_⟩
  refine ⟨_, rfl, a, kvs, rfl, ea, _, rfl, iteF ?_⟩
  refine ⟨_, rfl, a, kvs, rfl, .inl ea, fun p np => ?_⟩
  have s1 := same_new np (.lst (kvs.map fun kv => kV kv.1))
  refine ⟨p, rfl, ⟨_, .inl (.inl upd_same)⟩, for_list (xs := kvs.map fun kv => kV kv.1) (fun i σ H2 => ∃ y, σ = [some (.ref a), y] ∧ Same (upd H p (.lst (kvs.map fun kv => kV kv.1))) H2) ⟨none, rfl, Same.refl _⟩ (fun i σ H2 _ h => ?_) (fun i x σ H2 hx h => ?_) (fun σ H2 h => ?_)⟩
  · obtain ⟨_, _, sm⟩ := h
    exact .inl (.inl (sm _ _ upd_same))
  · obtain ⟨y, rfl, sm⟩ := h
    rw [List.getElem?_map] at hx
    cases ek : kvs[i]? with
    | none => rw [ek] at hx; cases hx
    | some kv =>
      rw [ek] at hx
      cases hx
      have hm := List.mem_of_getElem? ek
      obtain ⟨⟨j, hj, j0⟩, t, ht, hw, hn⟩ := hS.al kv hm
      have sa := s1.trans sm
      obtain ⟨kk, kw⟩ := kv
      have hj : kk = .inl j := hj
      subst hj
      refine ⟨_, rfl, j, rfl, _, rfl, iteF ?_⟩
      have ev : valV kvs (.inl j) = some kw := val_of_mem hS.nd hm
      refine ⟨_, rfl, _, rfl, a, kw, rfl, (by rw [← ev]; exact DGet.k (k := .inl j) (sa _ _ ea)), kw, t, rfl, TmAt.mono sa.tups _ _ ht, hw, by omega, fun H3 s3 => ?_⟩
      exact ⟨_, rfl, iteF ⟨_, rfl, sm.trans s3⟩⟩
  · obtain ⟨y, rfl, sm⟩ := h
    exact q H2 (s1.trans sm)
end

/-! ### dicts of terms -/
theorem mem_put {kvs : List (Key × V)} {k : Key} {v : V} {e : Key × V} (h : e ∈ putK kvs k v) : (e.1 = k ∧ e.2 = v) ∨ e ∈ kvs := by
  unfold putK at h
  split at h
  · obtain ⟨q, hq, rfl⟩ := List.mem_map.mp h
    by_cases c : q.1 = k
    · rw [if_pos c]; exact .inl ⟨c, rfl⟩
    · rw [if_neg c]; exact .inr hq
  · rcases List.mem_append.mp h with h | h
    · exact .inr h
    · rcases List.mem_cons.mp h with rfl | h
      · exact .inl ⟨rfl, rfl⟩
      · cases h
theorem len_put (kvs : List (Key × V)) (k : Key) (v : V) : (putK kvs k v).length ≤ kvs.length + 1 := by
  unfold putK
  split
  · rw [List.length_map]; omega
  · rw [List.length_append]; exact Nat.le_refl _
theorem nd_put {kvs : List (Key × V)} {k : Key} (v : V) (hn : (kvs.map (·.1)).Nodup) : ((putK kvs k v).map (·.1)).Nodup := by
  cases e : valV kvs k with
  | none => exact nd_putK v hn e
  | some u =>
    unfold putK
    rw [valV_any, e]
    show ((kvs.map fun kv => if kv.1 = k then (kv.1, v) else kv).map (·.1)).Nodup
    rw [List.map_map]
    have : ((fun x : Key × V => x.1) ∘ fun kv : Key × V => if kv.1 = k then (kv.1, v) else kv) = (·.1) := funext fun kv => by
      show (if kv.1 = k then (kv.1, v) else kv).1 = kv.1
      split <;> rfl
    rw [this]
    exact hn
theorem SubAt.put {H : Hp} {kvs : List (Key × V)} {N : Nat} (h : SubAt H kvs N) {i : Int} (hi : 0 ≤ i) {v : V} {t : Ter} (ht : TmAt H v t) (hw : t.wf s7 numVar) (hn : t.nest ≤ N) : SubAt H (putK kvs (.inl i) v) N :=
  ⟨nd_put v h.nd, fun e he => by
    rcases mem_put he with ⟨e1, e2⟩ | he
    · exact ⟨⟨i, e1, hi⟩, t, e2 ▸ ht, hw, hn⟩
    · exact h.al e he⟩
theorem SubAt.nil {H : Hp} {N : Nat} : SubAt H [] N := ⟨List.nodup_nil, fun e h => by cases h⟩
theorem SubAt.get {H : Hp} {kvs : List (Key × V)} {N : Nat} (h : SubAt H kvs N) {k : Key} {v : V} (e : valV kvs k = some v) : ∃ t, TmAt H v t ∧ t.wf s7 numVar ∧ t.nest ≤ N := by
  unfold valV at e
  cases q : kvs.find? fun kv => decide (kv.1 = k) with
  | none => rw [q] at e; cases e
  | some p =>
    rw [q] at e
    have h4 : p.2 = v := Option.some.inj e
    obtain ⟨_, t, ht⟩ := h.al p (List.mem_of_find?_eq_some q)
    exact ⟨t, h4 ▸ ht⟩
theorem SubAt.le {H : Hp} {kvs : List (Key × V)} {N M : Nat} (h : SubAt H kvs N) (l : N ≤ M) : SubAt H kvs M := ⟨h.nd, fun e he => by
  obtain ⟨a, t, x, y, z⟩ := h.al e he
  exact ⟨a, t, x, y, by omega⟩⟩
section
variable {P : Program} {w : World} {K : PySem.W.Frag} {mg : Str → Option Value} {base : Heap}
/-! ### _law_replaced -/
def spRepl (N n : Nat) : Sp := fun vs H Q _ => ∃ (a : Addr) (v : V) (t : Ter) (kvs : List (Key × V)), vs = [.ref a, v] ∧ H a = some (.dK kvs) ∧ SubAt H kvs N ∧ TmAt H v t ∧ t.wf s7 numVar ∧ t.nest < n ∧
  ∀ v' t' H', Same H H' → TmAt H' v' t' → t'.wf s7 numVar → t'.nest ≤ t.nest + N → Q v' H'
theorem sc_law_replaced : FnScope ["substitution", "term", "parts", "part"] ["substitution", "term"] (defScope s__law_replaced) := ⟨rfl, rfl, rfl, by decide +kernel, rfl, by decide +kernel, by decide +kernel⟩
theorem ok_law_replaced1 {f : Addr} {fd : FuncData} (D : Df K mg "_law_replaced" s__law_replaced ["substitution", "term"] f fd) (mi : mg "isinstance" = none) (mt : mg "tuple" = none)
    {N n : Nat} (G : FnOk P w K mg base CX0 n f fd ["substitution", "term"] (spRepl N n)) : FnOk P w K mg base CX0 (n + 1) f fd ["substitution", "term"] (spRepl N (n + 1)) := by
  refine D.F.ok sc_law_replaced (fun vs H Q E h => ?_) (fun cdv A outer s H vs Q E hr h => ?_)
  · obtain ⟨a, v, t, kvs, rfl, _⟩ := h; rfl
  obtain ⟨a, v, t, kvs, rfl, ea, hS, ht, hw, hn, q⟩ := h
  have nd := sc_law_replaced.nd
  refine ⟨_, pss_cons (ps_if (pt_not (pt_val (pe_callB call_isiTer (by rfl) mi (by decide +kernel) (pa_cons (pv 1) (pa_cons (pe_bltn (v := .ty "tuple") (by rfl) mt (by decide +kernel) rfl) pa_nil)))))
      (pss_one (ps_ret (pe_dget2 (hu_of hr) (pv 0) (pv 1) (pv 1) ⟨rfl, rfl, rfl, rfl⟩))) pss_nil)
    (pss_cons (ps_set (i := 2) nd rfl (.inl rfl) (pe_lst (pa_cons (pe_ix ix_tup (pv 1) pe_int (fun _ _ => rfl)) pa_nil)))
    (pss_cons (ps_for PassesOwn.never rfl (pi_tup (pe_slice sl_1 (pv 1) (po_some pe_int) po_none)) (pg_name (i := 3) nd rfl (.inl rfl))
      (pss_one (ps_expr (pe_bm PySem.F.plainAttrs_list PySem.F.slot_list_append PySem.F.type_list_append mt_append (pv 2) (pa_cons (pe_call G hr (by rfl) D.m D.F.kp D.b .nil pass0 (pa_cons (pv 0) (pa_cons (pv 3) pa_nil))) pa_nil)))))
    (pss_one (ps_ret (pe_callTy call_tuple_of (by rfl) mt (by decide +kernel) (pa_cons (pv 2) pa_nil)))))), ?_⟩
  refine ⟨v, rfl, v, t, rfl, ht, _, rfl, ?_⟩
  cases ht with
  | int i =>
    refine iteT ⟨_, rfl, a, rfl, .inl ⟨kvs, .inl ea⟩, _, rfl, _, rfl, valV kvs (.inl i), DGet.k (k := .inl i) ea, ?_⟩
    cases e : valV kvs (.inl i) with
    | none => exact q _ _ H (Same.refl _) (.int i) hw (Nat.le_add_right _ _)
    | some u =>
      obtain ⟨t', h1, h2, h3⟩ := hS.get e
      exact q u t' H (Same.refl _) h1 h2 (by omega)
  | str x =>
    obtain ⟨r, e, h0, h1⟩ := hw
    cases e
  | @ap p g xs as e hs =>
    have hn : Ter.nests as + 1 < n + 1 := hn
    have ls := hs.len
    have l2 : as.length ≤ 2 := hw.1.2
    refine iteF ⟨_, rfl, p, _, 0, .str g, rfl, rfl, .inl (.inl e), head_at, by show 1 ≤ sizeLine; decide, fun d nd' => ?_⟩
    have s1 := same_new nd' (.lst [.str g])
    refine ⟨.ref p, rfl, 1, rfl, p, .str g, xs, rfl, rfl, rfl, .inl (.inl (s1 _ _ e)), fun p2 np2 => ?_⟩
    have s2 := same_new np2 (.tup xs)
    have dp : p2 ≠ d := fun z => by rw [z, upd_same] at np2; cases np2
    refine ⟨p2, rfl, ⟨xs, .inl (.inl upd_same)⟩, for_tup (xs := xs) (fun i σ H2 => ∃ acc ts y, σ = [some (.ref a), some (.ref p), some (.ref d), y] ∧ Same H H2 ∧ H2 p2 = some (.tup xs) ∧ H2 d = some (.lst (.str g :: acc)) ∧ TmAll H2 acc ts ∧ ts.length = i ∧ Ter.wfs s7 numVar ts ∧ Ter.nests ts ≤ Ter.nests as + N) ⟨[], [], none, rfl, s1.trans s2, upd_same, s2 _ _ upd_same, .nil, rfl, trivial, Nat.zero_le _⟩ (fun i σ H2 _ h => ?_) (fun i x σ H2 hx h => ?_) (fun σ H2 h => ?_)⟩
    · obtain ⟨_, _, _, _, _, ep2, _⟩ := h
      exact .inl (.inl ep2)
    · obtain ⟨acc, ts, y, rfl, sm, ep2, ed, hacc, lt, hws, hns⟩ := h
      obtain ⟨t1, et, hx1⟩ := hs.get hx
      have n1 := nest_le_of et
      have li := (List.getElem?_eq_some_iff.mp et).1
      have la := hacc.len
      refine ⟨.ref d, rfl, tyl ed, _, rfl, _, rfl, a, x, t1, kvs, rfl, sm _ _ ea, hS.mono sm.tups, TmAt.mono sm.tups _ _ hx1, wfs_get hw.2 et, by omega, fun v' t' H3 s3 hv' hw' hn' => ?_⟩
      have ed3 := s3 _ _ ed
      refine ⟨d, _, _, rfl, rfl, ed3, small6' (by show acc.length + 1 ≤ _; omega), ?_⟩
      have b4 : But d H3 (upd H3 d (.lst (.str g :: acc ++ [v']))) := But.upd
      have m4 := b4.tups ed3
      exact ⟨acc ++ [v'], ts ++ [t'], _, rfl, But.same nd' (sm.trans s3) b4, b4 _ _ dp (s3 _ _ ep2), upd_same, (TmAll.mono (s3.tups.trans m4) _ _ hacc).app (.cons (TmAt.mono m4 _ _ hv') .nil), by rw [List.length_append, List.length_singleton, lt], wfs_app hws ⟨hw', trivial⟩, by rw [nests_snoc]; omega⟩
    · obtain ⟨acc, ts, y, rfl, sm, ep2, ed, hacc, lt, hws, hns⟩ := h
      refine ⟨_, rfl, d, _, rfl, .inl ⟨.inl (.inl ed), fun p3 np3 => ?_⟩⟩
      have s3 := same_new np3 (.tup (.str g :: acc))
      have e2 : ts.length = as.length := by omega
      exact q (.ref p3) (.ap g ts) _ (sm.trans s3) (.ap upd_same (TmAll.mono s3.tups _ _ hacc)) ⟨by rw [e2]; exact hw.1, hws⟩ (by show Ter.nests ts + 1 ≤ (Ter.nests as + 1) + N; omega)
theorem ok_law_replaced {f : Addr} {fd : FuncData} (D : Df K mg "_law_replaced" s__law_replaced ["substitution", "term"] f fd) (mi : mg "isinstance" = none) (mt : mg "tuple" = none) (N : Nat) :
    ∀ n : Nat, FnOk P w K mg base CX0 n f fd ["substitution", "term"] (spRepl N n)
  | 0 => by
    have no : ∀ vs H Q E, ¬ spRepl N 0 vs H Q E := fun vs H Q E h => by
      obtain ⟨_, _, _, _, _, _, _, _, _, hk, _⟩ := h
      omega
    exact ⟨fun vs H Q E h => absurd h (no vs H Q E), fun A outer s H args us vs Q E _ _ _ _ h => absurd h (no vs H Q E)⟩
  | n + 1 => ok_law_replaced1 D mi mt (ok_law_replaced D mi mt N n)
/-! ### _law_substitution -/
def spSubst : Sp := fun vs H Q _ => ∃ (d : Addr) (m k : Nat), vs = [.ref d, .int m, .int k] ∧ ∃ c, Sta H d c ∧ m ≤ 5 ∧ k < 4 ∧
  ∀ (p : Addr) (kvs : List (Key × V)) (H' : Hp), But d H H' → H p = none → Sta H' d c → H' p = some (.dK kvs) → SubAt H' kvs (k + 1) → kvs.length ≤ m → Q (.ref p) H'
theorem sc_law_substitution : FnScope ["state", "names", "depth", "substitution", "name"] ["state", "names", "depth"] (defScope s__law_substitution) := ⟨rfl, rfl, rfl, by decide +kernel, rfl, by decide +kernel, by decide +kernel⟩
theorem ok_law_substitution {f fD fT : Addr} {fd dD dT : FuncData} (D : Df K mg "_law_substitution" s__law_substitution ["state", "names", "depth"] f fd) (DD : Df K mg "_law_draw" s__law_draw ["state", "many"] fD dD) (GD : FnOk P w K mg base CX0 1 fD dD ["state", "many"] spDraw)
    (DT : Df K mg "_law_term" s__law_term ["state", "depth", "names"] fT dT) (GT : FnOk P w K mg base CX0 5 fT dT ["state", "depth", "names"] (spTerm7 4)) (mr : mg "range" = none) : FnOk P w K mg base CX0 6 f fd ["state", "names", "depth"] spSubst := by
  refine D.F.ok sc_law_substitution (fun vs H Q E h => ?_) (fun cdv A outer s H vs Q E hr h => ?_)
  · obtain ⟨a, v, t, rfl, _⟩ := h; rfl
  obtain ⟨d, m, k, rfl, c, hI, hm, hk, q⟩ := h
  have nd := sc_law_substitution.nd
  have r1 : Room 1 _ := hr.mono (by omega)
  refine ⟨_, pss_cons (ps_set (i := 3) nd rfl (.inl rfl) pe_dnewK)
    (pss_cons (ps_for PassesOwn.never rfl (pi_range1 (by rfl) mr (pa_cons (pv 1) pa_nil)) (pg_name (i := 4) nd rfl (.inl rfl))
      (pss_one (ps_if (pt_cmpR op_gt (pe_call GD r1 (by rfl) DD.m DD.F.kp DD.b .nil pass0 (pa_cons (pv 0) (pa_cons pe_int pa_nil))) pe_int (nomark _))
        (pss_one (ps_dput (hu_of hr) (pv 3) (pv 4) (pe_call GT hr (by rfl) DT.m DT.F.kp DT.b .nil pass0 (pa_cons (pv 0) (pa_cons (pv 2) (pa_cons (pv 1) pa_nil)))) rfl)) pss_nil)))
    (pss_one (ps_ret (pv 3)))), ?_⟩
  refine fun p np => ?_
  have s1 := same_new np (.dK [])
  have npd := hI.ne np
  refine ⟨_, rfl, _, rfl, by omega, by omega, for_range (lo := 0) (n := m) (fun i σ H2 => ∃ kvs y, σ = [some (.ref d), some (.int m), some (.int k), some (.ref p), y] ∧ But d H H2 ∧ Sta H2 d c ∧ H2 p = some (.dK kvs) ∧ SubAt H2 kvs (k + 1) ∧ kvs.length ≤ i) ⟨[], none, rfl, s1.but, hI.same s1, upd_same, .nil, Nat.le_refl _⟩ (fun i σ H2 hi h => ?_) (fun σ H2 h => ?_)⟩
  · obtain ⟨kvs, y, rfl, b2, hI2, ep, hS, hl⟩ := h
    refine ⟨_, rfl, d, 3, rfl, _, hI2, by decide, by decide, fun r H3 r0 r3 b3 hI3 => ?_⟩
    have ep3 := b3 _ _ npd ep
    have m3 := hI2.tups b3
    refine ⟨_, _, rfl, rfl, _, rfl, ite2 (fun _ => ?_) (fun _ => ⟨kvs, _, rfl, b2.trans b3, hI3, ep3, hS.mono m3, by omega⟩)⟩
    refine ⟨_, rfl, _, rfl, _, rfl, d, k, m, rfl, _, hI3, hk, by omega, fun v t H4 b4 hI4 hv hw hn _ => ?_⟩
    have ep4 := b4 _ _ npd ep3
    have m4 := hI3.tups b4
    refine ⟨_, rfl, _, rfl, p, _, rfl, DPut.k (k := .inl _) ep4 (small6' (by omega)), ?_⟩
    have mU : Tups H4 (upd H4 p (.dK (putK kvs (.inl (0 + (i : Int))) v))) := tups_updD ep4
    have b5 := b2.trans (b3.trans b4)
    refine ⟨_, _, rfl, fun c o n e => ?_, ?_, upd_same, ((hS.mono (m3.trans m4)).mono mU).put (by omega) (TmAt.mono mU _ _ hv) hw (by omega), Nat.le_trans (len_put _ _ _) (by omega)⟩
    · rw [upd_ne (ne_of_none e np)]
      exact b5 c o n e
    · exact hI4.updD ep4
  · obtain ⟨kvs, y, rfl, b2, hI2, ep, hS, hl⟩ := h
    exact ⟨_, rfl, q p kvs H2 b2 np hI2 ep hS hl⟩
end

theorem SubAt.sub {H : Hp} {N : Nat} : ∀ {kvs : List (Key × V)}, SubAt H kvs N → ∃ θ, SubT H kvs θ ∧ SbOk θ N
  | [], _ => ⟨[], .nil, .nil⟩
  | (k, v) :: r, h => by
    have nd : k ∉ r.map (·.1) ∧ (r.map (·.1)).Nodup := List.nodup_cons.mp h.nd
    obtain ⟨θ, h1, h2⟩ := SubAt.sub (kvs := r) ⟨nd.2, fun e he => h.al e (List.mem_cons_of_mem _ he)⟩
    obtain ⟨h3, t, h4, h5, h6⟩ := h.al (k, v) List.mem_cons_self
    have ek := h1.keys
    refine ⟨(k, t) :: θ, .cons h4 h1, List.nodup_cons.mpr ⟨by show k ∉ Sb.keys θ; rw [← ek]; exact nd.1, h2.nd⟩, ?_, ?_, ?_⟩
    · intro e he
      rcases List.mem_cons.mp he with rfl | he
      · exact h3
      · exact h2.num e he
    · intro e he
      rcases List.mem_cons.mp he with rfl | he
      · exact h5
      · exact h2.wf e he
    · intro e he
      rcases List.mem_cons.mp he with rfl | he
      · exact h6
      · exact h2.ne e he
theorem SubAt.of {H : Hp} {N : Nat} {kvs : List (Key × V)} {θ : Sb} (h : SubT H kvs θ) (g : SbOk θ N) : SubAt H kvs N := ⟨by rw [h.keys]; exact g.nd, fun e he => by
  obtain ⟨i, hi⟩ := List.getElem?_of_mem he
  obtain ⟨k, v⟩ := e
  obtain ⟨t, h1, h2⟩ := h.get hi
  have hm := List.mem_of_getElem? h1
  exact ⟨g.num (k, t) hm, t, h2, g.wf (k, t) hm, g.ne (k, t) hm⟩⟩
section
variable {P : Program} {w : World} {K : PySem.W.Frag} {mg : Str → Option Value} {base : Heap}
/-! ### _law_replaced, what it gives -/
def spRp (n : Nat) : Sp := fun vs H Q _ => ∃ (a : Addr) (v : V) (t : Ter) (kvs : List (Key × V)) (θ : Sb), vs = [.ref a, v] ∧ H a = some (.dK kvs) ∧ SubT H kvs θ ∧ TmAt H v t ∧ t.wf s7 numVar ∧ t.nest < n ∧
  ∀ v' H', Same H H' → TmAt H' v' (t.sub θ) → Q v' H'
theorem ok_law_rp1 {f : Addr} {fd : FuncData} (D : Df K mg "_law_replaced" s__law_replaced ["substitution", "term"] f fd) (mi : mg "isinstance" = none) (mt : mg "tuple" = none)
    {n : Nat} (G : FnOk P w K mg base CX0 n f fd ["substitution", "term"] (spRp n)) : FnOk P w K mg base CX0 (n + 1) f fd ["substitution", "term"] (spRp (n + 1)) := by
  refine D.F.ok sc_law_replaced (fun vs H Q E h => ?_) (fun cdv A outer s H vs Q E hr h => ?_)
  · obtain ⟨a, v, t, kvs, θ, rfl, _⟩ := h; rfl
  obtain ⟨a, v, t, kvs, θ, rfl, ea, hS, ht, hw, hn, q⟩ := h
  have nd := sc_law_replaced.nd
  refine ⟨_, pss_cons (ps_if (pt_not (pt_val (pe_callB call_isiTer (by rfl) mi (by decide +kernel) (pa_cons (pv 1) (pa_cons (pe_bltn (v := .ty "tuple") (by rfl) mt (by decide +kernel) rfl) pa_nil)))))
      (pss_one (ps_ret (pe_dget2 (hu_of hr) (pv 0) (pv 1) (pv 1) ⟨rfl, rfl, rfl, rfl⟩))) pss_nil)
    (pss_cons (ps_set (i := 2) nd rfl (.inl rfl) (pe_lst (pa_cons (pe_ix ix_tup (pv 1) pe_int (fun _ _ => rfl)) pa_nil)))
    (pss_cons (ps_for PassesOwn.never rfl (pi_tup (pe_slice sl_1 (pv 1) (po_some pe_int) po_none)) (pg_name (i := 3) nd rfl (.inl rfl))
      (pss_one (ps_expr (pe_bm PySem.F.plainAttrs_list PySem.F.slot_list_append PySem.F.type_list_append mt_append (pv 2) (pa_cons (pe_call G hr (by rfl) D.m D.F.kp D.b .nil pass0 (pa_cons (pv 0) (pa_cons (pv 3) pa_nil))) pa_nil)))))
    (pss_one (ps_ret (pe_callTy call_tuple_of (by rfl) mt (by decide +kernel) (pa_cons (pv 2) pa_nil)))))), ?_⟩
  refine ⟨v, rfl, v, t, rfl, ht, _, rfl, ?_⟩
  cases ht with
  | int i =>
    refine iteT ⟨_, rfl, a, rfl, .inl ⟨kvs, .inl ea⟩, _, rfl, _, rfl, valV kvs (.inl i), DGet.k (k := .inl i) ea, ?_⟩
    rcases hS.look (.inl i) with ⟨e1, e2⟩ | ⟨u, t1, e1, e2, hu⟩
    · rw [e1]
      exact q _ H (Same.refl _) (by show TmAt H _ ((Sb.look θ (.inl i)).getD _); rw [e2]; exact .int i)
    · rw [e1]
      exact q _ H (Same.refl _) (by show TmAt H _ ((Sb.look θ (.inl i)).getD _); rw [e2]; exact hu)
  | str x =>
    obtain ⟨r, e, h0, h1⟩ := hw
    cases e
  | @ap p g xs as e hs =>
    have hn : Ter.nests as + 1 < n + 1 := hn
    have ls := hs.len
    have l2 : as.length ≤ 2 := hw.1.2
    refine iteF ⟨_, rfl, p, _, 0, .str g, rfl, rfl, .inl (.inl e), head_at, by show 1 ≤ sizeLine; decide, fun d nd' => ?_⟩
    have s1 := same_new nd' (.lst [.str g])
    refine ⟨.ref p, rfl, 1, rfl, p, .str g, xs, rfl, rfl, rfl, .inl (.inl (s1 _ _ e)), fun p2 np2 => ?_⟩
    have s2 := same_new np2 (.tup xs)
    have dp : p2 ≠ d := fun z => by rw [z, upd_same] at np2; cases np2
    refine ⟨p2, rfl, ⟨xs, .inl (.inl upd_same)⟩, for_tup (xs := xs) (fun i σ H2 => ∃ acc y, σ = [some (.ref a), some (.ref p), some (.ref d), y] ∧ Same H H2 ∧ H2 p2 = some (.tup xs) ∧ H2 d = some (.lst (.str g :: acc)) ∧ TmAll H2 acc (Ter.subs θ (as.take i)) ∧ acc.length ≤ i) ⟨[], none, rfl, s1.trans s2, upd_same, s2 _ _ upd_same, .nil, Nat.le_refl _⟩ (fun i σ H2 _ h => ?_) (fun i x σ H2 hx h => ?_) (fun σ H2 h => ?_)⟩
    · obtain ⟨_, _, _, _, ep2, _⟩ := h
      exact .inl (.inl ep2)
    · obtain ⟨acc, y, rfl, sm, ep2, ed, hacc, la⟩ := h
      obtain ⟨t1, et, hx1⟩ := hs.get hx
      have n1 := nest_le_of et
      have li := (List.getElem?_eq_some_iff.mp et).1
      have etk : as.take (i + 1) = as.take i ++ [t1] := by rw [List.take_add_one, et]; rfl
      refine ⟨.ref d, rfl, tyl ed, _, rfl, _, rfl, a, x, t1, kvs, θ, rfl, sm _ _ ea, hS.mono sm.tups, TmAt.mono sm.tups _ _ hx1, wfs_get hw.2 et, by omega, fun v' H3 s3 hv' => ?_⟩
      have ed3 := s3 _ _ ed
      refine ⟨d, _, _, rfl, rfl, ed3, small6' (by show acc.length + 1 ≤ _; omega), ?_⟩
      have b4 : But d H3 (upd H3 d (.lst (.str g :: acc ++ [v']))) := But.upd
      have m4 := b4.tups ed3
      refine ⟨acc ++ [v'], _, rfl, But.same nd' (sm.trans s3) b4, b4 _ _ dp (s3 _ _ ep2), upd_same, ?_, by rw [List.length_append, List.length_singleton]; omega⟩
      rw [etk, subs_app]
      exact (TmAll.mono (s3.tups.trans m4) _ _ hacc).app (.cons (TmAt.mono m4 _ _ hv') .nil)
    · obtain ⟨acc, y, rfl, sm, ep2, ed, hacc, la⟩ := h
      rw [ls, List.take_length] at hacc
      refine ⟨_, rfl, d, _, rfl, .inl ⟨.inl (.inl ed), fun p3 np3 => ?_⟩⟩
      have s3 := same_new np3 (.tup (.str g :: acc))
      exact q (.ref p3) _ (sm.trans s3) (.ap upd_same (TmAll.mono s3.tups _ _ hacc))
theorem ok_law_rp {f : Addr} {fd : FuncData} (D : Df K mg "_law_replaced" s__law_replaced ["substitution", "term"] f fd) (mi : mg "isinstance" = none) (mt : mg "tuple" = none) :
    ∀ n : Nat, FnOk P w K mg base CX0 n f fd ["substitution", "term"] (spRp n)
  | 0 => by
    have no : ∀ vs H Q E, ¬ spRp 0 vs H Q E := fun vs H Q E h => by
      obtain ⟨_, _, _, _, _, _, _, _, _, _, hk, _⟩ := h
      omega
    exact ⟨fun vs H Q E h => absurd h (no vs H Q E), fun A outer s H args us vs Q E _ _ _ _ h => absurd h (no vs H Q E)⟩
  | n + 1 => ok_law_rp1 D mi mt (ok_law_rp D mi mt n)
end

end K06
namespace K06
open PySem PySem.Spec PyProof.Rows L2 Own HT
section
variable {P : Program} {w : World} {K : PySem.W.Frag} {mg : Str → Option Value} {base : Heap}
/-! ### arguments_of -/
def spArgsOf : Sp := fun vs H Q _ => ∃ (a : Addr) (xs : List V) (ts : List Ter), vs = [.ref a] ∧ H a = some (.lst xs) ∧ TmAll H xs ts ∧ Ter.sizes ts ≤ 1000000 ∧
  ∀ (p : Addr) (ys : List V) (H' : Hp), Same H H' → H p = none → H' p = some (.lst ys) → TmAll H' ys (argsOf ts) → Q (.ref p) H'
theorem sc_arguments_of : FnScope ["terms", "term", "argument"] ["terms"] (defScope s_arguments_of) := ⟨rfl, rfl, rfl, by decide +kernel, rfl, by decide +kernel, by decide +kernel⟩
theorem ok_arguments_of {f fV : Addr} {fd fdV : FuncData} (D : Df K mg "arguments_of" s_arguments_of ["terms"] f fd) (DV : Df K mg "is_variable" s_is_variable ["term"] fV fdV) (G : FnOk P w K mg base CX0 1 fV fdV ["term"] spIsVar) : FnOk P w K mg base CX0 2 f fd ["terms"] spArgsOf := by
  refine D.F.ok sc_arguments_of (fun vs H Q E h => ?_) (fun cdv A outer s H vs Q E hr h => ?_)
  · obtain ⟨a, xs, ts, rfl, _⟩ := h; rfl
  obtain ⟨a, xs, ts, rfl, ha, ht, hz, q⟩ := h
  refine ⟨_, pss_one (ps_ret (pe_lc2 (own := [("term", 1), ("argument", 2)]) (vs1 := [2]) (g := gName 1) (tt := tNot (tB (tCall spIsVar [] E0 (tCons (tVar 1) tNil)))) (wi1 := iTup K (tSl (rSl1 K) (tVar 1) (tPart (tC (.int 1))) tNoPart)) (g1 := gName 2) (tt1 := tYes) (te := tVar 2) rfl sc_arguments_of.nd (pi_list (pv 0)) (blkOk_by (N := ["terms", "term", "argument"]) (sc := defScope s_arguments_of) (by decide +kernel)) (by decide)
    (fun _ _ _ _ _ => pg_name (i := 1) sc_arguments_of.nd rfl (Or.inl rfl))
    (fun _ _ _ _ _ => pts_one (pt_not (pt_val (pe_call G hr (by rfl) DV.m DV.F.kp DV.b .nil pass0 (pa_cons (pv 1) pa_nil)))))
    (fun _ _ _ _ _ => pi_tup (pe_slice sl_1 (pv 1) (po_some pe_int) po_none))
    (fun _ _ _ _ _ => pg_name (i := 2) sc_arguments_of.nd rfl (Or.inl rfl))
    (fun _ _ _ _ _ => pts_nil) (fun _ _ _ _ _ => pv 2))), ?_⟩
  have lt := ht.len
  have sz := sizes_argsOf ts
  refine ⟨.ref a, rfl, a, rfl, ⟨_, .inl (.inl ha)⟩, fun d nd => ?_⟩
  refine walk_l (xs := xs) (fun i H2 => ∃ ys, Same H H2 ∧ H2 d = some (.lst ys) ∧ TmAll H2 ys (argsOf (ts.take i))) ⟨[], same_new nd _, upd_same, .nil⟩ (fun i H2 _ h => ?_) (fun i x H2 hx h => ?_) (fun H2 h => ?_)
  · obtain ⟨ys, sm, _, _⟩ := h
    exact .inl (.inl (sm _ _ ha))
  · obtain ⟨ys, sm, ed, hy⟩ := h
    obtain ⟨t, et, htx⟩ := ht.get hx
    have hu := TmAt.mono sm.tups _ _ htx
    have ea := argsOf_take et
    have hcut : Ter.sizes (argsOf (ts.take (i + 1))) ≤ Ter.sizes (argsOf ts) := by
      have e : argsOf ts = argsOf (ts.take (i + 1)) ++ argsOf (ts.drop (i + 1)) := by rw [← argsOf_app, List.take_append_drop]
      rw [e, Ter.sizes_app]; omega
    refine ⟨rfl, ?_⟩
    refine ⟨x, rfl, x, t, rfl, hu, _, rfl, ?_⟩
    cases hu with
    | int k => exact iteF ⟨ys, sm, ed, by rw [ea]; exact List.append_nil _ ▸ hy⟩
    | str k => exact iteF ⟨ys, sm, ed, by rw [ea]; exact List.append_nil _ ▸ hy⟩
    | @ap p g zs as e hs =>
      refine iteT ?_
      refine ⟨.ref p, rfl, 1, rfl, p, .str g, zs, rfl, rfl, rfl, .inl (.inl e), fun r nr => ?_⟩
      have s2 := same_new nr (.tup zs)
      have e' : (Ter.ap g as).args = as := rfl
      rw [e'] at ea
      refine ⟨r, rfl, ⟨zs, .inl (.inl upd_same)⟩, walk_t (xs := zs) (fun j H3 => ∃ ws, Same H H3 ∧ Same (upd H2 r (.tup zs)) (upd H3 d (.lst ys)) ∧ H3 d = some (.lst ws) ∧ TmAll H3 ws (argsOf (ts.take i) ++ as.take j)) ⟨ys, sm.trans s2, ?_, s2 _ _ ed, ?_⟩ (fun j H3 _ h => ?_) (fun j y H3 hy3 h => ?_) (fun H3 h => ?_)⟩
      · exact fun b o q => by
          by_cases hb : b = d
          · subst hb; rw [s2 _ _ ed] at q; rw [upd_same]; exact q
          · rw [upd_ne hb]; exact q
      · rw [List.take_zero, List.append_nil]
        exact TmAll.mono s2.tups _ _ hy
      · obtain ⟨ws, _, k3, _, _⟩ := h
        have q := k3 r _ upd_same
        rw [upd_ne (ne_of_none ed nr).symm] at q
        exact .inl (.inl q)
      · obtain ⟨ws, sm3, k3, ed3, hw⟩ := h
        obtain ⟨t1, et1, hy1⟩ := hs.get hy3
        have m3 : Tups H2 H3 := fun b o q => by
          have q2 := k3 b _ (s2 b _ q)
          rw [upd_ne (ne_of q ed (by intro z; cases z))] at q2
          exact q2
        have hy2 := TmAt.mono m3 _ _ hy1
        have lw := hw.len
        have b4 : But d H3 (upd H3 d (.lst (ws ++ [y]))) := But.upd
        have t4 := b4.tups ed3
        have ll : ws.length < sizeLine := by
          have z1 := Ter.sizes_len (argsOf (ts.take i) ++ as.take j)
          have z2 : Ter.sizes (argsOf (ts.take i) ++ as.take j) ≤ Ter.sizes (argsOf (ts.take i) ++ as) := by
            rw [Ter.sizes_app, Ter.sizes_app]
            have z3 : Ter.sizes as = Ter.sizes (as.take j) + Ter.sizes (as.drop j) := by rw [← Ter.sizes_app, List.take_append_drop]
            omega
          rw [← ea] at z2
          exact small6' (by omega)
        refine ⟨rfl, ?_⟩
        refine ⟨y, rfl, ws, ed3, ll, ws ++ [y], But.same nd sm3 b4, fun b o q => ?_, upd_same, ?_⟩
        · have q2 := k3 b o q
          rw [upd_upd]
          exact q2
        · rw [List.take_add_one, et1, ← List.append_assoc]
          exact (TmAll.mono t4 _ _ hw).app (.cons (TmAt.mono t4 _ _ hy2) .nil)
      · obtain ⟨ws, sm3, k3, ed3, hw⟩ := h
        have lz := hs.len
        rw [lz, List.take_length, ← ea] at hw
        exact ⟨ws, sm3, ed3, hw⟩
  · obtain ⟨ys, sm, ed, hy⟩ := h
    rw [lt, List.take_length] at hy
    exact q d ys H2 sm nd ed hy
end

section
variable {P : Program} {w : World} {K : PySem.W.Frag} {mg : Str → Option Value} {base : Heap}
/-! ### fits -/
def spFits : Sp := fun vs H Q _ => ∃ (v : V) (t : Ter), vs = [v] ∧ TmAt H v t ∧ t.size ≤ 1000000 ∧ ∀ H', Same H H' → Q (.bl t.fits) H'
theorem sc_fits : FnScope ["term", "count", "depth", "level"] ["term"] (defScope s_fits) := ⟨rfl, rfl, rfl, by decide +kernel, rfl, by decide +kernel, by decide +kernel⟩
theorem ok_fits {f fA : Addr} {fd fdA : FuncData} {tL tD : Tok} (D : Df K mg "fits" s_fits ["term"] f fd) (DA : Df K mg "arguments_of" s_arguments_of ["terms"] fA fdA) (GA : FnOk P w K mg base CX0 2 fA fdA ["terms"] spArgsOf)
    (ml : mg "len" = none) (gL : mg "LARGEST_SIZE" = some (.int 1000 tL)) (gD : mg "DEEPEST_NESTING" = some (.int 100 tD)) : FnOk P w K mg base CX0 3 f fd ["term"] spFits := by
  refine D.F.ok sc_fits (fun vs H Q E h => ?_) (fun cdv A outer s H vs Q E hr h => ?_)
  · obtain ⟨v, t, rfl, _⟩ := h; rfl
  obtain ⟨v, t, rfl, ht, hz, q⟩ := h
  have nd := sc_fits.nd
  refine ⟨_, pss_cons (ps_set (i := 1) nd rfl (.inl rfl) pe_int) (pss_cons (ps_set (i := 2) nd rfl (.inl rfl) pe_int) (pss_cons (ps_set (i := 3) nd rfl (.inl rfl) (pe_lst (pa_cons (pv 0) pa_nil)))
    (pss_cons (ps_while PassesOwn.never (pt_truth (pv 3) (by intro _; rfl))
      (pss_cons (ps_aug (i := 1) nd rfl (.inl rfl) (pe_callB call_len_seq (by rfl) ml PySem.boot_len (pa_cons (pv 3) pa_nil)) ip_add)
      (pss_cons (ps_aug (i := 2) nd rfl (.inl rfl) pe_int ip_add)
      (pss_cons (ps_if (PW.pt (pw_or (pt_cmpR op_gt (pv 1) (pe_glob (v := .int 1000) (by rfl) gL ⟨_, rfl⟩) (nomark _)) (pw_or1 (pt_cmpR op_gt (pv 2) (pe_glob (v := .int 100) (by rfl) gD ⟨_, rfl⟩) (nomark _))))) (pss_one (ps_ret pe_bl)) pss_nil)
      (pss_one (ps_set (i := 3) nd rfl (.inl rfl) (pe_call GA hr (by rfl) DA.m DA.F.kp DA.b .nil pass0 (pa_cons (pv 3) pa_nil))))))))
    (pss_one (ps_ret pe_bl))))), ?_⟩
  refine ⟨v, rfl, by show 1 ≤ sizeLine; decide, fun l nl => ?_⟩
  have s1 := same_new nl (.lst [v])
  refine ⟨fun m σ H' => ∃ (c d : Int) (l : Addr) (vs : List V) (ts : List Ter), σ = [some v, some (.int c), some (.int d), some (.ref l)] ∧ Same H H' ∧ H' l = some (.lst vs) ∧ TmAll H' vs ts ∧ c + (Ter.sizes ts : Nat) = (t.size : Nat) ∧ d + (Ter.nests ts : Nat) = (t.nest : Nat) ∧ 0 ≤ c ∧ c ≤ 1000 ∧ d ≤ 100 ∧ m = Ter.nests ts,
    ⟨_, 0, 0, l, [v], [t], rfl, s1, upd_same, .cons (TmAt.mono s1.tups _ _ ht) .nil, ?_, ?_, by decide, by decide, by decide, rfl⟩, fun m σ H' hW => ?_⟩
  · show (0 : Int) + ((t.size + 0 : Nat) : Int) = (t.size : Nat)
    omega
  · show (0 : Int) + ((max t.nest 0 : Nat) : Int) = (t.nest : Nat)
    omega
  obtain ⟨c, d, l2, vs, ts, rfl, sm, el, ha, ec, ed, c0, c1, d1, rfl⟩ := hW
  have lv := ha.len
  refine ⟨.ref l2, rfl, _, tru_l el, ?_⟩
  refine ite2 (fun cc => ?_) (fun cc => ?_)
  · have hv : ts ≠ [] := fun z => by
      subst z
      cases ha
      exact absurd cc (by decide)
    have en2 := nests_argsOf ts hv
    have ez2 := sizes_argsOf ts
    refine ⟨fun σ' H2 => ∃ (c d : Int) (l : Addr) (vs : List V) (ts' : List Ter), σ' = [some v, some (.int c), some (.int d), some (.ref l)] ∧ Same H H2 ∧ H2 l = some (.lst vs) ∧ TmAll H2 vs ts' ∧ c + (Ter.sizes ts' : Nat) = (t.size : Nat) ∧ d + (Ter.nests ts' : Nat) = (t.nest : Nat) ∧ 0 ≤ c ∧ c ≤ 1000 ∧ d ≤ 100 ∧ Ter.nests ts' < Ter.nests ts,
      fun σ' H2 hN => ?_, ?_⟩
    · obtain ⟨a1, a2, a3, a4, a5, e1, e2, e3, e4, e5, e6, e7, e8, e9, e10⟩ := hN
      exact ⟨_, e10, a1, a2, a3, a4, a5, e1, e2, e3, e4, e5, e6, e7, e8, e9, rfl⟩
    refine ⟨.int c, rfl, _, rfl, l2, vs, rfl, .inl (.inl (.inl el)), c, _, rfl, rfl, ?_⟩
    refine ⟨.int d, rfl, d, 1, rfl, rfl, ?_⟩
    have bad : (1000 : Int) < c + (vs.length : Nat) ∨ (100 : Int) < d + 1 → Q (.bl false) H' := fun z => by
      have : t.fits = false := by
        unfold Ter.fits
        rcases z with z | z
        · have : ¬ t.size ≤ 1000 := by omega
          rw [decide_eq_false this]; rfl
        · have : ¬ t.nest ≤ 100 := by omega
          rw [decide_eq_false this, Bool.and_false]
      rw [← this]
      exact q H' sm
    refine ⟨_, rfl, _, _, rfl, rfl, _, rfl, ite2 (fun z => bad (.inl (of_decide_eq_true z))) (fun z1 => ?_)⟩
    refine ⟨_, rfl, _, _, rfl, rfl, _, rfl, ite2 (fun z => bad (.inr (of_decide_eq_true z))) (fun z2 => ?_)⟩
    have z1 : ¬ (1000 : Int) < c + (vs.length : Nat) := fun z => z1 (decide_eq_true z)
    have z2 : ¬ (100 : Int) < d + 1 := fun z => z2 (decide_eq_true z)
    refine ⟨.ref l2, rfl, l2, vs, ts, rfl, el, ha, by omega, fun p ys H2 sm2 np ep hy => ?_⟩
    exact ⟨c + (vs.length : Nat), d + 1, p, ys, argsOf ts, rfl, sm.trans sm2, ep, hy, by omega, by omega, by omega, by omega, by omega, by omega⟩
  · have hv : vs = [] := by
      cases vs with
      | nil => rfl
      | cons x r => exact absurd rfl cc
    subst hv
    cases ha
    have ec : c + (0 : Nat) = (t.size : Nat) := ec
    have ed : d + (0 : Nat) = (t.nest : Nat) := ed
    have e : t.fits = true := by
      unfold Ter.fits
      rw [decide_eq_true (show t.size ≤ 1000 by omega), decide_eq_true (show t.nest ≤ 100 by omega)]
      rfl
    show Q (.bl true) H'
    rw [← e]
    exact q H' sm
/-! ### replace_variables -/
def spRV (n : Nat) : Sp := fun vs H Q _ => ∃ (v : V) (a : Addr) (t : Ter) (kvs : List (Key × V)) (θ : Sb), vs = [v, .ref a] ∧ H a = some (.dK kvs) ∧ SubT H kvs θ ∧ TmAt H v t ∧ t.wf s7 numVar ∧ t.nest < n ∧
  ∀ v' H', Same H H' → TmAt H' v' (t.sub θ) → Q v' H'
theorem sc_rv : FnScope ["term", "new", "argument"] ["term", "new"] (defScope s_replace_variables) := ⟨rfl, rfl, rfl, by decide +kernel, rfl, by decide +kernel, by decide +kernel⟩
theorem ok_rv1 {f fV : Addr} {fd fdV : FuncData} (D : Df K mg "replace_variables" s_replace_variables ["term", "new"] f fd) (DV : Df K mg "is_variable" s_is_variable ["term"] fV fdV) (GV : FnOk P w K mg base CX0 1 fV fdV ["term"] spIsVar) (mt : mg "tuple" = none) {n : Nat} (G : FnOk P w K mg base CX0 (n + 1) f fd ["term", "new"] (spRV n)) : FnOk P w K mg base CX0 (n + 1 + 1) f fd ["term", "new"] (spRV (n + 1)) := by
  refine D.F.ok sc_rv (fun vs H Q E h => ?_) (fun cdv A outer s H vs Q E hr h => ?_)
  · obtain ⟨v, a, t, kvs, θ, rfl, _⟩ := h; rfl
  obtain ⟨v, a, t, kvs, θ, rfl, ea, hS, ht, hw, hn, q⟩ := h
  have nd := sc_rv.nd
  have hr1 : Room 1 _ := hr.mono (by omega)
  refine ⟨_, pss_cons (ps_if (pt_val (pe_call GV hr1 (by rfl) DV.m DV.F.kp DV.b .nil pass0 (pa_cons (pv 0) pa_nil)))
      (pss_one (ps_ret (pe_dget2 (hu_of hr) (pv 1) (pv 0) (pv 0) ⟨rfl, rfl, rfl, rfl⟩))) pss_nil)
    (pss_one (ps_ret (pe_op op_catT (pe_tup (pa_cons (pe_ix ix_tup (pv 0) pe_int (fun _ _ => rfl)) pa_nil)) (pe_callTy call_tuple_of (by rfl) mt (by decide +kernel) (pa_cons
      (pe_lc (own := [("argument", 2)]) (g := gName 2) (tt := tYes) (te := tCall (spRV n) [] E0 (tCons (tVar 2) (tCons (tVar 1) tNil))) rfl nd (pi_tup (pe_slice sl_1 (pv 0) (po_some pe_int) po_none)) (blkOk_by (N := ["term", "new", "argument"]) (sc := defScope s_replace_variables) (by decide +kernel))
        (fun _ _ _ _ _ => pg_name (i := 2) nd rfl (Or.inl rfl)) (fun _ _ _ _ _ => pts_nil) (fun _ _ _ _ _ => pe_call G hr (by rfl) D.m D.F.kp D.b .nil pass0 (pa_cons (pv 2) (pa_cons (pv 1) pa_nil)))) pa_nil))))), ?_⟩
  refine ⟨v, rfl, v, t, rfl, ht, _, rfl, ?_⟩
  cases ht with
  | int i =>
    refine iteT ⟨_, rfl, a, rfl, .inl ⟨kvs, .inl ea⟩, _, rfl, _, rfl, valV kvs (.inl i), DGet.k (k := .inl i) ea, ?_⟩
    rcases hS.look (.inl i) with ⟨e1, e2⟩ | ⟨u, t1, e1, e2, hu⟩
    · rw [e1]
      exact q _ H (Same.refl _) (by show TmAt H _ ((Sb.look θ (.inl i)).getD _); rw [e2]; exact .int i)
    · rw [e1]
      exact q _ H (Same.refl _) (by show TmAt H _ ((Sb.look θ (.inl i)).getD _); rw [e2]; exact hu)
  | str x =>
    obtain ⟨r, e, h0, h1⟩ := hw
    cases e
  | @ap p g xs as e hs =>
    refine iteF ?_
    have ls := hs.len
    have hn : Ter.nests as + 1 < n + 1 := hn
    have l2 : as.length ≤ 2 := hw.1.2
    refine ⟨_, rfl, p, _, 0, .str g, rfl, rfl, .inl (.inl e), head_at, by show 1 ≤ sizeLine; decide, fun p1 np1 => ?_⟩
    have s1 := same_new np1 (.tup [.str g])
    refine ⟨.ref p, rfl, 1, rfl, p, .str g, xs, rfl, rfl, rfl, .inl (.inl (s1 _ _ e)), fun p2 np2 => ?_⟩
    have s2 := same_new np2 (.tup xs)
    refine ⟨p2, rfl, ⟨xs, .inl (.inl upd_same)⟩, fun d nd' => ?_⟩
    have s12 := s1.trans s2
    have nd0 : H d = none := s12.free nd'
    refine walk_t (xs := xs) (fun i H2 => ∃ acc, Same (upd (upd H p1 (.tup [.str g])) p2 (.tup xs)) H2 ∧ H2 d = some (.lst acc) ∧ TmAll H2 acc (Ter.subs θ (as.take i)) ∧ acc.length ≤ i) ⟨[], same_new nd' _, upd_same, .nil, Nat.le_refl _⟩ (fun i H2 _ h => ?_) (fun i x H2 hx h => ?_) (fun H2 h => ?_)
    · obtain ⟨acc, sm, _⟩ := h
      exact .inl (.inl (sm _ _ upd_same))
    · obtain ⟨acc, sm, ed, ha, la2⟩ := h
      obtain ⟨t1, et, hx1⟩ := hs.get hx
      have sa := s12.trans sm
      have hx2 := TmAt.mono sa.tups _ _ hx1
      have n1 := nest_le_of et
      refine ⟨rfl, ?_⟩
      refine ⟨_, rfl, _, rfl, x, a, t1, kvs, θ, rfl, sa _ _ ea, hS.mono sa.tups, hx2, wfs_get hw.2 et, by omega, fun v' H3 s3 hv' => ?_⟩
      have ed3 := s3 _ _ ed
      have b4 : But d H3 (upd H3 d (.lst (acc ++ [v']))) := But.upd
      have m4 := b4.tups ed3
      have li : i < as.length := (List.getElem?_eq_some_iff.mp et).1
      have etk : as.take (i + 1) = as.take i ++ [t1] := by rw [List.take_add_one, et]; rfl
      refine ⟨acc, ed3, small6' (by omega), acc ++ [v'], But.same nd' (sm.trans s3) b4, upd_same, ?_, by rw [List.length_append, List.length_singleton]; omega⟩
      rw [etk, subs_app]
      exact (TmAll.mono (s3.tups.trans m4) _ _ ha).app (.cons (TmAt.mono m4 _ _ hv') .nil)
    · obtain ⟨acc, sm, ed, ha, la2⟩ := h
      rw [ls, List.take_length] at ha
      have lx := ha.len
      rw [subs_len] at lx
      refine ⟨d, acc, rfl, .inl ⟨.inl (.inl ed), fun p3 np3 => ?_⟩⟩
      have s3 := same_new np3 (.tup acc)
      have sa := s12.trans (sm.trans s3)
      refine ⟨p1, p3, [.str g], acc, rfl, rfl, .inl (.inl (s3 _ _ (sm _ _ (s2 _ _ upd_same)))), .inl (.inl upd_same), by simp, small6 (by show 1 + acc.length ≤ _; omega), fun z => ?_, fun _ p4 np4 => ?_⟩
      · subst z
        have t0 : as = [] := List.length_eq_zero_iff.mp lx.symm
        subst t0
        exact q (.ref p1) _ sa (.ap (s3 _ _ (sm _ _ (s2 _ _ upd_same))) .nil)
      · have s4 := same_new np4 (.tup ([.str g] ++ acc))
        exact q (.ref p4) _ (sa.trans s4) (.ap upd_same (TmAll.mono (s3.trans s4).tups _ _ ha))
theorem ok_rv {f fV : Addr} {fd fdV : FuncData} (D : Df K mg "replace_variables" s_replace_variables ["term", "new"] f fd) (DV : Df K mg "is_variable" s_is_variable ["term"] fV fdV) (GV : FnOk P w K mg base CX0 1 fV fdV ["term"] spIsVar) (mt : mg "tuple" = none) : ∀ n : Nat, FnOk P w K mg base CX0 (n + 1) f fd ["term", "new"] (spRV n)
  | 0 => by
    have no : ∀ vs H Q E, ¬ spRV 0 vs H Q E := fun vs H Q E h => by
      obtain ⟨_, _, _, _, _, _, _, _, _, _, hk, _⟩ := h
      omega
    exact ⟨fun vs H Q E h => absurd h (no vs H Q E), fun A outer s H args us vs Q E _ _ _ _ h => absurd h (no vs H Q E)⟩
  | n + 1 => ok_rv1 D DV GV mt (ok_rv D DV GV mt n)
/-! ### TooLarge(limit) -/
abbrev initSt : Stmt := clsAt s_TooLarge 0
def okLim : List V → Hp → Prop := fun ws _ => ∃ x : Str, ws = [.str x] ∧ x.length ≤ 1000
theorem sc_init : NdefX.NScope ["self", "limit", "__class__"] ["self", "limit"] ["__class__"] (defScope initSt) := NdefX.nscope_by (by decide +kernel)
theorem ok_init {C fI cc cda : Addr} {fd : FuncData} (T : InitC P K mg C fI cc cda "__init__" "TooLarge.__init__" (defArgs initSt) (defBody initSt) (defScope initSt) fd) (hn : PySem.W.findIn K (.ref C) "limit" = some none) :
    FnOk P w K mg base CX0 1 fI fd ["self", "limit"] (spInit C ["limit"] okLim) := by
  obtain ⟨oc, od, dV, kV, doc, pm, an, ct, osl, rfl, l⟩ := T.fn
  refine init_of (N := ["self", "limit", "__class__"]) l T.code T.cell sc_init (fun vs H Q E h => ?_) (fun A outer s H vs Q E hr h => ?_)
  · obtain ⟨a, ws, rfl, hl, _⟩ := h
    show ws.length + 1 = 2
    rw [hl]
    rfl
  obtain ⟨a, ws, rfl, hl, hx, ⟨x, rfl, hz⟩, q⟩ := h
  refine ⟨_, pssAt_cons (ps_superAt (T.supX rfl) T.sup (pa_cons (pe_joined (.cons pe_str (.cons (pe_fmt (pv 1)) .nil))) pa_nil)) (pss_one (ps_ost (pv 0) (pv 1))), ?_⟩
  refine ⟨a, rfl, hx, ?_⟩
  refine ⟨_, rfl, by show ("too large: " : Str).length ≤ sizeLine; decide +kernel, .str x, rfl, .inl ⟨x, rfl, by rw [sizeLine_eq]; omega, _, rfl, ?_, ?_⟩⟩
  · have e1 : (Str.empty ++ ("too large: " : Str)).length ≤ 20 := by decide +kernel
    rw [app_len, sizeLine_eq]
    omega
  refine ⟨by show 1 ≤ 1000; decide, hx, ?_⟩
  exact ⟨.str x, rfl, .ref a, rfl, a, C, rfl, T.sup.oex, hn, .inl ⟨hx, fun dx nx ne => q _ dx (fun c h1 h2 => by rw [upd_ne h1, upd_ne h2]) nx ne upd_same (by rw [upd_ne ne]; exact upd_same)⟩⟩
/-- what the class must have, for the defs that raise and catch it -/
structure LimC (P : Program) (w : World) (K : PySem.W.Frag) (mg : Str → Option Value) (base : Heap) (C fI : Addr) (fd : FuncData) : Prop where
  gC : mg "TooLarge" = some (.ref C)
  oex : OexC K C
  iC : PySem.W.findIn K (.ref C) "__init__" = some (some (.ref fI))
  tI : PySem.W.typeIn K (.ref fI) = some (.type "function")
  ok : FnOk P w K mg base CX0 1 fI fd ["self", "limit"] (spInit C ["limit"] okLim)
  b : Binds K fd ["self", "limit"] []
  err : ErrC K C
  te : PySem.W.exmOne K (.ref C) (.ref C) = some true
  hn : PySem.W.findIn K (.ref C) "limit" = some none
/-! ### apply -/
def spApply (C : Addr) (n : Nat) : Sp := fun vs H Q E => ∃ (a : Addr) (v : V) (t : Ter) (kvs : List (Key × V)) (θ : Sb), vs = [.ref a, v] ∧ H a = some (.dK kvs) ∧ SubT H kvs θ ∧ TmAt H v t ∧ t.wf s7 numVar ∧ t.nest < n ∧ (t.sub θ).size ≤ 1000000 ∧
  ((t.sub θ).fits = true → ∀ v' H', Same H H' → TmAt H' v' (t.sub θ) → Q v' H') ∧
  ((t.sub θ).fits = false → ∀ (d : Addr) (H' : Hp), Same H H' → H d = none → H' d = some (.xd [("limit", .str "term")]) → E (.ref C) (some d) H')
theorem sc_apply : FnScope ["substitution", "term", "result"] ["substitution", "term"] (defScope s_apply) := ⟨rfl, rfl, rfl, by decide +kernel, rfl, by decide +kernel, by decide +kernel⟩
theorem ok_apply {f fR fF C fI : Addr} {fd fdR fdF fdI : FuncData} (D : Df K mg "apply" s_apply ["substitution", "term"] f fd) {n : Nat} (DR : Df K mg "replace_variables" s_replace_variables ["term", "new"] fR fdR) (GR : FnOk P w K mg base CX0 (n + 3) fR fdR ["term", "new"] (spRV (n + 2)))
    (DF : Df K mg "fits" s_fits ["term"] fF fdF) (GF : FnOk P w K mg base CX0 3 fF fdF ["term"] spFits) (T : LimC P w K mg base C fI fdI) : FnOk P w K mg base (L2N.CX P w) (n + 4) f fd ["substitution", "term"] (spApply C (n + 2)) := by
  refine D.F.okN sc_apply (fun vs H Q E h => ?_) (fun cdv A outer s H vs Q E hr h => ?_)
  · obtain ⟨a, v, t, kvs, θ, rfl, _⟩ := h; rfl
  obtain ⟨a, v, t, kvs, θ, rfl, ea, hS, ht, hw, hn, hz, q, qE⟩ := h
  have nd := sc_apply.nd
  have r3 : Room 3 _ := hr.mono (by omega)
  have r2 : Room 2 _ := hr.mono (by omega)
  refine ⟨_, pss_cons (ps_set (i := 2) nd rfl (.inl rfl) (pe_call GR hr (by rfl) DR.m DR.F.kp DR.b .nil pass0 (pa_cons (pv 1) (pa_cons (pv 0) pa_nil))))
    (pss_cons (ps_if (pt_not (pt_val (pe_call GF r3 (by rfl) DF.m DF.F.kp DF.b .nil pass0 (pa_cons (pv 2) pa_nil))))
      (pss_one (ps_raiseS rfl (L2N.takes_of rfl rfl rfl rfl) T.oex T.iC T.tI T.ok r2 T.b pass0 (by rfl) T.gC (pa_cons pe_str pa_nil) monoS)) pss_nil)
    (pss_one (ps_ret (pv 2)))), ?_⟩
  refine ⟨_, rfl, _, rfl, v, a, t, kvs, θ, rfl, ea, hS, ht, hw, hn, fun v' H1 s1 hv' => ?_⟩
  refine ⟨v', rfl, v', _, rfl, hv', hz, fun H2 s2 => ?_⟩
  have s12 := s1.trans s2
  cases c : (t.sub θ).fits with
  | true => exact ⟨_, rfl, iteF ⟨_, rfl, q c v' H2 s12 (TmAt.mono s2.tups _ _ hv')⟩⟩
  | false => exact ⟨_, rfl, iteT ⟨rfl, by show 1 ≤ 1000; decide, fun a na => ⟨_, rfl, by decide +kernel⟩, fun d nd2 => qE c d _ (s12.trans (same_new nd2 _)) (s12.free nd2) upd_same⟩⟩
end

end K06
namespace K06
open PySem PySem.Spec PyProof.Rows L2 Own HT
section
variable {P : Program} {w : World} {K : PySem.W.Frag} {mg : Str → Option Value} {base : Heap}
/-! ### compose -/
def spCompose : Sp := fun vs H Q _ => ∃ (a b : Addr) (ka kb : List (Key × V)) (θ η : Sb), vs = [.ref a, .ref b] ∧ a ≠ b ∧ H a = some (.dK ka) ∧ H b = some (.dK kb) ∧ SubT H ka θ ∧ SubT H kb η ∧ SbOk θ 3 ∧ SbOk η 3 ∧ θ.length ≤ 5 ∧ η.length ≤ 5 ∧
  ∀ (p : Addr) (kvs : List (Key × V)) (H' : Hp), Same H H' → H p = none → H' p = some (.dK kvs) → SubT H' kvs (Sb.comp θ η) → Q (.ref p) H'
theorem sc_compose : FnScope ["first", "second", "result", "variable"] ["first", "second"] (defScope s_compose) := ⟨rfl, rfl, rfl, by decide +kernel, rfl, by decide +kernel, by decide +kernel⟩
theorem ok_compose {f fA C : Addr} {fd fdA : FuncData} (D : Df K mg "compose" s_compose ["first", "second"] f fd) {n : Nat} (DA : Df K mg "apply" s_apply ["substitution", "term"] fA fdA) (GA : FnOk P w K mg base (L2N.CX P w) (n + 8) fA fdA ["substitution", "term"] (spApply C (n + 6))) :
    FnOk P w K mg base CX0 (n + 9) f fd ["first", "second"] spCompose := by
  refine D.F.ok sc_compose (fun vs H Q E h => ?_) (fun cdv A outer s H vs Q E hr h => ?_)
  · obtain ⟨a, b, ka, kb, θ, η, rfl, _⟩ := h; rfl
  obtain ⟨a, b, ka, kb, θ, η, rfl, nab, ea, eb, hθ, hη, oθ, oη, lθ, lη, q⟩ := h
  have nd := sc_compose.nd
  refine ⟨_, pss_cons (ps_set (i := 2) nd rfl (.inr rfl) pe_dnewK)
    (pss_cons (ps_lock (ps_for PassesOwn.never rfl (pi_keys (pv 0)) (pg_name (i := 3) nd rfl (.inl rfl))
      (pss_one (ps_dput (hu_of hr) (pv 2) (pv 3) (pe_callS (E := fun _ => E0) GA hr (by rfl) DA.m DA.F.kp DA.b passLN (pa_cons (pv 1) (pa_cons (pe_dget (hu_of hr) (pv 0) (pv 3) (fun _ _ => rfl)) pa_nil))) rfl))))
    (pss_cons (ps_lock (ps_for PassesOwn.never rfl (pi_keys (pv 1)) (pg_name (i := 3) nd rfl (.inl rfl))
      (pss_one (ps_if (pt_cmp (pc_dnotin (hu_of hr) (pv 3) (pv 0))) (pss_one (ps_dput (hu_of hr) (pv 2) (pv 3) (pe_dget (hu_of hr) (pv 1) (pv 3) (fun _ _ => rfl)) rfl)) pss_nil))))
    (pss_one (ps_ret (pe_lock (pe_dc (own := [("variable", 3)]) (g := gName 3) (tt := tTest (tOp (rNeD K) (tDGet (tVar 2) (tVar 3)) (tVar 3))) (tk := tVar 3) (tv := tDGet (tVar 2) (tVar 3)) rfl nd (pi_keys (pv 2)) (blkOk_by (N := ["first", "second", "result", "variable"]) (sc := defScope s_compose) (by decide +kernel))
      (fun _ _ _ _ _ => pg_name (i := 3) nd rfl (.inl rfl)) (fun _ _ _ _ _ => pts_one (pt_cmpR (op_neD hr.units) (pe_dget (hu_of hr) (pv 2) (pv 3) (fun _ _ => rfl)) (pv 3) (nomark _))) (fun _ _ _ _ _ => pv 3) (fun _ _ _ _ _ => pe_dget (hu_of hr) (pv 2) (pv 3) (fun _ _ => rfl)))))))), ?_⟩
  refine fun p np => ?_
  have s1 := same_new np (.dK [])
  have npa : p ≠ a := fun z => by rw [z, ea] at np; cases np
  have npb : p ≠ b := fun z => by rw [z, eb] at np; cases np
  have kθ := hθ.keys
  have lka := hθ.len
  have lkb := hη.len
  refine ⟨a, .dK ka, s1 _ _ ea, trivial, fun od => ?_⟩
  refine ⟨.ref a, rfl, a, od, rfl, .inl ⟨ka, upd_same, for_it walk_keys (fun i σ H2 => ∃ kvs y, σ = [some (.ref a), some (.ref b), some (.ref p), y] ∧ But a H H2 ∧ H2 a = some (.frz od (.dK ka)) ∧ H2 p = some (.dK kvs) ∧ SubT H2 kvs ((θ.map fun e => (e.1, e.2.sub η)).take i))
    ⟨[], none, rfl, s1.but.trans But.upd, upd_same, by rw [upd_ne npa]; exact upd_same, .nil⟩ (fun i σ H2 _ h => ?_) (fun i x σ H2 H3 hi h hy => ?_) (fun σ H2 h => ?_)⟩⟩
  · obtain ⟨_, _, _, _, e, _⟩ := h
    exact e
  · obtain ⟨kvs, y, rfl, b2, ea2, ep2, hS⟩ := h
    obtain ⟨rfl, k, v, ek, rfl⟩ := hy
    obtain ⟨t, et, htv⟩ := hθ.get ek
    have hm := List.mem_of_getElem? et
    have m2 := b2.tupsD ea
    have tw := oθ.wf (k, t) hm
    have tn : t.nest ≤ 3 := oθ.ne (k, t) hm
    have sw := sub_wf oη.wf t tw
    have sn := sub_nest oη.ne (by decide) t
    refine ⟨.ref b, rfl, .ref a, rfl, kV k, rfl, a, v, rfl, DGet.frz ea2 (hθ.val oθ.nd ek), ?_⟩
    refine ⟨b, v, t, kb, η, rfl, b2 b _ nab.symm eb, hη.mono m2, TmAt.mono m2 _ _ htv, tw, by omega, size_small sw (by omega), fun _ v' H4 s4 hv' => ?_, fun z => by rw [fits_small sw (by omega)] at z; cases z⟩
    have ep4 := s4 _ _ ep2
    have lS := hS.len
    rw [List.length_take, List.length_map] at lS
    refine ⟨.ref p, rfl, kV k, rfl, p, _, rfl, DPut.k ep4 (small6' (by omega)), ?_⟩
    have mU : Tups H4 (upd H4 p (.dK (putK kvs k v'))) := tups_updD ep4
    have em := sb_map (η := η) et
    refine ⟨_, _, rfl, but_fresh (b2.trans s4.but) np, by rw [upd_ne npa.symm]; exact s4 _ _ ea2, upd_same, ?_⟩
    rw [sb_take em]
    exact (hS.mono (s4.tups.trans mU)).put (sb_fresh (by rw [keys_map]; exact oθ.nd) em) (TmAt.mono mU _ _ hv')
  obtain ⟨kvs1, y1, rfl, b2, ea2, ep2, hS1⟩ := h
  have e1 : (θ.map fun e => (e.1, e.2.sub η)).take ka.length = θ.map fun e => (e.1, e.2.sub η) := List.take_of_length_le (by rw [List.length_map]; omega)
  rw [e1] at hS1
  refine ⟨ea2, ?_⟩
  have sG := but_unlock ea b2
  have eaG : upd H2 a (.dK ka) a = some (.dK ka) := upd_same
  have epG : upd H2 a (.dK ka) p = some (.dK kvs1) := by rw [upd_ne npa]; exact ep2
  have hSG := hS1.mono (tups_frz (o := .dK ka) ea2)
  generalize upd H2 a (.dK ka) = G at sG eaG epG hSG
  have lk1 := hSG.len
  rw [List.length_map] at lk1
  refine ⟨b, .dK kb, sG _ _ eb, trivial, fun od2 => ?_⟩
  refine ⟨.ref b, rfl, b, od2, rfl, .inl ⟨kb, upd_same, for_it walk_keys (fun i σ H3 => ∃ kvs y, σ = [some (.ref a), some (.ref b), some (.ref p), y] ∧ But b H H3 ∧ H3 b = some (.frz od2 (.dK kb)) ∧ H3 p = some (.dK kvs) ∧ kvs.length ≤ 5 + i ∧ SubT H3 kvs ((θ.map fun e => (e.1, e.2.sub η)) ++ (η.take i).filter fun e => !Sb.has θ e.1))
    ⟨kvs1, y1, rfl, sG.but.trans But.upd, upd_same, by rw [upd_ne npb]; exact epG, by omega, by rw [List.take_zero, List.filter_nil, List.append_nil]; exact hSG.mono (tups_updD (sG _ _ eb))⟩ (fun i σ H3 _ h => ?_) (fun i x σ H3 H4 hi h hy => ?_) (fun σ H3 h => ?_)⟩⟩
  · obtain ⟨_, _, _, _, e, _⟩ := h
    exact e
  · obtain ⟨kvs, y, rfl, b3, eb3, ep3, lk, hS⟩ := h
    obtain ⟨rfl, k, v, ek, rfl⟩ := hy
    obtain ⟨t, et, htv⟩ := hη.get ek
    have m3 := b3.tupsD eb
    have ea3 := b3 a _ nab ea
    have st := sb_filter (fun e => !Sb.has θ e.1) et
    refine ⟨kV k, rfl, .ref a, rfl, a, valV ka k, rfl, DGet.k ea3, _, rfl, ?_⟩
    rcases hθ.look k with ⟨e1, e2⟩ | ⟨u, t1, e1, e2, _⟩
    · have hh : (!Sb.has θ k) = true := by rw [has_none e2]; rfl
      rw [e1]
      refine iteT ⟨.ref b, rfl, kV k, rfl, b, v, rfl, DGet.frz eb3 (hη.val oη.nd ek), .ref p, rfl, kV k, rfl, p, _, rfl, DPut.k ep3 (small6' (by omega)), ?_⟩
      have mU : Tups H4 (upd H4 p (.dK (putK kvs k v))) := tups_updD ep3
      refine ⟨_, _, rfl, but_fresh b3 np, by rw [upd_ne npb.symm]; exact eb3, upd_same, by have := len_put kvs k v; omega, ?_⟩
      rw [st, if_pos hh, ← List.append_assoc]
      refine (hS.mono mU).put (fun z => ?_) (TmAt.mono (m3.trans mU) _ _ htv)
      have z : k ∈ List.map (fun e : Key × Ter => e.1) _ := z
      rw [List.map_append] at z
      rcases List.mem_append.mp z with z | z
      · have z : k ∈ Sb.keys (θ.map fun e => (e.1, e.2.sub η)) := z
        rw [keys_map] at z
        exact look_not e2 z
      · exact sb_ffresh _ oη.nd et z
    · have hh : ¬ (!Sb.has θ k) = true := by rw [has_some e2]; exact Bool.false_ne_true
      rw [e1]
      refine iteF ⟨_, _, rfl, b3, eb3, ep3, by omega, ?_⟩
      rw [st, if_neg hh, List.append_nil]
      exact hS
  obtain ⟨kvs2, y2, rfl, b3, eb3, ep3, lk2, hS2⟩ := h
  have e2 : η.take kb.length = η := List.take_of_length_le (by omega)
  rw [e2] at hS2
  refine ⟨eb3, ?_⟩
  have sJ := but_unlock eb b3
  have epJ : upd H3 b (.dK kb) p = some (.dK kvs2) := by rw [upd_ne npb]; exact ep3
  have hSJ := hS2.mono (tups_frz (o := .dK kb) eb3)
  generalize upd H3 b (.dK kb) = J at sJ epJ hSJ
  have oU := keys_union oθ.nd oη.nd
  have al : ∀ e ∈ (θ.map fun e => (e.1, e.2.sub η)) ++ η.filter (fun e => !Sb.has θ e.1), (∃ i : Int, e.1 = .inl i ∧ 0 ≤ i) ∧ e.2.wf s7 numVar ∧ e.2.nest ≤ 6 := fun e he => by
    rcases List.mem_append.mp he with he | he
    · obtain ⟨x, hx, rfl⟩ := List.mem_map.mp he
      have q := sub_nest oη.ne (by decide) x.2
      have q2 := oθ.ne x hx
      exact ⟨oθ.num x hx, sub_wf oη.wf _ (oθ.wf x hx), by show (x.2.sub η).nest ≤ 6; omega⟩
    · have hx := (List.mem_filter.mp he).1
      exact ⟨oη.num e hx, oη.wf e hx, Nat.le_trans (oη.ne e hx) (by decide)⟩
  have eqC : Sb.comp θ η = List.filter (fun e => !triv e) ((θ.map fun e => (e.1, e.2.sub η)) ++ η.filter (fun e => !Sb.has θ e.1)) := rfl
  rw [eqC] at q
  generalize ((θ.map fun e => (e.1, e.2.sub η)) ++ η.filter fun e => !Sb.has θ e.1) = U at hSJ oU al q
  have lU := hSJ.len
  refine ⟨p, .dK kvs2, epJ, trivial, fun od3 => ?_⟩
  refine ⟨.ref p, rfl, p, od3, rfl, .inl ⟨kvs2, upd_same, fun d nd' => ?_⟩⟩
  have nJd : J d = none := by
    by_cases z : d = p
    · rw [z, upd_same] at nd'; cases nd'
    · rw [upd_ne z] at nd'; exact nd'
  have ndp : d ≠ p := fun z => by rw [z, upd_same] at nd'; cases nd'
  have nHd : H d = none := sJ.free nJd
  refine dc_it walk_keys (fun i H4 => ∃ ls, Same H H4 ∧ Tups J H4 ∧ H4 p = some (.frz od3 (.dK kvs2)) ∧ H4 d = some (.dK ls) ∧ ls.length ≤ i ∧ SubT H4 ls ((U.take i).filter fun e => !triv e))
    ⟨[], same_fresh (same_fresh sJ np) nHd, (tups_updD epJ).trans (same_new nd' _).tups, by rw [upd_ne ndp.symm]; exact upd_same, upd_same, Nat.le_refl _, .nil⟩ (fun i H4 _ h => ?_) (fun i x H4 H5 hi h hy => ?_) (fun H4 h => ?_)
  · obtain ⟨_, _, _, e, _⟩ := h
    exact e
  · obtain ⟨ls, s4, m4, ep4, ed4, ll, hL⟩ := h
    obtain ⟨rfl, k, v, ek, rfl⟩ := hy
    obtain ⟨t, et, htv⟩ := hSJ.get ek
    have hm := List.mem_of_getElem? et
    obtain ⟨⟨j, hj, j0⟩, tw, tn⟩ := al (k, t) hm
    have hj : k = .inl j := hj
    subst hj
    have tn : t.nest ≤ 6 := tn
    have vk := hSJ.val oU ek
    have st := sb_filter (fun e => !triv e) et
    have ht4 := TmAt.mono m4 _ _ htv
    refine ⟨rfl, ?_⟩
    refine ⟨.ref p, rfl, kV (.inl j), rfl, p, v, rfl, DGet.frz ep4 vk, kV (.inl j), rfl, t.dat, kD (.inl j), dp_ter t v ht4, .int j, shaped7 tw (by omega), rfl, _, rfl, ?_⟩
    rw [triv_data tw]
    by_cases c : triv (.inl j, t) = true
    · rw [c]
      refine iteF ⟨ls, s4, m4, ep4, ed4, by omega, ?_⟩
      rw [st, if_neg (by rw [c]; exact Bool.false_ne_true), List.append_nil]
      exact hL
    · rw [Bool.not_eq_true] at c
      rw [c]
      refine iteT ⟨kV (.inl j), rfl, .ref p, rfl, kV (.inl j), rfl, p, v, rfl, DGet.frz ep4 vk, ls, .inl j, rfl, ed4, small6' (by omega), ?_⟩
      have mU : Tups H5 (upd H5 d (.dK (putK ls (.inl j) v))) := tups_updD ed4
      refine ⟨_, same_fresh s4 nHd, m4.trans mU, by rw [upd_ne ndp.symm]; exact ep4, upd_same, by have := len_put ls (.inl j) v; omega, ?_⟩
      rw [st, if_pos (by rw [c]; rfl)]
      exact (hL.mono mU).put (sb_ffresh _ oU et) (TmAt.mono mU _ _ ht4)
  · obtain ⟨ls, s4, m4, ep4, ed4, ll, hL⟩ := h
    rw [lU, List.take_length] at hL
    refine ⟨ep4, q d ls _ (same_fresh s4 np) nHd (by rw [upd_ne ndp]; exact ed4) (hL.mono (tups_frz ep4))⟩
end

end K06
namespace K06
open PySem PySem.Spec PyProof.Rows L2 Own HT
section
variable {P : Program} {w : World} {K : PySem.W.Frag} {mg : Str → Option Value} {base : Heap}
/-! ### _law_composed -/
theorem sc_law_composed : FnScope ["first", "second", "due", "name", "image"] ["first", "second"] (defScope s__law_composed) := ⟨rfl, rfl, rfl, by decide +kernel, rfl, by decide +kernel, by decide +kernel⟩
theorem ok_law_composed {f fR : Addr} {fd fdR : FuncData} (D : Df K mg "_law_composed" s__law_composed ["first", "second"] f fd) (DR : Df K mg "_law_replaced" s__law_replaced ["substitution", "term"] fR fdR) (GR : FnOk P w K mg base CX0 12 fR fdR ["substitution", "term"] (spRp 12)) (mli : mg "list" = none) :
    FnOk P w K mg base CX0 13 f fd ["first", "second"] spCompose := by
  refine D.F.ok sc_law_composed (fun vs H Q E h => ?_) (fun cdv A outer s H vs Q E hr h => ?_)
  · obtain ⟨a, b, ka, kb, θ, η, rfl, _⟩ := h; rfl
  obtain ⟨a, b, ka, kb, θ, η, rfl, nab, ea, eb, hθ, hη, oθ, oη, lθ, lη, q⟩ := h
  have nd := sc_law_composed.nd
  refine ⟨_, pss_cons (ps_set (i := 2) nd rfl (.inl rfl) pe_dnewK)
    (pss_cons (ps_for PassesOwn.never rfl (pi_list (pe_callTy (call_listD rfl) (by rfl) mli (by decide +kernel) (pa_cons (pv 0) pa_nil))) (pg_name (i := 3) nd rfl (.inl rfl))
      (pss_cons (ps_set (i := 4) nd rfl (.inl rfl) (pe_call GR hr (by rfl) DR.m DR.F.kp DR.b .nil pass0 (pa_cons (pv 1) (pa_cons (pe_dget (hu_of hr) (pv 0) (pv 3) (fun _ _ => rfl)) pa_nil))))
      (pss_one (ps_if (pt_cmpR (op_neD hr.units) (pv 4) (pv 3) (nomark _)) (pss_one (ps_dput (hu_of hr) (pv 2) (pv 3) (pv 4) rfl)) pss_nil))))
    (pss_cons (ps_for PassesOwn.never rfl (pi_list (pe_callTy (call_listD rfl) (by rfl) mli (by decide +kernel) (pa_cons (pv 1) pa_nil))) (pg_name (i := 3) nd rfl (.inl rfl))
      (pss_one (ps_if (PW.pt (pw_and (pt_cmp (pc_dnotin (hu_of hr) (pv 3) (pv 0))) (pw_and1 (pt_cmpR (op_neD hr.units) (pe_dget (hu_of hr) (pv 1) (pv 3) (fun _ _ => rfl)) (pv 3) (nomark _))))) (pss_one (ps_dput (hu_of hr) (pv 2) (pv 3) (pe_dget (hu_of hr) (pv 1) (pv 3) (fun _ _ => rfl)) rfl)) pss_nil)))
    (pss_one (ps_ret (pv 2))))), ?_⟩
  refine fun p np => ?_
  have s1 := same_new np (.dK [])
  have lka := hθ.len
  have lkb := hη.len
  have hget : ∀ {kvs : List (Key × V)} {i : Nat} {x : V}, (kvs.map fun kv => kV kv.1)[i]? = some x → ∃ k v, kvs[i]? = some (k, v) ∧ x = kV k := fun {kvs i x} h => by
    rw [List.getElem?_map] at h
    cases ek : kvs[i]? with
    | none => rw [ek] at h; cases h
    | some kv => rw [ek] at h; exact ⟨kv.1, kv.2, rfl, (Option.some.inj h).symm⟩
  -- the first loop
  refine ⟨_, rfl, a, ka, rfl, .inl (s1 _ _ ea), fun l nl => ?_⟩
  have s2 := s1.trans (same_new nl (.lst (ka.map fun kv => kV kv.1)))
  have nlp : l ≠ p := fun z => by rw [z, upd_same] at nl; cases nl
  have nlH : H l = none := s1.free nl
  have oM : (Sb.keys (θ.map fun e => (e.1, e.2.sub η))).Nodup := by rw [keys_map]; exact oθ.nd
  refine ⟨l, rfl, ⟨_, .inl (.inl upd_same)⟩, for_list (xs := ka.map fun kv => kV kv.1) (fun i σ H2 => ∃ kvs y3 y4, σ = [some (.ref a), some (.ref b), some (.ref p), y3, y4] ∧ Same H H2 ∧ H2 l = some (.lst (ka.map fun kv => kV kv.1)) ∧ H2 p = some (.dK kvs) ∧ kvs.length ≤ i ∧ SubT H2 kvs (((θ.map fun e => (e.1, e.2.sub η)).take i).filter fun e => !triv e))
    ⟨[], none, none, rfl, s2, upd_same, by rw [upd_ne nlp.symm]; exact upd_same, Nat.le_refl _, .nil⟩ (fun i σ H2 _ h => ?_) (fun i x σ H2 hx h => ?_) (fun σ H2 h => ?_)⟩
  · obtain ⟨_, _, _, _, _, e, _⟩ := h
    exact .inl (.inl e)
  · obtain ⟨kvs, y3, y4, rfl, sm, el, ep, lk, hS⟩ := h
    obtain ⟨k, v, ek, rfl⟩ := hget hx
    obtain ⟨t, et, htv⟩ := hθ.get ek
    have li := (List.getElem?_eq_some_iff.mp ek).1
    have hm := List.mem_of_getElem? et
    have tw := oθ.wf (k, t) hm
    have tn : t.nest ≤ 3 := oθ.ne (k, t) hm
    obtain ⟨j, hj, j0⟩ := oθ.num (k, t) hm
    have hj : k = .inl j := hj
    subst hj
    have sw := sub_wf oη.wf t tw
    have sn := sub_nest oη.ne (by decide) t
    have em := sb_map (η := η) et
    have st := sb_filter (fun e => !triv e) em
    refine ⟨.ref b, rfl, .ref a, rfl, kV (.inl j), rfl, a, v, rfl, DGet.of (sm _ _ ea) (hθ.val oθ.nd ek), ?_⟩
    refine ⟨b, v, t, kb, η, rfl, sm _ _ eb, hη.mono sm.tups, TmAt.mono sm.tups _ _ htv, tw, by omega, fun v' H3 s3 hv' => ?_⟩
    have ep3 := s3 _ _ ep
    have el3 := s3 _ _ el
    refine ⟨v', rfl, kV (.inl j), rfl, (t.sub η).dat, kD (.inl j), dp_ter _ v' hv', .int j, shaped7 sw (by omega), rfl, _, rfl, ?_⟩
    rw [triv_data sw]
    by_cases c : triv (.inl j, t.sub η) = true
    · rw [c]
      refine iteF ⟨kvs, _, _, rfl, sm.trans s3, el3, ep3, by omega, ?_⟩
      rw [st, if_neg (by rw [c]; exact Bool.false_ne_true), List.append_nil]
      exact hS.mono s3.tups
    · rw [Bool.not_eq_true] at c
      rw [c]
      refine iteT ⟨v', rfl, .ref p, rfl, kV (.inl j), rfl, p, _, rfl, DPut.k ep3 (small6' (by omega)), ?_⟩
      have mU : Tups H3 (upd H3 p (.dK (putK kvs (.inl j) v'))) := tups_updD ep3
      refine ⟨_, _, _, rfl, same_fresh (sm.trans s3) np, by rw [upd_ne nlp]; exact el3, upd_same, by have := len_put kvs (.inl j) v'; omega, ?_⟩
      rw [st, if_pos (by rw [c]; rfl)]
      exact (hS.mono (s3.tups.trans mU)).put (sb_ffresh _ oM em) (TmAt.mono mU _ _ hv')
  obtain ⟨kvs1, y3, y4, rfl, sm, el, ep, lk1, hS1⟩ := h
  rw [List.length_map] at hS1 lk1
  have e1 : (θ.map fun e => (e.1, e.2.sub η)).take ka.length = θ.map fun e => (e.1, e.2.sub η) := List.take_of_length_le (by rw [List.length_map]; omega)
  rw [e1] at hS1
  -- the second loop
  refine ⟨_, rfl, b, kb, rfl, .inl (sm _ _ eb), fun l2 nl2 => ?_⟩
  have s4 := same_new nl2 (.lst (kb.map fun kv => kV kv.1))
  have nlp2 : l2 ≠ p := fun z => by rw [z, ep] at nl2; cases nl2
  refine ⟨l2, rfl, ⟨_, .inl (.inl upd_same)⟩, for_list (xs := kb.map fun kv => kV kv.1) (fun i σ H2 => ∃ kvs y3 y4, σ = [some (.ref a), some (.ref b), some (.ref p), y3, y4] ∧ Same H H2 ∧ H2 l2 = some (.lst (kb.map fun kv => kV kv.1)) ∧ H2 p = some (.dK kvs) ∧ kvs.length ≤ 5 + i ∧ SubT H2 kvs (((θ.map fun e => (e.1, e.2.sub η)).filter fun e => !triv e) ++ (η.take i).filter fun e => !triv e && !Sb.has θ e.1))
    ⟨kvs1, _, _, rfl, sm.trans s4, upd_same, s4 _ _ ep, by omega, by rw [List.take_zero, List.filter_nil, List.append_nil]; exact hS1.mono s4.tups⟩ (fun i σ H2 _ h => ?_) (fun i x σ H2 hx h => ?_) (fun σ H2 h => ?_)⟩
  · obtain ⟨_, _, _, _, _, e, _⟩ := h
    exact .inl (.inl e)
  · obtain ⟨kvs, y3, y4, rfl, sm, el, ep, lk, hS⟩ := h
    obtain ⟨k, v, ek, rfl⟩ := hget hx
    obtain ⟨t, et, htv⟩ := hη.get ek
    have li := (List.getElem?_eq_some_iff.mp ek).1
    have hm := List.mem_of_getElem? et
    have tw := oη.wf (k, t) hm
    have tn : t.nest ≤ 3 := oη.ne (k, t) hm
    obtain ⟨j, hj, j0⟩ := oη.num (k, t) hm
    have hj : k = .inl j := hj
    subst hj
    have st := sb_filter (fun e => !triv e && !Sb.has θ e.1) et
    have ht2 := TmAt.mono sm.tups _ _ htv
    have vk := hη.val oη.nd ek
    have skip : (!triv (.inl j, t) && !Sb.has θ (.inl j)) = false → ∃ kvs y3' y4', [some (V.ref a), some (.ref b), some (.ref p), some (kV (.inl j)), y4] = [some (.ref a), some (.ref b), some (.ref p), y3', y4'] ∧ Same H H2 ∧ H2 l2 = some (.lst (kb.map fun kv => kV kv.1)) ∧ H2 p = some (.dK kvs) ∧ kvs.length ≤ 5 + (i + 1) ∧ SubT H2 kvs (((θ.map fun e => (e.1, e.2.sub η)).filter fun e => !triv e) ++ (η.take (i + 1)).filter fun e => !triv e && !Sb.has θ e.1) := fun z =>
      ⟨kvs, _, _, rfl, sm, el, ep, by omega, by rw [st, if_neg (by rw [z]; exact Bool.false_ne_true), List.append_nil]; exact hS⟩
    refine ⟨kV (.inl j), rfl, .ref a, rfl, a, valV ka (.inl j), rfl, DGet.k (sm _ _ ea), _, rfl, ?_⟩
    rcases hθ.look (.inl j) with ⟨e1, e2⟩ | ⟨u, t1, e1, e2, _⟩
    · rw [e1]
      refine iteT ⟨.ref b, rfl, kV (.inl j), rfl, b, v, rfl, DGet.of (sm _ _ eb) vk, kV (.inl j), rfl, t.dat, kD (.inl j), dp_ter _ v ht2, .int j, shaped7 tw (by omega), rfl, _, rfl, ?_⟩
      rw [triv_data tw]
      by_cases c : triv (.inl j, t) = true
      · rw [c]
        exact iteF (skip (by rw [c]; rfl))
      · rw [Bool.not_eq_true] at c
        rw [c]
        refine iteT ⟨.ref b, rfl, kV (.inl j), rfl, b, v, rfl, DGet.of (sm _ _ eb) vk, .ref p, rfl, kV (.inl j), rfl, p, _, rfl, DPut.k ep (small6' (by omega)), ?_⟩
        have mU : Tups H2 (upd H2 p (.dK (putK kvs (.inl j) v))) := tups_updD ep
        refine ⟨_, _, _, rfl, same_fresh sm np, by rw [upd_ne nlp2]; exact el, upd_same, by have := len_put kvs (.inl j) v; omega, ?_⟩
        rw [st, if_pos (by rw [c, has_none e2]; rfl), ← List.append_assoc]
        refine (hS.mono mU).put (fun z => ?_) (TmAt.mono mU _ _ ht2)
        have z : Sum.inl j ∈ List.map (fun e : Key × Ter => e.1) _ := z
        rw [List.map_append] at z
        rcases List.mem_append.mp z with z | z
        · have z : Sum.inl j ∈ Sb.keys (θ.map fun e => (e.1, e.2.sub η)) := keys_filter_sub z
          rw [keys_map] at z
          exact look_not e2 z
        · exact sb_ffresh _ oη.nd et z
    · rw [e1]
      exact iteF (skip (by rw [has_some e2, Bool.not_true, Bool.and_false]))
  obtain ⟨kvs2, y5, y6, rfl, sm2, el2, ep2, lk2, hS2⟩ := h
  rw [List.length_map] at hS2
  have e2 : η.take kb.length = η := List.take_of_length_le (by omega)
  rw [e2, ← comp_eq] at hS2
  exact ⟨.ref p, rfl, q p kvs2 H2 sm2 np ep2 hS2⟩
/-! ### _law_doubled, _law_chain -/
def spDbl : Sp := fun vs H Q _ => ∃ n : Nat, vs = [.int n] ∧ n ≤ 20 ∧ ∀ v' H', Same H H' → TmAt H' v' (Ter.dbl n) → Q v' H'
theorem sc_dbl : FnScope ["times", "term", "_law_turn"] ["times"] (defScope s__law_doubled) := ⟨rfl, rfl, rfl, by decide +kernel, rfl, by decide +kernel, by decide +kernel⟩
theorem ok_law_doubled {f : Addr} {fd : FuncData} (D : Df K mg "_law_doubled" s__law_doubled ["times"] f fd) (mr : mg "range" = none) : FnOk P w K mg base CX0 1 f fd ["times"] spDbl := by
  refine D.F.ok sc_dbl (fun vs H Q E h => ?_) (fun cdv A outer s H vs Q E hr h => ?_)
  · obtain ⟨n, rfl, _⟩ := h; rfl
  obtain ⟨n, rfl, hn, q⟩ := h
  have nd := sc_dbl.nd
  refine ⟨_, pss_cons (ps_set (i := 1) nd rfl (.inl rfl) (pe_tup (pa_cons pe_str pa_nil)))
    (pss_cons (ps_for PassesOwn.never rfl (pi_range1 (by rfl) mr (pa_cons (pv 0) pa_nil)) (pg_name (i := 2) nd rfl (.inl rfl))
      (pss_one (ps_set (i := 1) nd rfl (.inl rfl) (pe_tup (pa_cons pe_str (pa_cons (pv 1) (pa_cons (pv 1) pa_nil)))))))
    (pss_one (ps_ret (pv 1)))), ?_⟩
  refine ⟨by show 1 ≤ sizeLine; decide, fun p np => ?_⟩
  refine ⟨_, rfl, _, rfl, by omega, by omega, for_range (lo := 0) (n := n) (fun i σ H2 => ∃ v y, σ = [some (.int n), some v, y] ∧ Same H H2 ∧ TmAt H2 v (Ter.dbl i)) ⟨_, none, rfl, same_new np _, .ap upd_same .nil⟩ (fun i σ H2 hi h => ?_) (fun σ H2 h => ?_)⟩
  · obtain ⟨v, y, rfl, sm, hv⟩ := h
    refine ⟨v, rfl, v, rfl, by show 3 ≤ sizeLine; decide, fun p2 np2 => ?_⟩
    have s2 := same_new np2 (.tup [.str "g", v, v])
    have hv2 := TmAt.mono s2.tups _ _ hv
    exact ⟨_, _, rfl, sm.trans s2, .ap upd_same (.cons hv2 (.cons hv2 .nil))⟩
  · obtain ⟨v, y, rfl, sm, hv⟩ := h
    exact ⟨v, rfl, q v H2 sm hv⟩
def spChain : Sp := fun vs H Q _ => ∃ (n : Nat) (v : V) (t : Ter), vs = [.int n, v] ∧ n ≤ 200 ∧ TmAt H v t ∧ ∀ v' H', Same H H' → TmAt H' v' (Ter.chain n t) → Q v' H'
theorem sc_chain : FnScope ["length", "term", "_law_turn"] ["length", "term"] (defScope s__law_chain) := ⟨rfl, rfl, rfl, by decide +kernel, rfl, by decide +kernel, by decide +kernel⟩
theorem ok_law_chain {f : Addr} {fd : FuncData} (D : Df K mg "_law_chain" s__law_chain ["length", "term"] f fd) (mr : mg "range" = none) : FnOk P w K mg base CX0 1 f fd ["length", "term"] spChain := by
  refine D.F.ok sc_chain (fun vs H Q E h => ?_) (fun cdv A outer s H vs Q E hr h => ?_)
  · obtain ⟨n, v, t, rfl, _⟩ := h; rfl
  obtain ⟨n, v0, t, rfl, hn, hv0, q⟩ := h
  have nd := sc_chain.nd
  refine ⟨_, pss_cons (ps_for PassesOwn.never rfl (pi_range1 (by rfl) mr (pa_cons (pv 0) pa_nil)) (pg_name (i := 2) nd rfl (.inl rfl))
      (pss_one (ps_set (i := 1) nd rfl (.inl rfl) (pe_tup (pa_cons pe_str (pa_cons (pv 1) pa_nil))))))
    (pss_one (ps_ret (pv 1))), ?_⟩
  refine ⟨_, rfl, _, rfl, by omega, by omega, for_range (lo := 0) (n := n) (fun i σ H2 => ∃ v y, σ = [some (.int n), some v, y] ∧ Same H H2 ∧ TmAt H2 v (Ter.chain i t)) ⟨_, none, rfl, Same.refl _, hv0⟩ (fun i σ H2 hi h => ?_) (fun σ H2 h => ?_)⟩
  · obtain ⟨v, y, rfl, sm, hv⟩ := h
    refine ⟨v, rfl, by show 2 ≤ sizeLine; decide, fun p2 np2 => ?_⟩
    have s2 := same_new np2 (.tup [.str "f", v])
    exact ⟨_, _, rfl, sm.trans s2, .ap upd_same (.cons (TmAt.mono s2.tups _ _ hv) .nil)⟩
  · obtain ⟨v, y, rfl, sm, hv⟩ := h
    exact ⟨v, rfl, q v H2 sm hv⟩
/-! ### _law_refused -/
/-- how TooLarge stands to the other classes -/
structure KinC (K : PySem.W.Frag) (mg : Str → Option Value) (C S B : Addr) : Prop where
  gS : mg "TextError" = some (.ref S)
  gB : mg "ElenchusError" = some (.ref B)
  kS : PySem.W.kitOne K (.ref C) (.ref S) = some false
def spRefd : Sp := fun vs H Q _ => ∃ (a : Addr) (v : V) (t : Ter) (kvs : List (Key × V)) (θ : Sb), vs = [.ref a, v] ∧ H a = some (.dK kvs) ∧ SubT H kvs θ ∧ TmAt H v t ∧ t.wf s7 numVar ∧ t.nest < 63 ∧ (t.sub θ).size ≤ 1000000 ∧ (t.sub θ).fits = false ∧ ∀ H', Same H H' → Q (.bl true) H'
theorem sc_law_refused : FnScope ["substitution", "term", "error"] ["substitution", "term"] (defScope s__law_refused) := ⟨rfl, rfl, rfl, by decide +kernel, rfl, by decide +kernel, by decide +kernel⟩
theorem ok_law_refused {f fA C fI S B : Addr} {fd fdA fdI : FuncData} (D : Df K mg "_law_refused" s__law_refused ["substitution", "term"] f fd) (DA : Df K mg "apply" s_apply ["substitution", "term"] fA fdA) (GA : FnOk P w K mg base (L2N.CX P w) 65 fA fdA ["substitution", "term"] (spApply C 63))
    (T : LimC P w K mg base C fI fdI) (TK : KinC K mg C S B) (mi : mg "isinstance" = none) : FnOk P w K mg base CX0 66 f fd ["substitution", "term"] spRefd := by
  refine D.F.ok sc_law_refused (fun vs H Q E h => ?_) (fun cdv A outer s H vs Q E hr h => ?_)
  · obtain ⟨a, v, t, kvs, θ, rfl, _⟩ := h; rfl
  obtain ⟨a, v, t, kvs, θ, rfl, ea, hS, ht, hw, hn, hz, hF, q⟩ := h
  have nd := sc_law_refused.nd
  refine ⟨_, pss_cons (ps_try_hds (Wout := fun _ _ _ _ => False) (tb := fun W => tDrop (tCallS (spApply C 63) (WE W) (tCons (tVar 0) (tCons (tVar 1) tNil)))) rfl rfl nd takesN0
      (fun W pn xe tk _ => pss_one (ps_expr (by exact (pe_callS GA hr (by rfl) DA.m DA.F.kp DA.b (fun σ => L2N.passAt tk σ) (pa_cons (pv 0) (pa_cons (pv 1) pa_nil))))))
      (.as (i := 2) rfl rfl ⟨rfl, by decide, .inl T.gC⟩ (fun a oe cls d pn hz hf => pss_one (ps_ret (pe_and (pe_cmpR op_eq (pe_xf T.err.xf T.hn hz.zc hf (pv 2)) pe_str (nomark _)) (pe_one (pe_not (pe_callB (call_isD T.err hz.zc hf) (by rfl) mi (by decide +kernel) (pa_cons (pv 2) (pa_cons (pe_glob (v := .ref S) (by rfl) TK.gS rfl) pa_nil)))))))) 
        (.one ⟨rfl, by decide, .inl TK.gB⟩ (fun a oe cls d pn hz hf => pss_one (ps_ret pe_bl)) .nil)))
    (pss_one (ps_ret pe_bl)), ?_⟩
  refine ⟨.ref a, rfl, v, rfl, a, v, t, kvs, θ, rfl, ea, hS, ht, hw, hn, hz, (fun z => by rw [hF] at z; cases z), fun _ d H1 s1 nd1 ed => ⟨true, T.te, fun _ x nx => ?_, fun z => by cases z⟩⟩
  have rl : ∀ u : Value, RelV (.ref S) u → u = .ref S := fun u h => h
  refine ⟨.ref x, rfl, rfl, rfl, d, _, .str "term", rfl, ed, rfl, ?_⟩
  refine ⟨rfl, _, rfl, ite2 (fun _ => ?_) (fun z => absurd (decide_eq_true rfl) z)⟩
  exact ⟨.ref x, rfl, rfl, d, _, .ref S, .ref S, false, rfl, ed, rfl, rl, TK.kS, _, rfl, q H1 s1⟩
end

end K06
namespace K06
open PySem PySem.Spec PyProof.Rows L2 Own HT
theorem room150 {k : Nat} {A : Around} (r : Room k A) : A.units + 150 < cLine := by have := r.un; omega
theorem room65 {k : Nat} {A : Around} (r : Room k A) : A.units + 65 < cLine := by have := r.un; omega
section
variable {P : Program} {w : World} {K : PySem.W.Frag} {mg : Str → Option Value} {base : Heap}
theorem num_ok {i : Int} (h0 : 0 ≤ i) (h1 : i < 900) : (Ter.var (.inl i)).wf s7 numVar := ⟨i, rfl, h0, h1⟩
theorem one_ok {i : Int} (h0 : 0 ≤ i) {t : Ter} (h : t.wf s7 numVar) : ∀ e ∈ ([(.inl i, t)] : Sb), e.2.wf s7 numVar := fun e he => by
  rw [List.mem_singleton.mp he]
  exact h
theorem one_look (k : Key) (t : Ter) : (Ter.var k).sub [(k, t)] = t := by
  show (Sb.look [(k, t)] k).getD _ = t
  show (if k = k then some t else _).getD _ = t
  rw [if_pos rfl]
  rfl
/-- the data of a term of such symbols, however deep -/
theorem deep_ok {t : Ter} (h : t.wf s7 numVar) (n : t.nest ≤ 150) : t.dat.canLay0 = true ∧ t.dat.depth ≤ 150 := by
  obtain ⟨a, b⟩ := lay_ter t (s7_fine h)
  exact ⟨a, Nat.le_trans b n⟩
/-- the large term around a smaller one -/
def bigAt (t : Ter) : Ter := .ap "g" [.dbl 8, .ap "g" [.dbl 7, .ap "g" [.dbl 6, .ap "g" [.dbl 5, t]]]]
theorem bigAt_sub (θ : Sb) (t : Ter) : (bigAt t).sub θ = bigAt (t.sub θ) := by
  show Ter.ap "g" [(Ter.dbl 8).sub θ, .ap "g" [(Ter.dbl 7).sub θ, .ap "g" [(Ter.dbl 6).sub θ, .ap "g" [(Ter.dbl 5).sub θ, t.sub θ]]]] = _
  rw [dbl_sub, dbl_sub, dbl_sub, dbl_sub]
  rfl
theorem bigAt_size (t : Ter) : (bigAt t).size = 960 + t.size := by
  have a := dbl_size 8
  have b := dbl_size 7
  have c := dbl_size 6
  have d := dbl_size 5
  show ((Ter.dbl 8).size + ((((Ter.dbl 7).size + ((((Ter.dbl 6).size + ((((Ter.dbl 5).size + (t.size + 0)) + 1) + 0)) + 1) + 0)) + 1) + 0)) + 1 = 960 + t.size
  omega
theorem bigAt_nest2 (t : Ter) (h : t.nest ≤ 46) : (bigAt t).nest ≤ 50 := by
  have a := dbl_nest 8
  have b := dbl_nest 7
  have c := dbl_nest 6
  have d := dbl_nest 5
  show max (Ter.dbl 8).nest (max (max (Ter.dbl 7).nest (max (max (Ter.dbl 6).nest (max (max (Ter.dbl 5).nest (max t.nest 0) + 1) 0) + 1) 0) + 1) 0) + 1 ≤ 50
  omega
theorem bigAt_nest (t : Ter) (h : t.nest ≤ 6) : (bigAt t).nest ≤ 10 := by
  have a := dbl_nest 8
  have b := dbl_nest 7
  have c := dbl_nest 6
  have d := dbl_nest 5
  show max (Ter.dbl 8).nest (max (max (Ter.dbl 7).nest (max (max (Ter.dbl 6).nest (max (max (Ter.dbl 5).nest (max t.nest 0) + 1) 0) + 1) 0) + 1) 0) + 1 ≤ 10
  omega
theorem bigAt_wf {t : Ter} (h : t.wf s7 numVar) : (bigAt t).wf s7 numVar := by
  have D : ∀ n : Nat, (Ter.dbl n).wf s7 numVar := fun n => dbl_wf (sh1 "a").1 (sh1 "g").2.2 n
  exact ⟨(sh1 "g").2.2, D 8, ⟨(sh1 "g").2.2, D 7, ⟨(sh1 "g").2.2, D 6, ⟨(sh1 "g").2.2, D 5, h, trivial⟩, trivial⟩, trivial⟩, trivial⟩
/-! ### _law_large -/
def spLarge : Sp := fun vs H Q _ => ∃ (d c : Addr), vs = [.ref d] ∧ Sta H d c ∧ ∀ H', Q (.bl true) H'
abbrev LG : List Str := ["state", "length", "inner", "term", "substitution", "depth"]
theorem sc_law_large : FnScope LG ["state"] (defScope s__law_large) := ⟨rfl, rfl, rfl, by decide +kernel, rfl, by decide +kernel, by decide +kernel⟩
theorem ok_law_large {f C : Addr} {fd : FuncData} (D : Df K mg "_law_large" s__law_large ["state"] f fd)
    {fD fB fC fF fR fA : Addr} {dD dB dC dF dR dA : FuncData}
    (DD : Df K mg "_law_draw" s__law_draw ["state", "many"] fD dD) (GD : FnOk P w K mg base CX0 1 fD dD ["state", "many"] spDraw)
    (DB : Df K mg "_law_doubled" s__law_doubled ["times"] fB dB) (GB : FnOk P w K mg base CX0 1 fB dB ["times"] spDbl)
    (DC : Df K mg "_law_chain" s__law_chain ["length", "term"] fC dC) (GC : FnOk P w K mg base CX0 1 fC dC ["length", "term"] spChain)
    (DF : Df K mg "_law_refused" s__law_refused ["substitution", "term"] fF dF) (GF : FnOk P w K mg base CX0 66 fF dF ["substitution", "term"] spRefd)
    (DR : Df K mg "_law_replaced" s__law_replaced ["substitution", "term"] fR dR) (GR : FnOk P w K mg base CX0 12 fR dR ["substitution", "term"] (spRp 12))
    (DA : Df K mg "apply" s_apply ["substitution", "term"] fA dA) (GA : FnOk P w K mg base (L2N.CX P w) 65 fA dA ["substitution", "term"] (spApply C 63)) : FnOk P w K mg base CX0 67 f fd ["state"] spLarge := by
  refine D.F.ok sc_law_large (fun vs H Q E h => ?_) (fun cdv A outer s H vs Q E hr h => ?_)
  · obtain ⟨d, c, rfl, _⟩ := h; rfl
  obtain ⟨d, c, rfl, hI, q⟩ := h
  have nd := sc_law_large.nd
  have r1 : Room 1 _ := hr.mono (by decide)
  have r12 : Room 12 _ := hr.mono (by decide)
  have r65 : Room 65 _ := hr.mono (by decide)
  refine ⟨_, (pss_cons (ps_set (i := 1) nd rfl (.inl rfl) (pe_op op_add pe_int (pe_call GD r1 (by rfl) DD.m DD.F.kp DD.b .nil pass0 (pa_cons (pv 0) (pa_cons pe_int pa_nil)))))
    (pss_cons (ps_set (i := 2) nd rfl (.inl rfl) (pe_tup (pa_cons pe_str (pa_cons (pe_call GB r1 (by rfl) DB.m DB.F.kp DB.b .nil pass0 (pa_cons pe_int pa_nil)) (pa_cons (pe_tup (pa_cons pe_str (pa_cons (pe_call GB r1 (by rfl) DB.m DB.F.kp DB.b .nil pass0 (pa_cons pe_int pa_nil)) (pa_cons pe_int pa_nil)))) pa_nil)))))
    (pss_cons (ps_set (i := 3) nd rfl (.inl rfl) (pe_tup (pa_cons pe_str (pa_cons (pe_call GB r1 (by rfl) DB.m DB.F.kp DB.b .nil pass0 (pa_cons pe_int pa_nil)) (pa_cons (pe_tup (pa_cons pe_str (pa_cons (pe_call GB r1 (by rfl) DB.m DB.F.kp DB.b .nil pass0 (pa_cons pe_int pa_nil)) (pa_cons (pv 2) pa_nil)))) pa_nil)))))
    (pss_cons (ps_set (i := 4) nd rfl (.inl rfl) (pe_disp (pps_cons pe_int (pe_call GC r1 (by rfl) DC.m DC.F.kp DC.b .nil pass0 (pa_cons (pv 1) (pa_cons (pe_tup (pa_cons pe_str pa_nil)) pa_nil))) pps_nil) rfl rfl (by simp) (by decide)))
    (pss_cons (ps_if (pt_cmpR op_eq (pe_call GD r1 (by rfl) DD.m DD.F.kp DD.b .nil pass0 (pa_cons (pv 0) (pa_cons pe_int pa_nil))) pe_int (nomark _))
      (pss_cons (ps_if (pt_cmpR op_gt (pe_op op_add pe_int (pv 1)) pe_int (nomark _))
      (pss_one (ps_ret (pe_call GF hr (by rfl) DF.m DF.F.kp DF.b .nil pass0 (pa_cons (pv 4) (pa_cons (pv 3) pa_nil)))))
      pss_nil)
    (pss_one (ps_ret (pe_cmpR (op_eqDeep (room150 hr)) (pe_callS (E := fun _ => E0) GA r65 (by rfl) DA.m DA.F.kp DA.b passLN (pa_cons (pv 4) (pa_cons (pv 3) pa_nil))) (pe_call GR r12 (by rfl) DR.m DR.F.kp DR.b .nil pass0 (pa_cons (pv 4) (pa_cons (pv 3) pa_nil))) (nomark _)))))
      pss_nil)
    (pss_cons (ps_set (i := 5) nd rfl (.inl rfl) (pe_op op_add pe_int (pe_call GD r1 (by rfl) DD.m DD.F.kp DD.b .nil pass0 (pa_cons (pv 0) (pa_cons pe_int pa_nil)))))
    (pss_cons (ps_if (pt_cmpR op_gt (pe_op op_add (pv 5) pe_int) pe_int (nomark _))
      (pss_one (ps_ret (pe_call GF hr (by rfl) DF.m DF.F.kp DF.b .nil pass0 (pa_cons (pe_disp (pps_cons pe_int (pe_call GC r1 (by rfl) DC.m DC.F.kp DC.b .nil pass0 (pa_cons pe_int (pa_cons pe_int pa_nil))) pps_nil) rfl rfl (by simp) (by decide)) (pa_cons (pe_call GC r1 (by rfl) DC.m DC.F.kp DC.b .nil pass0 (pa_cons (pv 5) (pa_cons pe_int pa_nil))) pa_nil)))))
      pss_nil)
    (pss_one (ps_ret (pe_cmpR (op_eqDeep (room150 hr)) (pe_callS (E := fun _ => E0) GA r65 (by rfl) DA.m DA.F.kp DA.b passLN (pa_cons (pe_disp (pps_cons pe_int (pe_call GC r1 (by rfl) DC.m DC.F.kp DC.b .nil pass0 (pa_cons pe_int (pa_cons pe_int pa_nil))) pps_nil) rfl rfl (by simp) (by decide)) (pa_cons (pe_call GC r1 (by rfl) DC.m DC.F.kp DC.b .nil pass0 (pa_cons (pv 5) (pa_cons pe_int pa_nil))) pa_nil))) (pe_call GC r1 (by rfl) DC.m DC.F.kp DC.b .nil pass0 (pa_cons (pe_op op_add (pv 5) pe_int) (pa_cons pe_int pa_nil))) (nomark _))))))))))), ?_⟩
  refine ⟨_, rfl, d, 4, rfl, c, hI, by decide, by decide, fun r H1 r0 r4 b1 hI1 => ⟨_, _, rfl, rfl, ?_⟩⟩
  obtain ⟨m, rfl⟩ := Int.eq_ofNat_of_zero_le r0
  have hm : m < 4 := by omega
  -- inner
  refine ⟨6, rfl, by decide, fun v6 H2 s2 hv6 => ⟨5, rfl, by decide, fun v5 H3 s3 hv5 => ⟨by show 3 ≤ sizeLine; decide, fun p3 np3 => ⟨by show 3 ≤ sizeLine; decide, fun p4 np4 => ?_⟩⟩⟩⟩
  have s4 := same_new np3 (.tup [.str "g", v5, .int 0])
  have s5 := same_new np4 (.tup [.str "g", v6, .ref p3])
  have hin : TmAt (upd (upd H3 p3 (.tup [.str "g", v5, .int 0])) p4 (.tup [.str "g", v6, .ref p3])) (.ref p4) (.ap "g" [.dbl 6, .ap "g" [.dbl 5, .var (.inl 0)]]) :=
    .ap upd_same (.cons (TmAt.mono (s3.trans (s4.trans s5)).tups _ _ hv6) (.cons (.ap (s5 _ _ upd_same) (.cons (TmAt.mono (s4.trans s5).tups _ _ hv5) (.cons (.int 0) .nil))) .nil))
  have s15 : Same H1 _ := s2.trans (s3.trans (s4.trans s5))
  generalize upd (upd H3 p3 (.tup [.str "g", v5, .int 0])) p4 (.tup [.str "g", v6, .ref p3]) = H5 at hin s15
  -- term
  refine ⟨8, rfl, by decide, fun v8 H6 s6 hv8 => ⟨7, rfl, by decide, fun v7 H7 s7' hv7 => ⟨.ref p4, rfl, by show 3 ≤ sizeLine; decide, fun p5 np5 => ⟨by show 3 ≤ sizeLine; decide, fun p6 np6 => ?_⟩⟩⟩⟩
  have s8 := same_new np5 (.tup [.str "g", v7, .ref p4])
  have s9 := same_new np6 (.tup [.str "g", v8, .ref p5])
  have hbig : TmAt (upd (upd H7 p5 (.tup [.str "g", v7, .ref p4])) p6 (.tup [.str "g", v8, .ref p5])) (.ref p6) (bigAt (.var (.inl 0))) :=
    .ap upd_same (.cons (TmAt.mono (s7'.trans (s8.trans s9)).tups _ _ hv8) (.cons (.ap (s9 _ _ upd_same) (.cons (TmAt.mono (s8.trans s9).tups _ _ hv7) (.cons (TmAt.mono (s6.trans (s7'.trans (s8.trans s9))).tups _ _ hin) .nil))) .nil))
  have s19 : Same H1 _ := s15.trans (s6.trans (s7'.trans (s8.trans s9)))
  generalize upd (upd H7 p5 (.tup [.str "g", v7, .ref p4])) p6 (.tup [.str "g", v8, .ref p5]) = H9 at hbig s19
  -- substitution
  refine fun p7 np7 => ⟨_, rfl, by show 1 ≤ sizeLine; decide, fun p8 np8 => ⟨38 + m, .ref p8, .ap "a" [], rfl, by omega, .ap upd_same .nil, fun vc H10 s10 hvc => ?_⟩⟩
  have s11 := same_new np8 (.tup [.str "a"])
  have ed : H10 p7 = some (.dK []) := s10 _ _ (s11 _ _ upd_same)
  refine ⟨ed, [(.inl 0, vc)], rfl, by show 1 ≤ 15; decide, ?_⟩
  have s7n := same_new np7 (.dK [])
  have nH1 : H1 p7 = none := s19.free np7
  have s20 : Same H1 (upd H10 p7 (.dK (mergeK [] [(.inl 0, vc)]))) := same_fresh (s19.trans (s7n.trans (s11.trans s10))) nH1
  have mU : Tups H10 (upd H10 p7 (.dK (mergeK [] [(.inl 0, vc)]))) := tups_updD ed
  have hT : SubT (upd H10 p7 (.dK (mergeK [] [(.inl 0, vc)]))) [(.inl 0, vc)] [(.inl 0, Ter.chain (38 + m) (.ap "a" []))] := .cons (TmAt.mono mU _ _ hvc) .nil
  have hb2 := TmAt.mono ((s7n.trans (s11.trans s10)).tups.trans mU) _ _ hbig
  have e7 : upd H10 p7 (.dK (mergeK [] [(.inl 0, vc)])) p7 = some (.dK [(.inl 0, vc)]) := upd_same
  generalize upd H10 p7 (.dK (mergeK [] [(.inl 0, vc)])) = G at s20 hT hb2 e7
  have hIG := hI1.same s20
  have n7d : p7 ≠ d := hI1.ne nH1
  refine ⟨_, rfl, d, 2, rfl, c, hIG, by decide, by decide, fun r2 J q0 q1 bJ hIJ => ⟨rfl, _, rfl, ite2 (fun _ => ?_) (fun _ => ?_)⟩⟩
  · have mJ := hIG.tups bJ
    have hTJ := hT.mono mJ
    have hbJ := TmAt.mono mJ _ _ hb2
    have e7J := bJ _ _ n7d e7
    have w0 : (Ter.var (.inl 0)).wf s7 numVar := num_ok (by decide) (by decide)
    have wb : (bigAt (.var (.inl 0))).wf s7 numVar := bigAt_wf w0
    have nb : (bigAt (.var (.inl 0))).nest ≤ 10 := bigAt_nest _ (by decide)
    have wc : (Ter.chain (38 + m) (.ap "a" [])).wf s7 numVar := chain_wf (sh1 "f").2.1 (show (Ter.ap "a" []).wf s7 numVar from ⟨(sh1 "a").1, trivial⟩) _
    have zc := chain_size (.ap "a" []) (38 + m)
    have nc := chain_nest (.ap "a" []) (38 + m)
    have zc : (Ter.chain (38 + m) (.ap "a" [])).size = 38 + m + 1 := zc
    have nc : (Ter.chain (38 + m) (.ap "a" [])).nest = 38 + m + 1 := nc
    have es : (bigAt (.var (.inl 0))).sub [(.inl 0, Ter.chain (38 + m) (.ap "a" []))] = bigAt (Ter.chain (38 + m) (.ap "a" [])) := by rw [bigAt_sub, one_look]
    have zb := bigAt_size (Ter.chain (38 + m) (.ap "a" []))
    have nb2 : (bigAt (Ter.chain (38 + m) (.ap "a" []))).nest ≤ 50 := bigAt_nest2 _ (by omega)
    have wb2 : (bigAt (Ter.chain (38 + m) (.ap "a" []))).wf s7 numVar := bigAt_wf wc
    refine ⟨_, rfl, _, _, rfl, rfl, _, _, rfl, rfl, _, rfl, ite2 (fun z => ?_) (fun z => ?_)⟩
    · have z := of_decide_eq_true z
      have ff : (bigAt (Ter.chain (38 + m) (.ap "a" []))).fits = false := by
        unfold Ter.fits
        rw [decide_eq_false (show ¬ (bigAt (Ter.chain (38 + m) (.ap "a" []))).size ≤ 1000 by omega)]
        rfl
      exact ⟨_, rfl, _, rfl, p7, .ref p6, _, _, _, rfl, e7J, hTJ, hbJ, wb, by omega, by rw [es]; omega, by rw [es]; exact ff, fun H' _ => q H'⟩
    · have z : ¬ (1000 : Int) < 961 + (38 + (m : Int)) := fun y => z (decide_eq_true y)
      have ff : (bigAt (Ter.chain (38 + m) (.ap "a" []))).fits = true := by
        unfold Ter.fits
        rw [decide_eq_true (show (bigAt (Ter.chain (38 + m) (.ap "a" []))).size ≤ 1000 by omega), decide_eq_true (show (bigAt (Ter.chain (38 + m) (.ap "a" []))).nest ≤ 100 by omega)]
        rfl
      refine ⟨_, rfl, _, rfl, p7, .ref p6, _, _, _, rfl, e7J, hTJ, hbJ, wb, by omega, by rw [es]; omega, fun _ v' K1 k1 hv' => ?_, fun y => by rw [es, ff] at y; cases y⟩
      refine ⟨_, rfl, _, rfl, p7, .ref p6, _, _, _, rfl, k1 _ _ e7J, hTJ.mono k1.tups, TmAt.mono k1.tups _ _ hbJ, wb, by omega, fun v2 K2 k2 hv2 => ?_⟩
      rw [es] at hv' hv2
      obtain ⟨d1, d2⟩ := deep_ok wb2 (by omega)
      refine ⟨_, _, dp_ter _ _ (TmAt.mono k2.tups _ _ hv'), dp_ter _ _ hv2, d1, d1, d2, ?_⟩
      rw [ter_refl]
      exact q K2
  · refine ⟨_, rfl, d, 4, rfl, c, hIJ, by decide, by decide, fun r3 L u0 u1 bL hIL => ⟨_, _, rfl, rfl, ?_⟩⟩
    obtain ⟨k, rfl⟩ := Int.eq_ofNat_of_zero_le u0
    have hk : k < 4 := by omega
    have w1 : (Ter.var (.inl 1)).wf s7 numVar := num_ok (by decide) (by decide)
    have w3 : (Ter.var (.inl 3)).wf s7 numVar := num_ok (by decide) (by decide)
    have wc : (Ter.chain (58 + k) (.var (.inl 3))).wf s7 numVar := chain_wf (sh1 "f").2.1 w3 _
    have nc : (Ter.chain (58 + k) (.var (.inl 3))).nest = 58 + k + 1 := chain_nest _ _
    have es : (Ter.chain (58 + k) (.var (.inl 3))).sub [(.inl 3, Ter.chain 39 (.var (.inl 1)))] = Ter.chain (58 + k + 39) (.var (.inl 1)) := by rw [chain_sub, one_look, chain_chain]
    have we : (Ter.chain (58 + k + 39) (.var (.inl 1))).wf s7 numVar := chain_wf (sh1 "f").2.1 w1 _
    have ze : (Ter.chain (58 + k + 39) (.var (.inl 1))).size = 58 + k + 39 + 1 := chain_size _ _
    have ne : (Ter.chain (58 + k + 39) (.var (.inl 1))).nest = 58 + k + 39 + 1 := chain_nest _ _
    refine ⟨_, rfl, _, _, rfl, rfl, _, _, rfl, rfl, _, rfl, ite2 (fun z => ?_) (fun z => ?_)⟩
    · have z := of_decide_eq_true z
      have ff : (Ter.chain (58 + k + 39) (.var (.inl 1))).fits = false := by
        unfold Ter.fits
        rw [decide_eq_false (show ¬ (Ter.chain (58 + k + 39) (.var (.inl 1))).nest ≤ 100 by omega), Bool.and_false]
      refine fun p np => ⟨39, .int 1, .var (.inl 1), rfl, by decide, .int 1, fun v M1 t1 hv => ?_⟩
      have ed : M1 p = some (.dK []) := t1 _ _ upd_same
      refine ⟨ed, [(.inl 3, v)], rfl, by show 1 ≤ 15; decide, ?_⟩
      have mU : Tups M1 (upd M1 p (.dK (mergeK [] [(.inl 3, v)]))) := tups_updD ed
      have hT3 : SubT (upd M1 p (.dK (mergeK [] [(.inl 3, v)]))) [(.inl 3, v)] [(.inl 3, Ter.chain 39 (.var (.inl 1)))] := .cons (TmAt.mono mU _ _ hv) .nil
      refine ⟨_, rfl, 58 + k, .int 3, .var (.inl 3), rfl, by omega, .int 3, fun v2 M2 t2 hv2 => ?_⟩
      exact ⟨p, v2, _, _, _, rfl, t2 _ _ upd_same, hT3.mono t2.tups, hv2, wc, by omega, by rw [es]; omega, by rw [es]; exact ff, fun H' _ => q H'⟩
    · have z : ¬ (100 : Int) < 58 + (k : Int) + 40 := fun y => z (decide_eq_true y)
      have ff : (Ter.chain (58 + k + 39) (.var (.inl 1))).fits = true := by
        unfold Ter.fits
        rw [decide_eq_true (show (Ter.chain (58 + k + 39) (.var (.inl 1))).size ≤ 1000 by omega), decide_eq_true (show (Ter.chain (58 + k + 39) (.var (.inl 1))).nest ≤ 100 by omega)]
        rfl
      refine fun p np => ⟨39, .int 1, .var (.inl 1), rfl, by decide, .int 1, fun v M1 t1 hv => ?_⟩
      have ed : M1 p = some (.dK []) := t1 _ _ upd_same
      refine ⟨ed, [(.inl 3, v)], rfl, by show 1 ≤ 15; decide, ?_⟩
      have mU : Tups M1 (upd M1 p (.dK (mergeK [] [(.inl 3, v)]))) := tups_updD ed
      have hT3 : SubT (upd M1 p (.dK (mergeK [] [(.inl 3, v)]))) [(.inl 3, v)] [(.inl 3, Ter.chain 39 (.var (.inl 1)))] := .cons (TmAt.mono mU _ _ hv) .nil
      refine ⟨_, rfl, 58 + k, .int 3, .var (.inl 3), rfl, by omega, .int 3, fun v2 M2 t2 hv2 => ?_⟩
      refine ⟨p, v2, _, _, _, rfl, t2 _ _ upd_same, hT3.mono t2.tups, hv2, wc, by omega, by rw [es]; omega, fun _ v' K1 k1 hv' => ?_, fun y => by rw [es, ff] at y; cases y⟩
      refine ⟨_, rfl, _, _, rfl, rfl, 58 + k + 39, .int 1, .var (.inl 1), rfl, by omega, .int 1, fun v3 K2 k2 hv3 => ?_⟩
      rw [es] at hv'
      obtain ⟨d1, d2⟩ := deep_ok we (by omega)
      refine ⟨_, _, dp_ter _ _ (TmAt.mono k2.tups _ _ hv'), dp_ter _ _ hv3, d1, d1, d2, ?_⟩
      rw [ter_refl]
      exact q K2
end
section
variable {P : Program} {w : World} {K : PySem.W.Frag} {mg : Str → Option Value} {base : Heap}
/-- what is given, and its copies -/
structure Gv (H : Hp) (d l g1 g2 p1 p2 : Addr) (k1 k2 : List (Key × V)) (θ η : Sb) : Prop where
  nl : l ≠ d
  n1 : g1 ≠ d
  n2 : g2 ≠ d
  m1 : p1 ≠ d
  m2 : p2 ≠ d
  el : H l = some (.lst [.ref g1, .ref g2])
  a1 : H g1 = some (.dK k1)
  a2 : H g2 = some (.dK k2)
  e1 : H p1 = some (.dK k1)
  e2 : H p2 = some (.dK k2)
  h1 : SubT H k1 θ
  h2 : SubT H k2 η
theorem Gv.same {H H' : Hp} {d l g1 g2 p1 p2 : Addr} {k1 k2 : List (Key × V)} {θ η : Sb} (v : Gv H d l g1 g2 p1 p2 k1 k2 θ η) (s : Same H H') : Gv H' d l g1 g2 p1 p2 k1 k2 θ η :=
  ⟨v.nl, v.n1, v.n2, v.m1, v.m2, s _ _ v.el, s _ _ v.a1, s _ _ v.a2, s _ _ v.e1, s _ _ v.e2, v.h1.mono s.tups, v.h2.mono s.tups⟩
theorem Gv.but {H H' : Hp} {d l g1 g2 p1 p2 : Addr} {k1 k2 : List (Key × V)} {θ η : Sb} (v : Gv H d l g1 g2 p1 p2 k1 k2 θ η) (s : But d H H') (m : Tups H H') : Gv H' d l g1 g2 p1 p2 k1 k2 θ η :=
  ⟨v.nl, v.n1, v.n2, v.m1, v.m2, s _ _ v.nl v.el, s _ _ v.n1 v.a1, s _ _ v.n2 v.a2, s _ _ v.m1 v.e1, s _ _ v.m2 v.e2, v.h1.mono m, v.h2.mono m⟩
/-! ### law -/
def spLaw (K : PySem.W.Frag) : Sp := fun vs H Q _ => ∃ (a : Addr) (ns : List Int), vs = [.ref a] ∧ SqL K H a (ns.map V.int) ∧ ns.length ≤ 63 ∧ ∀ H', Q (.bl true) H'
abbrev LN : List Str := ["script", "state", "first", "second", "given", "term", "actual", "composed", "other"]
theorem sc_law : FnScope LN ["script"] (defScope s_law) := ⟨rfl, rfl, rfl, by decide +kernel, rfl, by decide +kernel, by decide +kernel⟩
theorem ok_law {f C : Addr} {fd : FuncData} (D : Df K mg "law" s_law ["script"] f fd)
    {fS fD fU fT fI fR fA fM fJ fN fL : Addr} {dS dD dU dT dI dR dA dM dJ dN dL : FuncData}
    (DS : Df K mg "_law_state" s__law_state ["script"] fS dS) (GS : FnOk P w K mg base CX0 1 fS dS ["script"] (spState K))
    (DD : Df K mg "_law_draw" s__law_draw ["state", "many"] fD dD) (GD : FnOk P w K mg base CX0 1 fD dD ["state", "many"] spDraw)
    (DU : Df K mg "_law_substitution" s__law_substitution ["state", "names", "depth"] fU dU) (GU : FnOk P w K mg base CX0 6 fU dU ["state", "names", "depth"] spSubst)
    (DT : Df K mg "_law_term" s__law_term ["state", "depth", "names"] fT dT) (GT : FnOk P w K mg base CX0 5 fT dT ["state", "depth", "names"] (spTerm7 4))
    (DI : Df K mg "_law_is_term" s__law_is_term ["value"] fI dI) (GI : FnOk P w K mg base CX0 62 fI dI ["value"] (spIsTm 61))
    (DR : Df K mg "_law_replaced" s__law_replaced ["substitution", "term"] fR dR) (GR : FnOk P w K mg base CX0 12 fR dR ["substitution", "term"] (spRp 12))
    (DA : Df K mg "apply" s_apply ["substitution", "term"] fA dA) (GA : FnOk P w K mg base (L2N.CX P w) 65 fA dA ["substitution", "term"] (spApply C 63))
    (DM : Df K mg "compose" s_compose ["first", "second"] fM dM) (GM : FnOk P w K mg base CX0 66 fM dM ["first", "second"] spCompose)
    (DJ : Df K mg "_law_is_substitution" s__law_is_substitution ["value"] fJ dJ) (GJ : FnOk P w K mg base CX0 63 fJ dJ ["value"] spIsSub)
    (DN : Df K mg "_law_composed" s__law_composed ["first", "second"] fN dN) (GN : FnOk P w K mg base CX0 13 fN dN ["first", "second"] spCompose)
    (DL : Df K mg "_law_large" s__law_large ["state"] fL dL) (GL : FnOk P w K mg base CX0 67 fL dL ["state"] spLarge)
    (m_dict : mg "dict" = none) : FnOk P w K mg base CX0 68 f fd ["script"] (spLaw K) := by
  refine D.F.ok sc_law (fun vs H Q E h => ?_) (fun cdv A outer s H vs Q E hr h => ?_)
  · obtain ⟨a, ns, rfl, _⟩ := h; rfl
  obtain ⟨a, ns, rfl, hS, hn, q⟩ := h
  have nd := sc_law.nd
  have r1 : Room 1 _ := hr.mono (by decide)
  have r5 : Room 5 _ := hr.mono (by decide)
  have r6 : Room 6 _ := hr.mono (by decide)
  have r12 : Room 12 _ := hr.mono (by decide)
  have r13 : Room 13 _ := hr.mono (by decide)
  have r62 : Room 62 _ := hr.mono (by decide)
  have r63 : Room 63 _ := hr.mono (by decide)
  have r65 : Room 65 _ := hr.mono (by decide)
  have r66 : Room 66 _ := hr.mono (by decide)
  refine ⟨_, (pss_cons (ps_set (i := 1) nd rfl (.inl rfl) (pe_call GS r1 (by rfl) DS.m DS.F.kp DS.b .nil pass0 (pa_cons (pv 0) pa_nil)))
    (pss_cons (ps_set (i := 2) nd rfl (.inl rfl) (pe_call GU r6 (by rfl) DU.m DU.F.kp DU.b .nil pass0 (pa_cons (pv 1) (pa_cons pe_int (pa_cons pe_int pa_nil)))))
    (pss_cons (ps_set (i := 3) nd rfl (.inl rfl) (pe_call GU r6 (by rfl) DU.m DU.F.kp DU.b .nil pass0 (pa_cons (pv 1) (pa_cons pe_int (pa_cons pe_int pa_nil)))))
    (pss_cons (ps_set (i := 4) nd rfl (.inl rfl) (pe_lst (pa_cons (pe_callTy call_dictD (by rfl) m_dict (by decide +kernel) (pa_cons (pv 2) pa_nil)) (pa_cons (pe_callTy call_dictD (by rfl) m_dict (by decide +kernel) (pa_cons (pv 3) pa_nil)) pa_nil))))
    (pss_cons (ps_set (i := 5) nd rfl (.inl rfl) (pe_call GT r5 (by rfl) DT.m DT.F.kp DT.b .nil pass0 (pa_cons (pv 1) (pa_cons pe_int (pa_cons pe_int pa_nil)))))
    (pss_cons (ps_set (i := 6) nd rfl (.inl rfl) (pe_callS (E := fun _ => E0) GA r65 (by rfl) DA.m DA.F.kp DA.b passLN (pa_cons (pe_ix ix_list (pv 4) pe_int (fun _ _ => rfl)) (pa_cons (pv 5) pa_nil))))
    (pss_cons (ps_if (PW.pt (pw_or (pt_not (pt_val (pe_call GI r62 (by rfl) DI.m DI.F.kp DI.b .nil pass0 (pa_cons (pv 6) pa_nil)))) (pw_or1 (pt_cmpR (op_neD hr.units) (pv 6) (pe_call GR r12 (by rfl) DR.m DR.F.kp DR.b .nil pass0 (pa_cons (pv 2) (pa_cons (pv 5) pa_nil))) (nomark _)))))
      (pss_one (ps_ret pe_bl))
      pss_nil)
    (pss_cons (ps_set (i := 7) nd rfl (.inl rfl) (pe_call GM r66 (by rfl) DM.m DM.F.kp DM.b .nil pass0 (pa_cons (pe_ix ix_list (pv 4) pe_int (fun _ _ => rfl)) (pa_cons (pe_ix ix_list (pv 4) pe_int (fun _ _ => rfl)) pa_nil))))
    (pss_cons (ps_if (PW.pt (pw_or (pt_not (pt_val (pe_call GJ r63 (by rfl) DJ.m DJ.F.kp DJ.b .nil pass0 (pa_cons (pv 7) pa_nil)))) (pw_or1 (pt_cmpR (op_neDct (room65 hr)) (pv 7) (pe_call GN r13 (by rfl) DN.m DN.F.kp DN.b .nil pass0 (pa_cons (pv 2) (pa_cons (pv 3) pa_nil))) (nomark _)))))
      (pss_one (ps_ret pe_bl))
      pss_nil)
    (pss_cons (ps_for PassesOwn.never rfl (pi_list (pe_lst (pa_cons (pv 5) (pa_cons pe_int (pa_cons (pe_tup (pa_cons pe_str (pa_cons pe_int (pa_cons pe_int pa_nil)))) (pa_cons (pe_call GT r5 (by rfl) DT.m DT.F.kp DT.b .nil pass0 (pa_cons (pv 1) (pa_cons pe_int (pa_cons pe_int pa_nil)))) pa_nil)))))) (pg_name (i := 8) nd rfl (.inl rfl))
      (pss_one (ps_if (pt_cmpR (op_neD hr.units) (pe_call GR r12 (by rfl) DR.m DR.F.kp DR.b .nil pass0 (pa_cons (pv 7) (pa_cons (pv 8) pa_nil))) (pe_callS (E := fun _ => E0) GA r65 (by rfl) DA.m DA.F.kp DA.b passLN (pa_cons (pe_ix ix_list (pv 4) pe_int (fun _ _ => rfl)) (pa_cons (pe_callS (E := fun _ => E0) GA r65 (by rfl) DA.m DA.F.kp DA.b passLN (pa_cons (pe_ix ix_list (pv 4) pe_int (fun _ _ => rfl)) (pa_cons (pv 8) pa_nil))) pa_nil))) (nomark _))
      (pss_one (ps_ret pe_bl))
      pss_nil)))
    (pss_cons (ps_if (PW.pt (pw_or (pt_cmpR (op_neDct (room65 hr)) (pe_call GM r66 (by rfl) DM.m DM.F.kp DM.b .nil pass0 (pa_cons pe_dnewK (pa_cons (pe_ix ix_list (pv 4) pe_int (fun _ _ => rfl)) pa_nil))) (pe_call GN r13 (by rfl) DN.m DN.F.kp DN.b .nil pass0 (pa_cons pe_dnewK (pa_cons (pv 3) pa_nil))) (nomark _)) (pw_or (pt_cmpR (op_neDct (room65 hr)) (pe_ix ix_list (pv 4) pe_int (fun _ _ => rfl)) (pv 2) (nomark _)) (pw_or1 (pt_cmpR (op_neDct (room65 hr)) (pe_ix ix_list (pv 4) pe_int (fun _ _ => rfl)) (pv 3) (nomark _))))))
      (pss_one (ps_ret pe_bl))
      pss_nil)
    (pss_one (ps_ret (pe_or (pe_cmpR op_gt (pe_call GD r1 (by rfl) DD.m DD.F.kp DD.b .nil pass0 (pa_cons (pv 1) (pa_cons pe_int pa_nil))) pe_int (nomark _)) (pe_one (pe_call GL hr (by rfl) DL.m DL.F.kp DL.b .nil pass0 (pa_cons (pv 1) pa_nil))))))))))))))))), ?_⟩
  refine ⟨_, rfl, a, ns, rfl, hS, hn, fun d c H1 s1 nd1 nc1 hI1 => ?_⟩
  refine ⟨_, rfl, d, 4, 2, rfl, c, hI1, by decide, by decide, fun p1 k1 H2 b2 np1 hI2 e1 hS1 l1 => ?_⟩
  refine ⟨_, rfl, d, 5, 2, rfl, c, hI2, by decide, by decide, fun p2 k2 H3 b3 np2 hI3 e2 hS2 l2 => ?_⟩
  have n1d : p1 ≠ d := hI1.ne np1
  have n2d : p2 ≠ d := hI2.ne np2
  have e13 := b3 _ _ n1d e1
  have n12 : p1 ≠ p2 := ne_of_none e1 np2
  obtain ⟨θ, hθ, oθ⟩ := (hS1.mono (hI2.tups b3)).sub
  obtain ⟨η, hη, oη⟩ := hS2.sub
  have oθ : SbOk θ 3 := oθ
  have oη : SbOk η 3 := oη
  have lθ : θ.length ≤ 5 := by have := hθ.len; omega
  have lη : η.length ≤ 5 := by have := hη.len; omega
  -- given
  refine ⟨_, rfl, p1, k1, rfl, .inl e13, fun g1 ng1 => ⟨_, rfl, p2, k2, rfl, .inl ((same_new ng1 _) _ _ e2), fun g2 ng2 => ⟨by show 2 ≤ sizeLine; decide, fun l nl => ?_⟩⟩⟩
  have t4 := same_new ng1 (.dK k1)
  have t5 := same_new ng2 (.dK k2)
  have t6 := same_new nl (.lst [.ref g1, .ref g2])
  have t46 : Same H3 _ := t4.trans (t5.trans t6)
  have ng1d : g1 ≠ d := hI3.ne ng1
  have ng2d : g2 ≠ d := (hI3.same t4).ne ng2
  have nld : l ≠ d := (hI3.same (t4.trans t5)).ne nl
  have ng12 : g1 ≠ g2 := ne_of_none upd_same ng2
  have V6 : Gv (upd (upd (upd H3 g1 (.dK k1)) g2 (.dK k2)) l (.lst [.ref g1, .ref g2])) d l g1 g2 p1 p2 k1 k2 θ η :=
    ⟨nld, ng1d, ng2d, n1d, n2d, upd_same, t6 _ _ (t5 _ _ upd_same), t6 _ _ upd_same, t46 _ _ e13, t46 _ _ e2, hθ.mono t46.tups, hη.mono t46.tups⟩
  have hI6 := hI3.same t46
  generalize upd (upd (upd H3 g1 (.dK k1)) g2 (.dK k2)) l (.lst [.ref g1, .ref g2]) = H6 at V6 hI6
  -- term, actual
  refine ⟨_, rfl, d, 3, 6, rfl, c, hI6, by decide, by decide, fun vt t H7 b7 hI7 ht tw tn _ => ?_⟩
  have V7 := V6.but b7 (hI6.tups b7)
  have sw := sub_wf oθ.wf t tw
  have sn := sub_nest oθ.ne (by decide) t
  have ab : ∀ {u : Ter}, u.wf s7 numVar → u.nest ≤ 9 → u.fits = false → False := fun h n z => by rw [fits_small h n] at z; cases z
  refine ⟨_, rfl, l, _, 0, .ref g1, rfl, rfl, .inl (.inl V7.el), atI_nat (j := 0) rfl, vt, rfl, g1, vt, t, k1, θ, rfl, V7.a1, V7.h1, ht, tw, by omega, size_small sw (by omega), fun _ va H8 s8 hva => ?_, fun z => (ab sw (by omega) z).elim⟩
  have V8 := V7.same s8
  refine ⟨va, rfl, va, _, rfl, hva, sw, by omega, fun H9 s9 => ⟨_, rfl, iteF ?_⟩⟩
  have V9 := V8.same s9
  refine ⟨va, rfl, .ref p1, rfl, vt, rfl, p1, vt, t, k1, θ, rfl, V9.e1, V9.h1, TmAt.mono (s8.trans s9).tups _ _ ht, tw, by omega, fun vr H10 s10 hvr => ?_⟩
  have V10 := V9.same s10
  refine ⟨_, _, dp_ter _ _ (TmAt.mono (s9.trans s10).tups _ _ hva), dp_ter _ _ hvr, shaped7 sw (by omega), shaped7 sw (by omega), _, rfl, ?_⟩
  rw [ter_refl]
  refine iteF ?_
  -- composed
  refine ⟨_, rfl, l, _, 0, .ref g1, rfl, rfl, .inl (.inl V10.el), atI_nat (j := 0) rfl, _, rfl, l, _, 1, .ref g2, rfl, rfl, .inl (.inl V10.el), atI_nat (j := 1) rfl, g1, g2, k1, k2, θ, η, rfl, ng12, V10.a1, V10.a2, V10.h1, V10.h2, oθ, oη, lθ, lη, fun pc kc H11 s11 npc ec hc => ?_⟩
  have V11 := V10.same s11
  have oC : SbOk (Sb.comp θ η) 6 := oθ.comp oη (by decide)
  refine ⟨.ref pc, rfl, pc, kc, rfl, ec, SubAt.of hc ⟨oC.nd, oC.num, oC.wf, fun e he => Nat.le_trans (oC.ne e he) (by decide)⟩, fun H12 s12 => ⟨_, rfl, iteF ?_⟩⟩
  have V12 := V11.same s12
  refine ⟨.ref pc, rfl, .ref p1, rfl, .ref p2, rfl, p1, p2, k1, k2, θ, η, rfl, n12, V12.e1, V12.e2, V12.h1, V12.h2, oθ, oη, lθ, lη, fun pd kd H13 s13 npd ed hd => ?_⟩
  have V13 := V12.same s13
  have ec13 := s13 _ _ (s12 _ _ ec)
  have hc13 := hc.mono (s12.trans s13).tups
  obtain ⟨q1, q2⟩ := hc13.same (K := K) hd oC (by decide)
  refine ⟨pc, pd, kc, kd, rfl, rfl, ec13, ed, q1, q2, _, rfl, iteF ?_⟩
  -- the loop
  have s713 : Same H7 H13 := s8.trans (s9.trans (s10.trans (s11.trans (s12.trans s13))))
  have hI13 := hI7.same s713
  refine ⟨vt, rfl, by show 3 ≤ sizeLine; decide, fun pg npg => ?_⟩
  have s14 := same_new npg (.tup [.str "g", .int 1, .int 4])
  refine ⟨_, rfl, d, 2, 5, rfl, c, hI13.same s14, by decide, by decide, fun vo to H15 b15 hI15 hto ow on _ => ⟨by show 4 ≤ sizeLine; decide, fun lo nlo => ?_⟩⟩
  have s16 := same_new nlo (.lst [vt, .int 0, .ref pg, vo])
  have m15 := (hI13.same s14).tups b15
  have V15 := ((V13.same s14).but b15 m15).same s16
  have ncd : pc ≠ d := fun z => by
    obtain ⟨xs, ex⟩ := (hI7.same (s8.trans (s9.trans (s10.trans s11)))).lst
    rw [← z, ec] at ex
    cases ex
  have ec15 : _ := s16 _ _ (b15 _ _ ncd (s14 _ _ ec13))
  have hc15 := hc13.mono (s14.tups.trans (m15.trans s16.tups))
  have hI16 := hI15.same s16
  have all : ∀ {i : Nat} {x : V}, [vt, .int 0, .ref pg, vo][i]? = some x → ∃ u, TmAt (upd H15 lo (.lst [vt, .int 0, .ref pg, vo])) x u ∧ u.wf s7 numVar ∧ u.nest ≤ 4 := fun {i x} h => by
    have hx := List.mem_of_getElem? h
    rcases List.mem_cons.mp hx with rfl | hx
    · exact ⟨t, TmAt.mono (s713.tups.trans (s14.tups.trans (m15.trans s16.tups))) _ _ ht, tw, tn⟩
    rcases List.mem_cons.mp hx with rfl | hx
    · exact ⟨.var (.inl 0), .int 0, num_ok (by decide) (by decide), by decide⟩
    rcases List.mem_cons.mp hx with rfl | hx
    · exact ⟨.ap "g" [.var (.inl 1), .var (.inl 4)], .ap (s16 _ _ (b15 _ _ ((hI13).ne npg) upd_same)) (.cons (.int 1) (.cons (.int 4) .nil)), ⟨(sh1 "g").2.2, num_ok (by decide) (by decide), num_ok (by decide) (by decide), trivial⟩, by decide⟩
    · rw [List.mem_singleton.mp hx]
      exact ⟨to, TmAt.mono s16.tups _ _ hto, ow, by omega⟩
  have elo : upd H15 lo (.lst [vt, .int 0, .ref pg, vo]) lo = some (.lst [vt, .int 0, .ref pg, vo]) := upd_same
  generalize upd H15 lo (.lst [vt, .int 0, .ref pg, vo]) = G at V15 ec15 hc15 hI16 all elo
  refine ⟨lo, rfl, ⟨_, .inl (.inl elo)⟩, for_list (xs := [vt, .int 0, .ref pg, vo]) (fun i σ J => ∃ y8, σ = [some (.ref a), some (.ref d), some (.ref p1), some (.ref p2), some (.ref l), some vt, some va, some (.ref pc), y8] ∧ Same G J) ⟨none, rfl, Same.refl _⟩ (fun i σ J _ h => ?_) (fun i x σ J hx h => ?_) (fun σ J h => ?_)⟩
  · obtain ⟨_, _, sm⟩ := h
    exact .inl (.inl (sm _ _ elo))
  · obtain ⟨y8, rfl, sm⟩ := h
    obtain ⟨u, hu, uw, un⟩ := all hx
    have W := V15.same sm
    have hu := TmAt.mono sm.tups _ _ hu
    have u1w := sub_wf oθ.wf u uw
    have u1n := sub_nest oθ.ne (by decide) u
    have u2w := sub_wf oη.wf _ u1w
    have u2n := sub_nest oη.ne (by decide) (u.sub θ)
    refine ⟨.ref pc, rfl, x, rfl, pc, x, u, kc, _, rfl, sm _ _ ec15, hc15.mono sm.tups, hu, uw, by omega, fun v1 J1 k1' hv1 => ?_⟩
    have W1 := W.same k1'
    refine ⟨_, rfl, l, _, 1, .ref g2, rfl, rfl, .inl (.inl W1.el), atI_nat (j := 1) rfl, _, rfl, l, _, 0, .ref g1, rfl, rfl, .inl (.inl W1.el), atI_nat (j := 0) rfl, x, rfl, g1, x, u, k1, θ, rfl, W1.a1, W1.h1, TmAt.mono k1'.tups _ _ hu, uw, by omega, size_small u1w (by omega), fun _ v2 J2 k2' hv2 => ?_, fun z => (ab u1w (by omega) z).elim⟩
    have W2 := W1.same k2'
    refine ⟨g2, v2, _, k2, η, rfl, W2.a2, W2.h2, hv2, u1w, by omega, size_small u2w (by omega), fun _ v3 J3 k3' hv3 => ?_, fun z => (ab u2w (by omega) z).elim⟩
    rw [sub_comp oθ.nd oη.nd] at hv1
    refine ⟨_, _, dp_ter _ _ (TmAt.mono (k2'.trans k3').tups _ _ hv1), dp_ter _ _ hv3, shaped7 u2w (by omega), shaped7 u2w (by omega), _, rfl, ?_⟩
    rw [ter_refl]
    exact iteF ⟨_, rfl, sm.trans (k1'.trans (k2'.trans k3'))⟩
  obtain ⟨y8, rfl, sm⟩ := h
  have W := V15.same sm
  have hIJ := hI16.same sm
  have nil_ok : ∀ {X : Hp}, SubT X [] [] := .nil
  have nE : ∀ {X : Hp} {p x : Addr} {o : HO}, X p = none → X x = some o → p ≠ x := fun h1 h2 => (ne_of_none h2 h1).symm
  -- nothing composed
  refine fun pe npe => ?_
  have u1 := same_new npe (.dK [])
  have W1 := W.same u1
  refine ⟨_, rfl, l, _, 1, .ref g2, rfl, rfl, .inl (.inl W1.el), atI_nat (j := 1) rfl, pe, g2, [], k2, [], η, rfl, nE npe W.a2, upd_same, W1.a2, .nil, W1.h2, .nil, oη, Nat.zero_le _, lη, fun px kx J1 u2 npx ex hx => ?_⟩
  have W2 := W1.same u2
  refine fun pf npf => ?_
  have u3 := same_new npf (.dK [])
  have W3 := W2.same u3
  refine ⟨.ref p2, rfl, pf, p2, [], k2, [], η, rfl, nE npf W2.e2, upd_same, W3.e2, .nil, W3.h2, .nil, oη, Nat.zero_le _, lη, fun py ky J2 u4 npy ey hy => ?_⟩
  have W4 := W3.same u4
  have oN : SbOk (Sb.comp [] η) 6 := (SbOk.nil (N := 3)).comp oη (by decide)
  obtain ⟨q3, q4⟩ := (hx.mono (u3.trans u4).tups).same (K := K) hy oN (by decide)
  refine ⟨px, py, kx, ky, rfl, rfl, u4 _ _ (u3 _ _ ex), ey, q3, q4, _, rfl, iteF ?_⟩
  obtain ⟨q5, q6⟩ := W4.h1.same (K := K) W4.h1 oθ (by decide)
  obtain ⟨q7, q8⟩ := W4.h2.same (K := K) W4.h2 oη (by decide)
  refine ⟨_, rfl, l, _, 0, .ref g1, rfl, rfl, .inl (.inl W4.el), atI_nat (j := 0) rfl, .ref p1, rfl, g1, p1, k1, k1, rfl, rfl, W4.a1, W4.e1, q5, q6, _, rfl, iteF ?_⟩
  refine ⟨_, rfl, l, _, 1, .ref g2, rfl, rfl, .inl (.inl W4.el), atI_nat (j := 1) rfl, .ref p2, rfl, g2, p2, k2, k2, rfl, rfl, W4.a2, W4.e2, q7, q8, _, rfl, iteF ?_⟩
  have hIL := hIJ.same (u1.trans (u2.trans (u3.trans u4)))
  refine ⟨_, rfl, d, 4, rfl, c, hIL, by decide, by decide, fun r J3 r0 r4 b9 hI9 => ⟨_, _, rfl, rfl, _, rfl, ite2 (fun z => ?_) (fun _ => ⟨_, rfl, d, c, rfl, hI9, q⟩)⟩⟩
  exact q J3
end

end K06
namespace K06
open PySem PySem.Spec PyProof.Rows L2 Own HT
theorem all_mk {l : PySem.W.OpenLaw} {w : World} {K : PySem.W.Frag} {h : Heap} {mg : Str → Option Value} {fa f_is_integer f_decimal f_worded f_is_variable f_fits f_arguments_of f_replace_variables f_apply f_compose f__law_state f__law_draw f__law_term f__law_is_integer f__law_is_term f__law_is_substitution f__law_replaced f__law_substitution f__law_doubled f__law_chain f__law_refused f__law_large f__law_composed f_law : Addr}
    {D_S D_B : Addr} {t_LA t_DE : Tok} {C_TooLarge fI_TooLarge cc_TooLarge ca_TooLarge NN_TooLarge : Addr} {nm_TooLarge qn_TooLarge fl_TooLarge : Str} {bs_TooLarge bm_TooLarge su_TooLarge : List Value} {sn_TooLarge : List Str} {ab_TooLarge : Bool} {cl_TooLarge : Option Bool} {dd_TooLarge oe_TooLarge an_TooLarge cx_TooLarge ce_TooLarge : Option Addr} {m0_TooLarge m1_TooLarge m2_TooLarge m3_TooLarge m5_TooLarge : Option Value} {oc_TooLarge kV_TooLarge do_TooLarge pm_TooLarge ct_TooLarge oo_TooLarge ol_TooLarge : Value} {os_TooLarge ox_TooLarge oy_TooLarge : Array (Option Value)} {vv_TooLarge : Array Value} {tf_TooLarge : Tok}
    (X : K.In h) (G : h.Ns mainGlobals mg) (hfa : mg "law" = some (.ref fa))
    {od_is_integer an_is_integer od_decimal an_decimal od_worded an_worded od_is_variable an_is_variable od_fits an_fits od_arguments_of an_arguments_of od_replace_variables an_replace_variables od_apply an_apply od_compose an_compose od__law_state an__law_state od__law_draw an__law_draw od__law_term an__law_term od__law_is_integer an__law_is_integer od__law_is_term an__law_is_term od__law_is_substitution an__law_is_substitution od__law_replaced an__law_replaced od__law_substitution an__law_substitution od__law_doubled an__law_doubled od__law_chain an__law_chain od__law_refused an__law_refused od__law_large an__law_large od__law_composed an__law_composed od_law an_law : Option Addr} {sl_is_integer sl_decimal sl_worded sl_is_variable sl_fits sl_arguments_of sl_replace_variables sl_apply sl_compose sl__law_state sl__law_draw sl__law_term sl__law_is_integer sl__law_is_term sl__law_is_substitution sl__law_replaced sl__law_substitution sl__law_doubled sl__law_chain sl__law_refused sl__law_large sl__law_composed sl_law : Array (Option Value)} {oc_is_integer kV_is_integer dc_is_integer pm_is_integer cd_is_integer ct_is_integer oc_decimal kV_decimal dc_decimal pm_decimal cd_decimal ct_decimal oc_worded kV_worded dc_worded pm_worded cd_worded ct_worded oc_is_variable kV_is_variable dc_is_variable pm_is_variable cd_is_variable ct_is_variable oc_fits kV_fits dc_fits pm_fits cd_fits ct_fits oc_arguments_of kV_arguments_of dc_arguments_of pm_arguments_of cd_arguments_of ct_arguments_of oc_replace_variables kV_replace_variables dc_replace_variables pm_replace_variables cd_replace_variables ct_replace_variables oc_apply kV_apply dc_apply pm_apply cd_apply ct_apply oc_compose kV_compose dc_compose pm_compose cd_compose ct_compose oc__law_state kV__law_state dc__law_state pm__law_state cd__law_state ct__law_state oc__law_draw kV__law_draw dc__law_draw pm__law_draw cd__law_draw ct__law_draw oc__law_term kV__law_term dc__law_term pm__law_term cd__law_term ct__law_term oc__law_is_integer kV__law_is_integer dc__law_is_integer pm__law_is_integer cd__law_is_integer ct__law_is_integer oc__law_is_term kV__law_is_term dc__law_is_term pm__law_is_term cd__law_is_term ct__law_is_term oc__law_is_substitution kV__law_is_substitution dc__law_is_substitution pm__law_is_substitution cd__law_is_substitution ct__law_is_substitution oc__law_replaced kV__law_replaced dc__law_replaced pm__law_replaced cd__law_replaced ct__law_replaced oc__law_substitution kV__law_substitution dc__law_substitution pm__law_substitution cd__law_substitution ct__law_substitution oc__law_doubled kV__law_doubled dc__law_doubled pm__law_doubled cd__law_doubled ct__law_doubled oc__law_chain kV__law_chain dc__law_chain pm__law_chain cd__law_chain ct__law_chain oc__law_refused kV__law_refused dc__law_refused pm__law_refused cd__law_refused ct__law_refused oc__law_large kV__law_large dc__law_large pm__law_large cd__law_large ct__law_large oc__law_composed kV__law_composed dc__law_composed pm__law_composed cd__law_composed ct__law_composed oc_law kV_law dc_law pm_law cd_law ct_law : Value}
    (a_is_integer : PySem.W.nsIn K mainGlobals "is_integer" = some (some (.ref f_is_integer))) (l_is_integer : K.lookup f_is_integer = some ⟨oc_is_integer, od_is_integer, .func (PySem.W.fnOf "is_integer" "is_integer" (defArgs s_is_integer) (defBody s_is_integer) (defScope s_is_integer) .none kV_is_integer dc_is_integer pm_is_integer an_is_integer cd_is_integer ct_is_integer), sl_is_integer⟩) (c_is_integer : PySem.W.codeIn K cd_is_integer "is_integer" = true) (k_is_integer : PySem.W.keepIn K (.ref f_is_integer) = true)
    (a_decimal : PySem.W.nsIn K mainGlobals "decimal" = some (some (.ref f_decimal))) (l_decimal : K.lookup f_decimal = some ⟨oc_decimal, od_decimal, .func (PySem.W.fnOf "decimal" "decimal" (defArgs s_decimal) (defBody s_decimal) (defScope s_decimal) .none kV_decimal dc_decimal pm_decimal an_decimal cd_decimal ct_decimal), sl_decimal⟩) (c_decimal : PySem.W.codeIn K cd_decimal "decimal" = true) (k_decimal : PySem.W.keepIn K (.ref f_decimal) = true)
    (a_worded : PySem.W.nsIn K mainGlobals "worded" = some (some (.ref f_worded))) (l_worded : K.lookup f_worded = some ⟨oc_worded, od_worded, .func (PySem.W.fnOf "worded" "worded" (defArgs s_worded) (defBody s_worded) (defScope s_worded) .none kV_worded dc_worded pm_worded an_worded cd_worded ct_worded), sl_worded⟩) (c_worded : PySem.W.codeIn K cd_worded "worded" = true) (k_worded : PySem.W.keepIn K (.ref f_worded) = true)
    (a_is_variable : PySem.W.nsIn K mainGlobals "is_variable" = some (some (.ref f_is_variable))) (l_is_variable : K.lookup f_is_variable = some ⟨oc_is_variable, od_is_variable, .func (PySem.W.fnOf "is_variable" "is_variable" (defArgs s_is_variable) (defBody s_is_variable) (defScope s_is_variable) .none kV_is_variable dc_is_variable pm_is_variable an_is_variable cd_is_variable ct_is_variable), sl_is_variable⟩) (c_is_variable : PySem.W.codeIn K cd_is_variable "is_variable" = true) (k_is_variable : PySem.W.keepIn K (.ref f_is_variable) = true)
    (a_fits : PySem.W.nsIn K mainGlobals "fits" = some (some (.ref f_fits))) (l_fits : K.lookup f_fits = some ⟨oc_fits, od_fits, .func (PySem.W.fnOf "fits" "fits" (defArgs s_fits) (defBody s_fits) (defScope s_fits) .none kV_fits dc_fits pm_fits an_fits cd_fits ct_fits), sl_fits⟩) (c_fits : PySem.W.codeIn K cd_fits "fits" = true) (k_fits : PySem.W.keepIn K (.ref f_fits) = true)
    (a_arguments_of : PySem.W.nsIn K mainGlobals "arguments_of" = some (some (.ref f_arguments_of))) (l_arguments_of : K.lookup f_arguments_of = some ⟨oc_arguments_of, od_arguments_of, .func (PySem.W.fnOf "arguments_of" "arguments_of" (defArgs s_arguments_of) (defBody s_arguments_of) (defScope s_arguments_of) .none kV_arguments_of dc_arguments_of pm_arguments_of an_arguments_of cd_arguments_of ct_arguments_of), sl_arguments_of⟩) (c_arguments_of : PySem.W.codeIn K cd_arguments_of "arguments_of" = true) (k_arguments_of : PySem.W.keepIn K (.ref f_arguments_of) = true)
    (a_replace_variables : PySem.W.nsIn K mainGlobals "replace_variables" = some (some (.ref f_replace_variables))) (l_replace_variables : K.lookup f_replace_variables = some ⟨oc_replace_variables, od_replace_variables, .func (PySem.W.fnOf "replace_variables" "replace_variables" (defArgs s_replace_variables) (defBody s_replace_variables) (defScope s_replace_variables) .none kV_replace_variables dc_replace_variables pm_replace_variables an_replace_variables cd_replace_variables ct_replace_variables), sl_replace_variables⟩) (c_replace_variables : PySem.W.codeIn K cd_replace_variables "replace_variables" = true) (k_replace_variables : PySem.W.keepIn K (.ref f_replace_variables) = true)
    (a_apply : PySem.W.nsIn K mainGlobals "apply" = some (some (.ref f_apply))) (l_apply : K.lookup f_apply = some ⟨oc_apply, od_apply, .func (PySem.W.fnOf "apply" "apply" (defArgs s_apply) (defBody s_apply) (defScope s_apply) .none kV_apply dc_apply pm_apply an_apply cd_apply ct_apply), sl_apply⟩) (c_apply : PySem.W.codeIn K cd_apply "apply" = true) (k_apply : PySem.W.keepIn K (.ref f_apply) = true)
    (a_compose : PySem.W.nsIn K mainGlobals "compose" = some (some (.ref f_compose))) (l_compose : K.lookup f_compose = some ⟨oc_compose, od_compose, .func (PySem.W.fnOf "compose" "compose" (defArgs s_compose) (defBody s_compose) (defScope s_compose) .none kV_compose dc_compose pm_compose an_compose cd_compose ct_compose), sl_compose⟩) (c_compose : PySem.W.codeIn K cd_compose "compose" = true) (k_compose : PySem.W.keepIn K (.ref f_compose) = true)
    (a__law_state : PySem.W.nsIn K mainGlobals "_law_state" = some (some (.ref f__law_state))) (l__law_state : K.lookup f__law_state = some ⟨oc__law_state, od__law_state, .func (PySem.W.fnOf "_law_state" "_law_state" (defArgs s__law_state) (defBody s__law_state) (defScope s__law_state) .none kV__law_state dc__law_state pm__law_state an__law_state cd__law_state ct__law_state), sl__law_state⟩) (c__law_state : PySem.W.codeIn K cd__law_state "_law_state" = true) (k__law_state : PySem.W.keepIn K (.ref f__law_state) = true)
    (a__law_draw : PySem.W.nsIn K mainGlobals "_law_draw" = some (some (.ref f__law_draw))) (l__law_draw : K.lookup f__law_draw = some ⟨oc__law_draw, od__law_draw, .func (PySem.W.fnOf "_law_draw" "_law_draw" (defArgs s__law_draw) (defBody s__law_draw) (defScope s__law_draw) .none kV__law_draw dc__law_draw pm__law_draw an__law_draw cd__law_draw ct__law_draw), sl__law_draw⟩) (c__law_draw : PySem.W.codeIn K cd__law_draw "_law_draw" = true) (k__law_draw : PySem.W.keepIn K (.ref f__law_draw) = true)
    (a__law_term : PySem.W.nsIn K mainGlobals "_law_term" = some (some (.ref f__law_term))) (l__law_term : K.lookup f__law_term = some ⟨oc__law_term, od__law_term, .func (PySem.W.fnOf "_law_term" "_law_term" (defArgs s__law_term) (defBody s__law_term) (defScope s__law_term) .none kV__law_term dc__law_term pm__law_term an__law_term cd__law_term ct__law_term), sl__law_term⟩) (c__law_term : PySem.W.codeIn K cd__law_term "_law_term" = true) (k__law_term : PySem.W.keepIn K (.ref f__law_term) = true)
    (a__law_is_integer : PySem.W.nsIn K mainGlobals "_law_is_integer" = some (some (.ref f__law_is_integer))) (l__law_is_integer : K.lookup f__law_is_integer = some ⟨oc__law_is_integer, od__law_is_integer, .func (PySem.W.fnOf "_law_is_integer" "_law_is_integer" (defArgs s__law_is_integer) (defBody s__law_is_integer) (defScope s__law_is_integer) .none kV__law_is_integer dc__law_is_integer pm__law_is_integer an__law_is_integer cd__law_is_integer ct__law_is_integer), sl__law_is_integer⟩) (c__law_is_integer : PySem.W.codeIn K cd__law_is_integer "_law_is_integer" = true) (k__law_is_integer : PySem.W.keepIn K (.ref f__law_is_integer) = true)
    (a__law_is_term : PySem.W.nsIn K mainGlobals "_law_is_term" = some (some (.ref f__law_is_term))) (l__law_is_term : K.lookup f__law_is_term = some ⟨oc__law_is_term, od__law_is_term, .func (PySem.W.fnOf "_law_is_term" "_law_is_term" (defArgs s__law_is_term) (defBody s__law_is_term) (defScope s__law_is_term) .none kV__law_is_term dc__law_is_term pm__law_is_term an__law_is_term cd__law_is_term ct__law_is_term), sl__law_is_term⟩) (c__law_is_term : PySem.W.codeIn K cd__law_is_term "_law_is_term" = true) (k__law_is_term : PySem.W.keepIn K (.ref f__law_is_term) = true)
    (a__law_is_substitution : PySem.W.nsIn K mainGlobals "_law_is_substitution" = some (some (.ref f__law_is_substitution))) (l__law_is_substitution : K.lookup f__law_is_substitution = some ⟨oc__law_is_substitution, od__law_is_substitution, .func (PySem.W.fnOf "_law_is_substitution" "_law_is_substitution" (defArgs s__law_is_substitution) (defBody s__law_is_substitution) (defScope s__law_is_substitution) .none kV__law_is_substitution dc__law_is_substitution pm__law_is_substitution an__law_is_substitution cd__law_is_substitution ct__law_is_substitution), sl__law_is_substitution⟩) (c__law_is_substitution : PySem.W.codeIn K cd__law_is_substitution "_law_is_substitution" = true) (k__law_is_substitution : PySem.W.keepIn K (.ref f__law_is_substitution) = true)
    (a__law_replaced : PySem.W.nsIn K mainGlobals "_law_replaced" = some (some (.ref f__law_replaced))) (l__law_replaced : K.lookup f__law_replaced = some ⟨oc__law_replaced, od__law_replaced, .func (PySem.W.fnOf "_law_replaced" "_law_replaced" (defArgs s__law_replaced) (defBody s__law_replaced) (defScope s__law_replaced) .none kV__law_replaced dc__law_replaced pm__law_replaced an__law_replaced cd__law_replaced ct__law_replaced), sl__law_replaced⟩) (c__law_replaced : PySem.W.codeIn K cd__law_replaced "_law_replaced" = true) (k__law_replaced : PySem.W.keepIn K (.ref f__law_replaced) = true)
    (a__law_substitution : PySem.W.nsIn K mainGlobals "_law_substitution" = some (some (.ref f__law_substitution))) (l__law_substitution : K.lookup f__law_substitution = some ⟨oc__law_substitution, od__law_substitution, .func (PySem.W.fnOf "_law_substitution" "_law_substitution" (defArgs s__law_substitution) (defBody s__law_substitution) (defScope s__law_substitution) .none kV__law_substitution dc__law_substitution pm__law_substitution an__law_substitution cd__law_substitution ct__law_substitution), sl__law_substitution⟩) (c__law_substitution : PySem.W.codeIn K cd__law_substitution "_law_substitution" = true) (k__law_substitution : PySem.W.keepIn K (.ref f__law_substitution) = true)
    (a__law_doubled : PySem.W.nsIn K mainGlobals "_law_doubled" = some (some (.ref f__law_doubled))) (l__law_doubled : K.lookup f__law_doubled = some ⟨oc__law_doubled, od__law_doubled, .func (PySem.W.fnOf "_law_doubled" "_law_doubled" (defArgs s__law_doubled) (defBody s__law_doubled) (defScope s__law_doubled) .none kV__law_doubled dc__law_doubled pm__law_doubled an__law_doubled cd__law_doubled ct__law_doubled), sl__law_doubled⟩) (c__law_doubled : PySem.W.codeIn K cd__law_doubled "_law_doubled" = true) (k__law_doubled : PySem.W.keepIn K (.ref f__law_doubled) = true)
    (a__law_chain : PySem.W.nsIn K mainGlobals "_law_chain" = some (some (.ref f__law_chain))) (l__law_chain : K.lookup f__law_chain = some ⟨oc__law_chain, od__law_chain, .func (PySem.W.fnOf "_law_chain" "_law_chain" (defArgs s__law_chain) (defBody s__law_chain) (defScope s__law_chain) .none kV__law_chain dc__law_chain pm__law_chain an__law_chain cd__law_chain ct__law_chain), sl__law_chain⟩) (c__law_chain : PySem.W.codeIn K cd__law_chain "_law_chain" = true) (k__law_chain : PySem.W.keepIn K (.ref f__law_chain) = true)
    (a__law_refused : PySem.W.nsIn K mainGlobals "_law_refused" = some (some (.ref f__law_refused))) (l__law_refused : K.lookup f__law_refused = some ⟨oc__law_refused, od__law_refused, .func (PySem.W.fnOf "_law_refused" "_law_refused" (defArgs s__law_refused) (defBody s__law_refused) (defScope s__law_refused) .none kV__law_refused dc__law_refused pm__law_refused an__law_refused cd__law_refused ct__law_refused), sl__law_refused⟩) (c__law_refused : PySem.W.codeIn K cd__law_refused "_law_refused" = true) (k__law_refused : PySem.W.keepIn K (.ref f__law_refused) = true)
    (a__law_large : PySem.W.nsIn K mainGlobals "_law_large" = some (some (.ref f__law_large))) (l__law_large : K.lookup f__law_large = some ⟨oc__law_large, od__law_large, .func (PySem.W.fnOf "_law_large" "_law_large" (defArgs s__law_large) (defBody s__law_large) (defScope s__law_large) .none kV__law_large dc__law_large pm__law_large an__law_large cd__law_large ct__law_large), sl__law_large⟩) (c__law_large : PySem.W.codeIn K cd__law_large "_law_large" = true) (k__law_large : PySem.W.keepIn K (.ref f__law_large) = true)
    (a__law_composed : PySem.W.nsIn K mainGlobals "_law_composed" = some (some (.ref f__law_composed))) (l__law_composed : K.lookup f__law_composed = some ⟨oc__law_composed, od__law_composed, .func (PySem.W.fnOf "_law_composed" "_law_composed" (defArgs s__law_composed) (defBody s__law_composed) (defScope s__law_composed) .none kV__law_composed dc__law_composed pm__law_composed an__law_composed cd__law_composed ct__law_composed), sl__law_composed⟩) (c__law_composed : PySem.W.codeIn K cd__law_composed "_law_composed" = true) (k__law_composed : PySem.W.keepIn K (.ref f__law_composed) = true)
    (a_law : PySem.W.nsIn K mainGlobals "law" = some (some (.ref f_law))) (l_law : K.lookup f_law = some ⟨oc_law, od_law, .func (PySem.W.fnOf "law" "law" (defArgs s_law) (defBody s_law) (defScope s_law) .none kV_law dc_law pm_law an_law cd_law ct_law), sl_law⟩) (c_law : PySem.W.codeIn K cd_law "law" = true) (k_law : PySem.W.keepIn K (.ref f_law) = true)
     (aC_TooLarge : PySem.W.nsIn K mainGlobals "TooLarge" = some (some (.ref C_TooLarge)))
    (xC_TooLarge : K.lookup C_TooLarge = some (excClassObj nm_TooLarge qn_TooLarge C_TooLarge NN_TooLarge bs_TooLarge bm_TooLarge true sn_TooLarge su_TooLarge ab_TooLarge cl_TooLarge dd_TooLarge m0_TooLarge m1_TooLarge m2_TooLarge m3_TooLarge m5_TooLarge "ValueError.__new__"))
    (hv_TooLarge : PySem.HandSPX.refsVE bm_TooLarge = true)
    (sa_TooLarge : PySem.W.findIn K (.ref C_TooLarge) "__setattr__" = some (some (.builtin "object.__setattr__")))
    (eC_TooLarge : PySem.W.subIn K (.ref C_TooLarge) (.type "BaseException") = some true)
    (tC_TooLarge : PySem.W.typeIn K (.ref C_TooLarge) = some (.type "type"))
    (kC_TooLarge : PySem.W.keepIn K (.ref C_TooLarge) = true)
    (up_TooLarge : PySem.W.ks_superIn K C_TooLarge C_TooLarge "__init__" = some (some (.builtin "ValueError.__init__")))
    (vs_TooLarge : PySem.W.subIn K (.ref C_TooLarge) (.type "ValueError") = some true)
    (ow_TooLarge : PySem.W.mroIn K C_TooLarge (.ref C_TooLarge) = some true)
    (oq_TooLarge : PySem.W.nsIn K cStatics "thirdparty.any" = some none)
    (iC_TooLarge : PySem.W.findIn K (.ref C_TooLarge) "__init__" = some (some (.ref fI_TooLarge)))
    (tI_TooLarge : PySem.W.typeIn K (.ref fI_TooLarge) = some (.type "function"))
    (lI_TooLarge : K.lookup fI_TooLarge = some ⟨oc_TooLarge, oe_TooLarge, .func (PySem.W.fnX "__init__" "TooLarge.__init__" (defArgs initSt) (defBody initSt) (defScope initSt) [("__class__", cc_TooLarge)] .none kV_TooLarge do_TooLarge pm_TooLarge an_TooLarge (.ref ca_TooLarge) ct_TooLarge), os_TooLarge⟩)
    (cI_TooLarge : PySem.W.codeIn K (.ref ca_TooLarge) "TooLarge.__init__" = true)
    (lc_TooLarge : K.lookup ca_TooLarge = some ⟨oo_TooLarge, cx_TooLarge, .fields vv_TooLarge, ox_TooLarge⟩)
    (vf_TooLarge : vv_TooLarge[2]? = some (.str fl_TooLarge tf_TooLarge))
    (hf_TooLarge : ((l.prog.main.file : Str) == fl_TooLarge) = true)
    (ht_TooLarge : (l.prog.main.scope.names.lookup ("super" : Str)).isSome = false)
    (ce_TooLargex : K.lookup cc_TooLarge = some ⟨ol_TooLarge, ce_TooLarge, .cell (some (.ref C_TooLarge)), oy_TooLarge⟩)
    (no_TooLarge_limit : PySem.W.findIn K (.ref C_TooLarge) "limit" = some none)
    (ga_TooLarge : PySem.W.findIn K (.ref C_TooLarge) "__getattribute__" = some (some (.builtin "BaseException.__getattribute__")))
    (gg_TooLarge : PySem.W.findIn K (.ref C_TooLarge) "__getattr__" = some none)
    (hd_TooLarge : PySem.W.hasDictIn K C_TooLarge = true)
    (ic_TooLarge : PySem.W.isClsIn K C_TooLarge = true)
    (cc_TooLargec : PySem.W.findIn K (.ref C_TooLarge) "__class__" = some (some (.builtin "object.__class__")))
    (cn_TooLarge : PySem.W.specialIn K (.builtin "object.__class__") "__get__" = some (some (.builtin "getset_descriptor.__get__")))
    (ck_TooLarge : PySem.W.takesIn K (.builtin "object.__class__") = some true)
    (mo_TooLarge : PySem.W.mroIn K C_TooLarge (.type "object") = some true)
    (sC_TooLarge : PySem.W.subIn K (.ref C_TooLarge) (.ref C_TooLarge) = some true)
    (gS : PySem.W.nsIn K mainGlobals "TextError" = some (some (.ref D_S)))
    (gB : PySem.W.nsIn K mainGlobals "ElenchusError" = some (some (.ref D_B)))
    (kS : PySem.W.kitOne K (.ref C_TooLarge) (.ref D_S) = some false)
    (gLA : PySem.W.nsIn K mainGlobals "LARGEST_SIZE" = some (some (.int 1000 t_LA)))
    (gDE : PySem.W.nsIn K mainGlobals "DEEPEST_NESTING" = some (some (.int 100 t_DE)))
   
    (z_len : PySem.W.nsIn K mainGlobals "len" = some none)
    (z_int : PySem.W.nsIn K mainGlobals "int" = some none)
    (z_range : PySem.W.nsIn K mainGlobals "range" = some none)
    (z_list : PySem.W.nsIn K mainGlobals "list" = some none)
    (z_tuple : PySem.W.nsIn K mainGlobals "tuple" = some none)
    (z_isinstance : PySem.W.nsIn K mainGlobals "isinstance" = some none)
    (z_bool : PySem.W.nsIn K mainGlobals "bool" = some none)
    (z_str : PySem.W.nsIn K mainGlobals "str" = some none)
    (z_dict : PySem.W.nsIn K mainGlobals "dict" = some none)
    (z_super : PySem.W.nsIn K mainGlobals "super" = some none)
    : ∃ fd : FuncData, (∀ (s : Shared) (v : Value), BindsTo s fd ⟨[v], []⟩ [("script", v)]) ∧ ∀ base : Heap, K.In base → base.Ns mainGlobals mg → FnOk l.prog w K mg base CX0 68 fa fd ["script"] (spLaw K) := by
  have e := hfa.symm.trans (PySem.W.mg_of X G a_law); cases e
  have F_is_integer := fun_mk (st := s_is_integer) l_is_integer c_is_integer k_is_integer
  have D_is_integer : Df K mg "is_integer" s_is_integer ["value"] _ _ := ⟨F_is_integer, F_is_integer.binds (ps := ["value"]) (fun _ _ _ _ _ _ us hl => match us, hl with | [_], _ => rfl), PySem.W.mg_of X G a_is_integer⟩
  have F_decimal := fun_mk (st := s_decimal) l_decimal c_decimal k_decimal
  have D_decimal : Df K mg "decimal" s_decimal ["number"] _ _ := ⟨F_decimal, F_decimal.binds (ps := ["number"]) (fun _ _ _ _ _ _ us hl => match us, hl with | [_], _ => rfl), PySem.W.mg_of X G a_decimal⟩
  have F_worded := fun_mk (st := s_worded) l_worded c_worded k_worded
  have D_worded : Df K mg "worded" s_worded ["value"] _ _ := ⟨F_worded, F_worded.binds (ps := ["value"]) (fun _ _ _ _ _ _ us hl => match us, hl with | [_], _ => rfl), PySem.W.mg_of X G a_worded⟩
  have F_is_variable := fun_mk (st := s_is_variable) l_is_variable c_is_variable k_is_variable
  have D_is_variable : Df K mg "is_variable" s_is_variable ["term"] _ _ := ⟨F_is_variable, F_is_variable.binds (ps := ["term"]) (fun _ _ _ _ _ _ us hl => match us, hl with | [_], _ => rfl), PySem.W.mg_of X G a_is_variable⟩
  have F_fits := fun_mk (st := s_fits) l_fits c_fits k_fits
  have D_fits : Df K mg "fits" s_fits ["term"] _ _ := ⟨F_fits, F_fits.binds (ps := ["term"]) (fun _ _ _ _ _ _ us hl => match us, hl with | [_], _ => rfl), PySem.W.mg_of X G a_fits⟩
  have F_arguments_of := fun_mk (st := s_arguments_of) l_arguments_of c_arguments_of k_arguments_of
  have D_arguments_of : Df K mg "arguments_of" s_arguments_of ["terms"] _ _ := ⟨F_arguments_of, F_arguments_of.binds (ps := ["terms"]) (fun _ _ _ _ _ _ us hl => match us, hl with | [_], _ => rfl), PySem.W.mg_of X G a_arguments_of⟩
  have F_replace_variables := fun_mk (st := s_replace_variables) l_replace_variables c_replace_variables k_replace_variables
  have D_replace_variables : Df K mg "replace_variables" s_replace_variables ["term", "new"] _ _ := ⟨F_replace_variables, F_replace_variables.binds (ps := ["term", "new"]) (fun _ _ _ _ _ _ us hl => match us, hl with | [_, _], _ => rfl), PySem.W.mg_of X G a_replace_variables⟩
  have F_apply := fun_mk (st := s_apply) l_apply c_apply k_apply
  have D_apply : Df K mg "apply" s_apply ["substitution", "term"] _ _ := ⟨F_apply, F_apply.binds (ps := ["substitution", "term"]) (fun _ _ _ _ _ _ us hl => match us, hl with | [_, _], _ => rfl), PySem.W.mg_of X G a_apply⟩
  have F_compose := fun_mk (st := s_compose) l_compose c_compose k_compose
  have D_compose : Df K mg "compose" s_compose ["first", "second"] _ _ := ⟨F_compose, F_compose.binds (ps := ["first", "second"]) (fun _ _ _ _ _ _ us hl => match us, hl with | [_, _], _ => rfl), PySem.W.mg_of X G a_compose⟩
  have F__law_state := fun_mk (st := s__law_state) l__law_state c__law_state k__law_state
  have D__law_state : Df K mg "_law_state" s__law_state ["script"] _ _ := ⟨F__law_state, F__law_state.binds (ps := ["script"]) (fun _ _ _ _ _ _ us hl => match us, hl with | [_], _ => rfl), PySem.W.mg_of X G a__law_state⟩
  have F__law_draw := fun_mk (st := s__law_draw) l__law_draw c__law_draw k__law_draw
  have D__law_draw : Df K mg "_law_draw" s__law_draw ["state", "many"] _ _ := ⟨F__law_draw, F__law_draw.binds (ps := ["state", "many"]) (fun _ _ _ _ _ _ us hl => match us, hl with | [_, _], _ => rfl), PySem.W.mg_of X G a__law_draw⟩
  have F__law_term := fun_mk (st := s__law_term) l__law_term c__law_term k__law_term
  have D__law_term : Df K mg "_law_term" s__law_term ["state", "depth", "names"] _ _ := ⟨F__law_term, F__law_term.binds (ps := ["state", "depth", "names"]) (fun _ _ _ _ _ _ us hl => match us, hl with | [_, _, _], _ => rfl), PySem.W.mg_of X G a__law_term⟩
  have F__law_is_integer := fun_mk (st := s__law_is_integer) l__law_is_integer c__law_is_integer k__law_is_integer
  have D__law_is_integer : Df K mg "_law_is_integer" s__law_is_integer ["value"] _ _ := ⟨F__law_is_integer, F__law_is_integer.binds (ps := ["value"]) (fun _ _ _ _ _ _ us hl => match us, hl with | [_], _ => rfl), PySem.W.mg_of X G a__law_is_integer⟩
  have F__law_is_term := fun_mk (st := s__law_is_term) l__law_is_term c__law_is_term k__law_is_term
  have D__law_is_term : Df K mg "_law_is_term" s__law_is_term ["value"] _ _ := ⟨F__law_is_term, F__law_is_term.binds (ps := ["value"]) (fun _ _ _ _ _ _ us hl => match us, hl with | [_], _ => rfl), PySem.W.mg_of X G a__law_is_term⟩
  have F__law_is_substitution := fun_mk (st := s__law_is_substitution) l__law_is_substitution c__law_is_substitution k__law_is_substitution
  have D__law_is_substitution : Df K mg "_law_is_substitution" s__law_is_substitution ["value"] _ _ := ⟨F__law_is_substitution, F__law_is_substitution.binds (ps := ["value"]) (fun _ _ _ _ _ _ us hl => match us, hl with | [_], _ => rfl), PySem.W.mg_of X G a__law_is_substitution⟩
  have F__law_replaced := fun_mk (st := s__law_replaced) l__law_replaced c__law_replaced k__law_replaced
  have D__law_replaced : Df K mg "_law_replaced" s__law_replaced ["substitution", "term"] _ _ := ⟨F__law_replaced, F__law_replaced.binds (ps := ["substitution", "term"]) (fun _ _ _ _ _ _ us hl => match us, hl with | [_, _], _ => rfl), PySem.W.mg_of X G a__law_replaced⟩
  have F__law_substitution := fun_mk (st := s__law_substitution) l__law_substitution c__law_substitution k__law_substitution
  have D__law_substitution : Df K mg "_law_substitution" s__law_substitution ["state", "names", "depth"] _ _ := ⟨F__law_substitution, F__law_substitution.binds (ps := ["state", "names", "depth"]) (fun _ _ _ _ _ _ us hl => match us, hl with | [_, _, _], _ => rfl), PySem.W.mg_of X G a__law_substitution⟩
  have F__law_doubled := fun_mk (st := s__law_doubled) l__law_doubled c__law_doubled k__law_doubled
  have D__law_doubled : Df K mg "_law_doubled" s__law_doubled ["times"] _ _ := ⟨F__law_doubled, F__law_doubled.binds (ps := ["times"]) (fun _ _ _ _ _ _ us hl => match us, hl with | [_], _ => rfl), PySem.W.mg_of X G a__law_doubled⟩
  have F__law_chain := fun_mk (st := s__law_chain) l__law_chain c__law_chain k__law_chain
  have D__law_chain : Df K mg "_law_chain" s__law_chain ["length", "term"] _ _ := ⟨F__law_chain, F__law_chain.binds (ps := ["length", "term"]) (fun _ _ _ _ _ _ us hl => match us, hl with | [_, _], _ => rfl), PySem.W.mg_of X G a__law_chain⟩
  have F__law_refused := fun_mk (st := s__law_refused) l__law_refused c__law_refused k__law_refused
  have D__law_refused : Df K mg "_law_refused" s__law_refused ["substitution", "term"] _ _ := ⟨F__law_refused, F__law_refused.binds (ps := ["substitution", "term"]) (fun _ _ _ _ _ _ us hl => match us, hl with | [_, _], _ => rfl), PySem.W.mg_of X G a__law_refused⟩
  have F__law_large := fun_mk (st := s__law_large) l__law_large c__law_large k__law_large
  have D__law_large : Df K mg "_law_large" s__law_large ["state"] _ _ := ⟨F__law_large, F__law_large.binds (ps := ["state"]) (fun _ _ _ _ _ _ us hl => match us, hl with | [_], _ => rfl), PySem.W.mg_of X G a__law_large⟩
  have F__law_composed := fun_mk (st := s__law_composed) l__law_composed c__law_composed k__law_composed
  have D__law_composed : Df K mg "_law_composed" s__law_composed ["first", "second"] _ _ := ⟨F__law_composed, F__law_composed.binds (ps := ["first", "second"]) (fun _ _ _ _ _ _ us hl => match us, hl with | [_, _], _ => rfl), PySem.W.mg_of X G a__law_composed⟩
  have F_law := fun_mk (st := s_law) l_law c_law k_law
  have D_law : Df K mg "law" s_law ["script"] _ _ := ⟨F_law, F_law.binds (ps := ["script"]) (fun _ _ _ _ _ _ us hl => match us, hl with | [_], _ => rfl), PySem.W.mg_of X G a_law⟩
  have m_len := PySem.W.mg_none_of X G z_len
  have m_int := PySem.W.mg_none_of X G z_int
  have m_range := PySem.W.mg_none_of X G z_range
  have m_list := PySem.W.mg_none_of X G z_list
  have m_tuple := PySem.W.mg_none_of X G z_tuple
  have m_isinstance := PySem.W.mg_none_of X G z_isinstance
  have m_bool := PySem.W.mg_none_of X G z_bool
  have m_str := PySem.W.mg_none_of X G z_str
  have m_dict := PySem.W.mg_none_of X G z_dict
  have m_super := PySem.W.mg_none_of X G z_super
  have SC_TooLarge : SupC K C_TooLarge := ⟨⟨⟨nm_TooLarge, qn_TooLarge, NN_TooLarge, bs_TooLarge, bm_TooLarge, sn_TooLarge, su_TooLarge, ab_TooLarge, cl_TooLarge, dd_TooLarge, m0_TooLarge, m1_TooLarge, m2_TooLarge, m3_TooLarge, m5_TooLarge, xC_TooLarge, hv_TooLarge⟩, sa_TooLarge, eC_TooLarge, tC_TooLarge, kC_TooLarge⟩, up_TooLarge, vs_TooLarge, ow_TooLarge, oq_TooLarge⟩
  have IC_TooLarge : InitC l.prog K mg C_TooLarge fI_TooLarge cc_TooLarge ca_TooLarge "__init__" "TooLarge.__init__" (defArgs initSt) (defBody initSt) (defScope initSt) _ := { sup := SC_TooLarge, fn := ⟨_, _, _, _, _, _, _, _, _, rfl, lI_TooLarge⟩, code := cI_TooLarge, file := ⟨_, _, _, _, lc_TooLarge, rfl, vf_TooLarge, hf_TooLarge⟩, top := ht_TooLarge, cell := ⟨_, _, _, ce_TooLargex⟩, glob := m_super, self := ⟨_, rfl, rfl⟩, k1 := by decide +kernel, k2 := by decide +kernel, k3 := by decide +kernel, iC := iC_TooLarge, tI := tI_TooLarge }
  have EC_TooLarge : ErrC K C_TooLarge := ⟨ga_TooLarge, gg_TooLarge, eC_TooLarge, hd_TooLarge, ic_TooLarge, cc_TooLargec, cn_TooLarge, ck_TooLarge, mo_TooLarge⟩
  refine ⟨PySem.W.fnOf "law" "law" (defArgs s_law) (defBody s_law) (defScope s_law) .none kV_law dc_law pm_law an_law cd_law ct_law, fun s v => .of_eq rfl, fun base _ _ => ?_⟩
  have G_state := ok_law_state (P := l.prog) (w := w) (base := base) D__law_state m_list
  have G_draw := ok_law_draw (P := l.prog) (w := w) (base := base) D__law_draw m_len m_int
  have G_term := ok_law_term (P := l.prog) (w := w) (base := base) D__law_term D__law_draw G_draw 4
  have G_isi := ok_law_is_integer (P := l.prog) (w := w) (base := base) D__law_is_integer m_isinstance m_int m_bool
  have G_ist := ok_law_is_term (P := l.prog) (w := w) (base := base) D__law_is_term D__law_is_integer G_isi m_isinstance m_tuple m_str m_len 61
  have G_iss := ok_law_is_substitution (P := l.prog) (w := w) (base := base) D__law_is_substitution D__law_is_integer G_isi D__law_is_term G_ist m_isinstance m_dict m_list
  have G_repl := ok_law_rp (P := l.prog) (w := w) (base := base) D__law_replaced m_isinstance m_tuple 12
  have G_subst := ok_law_substitution (P := l.prog) (w := w) (base := base) D__law_substitution D__law_draw G_draw D__law_term G_term m_range
  have G_isv := ok_is_variable (P := l.prog) (w := w) (base := base) D_is_variable m_isinstance m_tuple
  have G_args := ok_arguments_of (P := l.prog) (w := w) (base := base) D_arguments_of D_is_variable G_isv
  have G_fits := ok_fits (P := l.prog) (w := w) (base := base) D_fits D_arguments_of G_args m_len (PySem.W.mg_of X G gLA) (PySem.W.mg_of X G gDE)
  have G_rv := ok_rv (P := l.prog) (w := w) (base := base) D_replace_variables D_is_variable G_isv m_tuple 63
  have G_init := ok_init (P := l.prog) (w := w) (base := base) IC_TooLarge no_TooLarge_limit
  have T_lim : LimC l.prog w K mg base C_TooLarge fI_TooLarge _ := ⟨PySem.W.mg_of X G aC_TooLarge, SC_TooLarge.oex, iC_TooLarge, tI_TooLarge, G_init, .all (fun us hl => match us, hl with | [_, _], _ => rfl), EC_TooLarge, exm_self eC_TooLarge ic_TooLarge tC_TooLarge sC_TooLarge, no_TooLarge_limit⟩
  have T_kin : KinC K mg C_TooLarge D_S D_B := ⟨PySem.W.mg_of X G gS, PySem.W.mg_of X G gB, kS⟩
  have G_apply := ok_apply (P := l.prog) (w := w) (base := base) D_apply (n := 61) D_replace_variables G_rv D_fits G_fits T_lim
  have G_comp := ok_compose (P := l.prog) (w := w) (base := base) D_compose (n := 57) D_apply G_apply
  have G_lcomp := ok_law_composed (P := l.prog) (w := w) (base := base) D__law_composed D__law_replaced G_repl m_list
  have G_dbl := ok_law_doubled (P := l.prog) (w := w) (base := base) D__law_doubled m_range
  have G_chain := ok_law_chain (P := l.prog) (w := w) (base := base) D__law_chain m_range
  have G_ref := ok_law_refused (P := l.prog) (w := w) (base := base) D__law_refused D_apply G_apply T_lim T_kin m_isinstance
  have G_large := ok_law_large (P := l.prog) (w := w) (base := base) D__law_large D__law_draw G_draw D__law_doubled G_dbl D__law_chain G_chain D__law_refused G_ref D__law_replaced G_repl D_apply G_apply
  exact ok_law D_law D__law_state G_state D__law_draw G_draw D__law_substitution G_subst D__law_term G_term D__law_is_term G_ist D__law_replaced G_repl D_apply G_apply D_compose G_comp D__law_is_substitution G_iss D__law_composed G_lcomp D__law_large G_large m_dict
end K06
open PySem PySem.W PyProof.Rows
set_option maxRecDepth 100000 in
set_option maxHeartbeats 0 in
theorem PySem.Challenge.cw_elenchus_k06_apply_and_compose_holds : PySem.Challenge.rw_elenchus_k06_apply_and_compose.Holds := by
  w_on; o_law; k_head; (case hw => w_witness2)
  k_fill
  refine L2.walk_of (l := PySem.Challenge.rw_elenchus_k06_apply_and_compose) (n := 63) (k := 68) (x := "script") (CX := fun _ => L2.CX0) (sp := fun w => K06.spLaw _) rfl (by decide) rfl ⟨rfl, by decide, by decide⟩ (fun w h Y => PySem.W.kIn_of Y) ?F (fun _ _ a ns hl _ hS => ⟨a, ns, rfl, hS, hl, fun _ => rfl⟩) (fun _ _ _ _ _ h => h)
  case F =>
    intro w mg fa h KX G hmg
    refine' K06.all_mk (l := PySem.Challenge.rw_elenchus_k06_apply_and_compose) KX G hmg ?a_is_integer ?l_is_integer ?c_is_integer ?k_is_integer ?a_decimal ?l_decimal ?c_decimal ?k_decimal ?a_worded ?l_worded ?c_worded ?k_worded ?a_is_variable ?l_is_variable ?c_is_variable ?k_is_variable ?a_fits ?l_fits ?c_fits ?k_fits ?a_arguments_of ?l_arguments_of ?c_arguments_of ?k_arguments_of ?a_replace_variables ?l_replace_variables ?c_replace_variables ?k_replace_variables ?a_apply ?l_apply ?c_apply ?k_apply ?a_compose ?l_compose ?c_compose ?k_compose ?a__law_state ?l__law_state ?c__law_state ?k__law_state ?a__law_draw ?l__law_draw ?c__law_draw ?k__law_draw ?a__law_term ?l__law_term ?c__law_term ?k__law_term ?a__law_is_integer ?l__law_is_integer ?c__law_is_integer ?k__law_is_integer ?a__law_is_term ?l__law_is_term ?c__law_is_term ?k__law_is_term ?a__law_is_substitution ?l__law_is_substitution ?c__law_is_substitution ?k__law_is_substitution ?a__law_replaced ?l__law_replaced ?c__law_replaced ?k__law_replaced ?a__law_substitution ?l__law_substitution ?c__law_substitution ?k__law_substitution ?a__law_doubled ?l__law_doubled ?c__law_doubled ?k__law_doubled ?a__law_chain ?l__law_chain ?c__law_chain ?k__law_chain ?a__law_refused ?l__law_refused ?c__law_refused ?k__law_refused ?a__law_large ?l__law_large ?c__law_large ?k__law_large ?a__law_composed ?l__law_composed ?c__law_composed ?k__law_composed ?a_law ?l_law ?c_law ?k_law ?aC_TooLarge ?xC_TooLarge ?hv_TooLarge ?sa_TooLarge ?eC_TooLarge ?tC_TooLarge ?kC_TooLarge ?up_TooLarge ?vs_TooLarge ?ow_TooLarge ?oq_TooLarge ?iC_TooLarge ?tI_TooLarge ?lI_TooLarge ?cI_TooLarge ?lc_TooLarge ?vf_TooLarge ?hf_TooLarge ?ht_TooLarge ?ce_TooLargex ?no_TooLarge_limit ?ga_TooLarge ?gg_TooLarge ?hd_TooLarge ?ic_TooLarge ?cc_TooLargec ?cn_TooLarge ?ck_TooLarge ?mo_TooLarge ?sC_TooLarge ?gS ?gB ?kS ?gLA ?gDE ?z_len ?z_int ?z_range ?z_list ?z_tuple ?z_isinstance ?z_bool ?z_str ?z_dict ?z_super
    (case a_is_integer => k_is)
    (case l_is_integer => k_is)
    (case c_is_integer => k_is)
    (case k_is_integer => k_is)
    (case a_decimal => k_is)
    (case l_decimal => k_is)
    (case c_decimal => k_is)
    (case k_decimal => k_is)
    (case a_worded => k_is)
    (case l_worded => k_is)
    (case c_worded => k_is)
    (case k_worded => k_is)
    (case a_is_variable => k_is)
    (case l_is_variable => k_is)
    (case c_is_variable => k_is)
    (case k_is_variable => k_is)
    (case a_fits => k_is)
    (case l_fits => k_is)
    (case c_fits => k_is)
    (case k_fits => k_is)
    (case a_arguments_of => k_is)
    (case l_arguments_of => k_is)
    (case c_arguments_of => k_is)
    (case k_arguments_of => k_is)
    (case a_replace_variables => k_is)
    (case l_replace_variables => k_is)
    (case c_replace_variables => k_is)
    (case k_replace_variables => k_is)
    (case a_apply => k_is)
    (case l_apply => k_is)
    (case c_apply => k_is)
    (case k_apply => k_is)
    (case a_compose => k_is)
    (case l_compose => k_is)
    (case c_compose => k_is)
    (case k_compose => k_is)
    (case a__law_state => k_is)
    (case l__law_state => k_is)
    (case c__law_state => k_is)
    (case k__law_state => k_is)
    (case a__law_draw => k_is)
    (case l__law_draw => k_is)
    (case c__law_draw => k_is)
    (case k__law_draw => k_is)
    (case a__law_term => k_is)
    (case l__law_term => k_is)
    (case c__law_term => k_is)
    (case k__law_term => k_is)
    (case a__law_is_integer => k_is)
    (case l__law_is_integer => k_is)
    (case c__law_is_integer => k_is)
    (case k__law_is_integer => k_is)
    (case a__law_is_term => k_is)
    (case l__law_is_term => k_is)
    (case c__law_is_term => k_is)
    (case k__law_is_term => k_is)
    (case a__law_is_substitution => k_is)
    (case l__law_is_substitution => k_is)
    (case c__law_is_substitution => k_is)
    (case k__law_is_substitution => k_is)
    (case a__law_replaced => k_is)
    (case l__law_replaced => k_is)
    (case c__law_replaced => k_is)
    (case k__law_replaced => k_is)
    (case a__law_substitution => k_is)
    (case l__law_substitution => k_is)
    (case c__law_substitution => k_is)
    (case k__law_substitution => k_is)
    (case a__law_doubled => k_is)
    (case l__law_doubled => k_is)
    (case c__law_doubled => k_is)
    (case k__law_doubled => k_is)
    (case a__law_chain => k_is)
    (case l__law_chain => k_is)
    (case c__law_chain => k_is)
    (case k__law_chain => k_is)
    (case a__law_refused => k_is)
    (case l__law_refused => k_is)
    (case c__law_refused => k_is)
    (case k__law_refused => k_is)
    (case a__law_large => k_is)
    (case l__law_large => k_is)
    (case c__law_large => k_is)
    (case k__law_large => k_is)
    (case a__law_composed => k_is)
    (case l__law_composed => k_is)
    (case c__law_composed => k_is)
    (case k__law_composed => k_is)
    (case a_law => k_is)
    (case l_law => k_is)
    (case c_law => k_is)
    (case k_law => k_is)
    (case aC_TooLarge => k_is)
    (case xC_TooLarge => k_is)
    (case hv_TooLarge => first | rfl | decide +kernel)
    (case sa_TooLarge => k_is)
    (case eC_TooLarge => k_is)
    (case tC_TooLarge => k_is)
    (case kC_TooLarge => k_is)
    (case up_TooLarge => ks_is)
    (case vs_TooLarge => k_is)
    (case ow_TooLarge => k_is)
    (case oq_TooLarge => k_is)
    (case iC_TooLarge => k_is)
    (case tI_TooLarge => k_is)
    (case lI_TooLarge => k_is)
    (case cI_TooLarge => k_is)
    (case lc_TooLarge => k_is)
    (case vf_TooLarge => rfl)
    (case hf_TooLarge => first | rfl | decide +kernel)
    (case ht_TooLarge => first | rfl | decide +kernel)
    (case ce_TooLargex => k_is)
    (case no_TooLarge_limit => k_is)
    (case ga_TooLarge => k_is)
    (case gg_TooLarge => k_is)
    (case hd_TooLarge => k_is)
    (case ic_TooLarge => k_is)
    (case cc_TooLargec => k_is)
    (case cn_TooLarge => k_is)
    (case ck_TooLarge => k_is)
    (case mo_TooLarge => k_is)
    (case sC_TooLarge => first | rfl | k_is)
    (case gS => k_is)
    (case gB => k_is)
    (case kS => first | k_is | (with_unfolding_all rfl) | (decide +kernel))
    (case gLA => k_is)
    (case gDE => k_is)
    (case z_len => k_is)
    (case z_int => k_is)
    (case z_range => k_is)
    (case z_list => k_is)
    (case z_tuple => k_is)
    (case z_isinstance => k_is)
    (case z_bool => k_is)
    (case z_str => k_is)
    (case z_dict => k_is)
    (case z_super => k_is)
