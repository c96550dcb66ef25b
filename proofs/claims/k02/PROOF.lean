import PyProof.Rows.All
import Wide.All
import OpenK.AllK
import Wide.FinOn
import HandS.ForMost
import HandS.Rev
import HandS.RevTup
import HandS.IsInst
import HandS.Style
import HandS.Conv
import HandS.Wide
import HandS.Flow
import HandS.ListEq
import HandS.More
import HandS.Codes
import HandS.FStr
import HandS.Zip
import HandS.Defaults
import HandS.DeepEq
import KE.SortData
import KE.DataCmp
import KE.KDictSum
import HandS.Deep
import KE.DatumOrd
import KE.KSortTupAny
import HandS.ExcInit
import HandS.ExcIs
import HandS.ExcField
import HandS.ForSpec
import HandS.Nested
import HandS.Struct
import KE.KExcSuper
import HandS.ExcInitHot
import HandS.FStrTup
import HandS.HotCalls
import KE.KExcIs
import HandS.TupAny
import HandS.Iter
import PySem.Challenge.RW_elenchus_k02_positions_and_subterms
set_option Elab.async false
set_option linter.all false
set_option maxRecDepth 100000
namespace Own
open PySem PySem.Spec PyProof.Rows L2 RT

/-! ### xs.extend(t), t a tuple -/
theorem ext_meets (l b : Addr) (xs ys : Array Value) (n m : Nat) (dd : Option Addr) (sl : Array (Option Value)) (long : ¬(!xs.isEmpty && Builtin.List.listTooLong (xs.size + ys.size)) = true) (hx : xs.size ≤ sizeLine) (hxy : xs.size + ys.size ≤ sizeLine + 1) :
    Meets (Builtin.«list.extend» ⟨[.ref l, .ref b], []⟩) (fun _ R s => s.heap.get? l = some { cls := .type "list", dict := none, data := .seq xs n, slots := #[] } ∧
      s.heap.get? b = some { cls := .type "tuple", dict := dd, data := .seq ys m, slots := sl } ∧ R (.ok (.ret Value.none)) { s with heap := s.heap.update l (Obj.mapSeq fun x => x ++ ys), toks := s.toks }) :=
  .of_wp fun prog w A R s h => by
    obtain ⟨hp, g, d, tk, os⟩ := s
    obtain ⟨h1, h2, h3⟩ := h
    have g1 := AutoSeq1.idx_int; have g2 := AutoSeq1.sub_tuple_tuple; have g3 := AutoSeq1.sub_list_list; have g4 := AutoSeq1.sub_tuple_list; have g5 := AutoSeq1.sub_list_tuple
    have fit : (xs ++ ys).size ≤ sizeLine + 1 := Array.size_append ▸ hxy
    wp_walk using (wpAny_updateSeq h1 rfl (hz := hx) (_hz' := fit)), AutoSeq1.wpAny_loadPart' h1, AutoSeq1.wpAny_loadPart' h2
    exact ⟨_, rfl, h3⟩
def rExtendT (K : PySem.W.Frag) : V → List V → Hp → VK → Prop := fun x vs H Q => ∃ l b xs zs, x = .ref l ∧ vs = [.ref b] ∧ H l = some (.lst xs) ∧ SqT K H b zs ∧ xs.length + zs.length ≤ sizeLine ∧ Q .non (upd H l (.lst (xs ++ zs)))
theorem mt_extendT {X : Cx} : MtR X "list.extend" (rExtendT X.K) := by
  intro pins s σ H x vs v us Q I rx rv h
  obtain ⟨l, b, xs, zs, rfl, rfl, hl, hb, fit, q⟩ := h
  cases rx
  obtain ⟨u, rfl, ru⟩ := rv.one
  cases ru
  obtain ⟨z, its, n, r, hlen, e⟩ := I.lstM hl
  obtain ⟨its2, r2, p2, z2⟩ := I.tuple hb
  obtain ⟨⟨c2, d2, dt2, sl2⟩, ho2, hc2, m2, hd2⟩ := id p2
  simp only at hc2 hd2
  subst hc2 hd2
  have e2 := r2.length
  have tot : its.toArray.size + its2.toArray.size ≤ sizeLine := by rw [List.size_toArray, List.size_toArray]; omega
  have notlong : ¬ (!its.toArray.isEmpty && Builtin.List.listTooLong (its.toArray.size + its2.toArray.size)) = true := by rw [notLongL tot, Bool.and_false]; exact Bool.false_ne_true
  refine call_meets PySem.F.slot_list_extend ⟨_, e, rfl⟩ PySem.F.entry_list_extend (PySem.F.args_list_extend_2 _ _) (ext_meets l b its.toArray its2.toArray n m2 d2 sl2 notlong (by rw [List.size_toArray]; omega) (by omega)) ⟨e, ho2, ?_⟩
  exact ⟨.non, _, I.lset (its' := its ++ its2) hl e (by simp) (r.append r2) (by rw [List.length_append]; omega), rfl, q⟩

/-! ### list(reversed(xs)) -/
section
variable {prog : Program} {w : World} {A : Around} {E : Value → Shared → Prop} {s : Shared}
theorem extend_rev {R : Result → Shared → Prop} {it l S : Addr} {items : Array Value} {res : Value} {c0 : Nat} (hh : A.handled = none) (hit : s.heap.IsRevIter it l ((items.size : Int) - 1)) (hl : s.heap.IsList l items) (hne : l ≠ it) (hn : items.size ≤ sizeLine)
    (hS : s.heap.get? S = some { cls := .type "list", data := .seq #[] c0 }) (hSi : S ≠ it) (hSl : S ≠ l)
    (hR : ∀ h' tk acc c', (∀ b o, b ≠ S → b ≠ it → s.heap.get? b = some o → h'.get? b = some o) → h'.get? S = some { cls := .type "list", dict := none, data := .seq acc c', slots := #[] } →
      ItemsOf (fun i v => items[items.size - 1 - i]? = some v) acc items.size → R (.ok (.ret res)) { s with heap := h', toks := tk }) :
    wpAny (model prog w) A.in1 (Builtin.List.listExtendWith (.ref S) (.ref it) res)
      (fun fin s' => match fin with | .done f => R (.ok f) s' | .again c' => c'.quiet = true ∧ codeAny (model prog w) A c' R s') (fun e s' => R (.error e) s') s := by
  have W := (Walks.listRev (prog := prog) (w := w) (A := A.in1) hh it l hne items).toS
  have hSf : S ∉ [it, l] := by simp only [List.mem_cons, List.not_mem_nil, or_false, not_or]; exact ⟨hSi, hSl⟩
  have hT : s.TypeIs (.ref it) "list_reverseiterator" := Heap.IsRevIter.typeIs hit
  have h1 : Builtin.List.listSameRef (.ref S) (.ref it) = false := by simp [Builtin.List.listSameRef, hSi]
  unfold Builtin.List.listExtendWith
  refine wpAny_bind (wpAny_typeOf hT ?_); rw [if_neg (by rw [h1]; decide)]
  refine wpAny_bind (wpAny_pyIter_revIter hit ?_); refine wpAny_bind (wpAny_holding ?_)
  unfold Builtin.List.listLengthHint
  refine wpAny_bind (wpAny_specialOf hT nolen_lri ?_); show wpAny _ A.in1 (specialOf (Value.ref it) (Str.ofString "__length_hint__") >>= _) _ _ s
  refine wpAny_bind (wpAny_specialOf hT hint_lri ?_); generalize hid : ("list_reverseiterator.__length_hint__" : String) = id0
  wp_delta
  rw [show splitId id0 = some ("list_reverseiterator", "__length_hint__") from by subst hid; decide +kernel]; subst hid
  refine wpAny_bind (wpAny_isInstance (b := true) hT (by rw [isSubtype_type]; kernel_rfl) ?_); refine wpAny_pure ?_; rw [if_neg (by decide)]
  have e0 : ((items.size : Nat) : Int) - 1 - ((0 : Nat) : Int) = (items.size : Int) - 1 := by omega
  refine wpAny_pure ⟨plainId_quiet F.plain_extend_loop _, codeAny_extend_loopS W hn S hSf res items.size 0 _ _ _ rfl (Nat.zero_le _) ⟨Nat.zero_le _, by rw [e0]; exact hit, hl⟩ hS (ItemsOf.nil _) fun s' acc' c' hm hS' hacc => ?_⟩
  rw [Moved.eq_with hm]
  refine hR s'.heap s'.toks acc' c' (fun b o hbS hbi e => hm.heap b o (fun hmem => ?_) e) hS' hacc
  rcases List.mem_cons.mp hmem with e' | hmem
  · exact hbS e'
  · exact hbi (List.mem_singleton.mp hmem)
theorem call_list_rev {it l : Addr} {items : Array Value} {Q : Value → Shared → Prop} (hh : A.handled = none) (hit : s.heap.IsRevIter it l ((items.size : Int) - 1)) (hl : s.heap.IsList l items) (hne : l ≠ it) (hn : items.size ≤ sizeLine)
    (hQ : ∀ h' tk acc c', (∀ b o, b ≠ it → s.heap.get? b = some o → h'.get? b = some o) → h'.get? s.heap.objs.size = some { cls := .type "list", dict := none, data := .seq acc c', slots := #[] } →
      ItemsOf (fun i v => items[items.size - 1 - i]? = some v) acc items.size → Q (.ref s.heap.objs.size) { s with heap := h', toks := tk }) :
    wpAny (model prog w) A (call (.type "list") [.ref it]) Q E s := by
  refine callType_codes (Q₁ := fun obj s₁ => obj = .ref s.heap.objs.size ∧ s₁ = { s with heap := s.heap.push { cls := .type "list", data := .seq #[] } }) PySem.F.called_list (PySem.F.typeCall_list_1 _) PySem.F.entry_list_init (code_list_new _ ⟨rfl, rfl⟩) fun obj s₁ h₁ => ?_
  obtain ⟨rfl, rfl⟩ := h₁
  have hS : (s.heap.push { cls := .type "list", data := .seq #[] }).get? s.heap.objs.size = some { cls := .type "list", data := .seq #[] } := Heap.get?_push_size _ rfl
  refine ⟨⟨_, hS, rfl⟩, PySem.F.args_list_init_2 _ _, ?_⟩
  obtain ⟨oi, hoi, _⟩ := id hit
  obtain ⟨ol, hol, _⟩ := id hl
  have nSi : s.heap.objs.size ≠ it := Nat.ne_of_gt (Heap.lt_size hoi)
  have nSl : s.heap.objs.size ≠ l := Nat.ne_of_gt (Heap.lt_size hol)
  have k0 : ∀ b o, s.heap.get? b = some o → ((s.heap.push { cls := .type "list", data := .seq #[] }).update s.heap.objs.size (Obj.mapSeq (fun _ => (#[] : Array Value)))).get? b = some o :=
    fun b o e => (Heap.get?_update_other _ _ (Nat.ne_of_gt (Heap.lt_size e))).trans (Heap.get?_push_of_some _ e)
  show wpAny _ _ (do let old ← Builtin.List.listItems (.ref s.heap.objs.size); Builtin.List.listUpdate (.ref s.heap.objs.size) (fun _ => #[]); letGo old.toList.reverse; Builtin.List.listExtendWith (.ref s.heap.objs.size) (.ref it) .none) _ _ _
  refine wpAny_bind ?_; unfold Builtin.List.listItems
  refine wpAny_bind (wpAny_seqItems hS rfl (wpAny_pure ?_))
  show wpAny _ _ (updateSeq s.heap.objs.size (fun _ => #[]) >>= fun _ => letGo (#[] : Array Value).toList.reverse >>= fun _ => Builtin.List.listExtendWith (.ref s.heap.objs.size) (.ref it) .none) _ _ _
  refine wpAny_bind (wpAny_updateSeq hS rfl ?_)
  refine wpAny_bind (wpAny_letGo ?_)
  refine extend_rev (A := A.in1) (l := l) (items := items) hh (hit.at fun o e => k0 _ _ e) ?_ hne hn (Heap.get?_update_self (Obj.mapSeq (fun _ => (#[] : Array Value))) hS rfl) nSi nSl fun h' tk acc c' hk hS' hacc => ?_
  · obtain ⟨o, ho, hc⟩ := id hl
    exact ⟨o, k0 _ _ ho, hc⟩
  · exact ⟨rfl, hQ h' tk acc c' (fun b o hb e => hk b o (Nat.ne_of_lt (Heap.lt_size e)) hb (k0 _ _ e)) hS' hacc⟩
end
def tListRev (K : PySem.W.Frag) (te : TE) : TE := fun σ H Q => te σ H fun v H1 => ∃ (a : Addr) (xs : List V), v = .ref a ∧ SqL K H1 a xs ∧ ∀ q, H1 q = none → Q (.ref q) (upd H1 q (.lst xs.reverse))
theorem pe_listRev {X : Cx} {e : Expr} {te : TE} {p p2 pos pos2 : Pos} (hc : X.calm = true) (hg : Gl X "list") (hm : X.mg "list" = none) (hg2 : Gl X "reversed") (hm2 : X.mg "reversed" = none) (he : PE X e te)
    (hs : starEach [e] X.env = (false, eval e X.env) :: starEach [] X.env := by rfl)
    (hs2 : starEach [.Call (.Name "reversed" p2) [e] [] pos2] X.env = (false, eval (.Call (.Name "reversed" p2) [e] [] pos2) X.env) :: starEach [] X.env := by rfl) :
    PE X (.Call (.Name "list" p) [.Call (.Name "reversed" p2) [e] [] pos2] [] pos) (tListRev X.K te) := by
  refine ⟨fun pins s σ H Q I h => ?_⟩
  refine Call_ (ld_blt I hg hm boot_list (callWith_type1 (args_cons (Call_ (ld_blt I hg2 hm2 boot_reversed (callWith_type1 (args_cons (thn (he.run pins s σ H _ I h) fun u s1 ⟨v, H1, I1, r1, q1⟩ => args_nil ?_) hs) hs rfl))) hs2) hs2 rfl))
  obtain ⟨a, xs, ev, hq, q⟩ := q1
  subst ev
  obtain rfl : u = Value.ref a := r1
  obtain ⟨its, rv, p', hz⟩ := I1.list hq
  refine call_reversed_list p'.isList (args_nil ?_)
  have k0 : ∀ b o, s1.heap.get? b = some o → (s1.heap.push (revObj a ((its.toArray.size : Int) - 1))).get? b = some o := fun b o e => Heap.get?_push_of_some _ e
  have I2 : Inv X pins σ H1 { s1 with heap := s1.heap.push (revObj a ((its.toArray.size : Int) - 1)) } := I1.kept (t' := s1.toks) k0
  obtain ⟨f0, f1, f2, f3, f4, f5⟩ := I1.fpOk (H' := H1) (b := s1.heap.objs.size) (Nat.le_refl _) (I1.hok.fresh (Nat.le_refl _))
  obtain ⟨ol, hol, _⟩ := id p'.isList
  have hne : a ≠ s1.heap.objs.size := Nat.ne_of_lt (Heap.lt_size hol)
  have hn : its.toArray.size ≤ sizeLine := by rw [List.size_toArray, ← rv.length]; exact hz
  refine call_list_rev (s := { s1 with heap := s1.heap.push (revObj a ((its.toArray.size : Int) - 1)) }) (I1.ok.hd hc) ⟨_, Heap.get?_push_size _ rfl, rfl, rfl⟩ (p'.isList.push _) hne hn fun h' tk acc c' hk hS' hi => ?_
  have kk : ∀ b o, s1.heap.get? b = some o → h'.get? b = some o := fun b o e => hk b o (Nat.ne_of_lt (Heap.lt_size e)) (k0 b o e)
  have hsz : (s1.heap.push (revObj a ((its.toArray.size : Int) - 1))).objs.size = s1.heap.objs.size + 1 := Heap.size_push ..
  have fresh : s1.heap.objs.size ≤ (s1.heap.push (revObj a ((its.toArray.size : Int) - 1))).objs.size := by rw [hsz]; exact Nat.le_succ _
  refine ⟨.ref _, upd H1 _ (.lst xs.reverse), I1.laid (t' := tk) kk fresh (show ObjOk X.prog X.w _ _ _ (.lst xs.reverse) from ⟨by rw [List.length_reverse]; exact hz, acc.toList, c', vals_rev rv hi, ?_⟩), rfl, q _ (I1.hok.fresh fresh)⟩
  rw [Array.toArray_toList]
  exact hS'
end Own
namespace Own
open PySem PySem.Spec PyProof.Rows L2 RT HT

/-! ### t[:0:-1], t a tuple: all but the first item, backwards -/
theorem adjust_back (n : Nat) (h : 0 < n) : Builtin.Slice.sliceAdjust none (some 0) (-1) (n : Int) = ((n : Int) - 1, 0) := by
  unfold Builtin.Slice.sliceAdjust
  have h1 : (-1 : Int) < 0 := by decide
  have h2 : ¬ ((0 : Int) < 0) := by decide
  simp only [h1, h2, if_true, if_false]
  refine Prod.ext rfl ?_
  show min (0 : Int) ((n : Int) - 1) = 0
  omega
theorem places_back (n : Nat) (h : 0 < n) : Builtin.Slice.slicePlaces ((n : Int) - 1) 0 (-1) = n - 1 := by
  unfold Builtin.Slice.slicePlaces
  have h1 : ¬ ((-1 : Int) > 0) := by decide
  simp only [h1, if_false]
  have e : (- -1 : Int) = 1 := by decide
  rw [e, Int.ediv_one]
  split <;> omega
theorem fm_congr {α β : Type} {f g : α → Option β} : ∀ l : List α, (∀ a ∈ l, f a = g a) → l.filterMap f = l.filterMap g
  | [], _ => rfl
  | a :: r, h => by
    rw [List.filterMap_cons, List.filterMap_cons, h a List.mem_cons_self, fm_congr r fun b hb => h b (List.mem_cons_of_mem _ hb)]
theorem pick_back (xs : Array Value) : ((List.range (xs.size - 1)).filterMap fun (m : Nat) => xs[(((xs.size : Int) - 1) + (m : Int) * (-1)).toNat]?).toArray = xs.toList.tail.reverse.toArray := by
  have e1 : (fun (m : Nat) => xs[(((xs.size : Int) - 1) + (m : Int) * (-1)).toNat]?) = fun m => xs[xs.size - 1 - m]? := by
    funext m
    have : (((xs.size : Int) - 1) + (m : Int) * (-1)).toNat = xs.size - 1 - m := by omega
    rw [this]
  rw [e1]
  congr 1
  have e2 : (List.range (xs.size - 1)).filterMap (fun m => xs[xs.size - 1 - m]?) = (List.range (xs.size - 1)).filterMap (fun m => xs.toList.tail.reverse[m]?) := by
    apply fm_congr
    intro m hm
    have hm := List.mem_range.mp hm
    have hl : xs.toList.tail.length = xs.size - 1 := by rw [List.length_tail, Array.length_toList]
    rw [List.getElem?_reverse (by omega), hl, List.getElem?_tail, Array.getElem?_toList]
    try (congr 1; omega)
  rw [e2]
  have hl : xs.toList.tail.reverse.length = xs.size - 1 := by rw [List.length_reverse, List.length_tail, Array.length_toList]
  rw [← hl]
  generalize xs.toList.tail.reverse = ys
  have q := PySem.W.krv_all ys.toArray
  simpa using q
section
variable {prog : Program} {w : World} {A : Around} {E : Value → Shared → Prop} {s : Shared}
theorem sliceApplied_back {sl : Addr} {vl vu vs : Value} {n : Nat} {Q : Int × Int × Nat → Shared → Prop} (hn : 0 < n) (hs : s.heap.IsSliceOf sl vl vu vs) (pl : IsPart vl none) (pu : IsPart vu (some 0)) (ps : IsPart vs (some (-1)))
    (h : Q ((n : Int) - 1, -1, n - 1) s) : wpAny (model prog w) A (Builtin.Slice.sliceApplied (.ref sl) (pure (n : Int))) Q E s := by
  obtain ⟨os, hos, hcs, hds⟩ := id hs
  unfold Builtin.Slice.sliceApplied Builtin.Slice.sliceFields
  refine wpAny_bind (wpAny_bind (wpAny_field hos hds (x := vl) rfl (wpAny_bind (wpAny_field hos hds (x := vu) rfl (wpAny_bind (wpAny_field hos hds (x := vs) rfl (wpAny_pure ?_)))))))
  refine wpAny_bind (slicePart_ ps ?_); show wpAny _ _ (if ((-1 : Int) == 0) = true then _ else _) _ _ s; rw [if_neg (by decide)]
  refine wpAny_bind (slicePart_ pl (wpAny_bind (slicePart_ pu (wpAny_bind (wpAny_pure ?_)))))
  show wpAny _ _ (match Builtin.Slice.sliceAdjust none (some 0) (-1) (n : Int) with | (lo, hi) => pure (lo, (-1 : Int), Builtin.Slice.slicePlaces lo hi (-1))) _ _ s
  rw [adjust_back n hn]
  show wpAny _ _ (pure ((n : Int) - 1, (-1 : Int), Builtin.Slice.slicePlaces ((n : Int) - 1) 0 (-1))) _ _ s
  rw [places_back n hn]
  exact wpAny_pure h
theorem getItem_tuple_back {t sl : Addr} {items : Array Value} {vl vu vs : Value} {Q : Value → Shared → Prop} (ht : IsTup s.heap t items) (hs : s.heap.IsSliceOf sl vl vu vs) (pl : IsPart vl none) (pu : IsPart vu (some 0)) (ps : IsPart vs (some (-1)))
    (hn : 0 < items.size) (h : Q (.ref s.heap.objs.size) { s with heap := s.heap.push { cls := .type "tuple", data := .seq items.toList.tail.reverse.toArray } })
    (hsz : items.size ≤ sizeLine) : wpAny (model prog w) A (getItem (.ref t) (.ref sl)) Q E s := by
  have fit : sizeOk (.seq items.toList.tail.reverse.toArray) := by
    show items.toList.tail.reverse.toArray.size ≤ sizeLine
    rw [List.size_toArray, List.length_reverse, List.length_tail, Array.length_toList]; omega
  obtain ⟨os, hos, hcs, hds⟩ := id hs
  have hTs : s.TypeIs (.ref sl) "slice" := ⟨os, hos, hcs⟩
  unfold getItem
  try with_reducible refine wpAny_holding ?_
  first | refine wpAny_bind (wpAny_pure ?_) | skip
  refine wpAny_bind (wpAny_sequenceKey ht.typeIs (by decide) ?_)
  refine wpAny_bind (wpAny_callSpecial?_slot (name := Str.ofString "__getitem__") ht.typeIs slot_tuple_getitem (wpAny_call_entry slot_tuple_getitem ht.typeIs entry_tuple_getitem ?_ (args_tuple_getitem _ _)))
  show wpAny _ _ (Builtin.Tuple.tupleItemsOf (.ref t) >>= _) _ _ s; refine wpAny_bind (tupleItemsOf_ ht ?_)
  refine wpAny_bind (wpAny_typeOf hTs ?_); rw [if_pos (by decide)]
  refine wpAny_bind (sliceApplied_back hn hs pl pu ps ?_)
  show wpAny _ _ (if (((items.size : Int) - 1) == 0 && (-1 : Int) == 1 && (items.size - 1) == items.size) = true then _ else _) _ _ s
  rw [if_neg (by simp), pick_back]
  first
    | exact wpAny_bind (m := Builtin.Tuple.tupleExact _) (wpAny_newObj_type (wpAny_pure ⟨_, rfl, wpAny_pure h⟩) fit)
    | exact wpAny_bind (m := Builtin.Tuple.tupleExact _) (wpAny_newObj_type (wpAny_bind (wpAny_pure (wpAny_pure ⟨_, rfl, wpAny_pure h⟩))) fit)
    | exact wpAny_bind (wpAny_bind (m := Builtin.Tuple.tupleExact _) (wpAny_newObj_type (wpAny_pure (wpAny_pure ⟨_, rfl, wpAny_pure h⟩)) fit))
    | exact wpAny_bind (wpAny_bind (m := Builtin.Tuple.tupleExact _) (wpAny_newObj_type (wpAny_pure ⟨_, rfl, wpAny_pure h⟩) fit))
end
def tSlBack (K : PySem.W.Frag) (te : TE) : TE := fun σ H Q => te σ H fun x H1 => ∃ a y xs, x = .ref a ∧ SqT K H1 a (y :: xs) ∧ ∀ p, H1 p = none → Q (.ref p) (upd H1 p (.tup xs.reverse))
theorem pe_slBack {X : Cx} {e : Expr} {te : TE} {k0 k1 : Nat} {p0 p1 p2 p3 pos : Pos} (he : PE X e te) :
    PE X (.Subscript e (.Slice none (some (.Constant (.int 0) k0 p0)) (some (.UnaryOp .USub (.Constant (.int 1) k1 p1) p2)) p3) pos) (tSlBack X.K te) := by
  refine ⟨fun pins s σ H Q I h => ?_⟩
  refine Subscript_ (thn (he.run pins s σ H _ I h) fun v s1 ⟨x, H1, I1, r1, q1⟩ => ?_)
  obtain ⟨a, y, xs, ex, hx, q⟩ := q1
  subst ex
  cases r1
  have hhi : PO X (some (.Constant (.int 0) k0 p0)) (tPart (tC (.int 0))) := po_some pe_int
  have hst : PO X (some (.UnaryOp .USub (.Constant (.int 1) k1 p1) p2)) (tPart (tUn (rU fun i => .int (-i)) (tC (.int 1)))) := po_some (pe_un un_neg pe_int)
  refine wpAny_Slice (thn (po_none.run pins s1 σ H1 (fun o H2 => o = none ∧ H2 = H1) I1 ⟨rfl, rfl⟩) fun vl s2 ⟨l, H2, I2, pl, el, e2⟩ => ?_)
  subst el e2
  refine thn (hhi.run pins s2 σ H2 (fun o H3 => o = some 0 ∧ H3 = H2) I2 ⟨0, rfl, rfl, rfl⟩) fun vu s3 ⟨u, H3, I3, pu, eu, e3⟩ => ?_
  subst eu e3
  refine thn (hst.run pins s3 σ H3 (fun o H4 => o = some (-1) ∧ H4 = H3) I3 ⟨1, rfl, -1, rfl, rfl, rfl⟩) fun vs s4 ⟨o, H4, I4, ps, eo, e4⟩ => ?_
  subst eo e4
  have I5 : Inv X pins σ H4 { s4 with heap := s4.heap.push { cls := .type "slice", data := .fields #[vl, vu, vs] } } := I4.kept (t' := s4.toks) fun b ob q => Heap.get?_push_of_some _ q
  obtain ⟨its, r, ht, hz⟩ := I5.tuple hx
  have hlen := r.length
  rw [List.length_cons] at hlen hz
  show wpAny (model X.prog X.w) X.A (subscriptTail e (.Slice none (some (.Constant (.int 0) k0 p0)) (some (.UnaryOp .USub (.Constant (.int 1) k1 p1) p2)) p3) (.ref a) (.ref s4.heap.objs.size)) (EP X pins σ Q) X.xe { s4 with heap := s4.heap.push { cls := .type "slice", data := .fields #[vl, vu, vs] } }
  refine tail_any (ops := [.ref a, .ref s4.heap.objs.size]) ht.typeIs slot_tuple_getitem.lookup ?_ (by with_unfolding_all rfl)
  refine getItem_tuple_back ht (Heap.IsSliceOf.new _ vl vu vs) pl pu ps (by rw [List.size_toArray]; omega) ?_ (by rw [List.size_toArray]; omega)
  have rt : Vals xs its.tail := by
    cases r with
    | cons _ t => exact t
  refine ⟨.ref _, _, I5.laid (t' := s4.toks) (o := .tup xs.reverse) (fun b ob q => Heap.get?_push_of_some _ q) (Nat.le_refl _) ?_, rfl, q _ (I5.hok.fresh (Nat.le_refl _))⟩
  exact ⟨by rw [List.length_reverse]; omega, _, rt.reverse, IsTup.new _ _⟩
end Own
namespace Own
open PySem PySem.Spec PyProof.Rows L2 RT HT

/-! ### heaps: all but one object stays; tuples stay -/
def But (d : Addr) (H H' : Hp) : Prop := ∀ b o, b ≠ d → H b = some o → H' b = some o
theorem But.refl (d : Addr) (H : Hp) : But d H H := fun _ _ _ e => e
theorem But.trans {d : Addr} {H H1 H2 : Hp} (a : But d H H1) (b : But d H1 H2) : But d H H2 := fun c o n e => b c o n (a c o n e)
theorem But.upd {d : Addr} {H : Hp} {o : HO} : But d H (upd H d o) := fun b u n e => by rw [upd_ne n]; exact e
theorem same_new {H : Hp} {p : Addr} (h : H p = none) (o : HO) : Same H (upd H p o) := fun b u e => by rw [upd_ne (ne_of_none e h)]; exact e
theorem _root_.L2.Same.but {d : Addr} {H H' : Hp} (a : Same H H') : But d H H' := fun b o _ e => a b o e
/-- a change of what is new is no change -/
theorem But.same {d : Addr} {H H1 H2 : Hp} (n : H d = none) (a : Same H H1) (b : But d H1 H2) : Same H H2 := fun c o e => b c o (ne_of_none e n) (a c o e)
theorem But.free {d : Addr} {H H' : Hp} (a : But d H H') {p : Addr} (n : p ≠ d) (h : H' p = none) : H p = none := by
  cases e : H p with
  | none => rfl
  | some o => rw [a p o n e] at h; cases h
def Tups (H H' : Hp) : Prop := ∀ b xs, H b = some (.tup xs) → H' b = some (.tup xs)
theorem Tups.trans {H H1 H2 : Hp} (a : Tups H H1) (b : Tups H1 H2) : Tups H H2 := fun c xs e => b c xs (a c xs e)
theorem Tups.refl (H : Hp) : Tups H H := fun _ _ e => e
theorem _root_.L2.Same.tups {H H' : Hp} (a : Same H H') : Tups H H' := fun b xs e => a b _ e
theorem But.tups {d : Addr} {H H' : Hp} {ys : List V} (a : But d H H') (h : H d = some (.lst ys)) : Tups H H' := fun b xs e => a b _ (ne_of e h (by intro z; cases z)) e
theorem tups_upd {H : Hp} {d : Addr} {ys : List V} {o : HO} (h : H d = some (.lst ys)) : Tups H (upd H d o) := But.upd.tups h
theorem tups_updD {H : Hp} {d : Addr} {ys : List (Key × V)} {o : HO} (h : H d = some (.dK ys)) : Tups H (upd H d o) := fun b xs e => by rw [upd_ne (ne_of e h (by intro z; cases z))]; exact e

/-! ### terms -/
inductive Ter where
  | var (k : Key)
  | ap (f : Str) (as : List Ter)
mutual
def Ter.size : Ter → Nat
  | .var _ => 1
  | .ap _ as => Ter.sizes as + 1
def Ter.sizes : List Ter → Nat
  | [] => 0
  | a :: r => a.size + Ter.sizes r
end
mutual
def Ter.nest : Ter → Nat
  | .var _ => 1
  | .ap _ as => Ter.nests as + 1
def Ter.nests : List Ter → Nat
  | [] => 0
  | a :: r => max a.nest (Ter.nests r)
end
mutual
def Ter.ground : Ter → Bool
  | .var _ => false
  | .ap _ as => Ter.grounds as
def Ter.grounds : List Ter → Bool
  | [] => true
  | a :: r => a.ground && Ter.grounds r
end
def Ter.isVar : Ter → Bool
  | .var _ => true
  | .ap _ _ => false
theorem Ter.size_pos : ∀ t : Ter, 1 ≤ t.size
  | .var _ => Nat.le_refl _
  | .ap _ _ => Nat.le_add_left _ _
theorem Ter.sizes_len : ∀ ts : List Ter, ts.length ≤ Ter.sizes ts
  | [] => Nat.zero_le _
  | a :: r => by
    have h1 := a.size_pos
    have h2 := Ter.sizes_len r
    show r.length + 1 ≤ a.size + Ter.sizes r
    omega
theorem Ter.sizes_app : ∀ (as bs : List Ter), Ter.sizes (as ++ bs) = Ter.sizes as + Ter.sizes bs
  | [], bs => by show Ter.sizes bs = 0 + Ter.sizes bs; omega
  | a :: r, bs => by
    show a.size + Ter.sizes (r ++ bs) = a.size + Ter.sizes r + Ter.sizes bs
    rw [Ter.sizes_app r bs]
    omega
mutual
inductive TmAt (H : Hp) : V → Ter → Prop
  | int (i : Int) : TmAt H (.int i) (.var (.inl i))
  | str (x : Str) : TmAt H (.str x) (.var (.inr x))
  | ap {p : Addr} {f : Str} {xs : List V} {as : List Ter} : H p = some (.tup (.str f :: xs)) → TmAll H xs as → TmAt H (.ref p) (.ap f as)
inductive TmAll (H : Hp) : List V → List Ter → Prop
  | nil : TmAll H [] []
  | cons {v : V} {vs : List V} {t : Ter} {ts : List Ter} : TmAt H v t → TmAll H vs ts → TmAll H (v :: vs) (t :: ts)
end
mutual
theorem TmAt.mono {H H' : Hp} (m : Tups H H') : ∀ (t : Ter) (v : V), TmAt H v t → TmAt H' v t
  | .var _, _, h => by
    cases h with
    | int i => exact .int i
    | str x => exact .str x
  | .ap f as, _, h => by
    cases h with
    | ap e hs => exact .ap (m _ _ e) (TmAll.mono m as _ hs)
theorem TmAll.mono {H H' : Hp} (m : Tups H H') : ∀ (ts : List Ter) (vs : List V), TmAll H vs ts → TmAll H' vs ts
  | [], _, h => by cases h; exact .nil
  | t :: ts, _, h => by
    cases h with
    | cons h1 h2 => exact .cons (TmAt.mono m t _ h1) (TmAll.mono m ts _ h2)
end
theorem TmAll.len {H : Hp} : ∀ {vs : List V} {ts : List Ter}, TmAll H vs ts → vs.length = ts.length
  | _, _, .nil => rfl
  | _, _, .cons _ t => congrArg (· + 1) t.len
theorem TmAll.app {H : Hp} : ∀ {vs ws : List V} {ts us : List Ter}, TmAll H vs ts → TmAll H ws us → TmAll H (vs ++ ws) (ts ++ us)
  | _, _, _, _, .nil, h => h
  | _, _, _, _, .cons a r, h => .cons a (r.app h)
theorem TmAll.rev {H : Hp} : ∀ {vs : List V} {ts : List Ter}, TmAll H vs ts → TmAll H vs.reverse ts.reverse
  | _, _, .nil => .nil
  | _, _, .cons a r => by
    rw [List.reverse_cons, List.reverse_cons]
    exact r.rev.app (.cons a .nil)
theorem TmAll.get {H : Hp} : ∀ {vs : List V} {ts : List Ter} {i : Nat} {v : V}, TmAll H vs ts → vs[i]? = some v → ∃ t, ts[i]? = some t ∧ TmAt H v t
  | _, _, _, _, .nil, e => by simp at e
  | _, _, 0, _, .cons a r, e => by
    simp at e
    subst e
    exact ⟨_, rfl, a⟩
  | _, _, i + 1, v, .cons a r, e => by
    obtain ⟨t, h1, h2⟩ := TmAll.get (i := i) (v := v) r (by simpa using e)
    exact ⟨t, by simpa using h1, h2⟩
/-- the last one -/
theorem TmAll.last {H : Hp} {vs : List V} {ts : List Ter} (h : TmAll H vs ts) (hv : vs ≠ []) : ∃ vs' v ts' t, vs = vs' ++ [v] ∧ ts = ts' ++ [t] ∧ TmAll H vs' ts' ∧ TmAt H v t := by
  have r := h.rev
  cases e1 : vs.reverse with
  | nil => exact absurd (List.reverse_eq_nil_iff.mp e1) hv
  | cons v vr =>
    cases e2 : ts.reverse with
    | nil => rw [e1, e2] at r; cases r
    | cons t tr =>
      rw [e1, e2] at r
      cases r with
      | cons a q =>
        refine ⟨vr.reverse, v, tr.reverse, t, ?_, ?_, q.rev, a⟩
        · rw [← List.reverse_reverse (as := vs), e1, List.reverse_cons]
        · rw [← List.reverse_reverse (as := ts), e2, List.reverse_cons]

/-! ### readings that come often -/
/-- isinstance(v, tuple), v a term -/
def rIsiTer : List V → Hp → VK → Prop := fun xs H Q => ∃ (v : V) (t : Ter), xs = [v, .ty "tuple"] ∧ TmAt H v t ∧ Q (.bl (!t.isVar)) H
theorem call_isiTer {X : Cx} : CallR X (.builtin "isinstance") rIsiTer := by
  intro pins s σ H xs us Q I r h
  obtain ⟨v, t, rfl, h, q⟩ := h
  refine call_isi pins s σ H _ us Q I r ?_
  cases h with
  | int i => exact ⟨_, _, _, _, false, rfl, .ty _, .base (.int i), kit_ty (by decide +kernel), q⟩
  | str x => exact ⟨_, _, _, _, false, rfl, .ty _, .base (.str x), kit_ty (by decide +kernel), q⟩
  | ap e _ => exact ⟨_, _, _, _, true, rfl, .ty _, .base (.tup e), kit_ty (by decide +kernel), q⟩
theorem cut_1 (y : V) (ys : List V) : cutV (y :: ys) (some 1) none = ys := by
  unfold cutV
  rw [show HT.sIx (y :: ys).length 0 (some 1) = min 1 (y :: ys).length from HT.sIx_nat (y :: ys).length 0 1, HT.sIx_none, List.length_cons, show min 1 (ys.length + 1) = 1 by omega]
  show List.take (ys.length + 1 - 1) ys = ys
  rw [Nat.add_sub_cancel]
  exact List.take_length
/-- t[1:] of a tuple that is not empty -/
def rSl1 (K : PySem.W.Frag) : V → Option Int → Option Int → Hp → VK → Prop := fun x lo hi H Q => ∃ a y ys, x = .ref a ∧ lo = some 1 ∧ hi = none ∧ SqT K H a (y :: ys) ∧ ∀ p, H p = none → Q (.ref p) (upd H p (.tup ys))
theorem sl_1 {X : Cx} : SlR X (rSl1 X.K) := by
  intro pins s σ H x v vl vu lo hi sl Q I rx hs pl pu h
  obtain ⟨a, y, ys, rfl, rfl, rfl, e, q⟩ := h
  refine sl_tup pins s σ H _ v vl vu _ _ sl Q I rx hs pl pu ⟨a, _, rfl, e, fun ⟨z, _⟩ => ?_, fun p hp => ?_⟩
  · rw [show HT.sIx (y :: ys).length 0 (some 1) = min 1 (y :: ys).length from HT.sIx_nat (y :: ys).length 0 1, List.length_cons] at z
    omega
  · rw [cut_1]
    exact q p hp
/-- xs.pop(), the last item told -/
def rPopL : V → List V → Hp → VK → Prop := fun x xs H Q => ∃ (l : Addr) (vs : List V) (v : V), x = .ref l ∧ xs = [] ∧ H l = some (.lst (vs ++ [v])) ∧ Q v (upd H l (.lst vs))
theorem mt_popL {X : Cx} : MtR X "list.pop" rPopL := by
  intro pins s σ H x xs v us Q I rx rxs h
  obtain ⟨l, vs, y, rfl, rfl, e, q⟩ := h
  refine mt_pop pins s σ H _ _ v us Q I rx rxs ⟨l, _, y, rfl, rfl, e, ?_, ?_⟩
  · rw [List.length_append, List.length_singleton, Nat.add_sub_cancel]
    exact List.getElem?_concat_length
  · rw [List.dropLast_concat]
    exact q
theorem tyl {K : PySem.W.Frag} {H : Hp} {l : Addr} {vs : List V} (h : H l = some (.lst vs)) : tyV K "list" (.ref l) H := .inl ⟨rfl, _, .inl (.inl h)⟩
theorem tru_l {K : PySem.W.Frag} {H : Hp} {l : Addr} {vs : List V} (h : H l = some (.lst vs)) : TruV K (.ref l) H (!vs.isEmpty) := .inl ⟨vs, .inl (.inl h), rfl⟩
theorem small6 {n : Nat} (h : n ≤ 1000000) : n ≤ sizeLine := Nat.le_trans h (by decide)
theorem small6' {n : Nat} (h : n ≤ 1000000) : n < sizeLine := Nat.lt_of_le_of_lt h (by decide)
end Own
namespace Own
open PySem PySem.Spec PyProof.Rows L2 RT HT

/-! ### walks within a comprehension, the turn's body any -/
theorem walk_l {K : PySem.W.Frag} {a : Addr} {xs : List V} {H0 : Hp} {Qd : Hp → Prop} {body : (Hp → Prop) → V → Hp → Prop} (Pv : Nat → Hp → Prop) (h0 : Pv 0 H0) (hl : ∀ i H, i ≤ xs.length → Pv i H → SqL K H a xs)
    (hs : ∀ i x H, xs[i]? = some x → Pv i H → body (Pv (i + 1)) x H) (hd : ∀ H, Pv xs.length H → Qd H) :
    ∃ W : Nat → Nat → Hp → Prop, (∃ m, W 0 m H0) ∧ ∀ i m H, W i m H → ((Itl K a).stop i H ∧ Qd H) ∨ ((Itl K a).go i H ∧ ∃ Nx : Hp → Prop, (∀ H', Nx H' → ∃ m', m' < m ∧ W (i + 1) m' H') ∧ ∀ x H', (Itl K a).yld i H x H' → body Nx x H') := by
  refine ⟨fun i m H => m = xs.length - i ∧ i ≤ xs.length ∧ Pv i H, ⟨xs.length, by simp, Nat.zero_le _, h0⟩, ?_⟩
  rintro i m H ⟨rfl, hi, p⟩
  have q := hl i H hi p
  by_cases hlt : i < xs.length
  · refine .inr ⟨⟨xs, xs[i], q, by simp [hlt]⟩, Pv (i + 1), fun H' p' => ⟨xs.length - (i + 1), by omega, rfl, hlt, p'⟩, fun x H' y => ?_⟩
    obtain ⟨e, y⟩ := y
    subst e
    exact hs i x _ (y xs q) p
  · have e : i = xs.length := by omega
    subst e
    exact .inl ⟨⟨xs, q, Nat.le_refl _⟩, hd H p⟩
theorem walk_t {K : PySem.W.Frag} {a : Addr} {xs : List V} {H0 : Hp} {Qd : Hp → Prop} {body : (Hp → Prop) → V → Hp → Prop} (Pv : Nat → Hp → Prop) (h0 : Pv 0 H0) (hl : ∀ i H, i ≤ xs.length → Pv i H → SqT K H a xs)
    (hs : ∀ i x H, xs[i]? = some x → Pv i H → body (Pv (i + 1)) x H) (hd : ∀ H, Pv xs.length H → Qd H) :
    ∃ W : Nat → Nat → Hp → Prop, (∃ m, W 0 m H0) ∧ ∀ i m H, W i m H → ((Itt K a).stop i H ∧ Qd H) ∨ ((Itt K a).go i H ∧ ∃ Nx : Hp → Prop, (∀ H', Nx H' → ∃ m', m' < m ∧ W (i + 1) m' H') ∧ ∀ x H', (Itt K a).yld i H x H' → body Nx x H') := by
  refine ⟨fun i m H => m = xs.length - i ∧ i ≤ xs.length ∧ Pv i H, ⟨xs.length, by simp, Nat.zero_le _, h0⟩, ?_⟩
  rintro i m H ⟨rfl, hi, p⟩
  have q := hl i H hi p
  by_cases hlt : i < xs.length
  · refine .inr ⟨⟨xs, xs[i], q, by simp [hlt]⟩, Pv (i + 1), fun H' p' => ⟨xs.length - (i + 1), by omega, rfl, hlt, p'⟩, fun x H' y => ?_⟩
    obtain ⟨e, y⟩ := y
    subst e
    exact hs i x _ (y xs q) p
  · have e : i = xs.length := by omega
    subst e
    exact .inl ⟨⟨xs, q, Nat.le_refl _⟩, hd H p⟩

/-! ### what the functions of terms compute -/
def Ter.args : Ter → List Ter
  | .var _ => []
  | .ap _ as => as
def argsOf (ts : List Ter) : List Ter := ts.flatMap Ter.args
theorem argsOf_app (as bs : List Ter) : argsOf (as ++ bs) = argsOf as ++ argsOf bs := List.flatMap_append
theorem argsOf_take {ts : List Ter} {i : Nat} {t : Ter} (h : ts[i]? = some t) : argsOf (ts.take (i + 1)) = argsOf (ts.take i) ++ t.args := by
  rw [List.take_add_one, h, argsOf_app]
  show _ ++ ([t].flatMap Ter.args) = _
  rw [List.flatMap_cons, List.flatMap_nil, List.append_nil]
theorem sizes_argsOf : ∀ ts : List Ter, Ter.sizes (argsOf ts) + ts.length = Ter.sizes ts
  | [] => rfl
  | .var k :: r => by
    have ih := sizes_argsOf r
    show Ter.sizes (argsOf r) + (r.length + 1) = 1 + Ter.sizes r
    omega
  | .ap f as :: r => by
    have ih := sizes_argsOf r
    show Ter.sizes (as ++ argsOf r) + (r.length + 1) = Ter.sizes as + 1 + Ter.sizes r
    rw [Ter.sizes_app]
    omega
theorem nests_app : ∀ (as bs : List Ter), Ter.nests (as ++ bs) = max (Ter.nests as) (Ter.nests bs)
  | [], bs => by show Ter.nests bs = max 0 _; omega
  | a :: r, bs => by
    show max a.nest (Ter.nests (r ++ bs)) = max (max a.nest (Ter.nests r)) (Ter.nests bs)
    rw [nests_app r bs]
    omega
theorem Ter.nest_pos : ∀ t : Ter, 1 ≤ t.nest
  | .var _ => Nat.le_refl _
  | .ap _ _ => Nat.le_add_left _ _
theorem nests_argsOf : ∀ ts : List Ter, ts ≠ [] → Ter.nests (argsOf ts) + 1 = Ter.nests ts
  | [], h => absurd rfl h
  | [.var k], _ => rfl
  | [.ap f as], _ => by
    show Ter.nests (as ++ []) + 1 = max (Ter.nests as + 1) 0
    rw [List.append_nil]
    omega
  | .var k :: b :: r, _ => by
    have ih := nests_argsOf (b :: r) (by simp)
    have p := b.nest_pos
    have e : Ter.nests (b :: r) = max b.nest (Ter.nests r) := rfl
    show Ter.nests (argsOf (b :: r)) + 1 = max 1 (Ter.nests (b :: r))
    omega
  | .ap f as :: b :: r, _ => by
    have ih := nests_argsOf (b :: r) (by simp)
    show Ter.nests (as ++ argsOf (b :: r)) + 1 = max (Ter.nests as + 1) (Ter.nests (b :: r))
    rw [nests_app]
    omega
def hasK (acc : List Key) (k : Key) : Bool := acc.any fun x => decide (x = k)
theorem hasK_iff {acc : List Key} {k : Key} : hasK acc k = true ↔ k ∈ acc := by
  unfold hasK
  rw [List.any_eq_true]
  constructor
  · rintro ⟨x, hx, h⟩
    have h : x = k := of_decide_eq_true h
    exact h ▸ hx
  · intro h
    exact ⟨k, h, decide_eq_true rfl⟩
def addK (acc : List Key) (k : Key) : List Key := if hasK acc k = true then acc else acc ++ [k]
mutual
def Ter.into (acc : List Key) : Ter → List Key
  | .var k => addK acc k
  | .ap _ as => Ter.intos acc as
def Ter.intos (acc : List Key) : List Ter → List Key
  | [] => acc
  | a :: r => Ter.intos (Ter.into acc a) r
end
theorem intos_app : ∀ (as bs : List Ter) (acc : List Key), Ter.intos acc (as ++ bs) = Ter.intos (Ter.intos acc as) bs
  | [], _, _ => rfl
  | a :: r, bs, acc => intos_app r bs (Ter.into acc a)
def Ter.vars (t : Ter) : List Key := Ter.into [] t
def yes (k : Key) : Key × V := (k, .bl true)
theorem put_yes (acc : List Key) (k : Key) : putK (acc.map yes) k (.bl true) = (addK acc k).map yes := by
  unfold putK addK
  have e : ((acc.map yes).any fun kv => decide (kv.1 = k)) = hasK acc k := by
    rw [List.any_map]
    rfl
  rw [e]
  by_cases hk : hasK acc k = true
  · rw [if_pos hk, if_pos hk, List.map_map]
    apply List.map_congr_left
    intro x _
    show (if x = k then (x, V.bl true) else (x, V.bl true)) = (x, V.bl true)
    split <;> rfl
  · rw [if_neg hk, if_neg hk, List.map_append]
    rfl
theorem addK_len (acc : List Key) (k : Key) : (addK acc k).length ≤ acc.length + 1 := by
  unfold addK
  split
  · omega
  · rw [List.length_append, List.length_singleton]; omega
theorem yes_keys (acc : List Key) : (acc.map yes).map (fun kv => kV kv.1) = acc.map kV := by
  rw [List.map_map]
  rfl
theorem addK_ne (acc : List Key) (k : Key) : addK acc k ≠ [] := by
  unfold addK
  split
  · rename_i h
    intro z
    rw [z] at h
    exact absurd (show false = true from h) Bool.false_ne_true
  · simp
mutual
theorem into_ne : ∀ (t : Ter) (acc : List Key), acc ≠ [] ∨ t.ground = false → Ter.into acc t ≠ []
  | .var k, acc, _ => addK_ne acc k
  | .ap f as, acc, h => intos_ne as acc h
theorem intos_ne : ∀ (ts : List Ter) (acc : List Key), acc ≠ [] ∨ Ter.grounds ts = false → Ter.intos acc ts ≠ []
  | [], acc, h => h.resolve_right (by intro z; cases z)
  | a :: r, acc, h => by
    refine intos_ne r _ ?_
    rcases h with h | h
    · exact .inl (into_ne a acc (.inl h))
    · have h : (a.ground && Ter.grounds r) = false := h
      cases ha : a.ground with
      | false => exact .inl (into_ne a acc (.inr ha))
      | true =>
        rw [ha] at h
        exact .inr h
end
mutual
theorem into_ground : ∀ (t : Ter) (acc : List Key), t.ground = true → Ter.into acc t = acc
  | .var k, _, h => by cases h
  | .ap f as, acc, h => intos_ground as acc h
theorem intos_ground : ∀ (ts : List Ter) (acc : List Key), Ter.grounds ts = true → Ter.intos acc ts = acc
  | [], _, _ => rfl
  | a :: r, acc, h => by
    have h : (a.ground && Ter.grounds r) = true := h
    rw [Bool.and_eq_true] at h
    show Ter.intos (Ter.into acc a) r = acc
    rw [into_ground a acc h.1, intos_ground r acc h.2]
end
theorem vars_nil (t : Ter) : decide (t.vars = []) = t.ground := by
  cases h : t.ground with
  | true => exact decide_eq_true (into_ground t [] h)
  | false => exact decide_eq_false (into_ne t [] (.inr h))
end Own
namespace Own
open PySem PySem.Spec PyProof.Rows L2 RT HT

/-! ### a list of ints at d, whatever they are -/
def Ints (H : Hp) (d : Addr) : Prop := ∃ ms : List Int, ms.length ≤ 100000 ∧ H d = some (.lst (ms.map V.int))
theorem Ints.lst {H : Hp} {d : Addr} (h : Ints H d) : ∃ vs, H d = some (.lst vs) := by
  obtain ⟨ms, _, e⟩ := h
  exact ⟨_, e⟩
theorem But.tupsI {d : Addr} {H H' : Hp} (a : But d H H') (h : Ints H d) : Tups H H' := by
  obtain ⟨ms, _, e⟩ := h
  exact a.tups e
theorem Ints.ne {H : Hp} {d p : Addr} (h : Ints H d) (n : H p = none) : p ≠ d := by
  obtain ⟨ms, _, e⟩ := h
  exact (ne_of_none e n).symm
theorem Ints.of_but {H H' : Hp} {d p : Addr} (h : Ints H d) (b : But p H H') (n : d ≠ p) : Ints H' d := by
  obtain ⟨ms, l, e⟩ := h
  exact ⟨ms, l, b d _ n e⟩
theorem Ints.same {H H' : Hp} {d : Addr} (h : Ints H d) (b : Same H H') : Ints H' d := by
  obtain ⟨ms, l, e⟩ := h
  exact ⟨ms, l, b d _ e⟩

/-! ### words -/
abbrev LET : Str := "abcdefghijklmnopqrstuvwxyz"
abbrev SGN : Str := LET ++ ("ABCDEFGHIJKLMNOPQRSTUVWXYZ0123456789_" : Str)
abbrev RES : List Str := ["true", "false", "all", "some", "goal", "axiom"]
def chOk (c : Nat) : Bool := (decide (97 ≤ c) && decide (c ≤ 122)) || (decide (65 ≤ c) && decide (c ≤ 90)) || (decide (48 ≤ c) && decide (c ≤ 57)) || decide (c = 95)
def isLow (c : Nat) : Bool := decide (97 ≤ c) && decide (c ≤ 122)
/-- a word: a small letter, then signs -/
structure WordOk (x : Str) : Prop where
  head : ∃ c r, x.cps.toList = c :: r ∧ isLow c = true
  all : x.cps.toList.all chOk = true
  len : x.length ≤ 40
theorem let_len : LET.length = 26 := by decide +kernel
theorem sgn_len : SGN.length = 63 := by decide +kernel
theorem let_at {i : Nat} (h : i < 26) : ∃ c, LET.cps[i]? = some c ∧ isLow c = true ∧ chOk c = true := by
  have a : LET.cps.toList.all (fun c => isLow c && chOk c) = true := by decide +kernel
  have l : LET.cps.toList.length = 26 := by decide +kernel
  have hi : i < LET.cps.toList.length := by omega
  have b := List.all_eq_true.mp a _ (List.getElem_mem hi)
  rw [Bool.and_eq_true] at b
  exact ⟨_, by rw [← Array.getElem?_toList, List.getElem?_eq_getElem hi], b.1, b.2⟩
theorem sgn_at {i : Nat} (h : i < 63) : ∃ c, SGN.cps[i]? = some c ∧ chOk c = true := by
  have a : SGN.cps.toList.all chOk = true := by decide +kernel
  have l : SGN.cps.toList.length = 63 := by decide +kernel
  have hi : i < SGN.cps.toList.length := by omega
  exact ⟨_, by rw [← Array.getElem?_toList, List.getElem?_eq_getElem hi], List.all_eq_true.mp a _ (List.getElem_mem hi)⟩
theorem app_cps (x y : Str) : (x ++ y).cps.toList = x.cps.toList ++ y.cps.toList := by
  show (x.cps ++ y.cps).toList = _
  rw [Array.toList_append]
theorem app_len (x y : Str) : (x ++ y).length = x.length + y.length := by
  show (x.cps ++ y.cps).size = x.cps.size + y.cps.size
  rw [Array.size_append]
/-- part of a word: all but the length -/
structure WordIn (x : Str) (n : Nat) : Prop where
  head : ∃ c r, x.cps.toList = c :: r ∧ isLow c = true
  all : x.cps.toList.all chOk = true
  len : x.length ≤ n
theorem word1 {c : Nat} (h1 : isLow c = true) (h2 : chOk c = true) : WordIn ⟨#[c]⟩ 1 := ⟨⟨c, [], rfl, h1⟩, by show (chOk c && true) = true; rw [h2]; rfl, Nat.le_refl _⟩
theorem WordIn.add {x y : Str} {n m : Nat} (h : WordIn x n) (a : y.cps.toList.all chOk = true) (l : y.length ≤ m) : WordIn (x ++ y) (n + m) := by
  obtain ⟨c, r, e, hc⟩ := h.head
  refine ⟨⟨c, r ++ y.cps.toList, by rw [app_cps, e]; rfl, hc⟩, by rw [app_cps, List.all_append, h.all, a]; rfl, by rw [app_len]; have := h.len; omega⟩
theorem WordIn.ok {x : Str} {n : Nat} (h : WordIn x n) (l : n ≤ 40) : WordOk x := ⟨h.head, h.all, Nat.le_trans h.len l⟩
/-- words of a law: all right, no two alike, none reserved -/
structure Words (ws : List Str) : Prop where
  ok : ∀ x ∈ ws, WordOk x
  nd : ws.Nodup
  res : ∀ x ∈ ws, x ∉ RES
/-- how many of the blocked ones are as long as n or longer -/
def longer (B : List Str) (n : Nat) : Nat := (B.filter fun y => decide (n ≤ y.length)).length
theorem longer_le (B : List Str) (n : Nat) : longer B n ≤ B.length := List.length_filter_le _ _
theorem longer_lt : ∀ {B : List Str} {x : Str}, x ∈ B → longer B (x.length + 1) < longer B x.length := by
  intro B
  have mono : ∀ (B : List Str) (n : Nat), longer B (n + 1) ≤ longer B n := fun B n => by
    induction B with
    | nil => exact Nat.le_refl _
    | cons y r ih =>
      unfold longer at ih ⊢
      rw [List.filter_cons, List.filter_cons]
      by_cases h1 : n + 1 ≤ y.length
      · rw [if_pos (decide_eq_true h1), if_pos (decide_eq_true (by omega)), List.length_cons, List.length_cons]; omega
      · rw [if_neg (by rw [decide_eq_false h1]; decide)]
        split
        · rw [List.length_cons]; omega
        · exact ih
  induction B with
  | nil => intro x h; cases h
  | cons y r ih =>
    intro x h
    unfold longer at ih ⊢
    rw [List.filter_cons, List.filter_cons]
    rcases List.mem_cons.mp h with e | h
    · subst e
      rw [if_neg (by rw [decide_eq_false (by omega)]; decide), if_pos (decide_eq_true (Nat.le_refl _)), List.length_cons]
      have := mono r x.length
      unfold longer at this
      omega
    · have q := ih h
      by_cases h1 : x.length + 1 ≤ y.length
      · rw [if_pos (decide_eq_true h1), if_pos (decide_eq_true (by omega)), List.length_cons, List.length_cons]; omega
      · rw [if_neg (by rw [decide_eq_false h1]; decide)]
        split
        · rw [List.length_cons]; omega
        · exact q
theorem inV_str (x : Str) (ws : List Str) : inV (.str x) (ws.map V.str) = true ↔ x ∈ ws := by
  unfold inV
  rw [List.any_map, List.any_eq_true]
  constructor
  · rintro ⟨y, hy, h⟩
    have h : (y == x) = true := h
    exact eq_of_beq h ▸ hy
  · intro h
    exact ⟨x, h, show (x == x) = true from beq_self_eq_true x⟩
theorem flat_strs (ws : List Str) : (ws.map V.str).all flatV = true := by
  rw [List.all_map, List.all_eq_true]
  intro x _
  rfl
end Own
namespace Own
open PySem PySem.Spec PyProof.Rows L2 RT HT

/-! ### terms over words -/
mutual
def Ter.wf (W : Str → Nat → Prop) (U : Key → Prop) : Ter → Prop
  | .var k => U k
  | .ap f as => W f as.length ∧ Ter.wfs W U as
def Ter.wfs (W : Str → Nat → Prop) (U : Key → Prop) : List Ter → Prop
  | [] => True
  | a :: r => a.wf W U ∧ Ter.wfs W U r
end
theorem wfs_app {W : Str → Nat → Prop} {U : Key → Prop} : ∀ {as bs : List Ter}, Ter.wfs W U as → Ter.wfs W U bs → Ter.wfs W U (as ++ bs)
  | [], _, _, h => h
  | _ :: _, _, h, h2 => ⟨h.1, wfs_app h.2 h2⟩
theorem wfs_get {W : Str → Nat → Prop} {U : Key → Prop} : ∀ {as : List Ter} {i : Nat} {t : Ter}, Ter.wfs W U as → as[i]? = some t → t.wf W U
  | [], _, _, _, e => by simp at e
  | a :: r, 0, t, h, e => by
    simp at e
    exact e ▸ h.1
  | a :: r, i + 1, t, h, e => wfs_get (as := r) (i := i) h.2 (by simpa using e)
/-- the i-th word has i - 2 arguments -/
def symOf (ws : List Str) (f : Str) (n : Nat) : Prop := ∃ i : Nat, i < 6 ∧ ws[i]? = some f ∧ n = i - 2
def numVar (k : Key) : Prop := ∃ r : Int, k = .inl r ∧ 0 ≤ r ∧ r < 900
theorem sizes_snoc (as : List Ter) (t : Ter) : Ter.sizes (as ++ [t]) = Ter.sizes as + t.size := by
  rw [Ter.sizes_app]
  show _ + (t.size + 0) = _
  omega
theorem nests_snoc (as : List Ter) (t : Ter) : Ter.nests (as ++ [t]) = max (Ter.nests as) t.nest := by
  rw [nests_app]
  show max _ (max t.nest 0) = _
  omega
theorem grounds_app : ∀ (as bs : List Ter), Ter.grounds (as ++ bs) = (Ter.grounds as && Ter.grounds bs)
  | [], _ => rfl
  | a :: r, bs => by
    show (a.ground && Ter.grounds (r ++ bs)) = _
    rw [grounds_app r bs, ← Bool.and_assoc]
    rfl
theorem grounds_snoc (as : List Ter) (t : Ter) : Ter.grounds (as ++ [t]) = (Ter.grounds as && t.ground) := by
  rw [grounds_app]
  show (_ && (t.ground && true)) = _
  rw [Bool.and_true]
theorem pow4 (n : Nat) : 1 ≤ 4 ^ n := Nat.one_le_pow _ _ (by decide)
mutual
theorem nest_size : ∀ t : Ter, t.nest ≤ t.size
  | .var _ => Nat.le_refl _
  | .ap _ as => Nat.succ_le_succ (nests_sizes as)
theorem nests_sizes : ∀ ts : List Ter, Ter.nests ts ≤ Ter.sizes ts
  | [] => Nat.le_refl _
  | a :: r => by
    have h1 := nest_size a
    have h2 := nests_sizes r
    show max a.nest (Ter.nests r) ≤ a.size + Ter.sizes r
    omega
end
theorem nest_le_of : ∀ {ts : List Ter} {i : Nat} {t : Ter}, ts[i]? = some t → t.nest ≤ Ter.nests ts
  | [], _, _, e => by simp at e
  | a :: r, 0, t, e => by
    simp at e
    subst e
    exact Nat.le_max_left _ _
  | a :: r, i + 1, t, e => Nat.le_trans (nest_le_of (ts := r) (i := i) (by simpa using e)) (Nat.le_max_right _ _)
theorem size_le_of : ∀ {ts : List Ter} {i : Nat} {t : Ter}, ts[i]? = some t → t.size ≤ Ter.sizes ts
  | [], _, _, e => by simp at e
  | a :: r, 0, t, e => by
    simp at e
    subst e
    exact Nat.le_add_right _ _
  | a :: r, i + 1, t, e => Nat.le_trans (size_le_of (ts := r) (i := i) (by simpa using e)) (Nat.le_add_left _ _)

/-! ### data: the kind of a value -/
def kindOf : PyData → String
  | .none => "NoneType"
  | .bool _ => "bool"
  | .int _ => "int"
  | .str _ => "str"
  | .list _ => "list"
  | .tuple _ => "tuple"
  | .dict _ => "dict"
theorem tyx_dp {K : PySem.W.Frag} {H : Hp} {v : V} {x : PyData} (h : Dp K H v x) : TyX K H v (.type (kindOf x)) := by
  cases h with
  | non => exact .base .non
  | bl b => exact .base (.bl b)
  | int i => exact .base (.int i)
  | str y => exact .base (.str y)
  | lst h _ =>
    rcases h with (h | ⟨o, h⟩) | ⟨o, its, n, h, c, _⟩
    · exact .base (.lst h)
    · exact .base (.frz h)
    · exact .kList h c
  | tup h _ =>
    rcases h with (h | ⟨o, h⟩) | ⟨o, its, n, h, c, _⟩
    · exact .base (.tup h)
    · exact .fTuple h
    · exact .kTuple h c
def rIsiDat (K : PySem.W.Frag) : List V → Hp → VK → Prop := fun xs H Q => ∃ (v : V) (x : PyData) (c : String) (b : Bool), xs = [v, .ty c] ∧ Dp K H v x ∧ kitB (kindOf x) c = some b ∧ Q (.bl b) H
theorem call_isiDat {X : Cx} : CallR X (.builtin "isinstance") (rIsiDat X.K) := by
  intro pins s σ H xs us Q I r h
  obtain ⟨v, x, c, b, rfl, h, e, q⟩ := h
  exact call_isi pins s σ H _ us Q I r ⟨v, .ty c, _, _, b, rfl, .ty c, tyx_dp h, kit_ty e, q⟩
theorem Dp.len {K : PySem.W.Frag} {H : Hp} : ∀ {vs : List V} {xs : List PyData}, DpAll K H vs xs → vs.length = xs.length
  | _, _, .nil => rfl
  | _, _, .cons _ t => congrArg (· + 1) (Dp.len t)
theorem Dp.get {K : PySem.W.Frag} {H : Hp} : ∀ {vs : List V} {xs : List PyData} {i : Nat} {v : V}, DpAll K H vs xs → vs[i]? = some v → ∃ x, xs[i]? = some x ∧ Dp K H v x
  | _, _, _, _, .nil, e => by simp at e
  | _, _, 0, _, .cons a r, e => by
    simp at e
    subst e
    exact ⟨_, rfl, a⟩
  | _, _, i + 1, v, .cons a r, e => by
    obtain ⟨t, h1, h2⟩ := Dp.get (i := i) (v := v) r (by simpa using e)
    exact ⟨t, by simpa using h1, h2⟩
theorem depth_le_of : ∀ {xs : List PyData} {i : Nat} {x : PyData}, xs[i]? = some x → x.depth ≤ PyData.depthAll xs
  | [], _, _, e => by simp at e
  | a :: r, 0, t, e => by
    simp at e
    subst e
    exact Nat.le_max_left _ _
  | a :: r, i + 1, t, e => Nat.le_trans (depth_le_of (xs := r) (i := i) (by simpa using e)) (Nat.le_max_right _ _)
mutual
theorem Dp.same {K : PySem.W.Frag} {H H' : Hp} (m : Same H H') : ∀ (x : PyData) (v : V), Dp K H v x → Dp K H' v x
  | .none, _, h => by cases h; exact .non
  | .bool b, _, h => by cases h; exact .bl b
  | .int i, _, h => by cases h; exact .int i
  | .str x, _, h => by cases h; exact .str x
  | .list ds, _, h => by
    cases h with
    | lst e hs => exact .lst (m.seq e) (Dp.sameA m ds _ hs)
  | .tuple ds, _, h => by
    cases h with
    | tup e hs =>
      refine .tup ?_ (Dp.sameA m ds _ hs)
      rcases e with (e | ⟨o, e⟩) | e
      · exact .inl (.inl (m _ _ e))
      · exact .inl (.inr ⟨o, m _ _ e⟩)
      · exact .inr e
  | .dict _, _, h => by cases h
theorem Dp.sameA {K : PySem.W.Frag} {H H' : Hp} (m : Same H H') : ∀ (xs : List PyData) (vs : List V), DpAll K H vs xs → DpAll K H' vs xs
  | [], _, h => by cases h; exact .nil
  | x :: xs, _, h => by
    cases h with
    | cons a r => exact .cons (Dp.same m x _ a) (Dp.sameA m xs _ r)
end
def isTupD : PyData → Bool
  | .tuple _ => true
  | _ => false
def isListD : PyData → Bool
  | .list _ => true
  | _ => false
def isBoolD : PyData → Bool
  | .bool _ => true
  | _ => false
def isIntD : PyData → Bool
  | .bool _ => true
  | .int _ => true
  | _ => false
def isStrD : PyData → Bool
  | .str _ => true
  | _ => false
theorem k_tup (x : PyData) : kitB (kindOf x) "tuple" = some (isTupD x) := by
  cases x <;> (unfold kindOf isTupD; dsimp only; decide +kernel)
theorem k_list (x : PyData) : kitB (kindOf x) "list" = some (isListD x) := by
  cases x <;> (unfold kindOf isListD; dsimp only; decide +kernel)
theorem k_bool (x : PyData) : kitB (kindOf x) "bool" = some (isBoolD x) := by
  cases x <;> (unfold kindOf isBoolD; dsimp only; decide +kernel)
theorem k_int (x : PyData) : kitB (kindOf x) "int" = some (isIntD x) := by
  cases x <;> (unfold kindOf isIntD; dsimp only; decide +kernel)
theorem k_str (x : PyData) : kitB (kindOf x) "str" = some (isStrD x) := by
  cases x <;> (unfold kindOf isStrD; dsimp only; decide +kernel)
/-- nested less than n deep, no dict, no item too long -/
def fitsD : Nat → PyData → Prop
  | 0, _ => False
  | n + 1, .list ds => ds.length ≤ 1000000 ∧ ∀ d ∈ ds, fitsD n d
  | n + 1, .tuple ds => ds.length ≤ 1000000 ∧ ∀ d ∈ ds, fitsD n d
  | _ + 1, .dict _ => False
  | _ + 1, _ => True
/-- a[i], a a list or a tuple -/
def rIxLT (K : PySem.W.Frag) : R2 := fun x y H Q => ∃ (p : Addr) (xs : List V) (i : Int) (v : V), x = .ref p ∧ y = .int i ∧ (SqL K H p xs ∨ SqT K H p xs) ∧ atI xs i = some v ∧ Q v H
theorem ix_lt {X : Cx} : IxR X (rIxLT X.K) := by
  intro value slice pins s σ H x y v u Q I rx ry h hs
  obtain ⟨p, xs, i, z, ex, ey, h, e, q⟩ := h
  rcases h with h | h
  · exact ix_list value slice pins s σ H x y v u Q I rx ry ⟨p, xs, i, z, ex, ey, h, e, q⟩ hs
  · exact ix_tup value slice pins s σ H x y v u Q I rx ry ⟨p, xs, i, z, ex, ey, h, e, q⟩ hs
theorem dp_ints {K : PySem.W.Frag} {H : Hp} : ∀ ns : List Int, DpAll K H (ns.map V.int) (ns.map PyData.int)
  | [] => .nil
  | n :: r => .cons (.int n) (dp_ints r)
end Own
namespace Own
open PySem PySem.Spec PyProof.Rows L2 RT HT

def isNum : Key → Prop
  | .inl _ => True
  | .inr _ => False
theorem addK_all {R : Key → Prop} {acc : List Key} {k : Key} (h : ∀ x ∈ acc, R x) (hk : R k) : ∀ x ∈ addK acc k, R x := by
  unfold addK
  split
  · exact h
  · intro x hx
    rcases List.mem_append.mp hx with hx | hx
    · exact h x hx
    · rw [List.mem_singleton.mp hx]; exact hk
mutual
theorem into_all {W : Str → Nat → Prop} {U R : Key → Prop} (ur : ∀ k, U k → R k) : ∀ (t : Ter) (acc : List Key), t.wf W U → (∀ x ∈ acc, R x) → ∀ x ∈ Ter.into acc t, R x
  | .var k, acc, h, a => addK_all a (ur k h)
  | .ap f as, acc, h, a => intos_all ur as acc h.2 a
theorem intos_all {W : Str → Nat → Prop} {U R : Key → Prop} (ur : ∀ k, U k → R k) : ∀ (ts : List Ter) (acc : List Key), Ter.wfs W U ts → (∀ x ∈ acc, R x) → ∀ x ∈ Ter.intos acc ts, R x
  | [], _, _, a => a
  | t :: r, acc, h, a => intos_all ur r _ h.2 (into_all ur t acc h.1 a)
end
/-- a key as data -/
def kD : Key → PyData
  | .inl i => .int i
  | .inr x => .str x
def keyFine : Key → Prop
  | .inl _ => True
  | .inr x => PyData.strOk x = true
theorem dp_keys {K : PySem.W.Frag} {H : Hp} : ∀ ks : List Key, DpAll K H (ks.map kV) (ks.map kD)
  | [] => .nil
  | .inl i :: r => .cons (.int i) (dp_keys r)
  | .inr x :: r => .cons (.str x) (dp_keys r)
theorem lay_keys : ∀ ks : List Key, (∀ k ∈ ks, keyFine k) → PyData.canLayAll0 (ks.map kD) = true ∧ PyData.depthAll (ks.map kD) = 0
  | [], _ => ⟨rfl, rfl⟩
  | .inl i :: r, h => by
    obtain ⟨h1, h2⟩ := lay_keys r fun k hk => h k (List.mem_cons_of_mem _ hk)
    exact ⟨by show (true && PyData.canLayAll0 (r.map kD)) = true; rw [h1]; rfl, by show max 0 (PyData.depthAll (r.map kD)) = 0; rw [h2]; rfl⟩
  | .inr x :: r, h => by
    obtain ⟨h1, h2⟩ := lay_keys r fun k hk => h k (List.mem_cons_of_mem _ hk)
    have hx : PyData.strOk x = true := h (.inr x) List.mem_cons_self
    exact ⟨by show (PyData.strOk x && PyData.canLayAll0 (r.map kD)) = true; rw [h1, hx]; rfl, by show max 0 (PyData.depthAll (r.map kD)) = 0; rw [h2]; rfl⟩
theorem shaped_keys {ks : List Key} (h : ∀ k ∈ ks, keyFine k) : SeqAt.shaped (.list (ks.map kD)) = true := by
  obtain ⟨h1, h2⟩ := lay_keys ks h
  show (PyData.canLayAll0 (ks.map kD) && decide (PyData.depthAll (ks.map kD) + 1 ≤ 64)) = true
  rw [h1, h2]
  rfl
theorem eqv_nil (ks : List Key) : PyData.eqv (.list (ks.map kD)) (.list []) = decide (ks = []) := by
  cases ks with
  | nil => rfl
  | cons a r => exact (decide_eq_false (by simp)).symm
theorem num_fine (k : Key) (h : numVar k) : keyFine k := by
  obtain ⟨r, rfl, _⟩ := h
  exact trivial
end Own
namespace Own
open PySem PySem.Spec PyProof.Rows L2 RT HT

theorem kV_inj {a b : Key} (h : kV a = kV b) : a = b := by
  cases a <;> cases b <;> simp [kV] at h <;> simp [h]
theorem flat_keys (ks : List Key) : (ks.map kV).all flatV = true := by
  rw [List.all_map, List.all_eq_true]
  intro k _
  cases k <;> rfl
theorem eqV_key (a b : Key) : eqV (kV a) (kV b) = decide (a = b) := by
  cases a with
  | inl i =>
    cases b with
    | inl j =>
      rw [key_ll]
      rfl
    | inr y => rw [key_lr]; rfl
  | inr x =>
    cases b with
    | inl j => rw [key_rl]; rfl
    | inr y =>
      rw [key_rr]
      show (x == y) = decide (x = y)
      rfl
theorem inV_key (k : Key) (ks : List Key) : inV (kV k) (ks.map kV) = hasK ks k := by
  unfold inV hasK
  rw [List.any_map]
  congr 1
  funext x
  exact eqV_key x k
theorem flat_key (k : Key) : flatV (kV k) = true := by cases k <;> rfl
/-- keys put in one by one -/
def addKs (acc : List Key) (ks : List Key) : List Key := ks.foldl addK acc
theorem hasK_addK (acc : List Key) (k x : Key) : hasK (addK acc k) x = (hasK acc x || decide (k = x)) := by
  unfold addK
  by_cases h : hasK acc k = true
  · rw [if_pos h]
    by_cases e : k = x
    · subst e
      rw [h, Bool.true_or]
    · rw [decide_eq_false e, Bool.or_false]
  · rw [if_neg h]
    unfold hasK
    rw [List.any_append]
    simp
theorem hasK_addKs : ∀ (ks acc : List Key) (x : Key), hasK (addKs acc ks) x = (hasK acc x || hasK ks x)
  | [], acc, x => by show hasK acc x = (hasK acc x || false); rw [Bool.or_false]
  | k :: r, acc, x => by
    show hasK (addKs (addK acc k) r) x = _
    rw [hasK_addKs r, hasK_addK, Bool.or_assoc]
    rfl
theorem addKs_addK (acc b : List Key) (k : Key) : addKs acc (addK b k) = addK (addKs acc b) k := by
  by_cases h : hasK b k = true
  · have e : addK b k = b := by unfold addK; rw [if_pos h]
    have h2 : hasK (addKs acc b) k = true := by rw [hasK_addKs, h, Bool.or_true]
    rw [e]
    unfold addK
    rw [if_pos h2]
  · have e : addK b k = b ++ [k] := by unfold addK; rw [if_neg h]
    rw [e]
    unfold addKs
    rw [List.foldl_append]
    rfl
mutual
theorem addKs_into (acc : List Key) : ∀ (t : Ter) (b : List Key), addKs acc (Ter.into b t) = Ter.into (addKs acc b) t
  | .var k, b => addKs_addK acc b k
  | .ap _ as, b => addKs_intos acc as b
theorem addKs_intos (acc : List Key) : ∀ (ts : List Ter) (b : List Key), addKs acc (Ter.intos b ts) = Ter.intos (addKs acc b) ts
  | [], _ => rfl
  | t :: r, b => by
    show addKs acc (Ter.intos (Ter.into b t) r) = _
    rw [addKs_intos acc r, addKs_into acc t]
    rfl
end
theorem into_met (acc : List Key) (t : Ter) : addKs acc t.vars = Ter.into acc t := addKs_into acc t []
theorem intos_snoc (acc : List Key) (as : List Ter) (t : Ter) : Ter.intos acc (as ++ [t]) = Ter.into (Ter.intos acc as) t := by
  rw [intos_app]
  rfl
mutual
theorem into_len : ∀ (t : Ter) (acc : List Key), (Ter.into acc t).length ≤ acc.length + t.size
  | .var k, acc => addK_len acc k
  | .ap _ as, acc => Nat.le_trans (intos_len as acc) (by show _ ≤ acc.length + (Ter.sizes as + 1); omega)
theorem intos_len : ∀ (ts : List Ter) (acc : List Key), (Ter.intos acc ts).length ≤ acc.length + Ter.sizes ts
  | [], acc => by show acc.length ≤ acc.length + 0; omega
  | t :: r, acc => by
    have h1 := into_len t acc
    have h2 := intos_len r (Ter.into acc t)
    show (Ter.intos (Ter.into acc t) r).length ≤ acc.length + (t.size + Ter.sizes r)
    omega
end
theorem fits_keys {ks : List Key} (n : Nat) (h : ks.length ≤ 1000000) : fitsD (n + 2) (.list (ks.map kD)) := by
  refine ⟨by rw [List.length_map]; exact h, fun d hd => ?_⟩
  obtain ⟨k, _, rfl⟩ := List.mem_map.mp hd
  cases k <;> exact trivial
/-- xs.pop(i) etc. read the list at its place; t[0] of an application -/
theorem head_at {f : V} {xs : List V} : atI (f :: xs) 0 = some f := atI_nat (j := 0) rfl
end Own
namespace Own
open PySem PySem.Spec PyProof.Rows L2 RT HT

/-! ### texts -/
theorem strE {a b : Str} (h : a.cps.toList = b.cps.toList) : a = b := by
  cases a with
  | mk x =>
    cases b with
    | mk y => exact congrArg Str.mk (Array.toList_inj.mp h)
theorem sApp (a b c : Str) : (a ++ b) ++ c = a ++ (b ++ c) := strE (by simp only [app_cps, List.append_assoc])
theorem sEmp (a : Str) : Str.empty ++ a = a := strE (by rw [app_cps]; rfl)
theorem eqS {a b : Str} {A B : Prop} (h : (a == b) = true) (k : A) : if decide (V.str a = V.str b) = true then A else B := by
  rw [dec_str, h]
  exact iteT k
theorem neS {a b : Str} {A B : Prop} (h : (a == b) = false) (k : B) : if decide (V.str a = V.str b) = true then A else B := by
  rw [dec_str, h]
  exact iteF k

/-! ### terms as data -/
mutual
def Ter.dat : Ter → PyData
  | .var k => kD k
  | .ap f as => .tuple (.str f :: Ter.dats as)
def Ter.dats : List Ter → List PyData
  | [] => []
  | a :: r => a.dat :: Ter.dats r
end
mutual
theorem dp_ter {K : PySem.W.Frag} {H : Hp} : ∀ (t : Ter) (v : V), TmAt H v t → Dp K H v t.dat
  | .var k, _, h => by
    cases h with
    | int i => exact .int i
    | str x => exact .str x
  | .ap f as, _, h => by
    cases h with
    | ap e hs => exact .tup (.inl (.inl e)) (.cons (.str f) (dp_ters as _ hs))
theorem dp_ters {K : PySem.W.Frag} {H : Hp} : ∀ (ts : List Ter) (vs : List V), TmAll H vs ts → DpAll K H vs (Ter.dats ts)
  | [], _, h => by cases h; exact .nil
  | t :: r, _, h => by
    cases h with
    | cons a b => exact .cons (dp_ter t _ a) (dp_ters r _ b)
end
def symFine (f : Str) (_ : Nat) : Prop := PyData.strOk f = true
mutual
theorem lay_ter : ∀ t : Ter, t.wf symFine keyFine → PyData.canLay0 t.dat = true ∧ PyData.depth t.dat ≤ t.nest
  | .var (.inl _), _ => ⟨rfl, Nat.zero_le _⟩
  | .var (.inr x), h => ⟨h, Nat.zero_le _⟩
  | .ap f as, h => by
    obtain ⟨h1, h2⟩ := lay_ters as h.2
    refine ⟨?_, ?_⟩
    · show (PyData.strOk f && PyData.canLayAll0 (Ter.dats as)) = true
      rw [show PyData.strOk f = true from h.1, h1]
      rfl
    · show max 0 (PyData.depthAll (Ter.dats as)) + 1 ≤ Ter.nests as + 1
      omega
theorem lay_ters : ∀ ts : List Ter, Ter.wfs symFine keyFine ts → PyData.canLayAll0 (Ter.dats ts) = true ∧ PyData.depthAll (Ter.dats ts) ≤ Ter.nests ts
  | [], _ => ⟨rfl, Nat.le_refl _⟩
  | t :: r, h => by
    obtain ⟨h1, h2⟩ := lay_ter t h.1
    obtain ⟨h3, h4⟩ := lay_ters r h.2
    refine ⟨?_, ?_⟩
    · show (PyData.canLay0 t.dat && PyData.canLayAll0 (Ter.dats r)) = true
      rw [h1, h3]
      rfl
    · show max t.dat.depth (PyData.depthAll (Ter.dats r)) ≤ max t.nest (Ter.nests r)
      omega
end
theorem shaped_ter {t : Ter} (h : t.wf symFine keyFine) (n : t.nest ≤ 64) : SeqAt.shaped t.dat = true := by
  obtain ⟨h1, h2⟩ := lay_ter t h
  unfold SeqAt.shaped
  rw [h1, decide_eq_true (Nat.le_trans h2 n)]
  rfl
mutual
theorem wf_mono {W W' : Str → Nat → Prop} {U U' : Key → Prop} (w : ∀ f n, W f n → W' f n) (u : ∀ k, U k → U' k) : ∀ t : Ter, t.wf W U → t.wf W' U'
  | .var k, h => u k h
  | .ap f as, h => ⟨w f _ h.1, wfs_mono w u as h.2⟩
theorem wfs_mono {W W' : Str → Nat → Prop} {U U' : Key → Prop} (w : ∀ f n, W f n → W' f n) (u : ∀ k, U k → U' k) : ∀ ts : List Ter, Ter.wfs W U ts → Ter.wfs W' U' ts
  | [], _ => trivial
  | t :: r, h => ⟨wf_mono w u t h.1, wfs_mono w u r h.2⟩
end
theorem wordok_str {x : Str} (h : WordOk x) : PyData.strOk x = true := by
  have a := h.all
  unfold PyData.strOk
  rw [← Array.all_toList, List.all_eq_true]
  intro c hc
  have q := List.all_eq_true.mp a c hc
  unfold chOk at q
  simp only [Bool.or_eq_true, Bool.and_eq_true, decide_eq_true_eq] at q
  exact decide_eq_true (by omega)
def trueT : Ter := .ap "true" []
def isTrueT (t : Ter) : Bool := PyData.eqv t.dat trueT.dat

/-! ### the written form of terms -/
/-- what may be written: short words, small numbers -/
def shSym (f : Str) (_ : Nat) : Prop := f.length ≤ 40 ∧ PyData.strOk f = true
def shKey : Key → Prop
  | .inl r => 0 ≤ r ∧ r < 900
  | .inr x => x.length ≤ 40 ∧ PyData.strOk x = true
theorem sh_fine : ∀ t : Ter, t.wf shSym shKey → t.wf symFine keyFine := wf_mono (fun _ _ h => h.2) (fun k h => by
  cases k with
  | inl r => trivial
  | inr x => exact h.2)
mutual
def showT : Ter → Str
  | .var (.inl i) => ("X" : Str) ++ (toString i : String)
  | .var (.inr x) => x
  | .ap f [] => f
  | .ap f (a :: r) => f ++ (("(" : Str) ++ (Txt.join "," (showTs (a :: r)) ++ (")" : Str)))
def showTs : List Ter → List Str
  | [] => []
  | a :: r => showT a :: showTs r
end
theorem showTs_len : ∀ ts : List Ter, (showTs ts).length = ts.length
  | [] => rfl
  | _ :: r => congrArg (· + 1) (showTs_len r)
theorem showTs_app : ∀ as bs : List Ter, showTs (as ++ bs) = showTs as ++ showTs bs
  | [], _ => rfl
  | a :: r, bs => congrArg (showT a :: ·) (showTs_app r bs)
theorem num_len (r : Int) (h0 : 0 ≤ r) (h1 : r < 900) : ((toString r : String) : Str).length ≤ 4 := by
  have a : ∀ r : Fin 900, (((toString ((r.val : Nat) : Int)) : String) : Str).length ≤ 4 := by decide +kernel
  have e : r = ((r.toNat : Nat) : Int) := by omega
  rw [e]
  exact a ⟨r.toNat, by omega⟩
end Own
namespace Own
open PySem PySem.Spec PyProof.Rows L2 RT HT

def tlen (ys : List Str) : Nat := (ys.map (·.length)).sum
theorem tlen_cons (y : Str) (ys : List Str) : tlen (y :: ys) = y.length + tlen ys := by
  unfold tlen
  rw [List.map_cons, List.sum_cons]
theorem join_len (sep : Str) : ∀ ys : List Str, (Txt.join sep ys).length ≤ tlen ys + ys.length * sep.length
  | [] => by rw [TL.join_eq]; exact Nat.zero_le _
  | [x] => by
    rw [TL.join_eq, tlen_cons]
    show x.length ≤ _
    omega
  | x :: y :: r => by
    have ih := join_len sep (y :: r)
    rw [TL.join_eq] at ih ⊢
    show (x ++ sep ++ Str.join sep (y :: r)).length ≤ _
    rw [app_len, app_len, tlen_cons, List.length_cons, Nat.succ_mul]
    omega
theorem len1 : ("X" : Str).length = 1 ∧ ("(" : Str).length = 1 ∧ (")" : Str).length = 1 ∧ ("," : Str).length = 1 := by decide +kernel
mutual
theorem showT_len : ∀ t : Ter, t.wf shSym shKey → (showT t).length + 1 ≤ 60 * t.size
  | .var (.inl i), h => by
    have q := num_len i h.1 h.2
    show (("X" : Str) ++ (toString i : String)).length + 1 ≤ 60
    rw [app_len, len1.1]
    omega
  | .var (.inr x), h => by
    have q : x.length ≤ 40 := h.1
    show x.length + 1 ≤ 60
    omega
  | .ap f [], h => by
    have q : f.length ≤ 40 := h.1.1
    show f.length + 1 ≤ 60
    omega
  | .ap f (a :: r), h => by
    have q : f.length ≤ 40 := h.1.1
    have q2 := showTs_len2 (a :: r) h.2
    have q3 := join_len "," (showTs (a :: r))
    rw [showTs_len, len1.2.2.2] at q3
    show (f ++ (("(" : Str) ++ (Txt.join "," (showTs (a :: r)) ++ (")" : Str)))).length + 1 ≤ 60 * (Ter.sizes (a :: r) + 1)
    rw [app_len, app_len, app_len, len1.2.1, len1.2.2.1]
    omega
theorem showTs_len2 : ∀ ts : List Ter, Ter.wfs shSym shKey ts → tlen (showTs ts) + ts.length ≤ 60 * Ter.sizes ts
  | [], _ => Nat.le_refl _
  | t :: r, h => by
    have q1 := showT_len t h.1
    have q2 := showTs_len2 r h.2
    show tlen (showT t :: showTs r) + (r.length + 1) ≤ 60 * (t.size + Ter.sizes r)
    rw [tlen_cons]
    omega
end
/-! ### literals -/
def showL (b : Bool) (l r : Ter) : Str :=
  if isTrueT r = true then (if b = true then showT l else ("~" : Str) ++ showT l) else showT l ++ ((if b = true then (" = " : Str) else (" != " : Str)) ++ showT r)
def Lit := Bool × Ter × Ter
def Lit.ok (x : Lit) : Prop := x.2.1.wf shSym shKey ∧ x.2.2.wf shSym shKey ∧ x.2.1.nest ≤ 60 ∧ x.2.2.nest ≤ 60 ∧ x.2.1.size ≤ 1000 ∧ x.2.2.size ≤ 1000
inductive LitAt (H : Hp) : V → Lit → Prop
  | mk {p : Addr} {b : Bool} {x y : V} {l r : Ter} : H p = some (.tup [.bl b, x, y]) → TmAt H x l → TmAt H y r → LitAt H (.ref p) (b, l, r)
theorem LitAt.mono {H H' : Hp} (m : Tups H H') {v : V} {x : Lit} (h : LitAt H v x) : LitAt H' v x := by
  cases h with
  | mk e a b => exact .mk (m _ _ e) (TmAt.mono m _ _ a) (TmAt.mono m _ _ b)
inductive LitAll (H : Hp) : List V → List Lit → Prop
  | nil : LitAll H [] []
  | cons {v : V} {vs : List V} {x : Lit} {xs : List Lit} : LitAt H v x → LitAll H vs xs → LitAll H (v :: vs) (x :: xs)
theorem LitAll.mono {H H' : Hp} (m : Tups H H') : ∀ {vs : List V} {xs : List Lit}, LitAll H vs xs → LitAll H' vs xs
  | _, _, .nil => .nil
  | _, _, .cons a r => .cons (a.mono m) (r.mono m)
theorem LitAll.app {H : Hp} : ∀ {vs ws : List V} {xs ys : List Lit}, LitAll H vs xs → LitAll H ws ys → LitAll H (vs ++ ws) (xs ++ ys)
  | _, _, _, _, .nil, h => h
  | _, _, _, _, .cons a r, h => .cons a (r.app h)
theorem LitAll.len {H : Hp} : ∀ {vs : List V} {xs : List Lit}, LitAll H vs xs → vs.length = xs.length
  | _, _, .nil => rfl
  | _, _, .cons _ t => congrArg (· + 1) t.len
theorem LitAll.get {H : Hp} : ∀ {vs : List V} {xs : List Lit} {i : Nat} {v : V}, LitAll H vs xs → vs[i]? = some v → ∃ x, xs[i]? = some x ∧ LitAt H v x
  | _, _, _, _, .nil, e => by simp at e
  | _, _, 0, _, .cons a r, e => by
    simp at e
    subst e
    exact ⟨_, rfl, a⟩
  | _, _, i + 1, v, .cons a r, e => by
    obtain ⟨t, h1, h2⟩ := LitAll.get (i := i) (v := v) r (by simpa using e)
    exact ⟨t, by simpa using h1, h2⟩
def showC (c : List Lit) : List Str := c.map fun x => showL x.1 x.2.1 x.2.2
theorem showL_len {b : Bool} {l r : Ter} (h1 : l.wf shSym shKey) (h2 : r.wf shSym shKey) (s1 : l.size ≤ 1000) (s2 : r.size ≤ 1000) : (showL b l r).length ≤ 200000 := by
  have q1 := showT_len l h1
  have q2 := showT_len r h2
  have z1 : ("~" : Str).length = 1 := by decide +kernel
  have z2 : (" = " : Str).length = 3 := by decide +kernel
  have z3 : (" != " : Str).length = 4 := by decide +kernel
  unfold showL
  split
  · split
    · omega
    · rw [app_len, z1]; omega
  · rw [app_len, app_len]
    split
    · rw [z2]; omega
    · rw [z3]; omega
/-! ### formulas -/
inductive Op | and | or | imp | iff
def Op.word : Op → Str
  | .and => "and"
  | .or => "or"
  | .imp => "implies"
  | .iff => "iff"
def Op.sign : Op → Str
  | .and => "&"
  | .or => "|"
  | .imp => "->"
  | .iff => "<->"
def qWord (a : Bool) : Str := if a = true then "all" else "some"
inductive Fm where
  | tt (b : Bool)
  | eq (l r : Ter)
  | neg (f : Fm)
  | bin (o : Op) (f g : Fm)
  | qu (a : Bool) (x : Str) (f : Fm)
def Fm.ter : Fm → Ter
  | .tt b => .ap (if b = true then "true" else "false") []
  | .eq l r => .ap "equal" [l, r]
  | .neg f => .ap "not" [f.ter]
  | .bin o f g => .ap o.word [f.ter, g.ter]
  | .qu a x f => .ap (qWord a) [.var (.inr x), f.ter]
def Fm.high : Fm → Nat
  | .tt _ => 1
  | .eq _ _ => 1
  | .neg f => f.high + 1
  | .bin _ f g => max f.high g.high + 1
  | .qu _ _ f => f.high + 1
def Fm.all (R : Ter → Prop) (S : Str → Prop) : Fm → Prop
  | .tt _ => True
  | .eq l r => R l ∧ R r
  | .neg f => f.all R S
  | .bin _ f g => f.all R S ∧ g.all R S
  | .qu _ x f => S x ∧ f.all R S
def showF : Fm → Str
  | .tt b => if b = true then "true" else "false"
  | .eq l r => showL true l r
  | .neg (.eq l r) => showL false l r
  | .neg f => ("~" : Str) ++ showF f
  | .bin o f g => ("(" : Str) ++ (showF f ++ ((" " : Str) ++ (o.sign ++ ((" " : Str) ++ (showF g ++ (")" : Str))))))
  | .qu a x f => ("(" : Str) ++ (qWord a ++ ((" " : Str) ++ (x ++ ((": " : Str) ++ (showF f ++ (")" : Str))))))
end Own
namespace Own
open PySem PySem.Spec PyProof.Rows L2 RT HT

def fmTer (t : Ter) : Prop := t.wf shSym shKey ∧ t.nest ≤ 60 ∧ t.size ≤ 200
def fmStr (x : Str) : Prop := x.length ≤ 40
theorem showL_len2 {b : Bool} {l r : Ter} (h1 : l.wf shSym shKey) (h2 : r.wf shSym shKey) (s1 : l.size ≤ 200) (s2 : r.size ≤ 200) : (showL b l r).length ≤ 25000 := by
  have q1 := showT_len l h1
  have q2 := showT_len r h2
  have z1 : ("~" : Str).length = 1 := by decide +kernel
  have z2 : (" = " : Str).length = 3 := by decide +kernel
  have z3 : (" != " : Str).length = 4 := by decide +kernel
  unfold showL
  split
  · split
    · omega
    · rw [app_len, z1]; omega
  · rw [app_len, app_len]
    split
    · rw [z2]; omega
    · rw [z3]; omega
theorem lens : ("(" : Str).length = 1 ∧ (")" : Str).length = 1 ∧ (" " : Str).length = 1 ∧ (": " : Str).length = 2 ∧ ("~" : Str).length = 1 := by decide +kernel
theorem sign_len (o : Op) : o.sign.length ≤ 3 := by cases o <;> decide +kernel
theorem q_len (a : Bool) : (qWord a).length ≤ 4 := by cases a <;> decide +kernel
theorem two_max (a b : Nat) : 2 ^ a ≤ 2 ^ max a b ∧ 2 ^ b ≤ 2 ^ max a b := ⟨Nat.pow_le_pow_right (by decide) (Nat.le_max_left _ _), Nat.pow_le_pow_right (by decide) (Nat.le_max_right _ _)⟩
theorem showF_len : ∀ f : Fm, f.all fmTer fmStr → (showF f).length + 60 ≤ 25100 * 2 ^ f.high
  | .tt b, _ => by
    show (if b = true then ("true" : Str) else "false").length + 60 ≤ 25100 * 2 ^ 1
    have z1 : ("true" : Str).length = 4 := by decide +kernel
    have z2 : ("false" : Str).length = 5 := by decide +kernel
    split <;> omega
  | .eq l r, h => by
    have q := showL_len2 (b := true) h.1.1 h.2.1 h.1.2.2 h.2.2.2
    show (showL true l r).length + 60 ≤ 25100 * 2 ^ 1
    omega
  | .neg (.eq l r), h => by
    have q := showL_len2 (b := false) h.1.1 h.2.1 h.1.2.2 h.2.2.2
    show (showL false l r).length + 60 ≤ 25100 * 2 ^ 2
    omega
  | .neg (.tt b), h => neg_len (.tt b) (showF_len (.tt b) h)
  | .neg (.neg f), h => neg_len (.neg f) (showF_len (.neg f) h)
  | .neg (.bin o f g), h => neg_len (.bin o f g) (showF_len (.bin o f g) h)
  | .neg (.qu a x f), h => neg_len (.qu a x f) (showF_len (.qu a x f) h)
  | .bin o f g, h => by
    have q1 := showF_len f h.1
    have q2 := showF_len g h.2
    obtain ⟨z1, z2, z3, z4, z5⟩ := lens
    have z6 := sign_len o
    obtain ⟨m1, m2⟩ := two_max f.high g.high
    show (("(" : Str) ++ (showF f ++ ((" " : Str) ++ (o.sign ++ ((" " : Str) ++ (showF g ++ (")" : Str))))))).length + 60 ≤ 25100 * 2 ^ (max f.high g.high + 1)
    rw [app_len, app_len, app_len, app_len, app_len, app_len, Nat.pow_succ]
    omega
  | .qu a x f, h => by
    have q1 := showF_len f h.2
    have q2 : x.length ≤ 40 := h.1
    obtain ⟨z1, z2, z3, z4, z5⟩ := lens
    have z6 := q_len a
    have p : 1 ≤ 2 ^ f.high := Nat.one_le_two_pow
    show (("(" : Str) ++ (qWord a ++ ((" " : Str) ++ (x ++ ((": " : Str) ++ (showF f ++ (")" : Str))))))).length + 60 ≤ 25100 * 2 ^ (f.high + 1)
    rw [app_len, app_len, app_len, app_len, app_len, app_len, Nat.pow_succ]
    omega
where
  neg_len (f : Fm) (h : (showF f).length + 60 ≤ 25100 * 2 ^ f.high) : (("~" : Str) ++ showF f).length + 60 ≤ 25100 * 2 ^ (f.high + 1) := by
    obtain ⟨z1, z2, z3, z4, z5⟩ := lens
    have p : 1 ≤ 2 ^ f.high := Nat.one_le_two_pow
    rw [app_len, Nat.pow_succ]
    omega
def Fm.isEq : Fm → Bool
  | .eq _ _ => true
  | _ => false
theorem showF_neg {f : Fm} (h : f.isEq = false) : showF (.neg f) = ("~" : Str) ++ showF f := by
  cases f with
  | eq l r => cases h
  | _ => rfl
theorem zB {n : Nat} (h : n ≤ 16000000) : n ≤ sizeLine := Nat.le_trans h (by decide)
def Fm.head : Fm → Str
  | .tt b => if b = true then "true" else "false"
  | .eq _ _ => "equal"
  | .neg _ => "not"
  | .bin o _ _ => o.word
  | .qu a _ _ => qWord a
def Fm.tail : Fm → List Ter
  | .tt _ => []
  | .eq l r => [l, r]
  | .neg f => [f.ter]
  | .bin _ f g => [f.ter, g.ter]
  | .qu _ x f => [.var (.inr x), f.ter]
theorem fm_ter (f : Fm) : f.ter = .ap f.head f.tail := by cases f <;> rfl
theorem fm_at {H : Hp} {v : V} {f : Fm} (h : TmAt H v f.ter) : ∃ a xs, v = .ref a ∧ H a = some (.tup (.str f.head :: xs)) ∧ TmAll H xs f.tail := by
  rw [fm_ter] at h
  cases h with
  | ap e hs => exact ⟨_, _, rfl, e, hs⟩
theorem headN {f : Fm} {s : Str} {b : Bool} (w : Str) (h : f.head = w) (d : (w == s) = b) : (f.head == s) = b := by
  rw [h]
  exact d
theorem head_eq (f : Fm) : (f.head == ("equal" : Str)) = f.isEq := by
  cases f with
  | tt b => cases b <;> decide +kernel
  | eq l r => exact headN (b := true) "equal" rfl (by decide +kernel)
  | neg f => exact headN (b := false) "not" rfl (by decide +kernel)
  | bin o f g => exact headN (b := false) o.word rfl (by cases o <;> decide +kernel)
  | qu a x f => exact headN (b := false) (qWord a) rfl (by cases a <;> decide +kernel)
theorem all_two {H : Hp} {xs : List V} {a b : Ter} (h : TmAll H xs [a, b]) : ∃ x y, xs = [x, y] ∧ TmAt H x a ∧ TmAt H y b := by
  cases h with
  | cons h1 h2 =>
    cases h2 with
    | cons h3 h4 =>
      cases h4
      exact ⟨_, _, rfl, h1, h3⟩
theorem all_one {H : Hp} {xs : List V} {a : Ter} (h : TmAll H xs [a]) : ∃ x, xs = [x] ∧ TmAt H x a := by
  cases h with
  | cons h1 h2 =>
    cases h2
    exact ⟨_, rfl, h1⟩
theorem all_nil {H : Hp} {xs : List V} (h : TmAll H xs []) : xs = [] := by cases h; rfl
theorem at_1 {x y : V} {zs : List V} : atI (x :: y :: zs) 1 = some y := atI_nat (j := 1) rfl
theorem at_2 {x y z : V} {zs : List V} : atI (x :: y :: z :: zs) 2 = some z := atI_nat (j := 2) rfl
end Own
namespace Own
open PySem PySem.Spec PyProof.Rows L2 RT HT

abbrev NAMES5 : List Str := ["X", "Y", "Zeta", "X1", "W_0"]
def nameVar (k : Key) : Prop := ∃ x, k = .inr x ∧ x ∈ NAMES5
theorem name_sh (k : Key) (h : nameVar k) : shKey k := by
  obtain ⟨x, rfl, hx⟩ := h
  have a : ∀ x ∈ NAMES5, x.length ≤ 40 ∧ PyData.strOk x = true := by decide +kernel
  exact a x hx
theorem num_sh (k : Key) (h : numVar k) : shKey k := by
  obtain ⟨r, rfl, h0, h1⟩ := h
  exact ⟨h0, h1⟩
theorem sym_sh {ws : List Str} (hw : Words ws) (f : Str) (n : Nat) (h : symOf ws f n) : shSym f n := by
  obtain ⟨i, _, e, _⟩ := h
  have o := hw.ok f (List.mem_of_getElem? e)
  exact ⟨o.len, wordok_str o⟩
theorem word_sh {ws : List Str} (hw : Words ws) {f : Str} {n : Nat} (h : f ∈ ws) : shSym f n := ⟨(hw.ok f h).len, wordok_str (hw.ok f h)⟩
theorem true_sh : trueT.wf shSym shKey := ⟨⟨by decide +kernel, by decide +kernel⟩, trivial⟩
/-- the law's own joining of a literal -/
theorem joinC (c : List Lit) : showC c = c.map fun x => showL x.1 x.2.1 x.2.2 := rfl
theorem showC_snoc (c : List Lit) (x : Lit) : showC (c ++ [x]) = showC c ++ [showL x.1 x.2.1 x.2.2] := by
  unfold showC
  rw [List.map_append]
  rfl
end Own
namespace Own
open PySem PySem.Spec PyProof.Rows L2 HT
/-! ### terms with the places where they stand, and what a match binds -/
inductive DTer where
  | var (k : Key)
  | ap (p : Addr) (f : Str) (as : List DTer)
def DTer.val : DTer → V
  | .var k => kV k
  | .ap p _ _ => .ref p
mutual
def DTer.ter : DTer → Ter
  | .var k => .var k
  | .ap _ f as => .ap f (DTer.ters as)
def DTer.ters : List DTer → List Ter
  | [] => []
  | a :: r => a.ter :: DTer.ters r
end
mutual
def DAt (H : Hp) : DTer → Prop
  | .var _ => True
  | .ap p f as => H p = some (.tup (.str f :: as.map DTer.val)) ∧ DAts H as
def DAts (H : Hp) : List DTer → Prop
  | [] => True
  | a :: r => DAt H a ∧ DAts H r
end
mutual
theorem DAt.mono {H H' : Hp} (m : Tups H H') : ∀ d : DTer, DAt H d → DAt H' d
  | .var _, _ => trivial
  | .ap p f as, h => ⟨m _ _ h.1, DAts.mono m as h.2⟩
theorem DAts.mono {H H' : Hp} (m : Tups H H') : ∀ ds : List DTer, DAts H ds → DAts H' ds
  | [], _ => trivial
  | a :: r, h => ⟨DAt.mono m a h.1, DAts.mono m r h.2⟩
end
mutual
theorem DAt.tm {H : Hp} : ∀ d : DTer, DAt H d → TmAt H d.val d.ter
  | .var (.inl i), _ => .int i
  | .var (.inr x), _ => .str x
  | .ap p f as, h => .ap h.1 (DAts.tm as h.2)
theorem DAts.tm {H : Hp} : ∀ ds : List DTer, DAts H ds → TmAll H (ds.map DTer.val) (DTer.ters ds)
  | [], _ => .nil
  | a :: r, h => .cons (DAt.tm a h.1) (DAts.tm r h.2)
end
mutual
theorem TmAt.deco {H : Hp} : ∀ (t : Ter) (v : V), TmAt H v t → ∃ d : DTer, d.val = v ∧ d.ter = t ∧ DAt H d
  | .var k, v, h => by
    cases h with
    | int i => exact ⟨.var (.inl i), rfl, rfl, trivial⟩
    | str x => exact ⟨.var (.inr x), rfl, rfl, trivial⟩
  | .ap f as, v, h => by
    cases h with
    | @ap p _ xs _ e hs =>
      obtain ⟨ds, e1, e2, h2⟩ := TmAll.deco as xs hs
      subst e1
      subst e2
      exact ⟨.ap p f ds, rfl, rfl, e, h2⟩
theorem TmAll.deco {H : Hp} : ∀ (ts : List Ter) (vs : List V), TmAll H vs ts → ∃ ds : List DTer, ds.map DTer.val = vs ∧ DTer.ters ds = ts ∧ DAts H ds
  | [], vs, h => by
    cases h
    exact ⟨[], rfl, rfl, trivial⟩
  | t :: ts, vs, h => by
    cases h with
    | cons a r =>
      obtain ⟨d, e1, e2, h1⟩ := TmAt.deco t _ a
      obtain ⟨ds, e3, e4, h2⟩ := TmAll.deco ts _ r
      subst e1
      subst e2
      subst e3
      subst e4
      exact ⟨d :: ds, rfl, rfl, h1, h2⟩
end
theorem ters_len : ∀ ds : List DTer, (DTer.ters ds).length = ds.length
  | [] => rfl
  | _ :: r => congrArg (· + 1) (ters_len r)
theorem ters_get : ∀ (ds : List DTer) (i : Nat), (DTer.ters ds)[i]? = (ds[i]?).map DTer.ter
  | [], i => by simp [DTer.ters]
  | a :: r, 0 => by simp [DTer.ters]
  | a :: r, i + 1 => by simp [DTer.ters, ters_get r i]
theorem DAts.get {H : Hp} : ∀ {ds : List DTer} {i : Nat} {d : DTer}, DAts H ds → ds[i]? = some d → DAt H d
  | [], _, _, _, e => by simp at e
  | a :: r, 0, d, h, e => by simp at e; exact e ▸ h.1
  | a :: r, i + 1, d, h, e => DAts.get (ds := r) (i := i) h.2 (by simpa using e)
abbrev Bd := List (Key × DTer)
def bKvs (B : Bd) : List (Key × V) := B.map fun e => (e.1, e.2.val)
def look (B : Bd) (k : Key) : Option DTer := (B.find? fun e => decide (e.1 = k)).map (·.2)
theorem look_val : ∀ (B : Bd) (k : Key), valV (bKvs B) k = (look B k).map DTer.val
  | [], k => rfl
  | e :: r, k => by
    by_cases h : e.1 = k
    · rw [show bKvs (e :: r) = (e.1, e.2.val) :: bKvs r from rfl, valV_pos (p := (e.1, e.2.val)) h]
      unfold look
      rw [List.find?_cons, decide_eq_true h]
      rfl
    · rw [show bKvs (e :: r) = (e.1, e.2.val) :: bKvs r from rfl, valV_neg (p := (e.1, e.2.val)) h, look_val r k]
      unfold look
      rw [List.find?_cons, decide_eq_false h]
theorem look_mem {B : Bd} {k : Key} {u : DTer} (h : look B k = some u) : (k, u) ∈ B := by
  unfold look at h
  cases e : B.find? fun e => decide (e.1 = k) with
  | none => rw [e] at h; cases h
  | some p =>
    rw [e] at h
    have h1 := List.find?_some e
    have h2 := List.mem_of_find?_eq_some e
    have h3 : p.1 = k := of_decide_eq_true h1
    have h4 : p.2 = u := Option.some.inj h
    rw [← h3, ← h4]
    exact h2
mutual
def mtch : Ter → DTer → Bd → Bool × Bd
  | .var k, u, B => match look B k with
    | some s => (PyData.eqv s.ter.dat u.ter.dat, B)
    | none => (true, B ++ [(k, u)])
  | .ap g as, u, B => match u with
    | .var _ => (false, B)
    | .ap _ h bs => if g = h ∧ as.length = bs.length then mtchs as bs B else (false, B)
def mtchs : List Ter → List DTer → Bd → Bool × Bd
  | [], _, B => (true, B)
  | a :: as, us, B => match us with
    | [] => (true, B)
    | b :: bs => if (mtch a b B).1 = true then mtchs as bs (mtch a b B).2 else (false, (mtch a b B).2)
end
theorem val_of_mem : ∀ {kvs : List (Key × V)} {e : Key × V}, (kvs.map (·.1)).Nodup → e ∈ kvs → valV kvs e.1 = some e.2
  | [], _, _, h => by cases h
  | p :: r, e, hn, h => by
    have hn : p.1 ∉ r.map (·.1) ∧ (r.map (·.1)).Nodup := List.nodup_cons.mp hn
    rcases List.mem_cons.mp h with rfl | h
    · exact valV_pos rfl
    · have n : ¬ p.1 = e.1 := fun z => hn.1 (z ▸ List.mem_map_of_mem h)
      rw [valV_neg n]
      exact val_of_mem hn.2 h
/-- small symbols of at most two arguments -/
def s7 (f : Str) (n : Nat) : Prop := shSym f n ∧ n ≤ 2
theorem s7_sh : ∀ t : Ter, t.wf s7 numVar → t.wf shSym shKey := wf_mono (fun _ _ h => h.1) (fun k h => by
  obtain ⟨r, rfl, h1, h2⟩ := h
  exact ⟨h1, h2⟩)
structure Gd (H : Hp) (u : DTer) (N : Nat) : Prop where
  at_ : DAt H u
  wf : u.ter.wf s7 numVar
  ne : u.ter.nest ≤ N
theorem Gd.mono {H H' : Hp} {u : DTer} {N : Nat} (g : Gd H u N) (m : Tups H H') : Gd H' u N := ⟨DAt.mono m _ g.at_, g.wf, g.ne⟩
structure BOk (H : Hp) (B : Bd) (N : Nat) : Prop where
  nd : (B.map (·.1)).Nodup
  al : ∀ e ∈ B, (∃ i, e.1 = .inl i ∧ 0 ≤ i) ∧ Gd H e.2 N
theorem BOk.mono {H H' : Hp} {B : Bd} {N : Nat} (g : BOk H B N) (m : Tups H H') : BOk H' B N := ⟨g.nd, fun e h => ⟨(g.al e h).1, (g.al e h).2.mono m⟩⟩
theorem look_none {B : Bd} {k : Key} (h : look B k = none) : k ∉ B.map (·.1) := by
  intro z
  obtain ⟨e, he, h2⟩ := List.mem_map.mp z
  unfold look at h
  cases q : B.find? fun e => decide (e.1 = k) with
  | none =>
    have := List.find?_eq_none.mp q e he
    exact this (decide_eq_true h2)
  | some p => rw [q] at h; cases h
theorem BOk.snoc {H : Hp} {B : Bd} {N : Nat} (g : BOk H B N) {i : Int} (hi : 0 ≤ i) {u : DTer} (hu : Gd H u N) (h : look B (.inl i) = none) : BOk H (B ++ [(.inl i, u)]) N := by
  refine ⟨?_, fun e he => ?_⟩
  · rw [List.map_append]
    exact nd_snoc g.nd (look_none h)
  · rcases List.mem_append.mp he with he | he
    · exact g.al e he
    · rcases List.mem_cons.mp he with rfl | he
      · exact ⟨⟨i, rfl, hi⟩, hu⟩
      · cases he
mutual
theorem mtch_ok {H : Hp} {N : Nat} : ∀ (p : Ter) (u : DTer) (B : Bd), p.wf s7 numVar → Gd H u N → BOk H B N → BOk H (mtch p u B).2 N ∧ (mtch p u B).2.length ≤ B.length + p.size
  | .var k, u, B, hp, hu, hB => by
    obtain ⟨r, rfl, h1, h2⟩ := hp
    unfold mtch
    cases e : look B (.inl r) with
    | some s => exact ⟨hB, Nat.le_add_right _ _⟩
    | none => exact ⟨hB.snoc h1 hu e, by rw [List.length_append]; exact Nat.le_refl _⟩
  | .ap g as, u, B, hp, hu, hB => by
    unfold mtch
    cases u with
    | var k => exact ⟨hB, Nat.le_add_right _ _⟩
    | ap q h bs =>
      show BOk H (if g = h ∧ as.length = bs.length then mtchs as bs B else (false, B)).2 N ∧ (if g = h ∧ as.length = bs.length then mtchs as bs B else (false, B)).2.length ≤ _
      by_cases c : g = h ∧ as.length = bs.length
      · rw [if_pos c]
        have hn : Ter.nests (DTer.ters bs) + 1 ≤ N := hu.ne
        obtain ⟨a, b⟩ := mtchs_ok as bs B hp.2 hu.at_.2 hu.wf.2 (by omega) hB
        exact ⟨a, Nat.le_trans b (Nat.add_le_add_left (Nat.le_succ _) _)⟩
      · rw [if_neg c]
        exact ⟨hB, Nat.le_add_right _ _⟩
theorem mtchs_ok {H : Hp} {N : Nat} : ∀ (ps : List Ter) (us : List DTer) (B : Bd), Ter.wfs s7 numVar ps → DAts H us → Ter.wfs s7 numVar (DTer.ters us) → Ter.nests (DTer.ters us) ≤ N → BOk H B N → BOk H (mtchs ps us B).2 N ∧ (mtchs ps us B).2.length ≤ B.length + Ter.sizes ps
  | [], _, B, _, _, _, _, hB => ⟨hB, Nat.le_add_right _ _⟩
  | a :: as, [], B, _, _, _, _, hB => ⟨hB, Nat.le_add_right _ _⟩
  | a :: as, b :: bs, B, hp, hu, hw, hn, hB => by
    have hn : max b.ter.nest (Ter.nests (DTer.ters bs)) ≤ N := hn
    have z : Ter.sizes (a :: as) = a.size + Ter.sizes as := rfl
    obtain ⟨x, y⟩ := mtch_ok a b B hp.1 ⟨hu.1, hw.1, by omega⟩ hB
    show BOk H (if (mtch a b B).1 = true then mtchs as bs (mtch a b B).2 else (false, (mtch a b B).2)).2 N ∧ (if (mtch a b B).1 = true then mtchs as bs (mtch a b B).2 else (false, (mtch a b B).2)).2.length ≤ _
    by_cases c : (mtch a b B).1 = true
    · rw [if_pos c]
      obtain ⟨x2, y2⟩ := mtchs_ok as bs _ hp.2 hu.2 hw.2 (by omega) x
      exact ⟨x2, by omega⟩
    · rw [if_neg c]
      exact ⟨x, by show (mtch a b B).2.length ≤ _; omega⟩
end
mutual
theorem ter_refl : ∀ t : Ter, PyData.eqv t.dat t.dat = true
  | .var (.inl i) => by show PyData.eqv (.int i) (.int i) = true; simp [PyData.eqv]
  | .var (.inr x) => by show PyData.eqv (.str x) (.str x) = true; simp [PyData.eqv]
  | .ap f as => by
    show PyData.eqv (.tuple (.str f :: Ter.dats as)) (.tuple (.str f :: Ter.dats as)) = true
    rw [PyData.eqv, PyData.eqvAll, ters_refl as]
    simp [PyData.eqv]
theorem ters_refl : ∀ ts : List Ter, PyData.eqvAll (Ter.dats ts) (Ter.dats ts) = true
  | [] => rfl
  | t :: r => by
    show PyData.eqvAll (t.dat :: Ter.dats r) (t.dat :: Ter.dats r) = true
    rw [PyData.eqvAll, ter_refl t, ters_refl r]
    rfl
end
theorem Gd.fine {H : Hp} {u : DTer} (g : Gd H u 40) : SeqAt.shaped u.ter.dat = true := shaped_ter (sh_fine _ (s7_sh _ g.wf)) (by have := g.ne; omega)
theorem But.tupsK {d : Addr} {H H' : Hp} {kvs : List (Key × V)} (a : But d H H') (h : H d = some (.dK kvs)) : Tups H H' := fun b xs e => a b _ (ne_of e h (by intro z; cases z)) e
end Own
namespace Own
open PySem PySem.Spec PyProof.Rows L2 HT
/-! ### < of data; sorted over a dict with tuple keys -/
section
variable {X : Cx}
def rLtD (K : PySem.W.Frag) : R2 := fun x y H Q => ∃ d e, Dp K H x d ∧ Dp K H y e ∧ PySem.W.alike d e = true ∧ d ≠ .none ∧ d.depth ≤ 64 ∧ Q (.bl (PySem.W.dataLt d e)) H
theorem op_ltD (hu : X.A.units + 64 < cLine) : OpR X (compareOp .Lt) (rLtD X.K) := by
  intro pins s σ H x y v u Q I rx ry h
  obtain ⟨d, e, hd, he, ha, hn, h64, q⟩ := h
  obtain ⟨as, r1⟩ := Dp.reads I d x v hd rx
  obtain ⟨bs, r2⟩ := Dp.reads I e y u he ry
  exact PySem.W.lt_data r1 r2 ha hn (by omega) ⟨.bl _, H, I, rfl, q⟩
/-- a key tuple as data -/
def keyD (k : List Key) : PyData := .tuple (k.map kD)
def keysLe : Addr × List Key → Addr × List Key → Bool := PySem.W.dataLe false fun z => keyD z.2
def rSortedDT (K : PySem.W.Frag) : List V → Hp → VK → Prop := fun vs H Q => ∃ (a : Addr) (kvs : List (List Key × V)), vs = [V.ref a] ∧ H a = some (.dT kvs) ∧ kvs.length ≤ 100000 ∧
  PySem.W.AllAlike (kvs.map fun p => keyD p.1) ∧ (∀ p ∈ kvs, ∃ x r, p.1 = x :: r) ∧ (∀ p ∈ kvs, (keyD p.1).depth ≤ 60) ∧
  ∀ (ps : List (Addr × List Key)) (p : Addr), ps.map (·.2) = kvs.map (·.1) → (∀ z ∈ ps, H z.1 = some (.tup (z.2.map kV))) → H p = none → Q (.ref p) (upd H p (.lst ((ps.mergeSort keysLe).map fun z => V.ref z.1)))
theorem dp_key {K : PySem.W.Frag} {H : Hp} : ∀ k : List Key, DpAll K H (k.map kV) (k.map kD)
  | [] => .nil
  | .inl i :: r => .cons (.int i) (dp_key r)
  | .inr x :: r => .cons (.str x) (dp_key r)
theorem cr_sortedDT (hc : X.calm = true) (hu : X.A.units + 64 < cLine) : CallR X (.builtin "sorted") (rSortedDT X.K) := by
  intro pins s σ H xs us Q I r h
  obtain ⟨a, kvs, rfl, hd, hlen, hal, hne, hdep, q⟩ := h
  obtain ⟨u, rfl, rx⟩ := r.one
  cases rx
  obtain ⟨z, hs, ks, pr, o, es, ep, ho, hx, hdt, he, hn⟩ := (show ObjOk X.prog X.w H s.heap a (.dT kvs) from I.hok _ _ hd)
  have l1 : es.size = ks.length := size_of_entries he
  have l2 : kvs.length = ks.length := Paired.length pr
  refine Calls.call_function_entry PyProof.Rows.kind_sorted PyProof.Rows.plain_sorted PyProof.Rows.entry_sorted (PyProof.Rows.args_sorted1 _) ?_
  unfold Builtin.«sorted»
  refine wpAny_bind (m := checkCount "sorted" 1 1 _) (wpAny_pure ?_)
  refine wpAny_bind (PySem.W.kdu_collect (A := X.A.in1) (kdl_raw hs hx hdt) (I.ok.hd hc) ho (by rw [l1, ← l2]; exact Nat.le_trans hlen (by decide)) fun h' tk acc' kp it => ?_)
  have ea : acc'.toList = (ks.map fun x => x.2.1).map Value.ref := by
    rw [List.map_map]
    have hl : acc'.toList.length = ks.length := by rw [Array.length_toList, it.1]; exact l1
    apply List.ext_getElem?
    intro j
    rw [List.getElem?_map]
    cases hj : acc'.toList[j]? with
    | none =>
      have h1 := List.getElem?_eq_none_iff.mp hj
      rw [List.getElem?_eq_none (by omega)]
      all_goals rfl
    | some v =>
      obtain ⟨en, hen, hv⟩ := it.2 j v (by rw [← Array.getElem?_toList]; exact hj)
      have qe := entry_at he j
      rw [hen] at qe
      cases hb : ks[j]? with
      | none =>
        rw [hb] at qe
        exact nomatch (show some en = none from qe)
      | some b =>
        rw [hb] at qe
        have e2 : en = entryOfKey (tupleKind (mixKind X.prog X.w)) b := Option.some.inj qe
        rw [hv, e2]
        all_goals rfl
  -- the keys with their places
  generalize hps : (ks.map fun x => (x.2.1, x.1)) = ps
  have e1 : ps.map (·.2) = kvs.map (·.1) := by
    rw [← hps, List.map_map]
    clear hps q ea it he hdt l1 l2 hal hne hdep hlen hd z hn
    induction pr with
    | nil => rfl
    | cons h t ih => rw [List.map_cons, List.map_cons, ih]; exact congrArg (· :: _) h.1.symm
  have e2 : ∀ z ∈ ps, H z.1 = some (.tup (z.2.map kV)) := by
    rw [← hps]
    clear hps q ea it he hdt l1 l2 hal hne hdep hlen hd e1 z hn
    induction pr with
    | nil => intro z hz; cases hz
    | cons h t ih =>
      intro z hz
      rcases List.mem_cons.mp hz with rfl | hz
      · show H _ = some (.tup (_))
        rw [h.2.1, h.1]
      · exact ih z hz
  have e3 : (ks.map fun x => x.2.1) = ps.map (·.1) := by rw [← hps, List.map_map]; rfl
  have lps : ps.length = kvs.length := by rw [← hps, List.length_map, l2]
  have hvs : acc'.toList = ps.map fun z => Value.ref z.1 := by rw [ea, e3, List.map_map]; rfl
  have hsz : acc'.toList.length ≤ sizeLine := by rw [hvs, List.length_map, lps]; exact Nat.le_trans hlen (by decide)
  have er : ∀ (h'' : Heap), (∀ b ob, s.heap.get? b = some ob → h''.get? b = some ob) → PySem.W.EachIs (fun v b => ∃ as, Reads h'' v (keyD b.2) as) acc'.toList ps := fun h'' k => by
    rw [hvs]
    have : ∀ qs : List (Addr × List Key), (∀ z ∈ qs, H z.1 = some (.tup (z.2.map kV))) → PySem.W.EachIs (fun v b => ∃ as, Reads h'' v (keyD b.2) as) (qs.map fun z => Value.ref z.1) qs := fun qs => by
      induction qs with
      | nil => exact fun _ => .nil
      | cons z r ih =>
        intro hq
        obtain ⟨as, rd⟩ := Dp.reads I (keyD z.2) (.ref z.1) (.ref z.1) (.tup (.inl (.inl (hq z List.mem_cons_self))) (dp_key _)) rfl
        exact .cons ⟨as, PyProof.Rows.Reads.keeps k rd⟩ (ih fun y hy => hq y (List.mem_cons_of_mem _ hy))
    exact this ps e2
  have I1 : Inv X pins σ H { s with heap := h', toks := tk } := I.kept kp
  refine wpAny_bind (wpAny_newList ?_ hsz)
  have hoL : (h'.push (seqObj "list" acc'.toList.toArray 0)).get? h'.objs.size = some (seqObj "list" acc'.toList.toArray 0) := Heap.get?_push_size _ rfl
  show wpAny _ _ _ _ _ { s with heap := h'.push (seqObj "list" acc'.toList.toArray 0), toks := tk }
  have hk2 : ∀ b ob, s.heap.get? b = some ob → (PySem.W.sortingHeap (h'.push (seqObj "list" acc'.toList.toArray 0)) h'.objs.size acc'.toList).get? b = some ob := fun b ob e => by
    have e4 := kp b ob e
    exact PySem.W.sortingHeap_old (Nat.ne_of_lt (Heap.lt_size e4)) (Heap.get?_push_of_some _ e4)
  have er2 := er _ hk2
  have hmm : ∀ z ∈ ps, ∃ p ∈ kvs, p.1 = z.2 := fun z hz => by
    have : z.2 ∈ kvs.map (·.1) := by rw [← e1]; exact List.mem_map_of_mem hz
    obtain ⟨p, hp, e⟩ := List.mem_map.mp this
    exact ⟨p, hp, e⟩
  have hal2 : PySem.W.AllAlike (ps.map fun z => keyD z.2) := fun d hd d' hd' => by
    obtain ⟨z, hz, rfl⟩ := List.mem_map.mp hd
    obtain ⟨z', hz', rfl⟩ := List.mem_map.mp hd'
    obtain ⟨p, hp, e⟩ := hmm z hz
    obtain ⟨p', hp', e'⟩ := hmm z' hz'
    rw [← e, ← e']
    exact hal _ (List.mem_map_of_mem (f := fun p : List Key × V => keyD p.1) hp) _ (List.mem_map_of_mem (f := fun p : List Key × V => keyD p.1) hp')
  have hso : PySem.W.Sortable (ps.map fun z => keyD z.2) := .inl fun d hd => by
    obtain ⟨z, hz, rfl⟩ := List.mem_map.mp hd
    obtain ⟨p, hp, e⟩ := hmm z hz
    obtain ⟨x, r, e5⟩ := hne p hp
    refine ⟨kD x, r.map kD, ?_⟩
    show PyData.tuple (z.2.map kD) = _
    rw [← e, e5]
    rfl
  have S := PySem.W.SortsAt.data (prog := X.prog) (w := X.w) (A := X.A.in1.in1) (s := { s with heap := PySem.W.sortingHeap (h'.push (seqObj "list" acc'.toList.toArray 0)) h'.objs.size acc'.toList, toks := tk }) (PySem.W.each_map (R := fun v d => ∃ as, Reads (PySem.W.sortingHeap (h'.push (seqObj "list" acc'.toList.toArray 0)) h'.objs.size acc'.toList) v d as) (fun z : Addr × List Key => keyD z.2) er2) hal2 hso (fun d hd => by
    obtain ⟨z, hz, rfl⟩ := List.mem_map.mp hd
    obtain ⟨p, hp, e⟩ := hmm z hz
    have := hdep p hp
    rw [e] at this
    show X.A.units + 2 + _ < cLine
    omega)
  have out := PySem.W.sortVals_data (R := fun v (z : Addr × List Key) => v = Value.ref z.1) false (show PySem.W.EachIs (fun v (z : Addr × List Key) => v = Value.ref z.1) acc'.toList ps from by
    rw [hvs]
    clear hps e1 e2 e3 lps hvs er er2 hmm hal2 hso S
    induction ps with
    | nil => exact .nil
    | cons z r ih => exact .cons rfl ih) er2 hal2
  refine wpAny_bind (wpAny_holding (wpAny_call_entry PyProof.Rows.slot_list_sort ⟨_, hoL, rfl⟩ PyProof.Rows.entry_list_sort
    (PySem.W.list_sort_vals (s := { s with heap := h'.push (seqObj "list" acc'.toList.toArray 0), toks := tk }) hoL S hsz ⟨_, rfl, ?_⟩)
    (PyProof.Rows.args_list_sort _)))
  generalize (PySem.W.sortVals (PySem.W.dataKind (PySem.W.sortingHeap (h'.push (seqObj "list" acc'.toList.toArray 0)) h'.objs.size acc'.toList) (ps.map fun z => keyD z.2)) false acc'.toList acc'.toList) = ov at out
  obtain ⟨e', he'⟩ := PyProof.Rows.sortedHeap_at (vs := acc'.toList) (out := ov.toArray) hoL
  have hov : ov = (ps.mergeSort keysLe).map fun z => Value.ref z.1 := by
    have : ∀ (vs : List Value) (qs : List (Addr × List Key)), PySem.W.EachIs (fun v (z : Addr × List Key) => v = Value.ref z.1) vs qs → vs = qs.map fun z => Value.ref z.1 := fun vs qs h => by
      induction h with
      | nil => rfl
      | cons a _ ih => rw [List.map_cons, ← ih, a]
    exact this _ _ out
  have lov : ((ps.mergeSort keysLe).map fun z => V.ref z.1).length ≤ sizeLine := by
    rw [List.length_map, List.length_mergeSort, lps]
    exact Nat.le_trans hlen (by decide)
  have rv : Vals ((ps.mergeSort keysLe).map fun z => V.ref z.1) ov := by
    rw [hov]
    have := vals_refs ((ps.mergeSort keysLe).map (·.1))
    rw [List.map_map, List.map_map] at this
    exact this
  refine wpAny_pure ⟨_, rfl, .ref h'.objs.size, upd H h'.objs.size (.lst ((ps.mergeSort keysLe).map fun z => V.ref z.1)), I1.laid (t' := tk) (fun b u e => ?_) (Nat.le_refl _)
    (show ObjOk X.prog X.w _ _ _ (.lst ((ps.mergeSort keysLe).map fun z => V.ref z.1)) from ⟨lov, ov, e', rv, he'⟩), rfl, q ps _ e1 e2 (I1.hok.fresh (Nat.le_refl _))⟩
  have hb : b < h'.objs.size := Heap.lt_size e
  rw [PyProof.Rows.sortedHeap_old (Nat.ne_of_lt hb) (by rw [size_push']; exact Nat.lt_succ_of_lt hb)]
  exact Heap.get?_push_of_some _ e
end
end Own
namespace Own
open PySem PySem.Spec PyProof.Rows L2 HT
/-! ### pairs of a symbol and its number of arguments -/
abbrev Pr := Str × Nat
def prD (p : Pr) : PyData := .tuple [.str p.1, .int p.2]
def prV (p : Pr) : List V := [.str p.1, .int (p.2 : Int)]
def prK (p : Pr) : List Key := [.inr p.1, .inl (p.2 : Int)]
theorem prK_inj {p q : Pr} (h : prK p = prK q) : p = q := by
  obtain ⟨a, b⟩ := p
  obtain ⟨c, d⟩ := q
  unfold prK at h
  simp only [List.cons.injEq, Sum.inr.injEq, Sum.inl.injEq, and_true] at h
  obtain ⟨h1, h2⟩ := h
  exact Prod.ext h1 (by show b = d; omega)
theorem keyD_pr (p : Pr) : keyD (prK p) = prD p := rfl
theorem prK_V (p : Pr) : (prK p).map kV = prV p := rfl
inductive PrAt (H : Hp) : V → Pr → Prop
  | mk {a : Addr} {p : Pr} : H a = some (.tup (prV p)) → PrAt H (.ref a) p
inductive PrAll (H : Hp) : List V → List Pr → Prop
  | nil : PrAll H [] []
  | cons {v : V} {p : Pr} {vs : List V} {ps : List Pr} : PrAt H v p → PrAll H vs ps → PrAll H (v :: vs) (p :: ps)
theorem PrAt.mono {H H' : Hp} (m : Tups H H') {v : V} {p : Pr} (h : PrAt H v p) : PrAt H' v p := by
  cases h with
  | mk e => exact .mk (m _ _ e)
theorem PrAll.mono {H H' : Hp} (m : Tups H H') : ∀ {vs : List V} {ps : List Pr}, PrAll H vs ps → PrAll H' vs ps
  | _, _, .nil => .nil
  | _, _, .cons a r => .cons (a.mono m) (r.mono m)
theorem PrAll.len {H : Hp} : ∀ {vs : List V} {ps : List Pr}, PrAll H vs ps → vs.length = ps.length
  | _, _, .nil => rfl
  | _, _, .cons _ r => congrArg (· + 1) r.len
theorem PrAll.app {H : Hp} : ∀ {vs ws : List V} {ps qs : List Pr}, PrAll H vs ps → PrAll H ws qs → PrAll H (vs ++ ws) (ps ++ qs)
  | _, _, _, _, .nil, b => b
  | _, _, _, _, .cons a r, b => .cons a (r.app b)
theorem PrAll.get {H : Hp} : ∀ {vs : List V} {ps : List Pr} {i : Nat} {v : V}, PrAll H vs ps → vs[i]? = some v → ∃ p, ps[i]? = some p ∧ PrAt H v p
  | _, _, _, _, .nil, h => by cases h
  | _, _, 0, _, .cons a r, h => by
    cases (show some _ = some _ from h)
    exact ⟨_, rfl, a⟩
  | _, _, i + 1, _, .cons a r, h => r.get (i := i) h
theorem PrAll.erase {H : Hp} : ∀ {vs : List V} {ps : List Pr} (i : Nat), PrAll H vs ps → PrAll H (vs.eraseIdx i) (ps.eraseIdx i)
  | _, _, _, .nil => .nil
  | _, _, 0, .cons a r => r
  | _, _, i + 1, .cons a r => .cons a (r.erase i)
theorem dp_pr {K : PySem.W.Frag} {H : Hp} {v : V} {p : Pr} (h : PrAt H v p) : Dp K H v (prD p) := by
  cases h with
  | mk e => exact .tup (.inl (.inl e)) (.cons (.str _) (.cons (.int _) .nil))
theorem dp_prs {K : PySem.W.Frag} {H : Hp} : ∀ {vs : List V} {ps : List Pr}, PrAll H vs ps → DpAll K H vs (ps.map prD)
  | _, _, .nil => .nil
  | _, _, .cons a r => .cons (dp_pr a) (dp_prs r)
/-! ### the order -/
def prLt (p q : Pr) : Bool := PySem.W.dataLt (prD p) (prD q)
theorem eqv_pr (p q : Pr) : PyData.eqv (prD p) (prD q) = decide (p = q) := by
  obtain ⟨a, b⟩ := p
  obtain ⟨c, d⟩ := q
  have e : PyData.eqv (prD (a, b)) (prD (c, d)) = ((a == c) && (((b : Int) == (d : Int)) && true)) := rfl
  rw [e, Bool.and_true]
  by_cases h1 : a = c
  · by_cases h2 : b = d
    · subst h1 h2
      simp
    · have h3 : ¬ ((b : Int) = (d : Int)) := fun z => h2 (by omega)
      rw [beq_eq_false_iff_ne.mpr h3, Bool.and_false]
      exact (decide_eq_false fun z => h2 (congrArg Prod.snd z)).symm
  · rw [beq_eq_false_iff_ne.mpr h1, Bool.false_and]
    exact (decide_eq_false fun z => h1 (congrArg Prod.fst z)).symm
theorem prLt_irr (p : Pr) : prLt p p = false := PySem.W.dataLt_self _
theorem prLt_tr {p q r : Pr} (h1 : prLt p q = true) (h2 : prLt q r = true) : prLt p r = true := PyProof.Rows.lex_trans _ _ _ h1 h2
theorem prLt_asym {p q : Pr} (h1 : prLt p q = true) : prLt q p = false := by
  cases h : prLt q p with
  | false => rfl
  | true => exact absurd ((prLt_irr p).symm.trans (prLt_tr h1 h)) (by decide)
theorem prLt_tot {p q : Pr} (h : p ≠ q) (h1 : prLt p q = false) : prLt q p = true := by
  obtain ⟨a, b⟩ := p
  obtain ⟨c, d⟩ := q
  have e1 : prLt (a, b) (c, d) = if PyData.eqv (.str a) (.str c) = true then (if PyData.eqv (.int (b : Int)) (.int (d : Int)) = true then false else PySem.W.dataLt (.int (b : Int)) (.int (d : Int))) else PySem.W.dataLt (.str a) (.str c) := PySem.W.dataLt_pair rfl rfl
  have e2 : prLt (c, d) (a, b) = if PyData.eqv (.str c) (.str a) = true then (if PyData.eqv (.int (d : Int)) (.int (b : Int)) = true then false else PySem.W.dataLt (.int (d : Int)) (.int (b : Int))) else PySem.W.dataLt (.str c) (.str a) := PySem.W.dataLt_pair rfl rfl
  have es : ∀ x y : Str, PyData.eqv (.str x) (.str y) = (x == y) := fun x y => by rw [PyData.eqv]
  have ei : ∀ x y : Int, PyData.eqv (.int x) (.int y) = (x == y) := fun x y => by rw [PyData.eqv]
  rw [e1, es, ei, PySem.W.dataLt_int, PySem.W.dataLt_str] at h1
  rw [e2, es, ei, PySem.W.dataLt_int, PySem.W.dataLt_str]
  by_cases g1 : a = c
  · subst g1
    have g2 : b ≠ d := fun z => h (by rw [z])
    have g3 : ¬ ((b : Int) = (d : Int)) := fun z => g2 (by omega)
    have g4 : ¬ ((d : Int) = (b : Int)) := fun z => g2 (by omega)
    rw [if_pos (beq_self_eq_true a), if_neg (by rw [beq_eq_false_iff_ne.mpr g3]; decide)] at h1
    rw [if_pos (beq_self_eq_true a), if_neg (by rw [beq_eq_false_iff_ne.mpr g4]; decide)]
    have h1 := of_decide_eq_false h1
    exact decide_eq_true (by omega)
  · have g2 : ¬ c = a := fun z => g1 z.symm
    rw [if_neg (by rw [beq_eq_false_iff_ne.mpr g1]; decide)] at h1
    rw [if_neg (by rw [beq_eq_false_iff_ne.mpr g2]; decide)]
    have h1 := of_decide_eq_false h1
    by_cases h2 : c.cps.toList < a.cps.toList
    · exact decide_eq_true h2
    · exact absurd (strE (List.le_antisymm h2 h1)) g1
theorem prLt_neg {p q r : Pr} (h1 : prLt q p = false) (h2 : prLt r q = false) : prLt r p = false := by
  cases h : prLt r p with
  | false => rfl
  | true =>
    rcases PyProof.Rows.lex_negTrans _ (PySem.W.keyToks (prD q)) _ h with a | a
    · exact absurd (h2.symm.trans a) (by decide)
    · exact absurd (h1.symm.trans a) (by decide)
theorem _root_.L2.Room.units65 {k : Nat} {A : Around} (r : Room k A) : A.units + 65 < cLine := by have := r.un; omega
abbrev Asc (ps : List Pr) : Prop := ps.Pairwise fun a b => prLt a b = true
theorem asc_eq : ∀ {as bs : List Pr}, Asc as → Asc bs → (∀ x, x ∈ as ↔ x ∈ bs) → as = bs
  | [], [], _, _, _ => rfl
  | [], b :: r, _, _, h => by have := (h b).mpr List.mem_cons_self; cases this
  | a :: r, [], _, _, h => by have := (h a).mp List.mem_cons_self; cases this
  | a :: r, b :: s, h1, h2, h => by
    have k1 := List.pairwise_cons.mp h1
    have k2 := List.pairwise_cons.mp h2
    have e : a = b := by
      rcases List.mem_cons.mp ((h a).mp List.mem_cons_self) with e | m1
      · exact e
      rcases List.mem_cons.mp ((h b).mpr List.mem_cons_self) with e | m2
      · exact e.symm
      exact absurd ((prLt_asym (k1.1 b m2)).symm.trans (k2.1 a m1)) (by decide)
    subst e
    refine congrArg (a :: ·) (asc_eq k1.2 k2.2 fun x => ⟨fun m => ?_, fun m => ?_⟩)
    · rcases List.mem_cons.mp ((h x).mp (List.mem_cons_of_mem _ m)) with e | m'
      · subst e
        exact absurd ((prLt_irr x).symm.trans (k1.1 x m)) (by decide)
      · exact m'
    · rcases List.mem_cons.mp ((h x).mpr (List.mem_cons_of_mem _ m)) with e | m'
      · subst e
        exact absurd ((prLt_irr x).symm.trans (k2.1 x m)) (by decide)
      · exact m'
/-! ### the symbols of a term, and the term with greater variables -/
mutual
def Ter.syms : Ter → List Pr
  | .var _ => []
  | .ap f as => (f, as.length) :: Ter.symss as
def Ter.symss : List Ter → List Pr
  | [] => []
  | a :: r => a.syms ++ Ter.symss r
end
theorem symss_app : ∀ as bs : List Ter, Ter.symss (as ++ bs) = Ter.symss as ++ Ter.symss bs
  | [], _ => rfl
  | a :: r, bs => by
    show a.syms ++ Ter.symss (r ++ bs) = (a.syms ++ Ter.symss r) ++ Ter.symss bs
    rw [symss_app r bs, List.append_assoc]
mutual
def Ter.shift (n : Int) : Ter → Ter
  | .var (.inl i) => .var (.inl (i + n))
  | .var (.inr x) => .var (.inr x)
  | .ap f as => .ap f (Ter.shifts n as)
def Ter.shifts (n : Int) : List Ter → List Ter
  | [] => []
  | a :: r => a.shift n :: Ter.shifts n r
end
theorem shifts_len (n : Int) : ∀ as : List Ter, (Ter.shifts n as).length = as.length
  | [] => rfl
  | _ :: r => congrArg (· + 1) (shifts_len n r)
theorem shifts_app (n : Int) : ∀ as bs : List Ter, Ter.shifts n (as ++ bs) = Ter.shifts n as ++ Ter.shifts n bs
  | [], _ => rfl
  | a :: r, bs => congrArg (a.shift n :: ·) (shifts_app n r bs)
mutual
theorem shift_same (n : Int) : ∀ t : Ter, (t.shift n).size = t.size ∧ (t.shift n).nest = t.nest ∧ (t.shift n).syms = t.syms
  | .var (.inl i) => ⟨rfl, rfl, rfl⟩
  | .var (.inr x) => ⟨rfl, rfl, rfl⟩
  | .ap f as => by
    obtain ⟨h1, h2, h3⟩ := shifts_same n as
    refine ⟨?_, ?_, ?_⟩
    · show Ter.sizes (Ter.shifts n as) + 1 = Ter.sizes as + 1
      rw [h1]
    · show Ter.nests (Ter.shifts n as) + 1 = Ter.nests as + 1
      rw [h2]
    · show (f, (Ter.shifts n as).length) :: Ter.symss (Ter.shifts n as) = (f, as.length) :: Ter.symss as
      rw [h3, shifts_len]
theorem shifts_same (n : Int) : ∀ ts : List Ter, Ter.sizes (Ter.shifts n ts) = Ter.sizes ts ∧ Ter.nests (Ter.shifts n ts) = Ter.nests ts ∧ Ter.symss (Ter.shifts n ts) = Ter.symss ts
  | [] => ⟨rfl, rfl, rfl⟩
  | t :: r => by
    obtain ⟨h1, h2, h3⟩ := shift_same n t
    obtain ⟨k1, k2, k3⟩ := shifts_same n r
    refine ⟨?_, ?_, ?_⟩
    · show (t.shift n).size + Ter.sizes (Ter.shifts n r) = t.size + Ter.sizes r
      rw [h1, k1]
    · show max (t.shift n).nest (Ter.nests (Ter.shifts n r)) = max t.nest (Ter.nests r)
      rw [h2, k2]
    · show (t.shift n).syms ++ Ter.symss (Ter.shifts n r) = t.syms ++ Ter.symss r
      rw [h3, k3]
end
def anyNum (k : Key) : Prop := ∃ i : Int, k = .inl i
mutual
theorem shift_wf {W : Str → Nat → Prop} (n : Int) : ∀ t : Ter, t.wf W anyNum → (t.shift n).wf W anyNum
  | .var (.inl i), _ => ⟨_, rfl⟩
  | .var (.inr x), h => h
  | .ap f as, h => ⟨by rw [shifts_len]; exact h.1, shifts_wf n as h.2⟩
theorem shifts_wf {W : Str → Nat → Prop} (n : Int) : ∀ ts : List Ter, Ter.wfs W anyNum ts → Ter.wfs W anyNum (Ter.shifts n ts)
  | [], _ => trivial
  | t :: r, h => ⟨shift_wf n t h.1, shifts_wf n r h.2⟩
end
/-! ### terms as data are not too long -/
mutual
theorem fits_ter : ∀ (t : Ter) (n : Nat), t.nest < n → t.size ≤ 1000000 → fitsD n t.dat
  | .var (.inl i), n + 1, _, _ => trivial
  | .var (.inr x), n + 1, _, _ => trivial
  | .ap f as, n + 1, h, hz => by
    have h : Ter.nests as + 1 < n + 1 := h
    have hz : Ter.sizes as + 1 ≤ 1000000 := hz
    have l1 := Ter.sizes_len as
    have e : (Ter.dats as).length = as.length := by
      have : ∀ as : List Ter, (Ter.dats as).length = as.length := fun as => by
        induction as with
        | nil => rfl
        | cons a r ih => exact congrArg (· + 1) ih
      exact this as
    show (PyData.str f :: Ter.dats as).length ≤ 1000000 ∧ ∀ d ∈ PyData.str f :: Ter.dats as, fitsD n d
    refine ⟨by rw [List.length_cons, e]; omega, fun d hd => ?_⟩
    rcases List.mem_cons.mp hd with rfl | hd
    · obtain ⟨m, rfl⟩ : ∃ m, n = m + 1 := ⟨n - 1, by omega⟩
      trivial
    · exact fits_ters as n (by omega) (by omega) d hd
theorem fits_ters : ∀ (ts : List Ter) (n : Nat), Ter.nests ts < n → Ter.sizes ts ≤ 1000000 → ∀ d ∈ Ter.dats ts, fitsD n d
  | [], _, _, _, d, hd => by cases hd
  | t :: r, n, h, hz, d, hd => by
    have h : max t.nest (Ter.nests r) < n := h
    have hz : t.size + Ter.sizes r ≤ 1000000 := hz
    rcases List.mem_cons.mp hd with rfl | hd
    · exact fits_ter t n (by omega) (by omega)
    · exact fits_ters r n (by omega) (by omega) d hd
end
theorem fits_prs {ps : List Pr} (n : Nat) (h : ps.length ≤ 1000000) : fitsD (n + 3) (.list (ps.map prD)) := by
  refine ⟨by rw [List.length_map]; exact h, fun d hd => ?_⟩
  obtain ⟨p, _, rfl⟩ := List.mem_map.mp hd
  refine ⟨by show 2 ≤ 1000000; decide, fun d hd => ?_⟩
  rcases List.mem_cons.mp hd with rfl | hd
  · trivial
  · rcases List.mem_cons.mp hd with rfl | hd
    · trivial
    · cases hd
/-- pairs whose symbols can be laid -/
theorem shaped_pr {p : Pr} (h : PyData.strOk p.1 = true) : SeqAt.shaped (prD p) = true := by
  show ((PyData.strOk p.1 && (true && true)) && decide (max 0 (max 0 0) + 1 ≤ 64)) = true
  rw [h]
  rfl
theorem lay_prs : ∀ ps : List Pr, (∀ p ∈ ps, PyData.strOk p.1 = true) → PyData.canLayAll0 (ps.map prD) = true ∧ PyData.depthAll (ps.map prD) ≤ 1
  | [], _ => ⟨rfl, Nat.zero_le _⟩
  | p :: r, h => by
    obtain ⟨h1, h2⟩ := lay_prs r fun k hk => h k (List.mem_cons_of_mem _ hk)
    have hp := h p List.mem_cons_self
    refine ⟨?_, ?_⟩
    · show ((PyData.strOk p.1 && (true && true)) && PyData.canLayAll0 (r.map prD)) = true
      rw [h1, hp]
      rfl
    · show max (max 0 (max 0 0) + 1) (PyData.depthAll (r.map prD)) ≤ 1
      omega
theorem shaped_prs {ps : List Pr} (h : ∀ p ∈ ps, PyData.strOk p.1 = true) : SeqAt.shaped (.list (ps.map prD)) = true := by
  obtain ⟨h1, h2⟩ := lay_prs ps h
  show (PyData.canLayAll0 (ps.map prD) && decide (PyData.depthAll (ps.map prD) + 1 ≤ 64)) = true
  rw [h1, decide_eq_true (by omega)]
  rfl
theorem any_pr (ps : List Pr) (p : Pr) : ((ps.map prD).any fun z => PyData.eqv z (prD p)) = decide (p ∈ ps) := by
  induction ps with
  | nil => rfl
  | cons q r ih =>
    rw [List.map_cons, List.any_cons, ih, eqv_pr]
    by_cases h : q = p
    · subst h
      rw [decide_eq_true rfl, decide_eq_true List.mem_cons_self]
      rfl
    · rw [decide_eq_false h, Bool.false_or]
      by_cases h2 : p ∈ r
      · rw [decide_eq_true h2, decide_eq_true (List.mem_cons_of_mem _ h2)]
      · rw [decide_eq_false h2]
        refine (decide_eq_false fun z => ?_).symm
        rcases List.mem_cons.mp z with z | z
        · exact h z.symm
        · exact h2 z
mutual
theorem syms_wf {W : Str → Nat → Prop} {U : Key → Prop} : ∀ (t : Ter), t.wf W U → ∀ p ∈ t.syms, W p.1 p.2
  | .var _, _, p, hp => by cases hp
  | .ap f as, h, p, hp => by
    rcases List.mem_cons.mp hp with rfl | hp
    · exact h.1
    · exact symss_wf as h.2 p hp
theorem symss_wf {W : Str → Nat → Prop} {U : Key → Prop} : ∀ (ts : List Ter), Ter.wfs W U ts → ∀ p ∈ Ter.symss ts, W p.1 p.2
  | [], _, p, hp => by cases hp
  | t :: r, h, p, hp => by
    rcases List.mem_append.mp hp with hp | hp
    · exact syms_wf t h.1 p hp
    · exact symss_wf r h.2 p hp
end
/-! ### sets of pairs as dicts -/
def addP (acc : List Pr) (p : Pr) : List Pr := if p ∈ acc then acc else acc ++ [p]
def yesT (p : Pr) : List Key × V := (prK p, .bl true)
theorem put_yesT (acc : List Pr) (k : Pr) : putK (acc.map yesT) (prK k) (.bl true) = (addP acc k).map yesT := by
  unfold putK addP
  have e : ((acc.map yesT).any fun kv => decide (kv.1 = prK k)) = decide (k ∈ acc) := by
    rw [List.any_map]
    induction acc with
    | nil => rfl
    | cons x r ih =>
      rw [List.any_cons, ih]
      show (decide (prK x = prK k) || decide (k ∈ r)) = _
      by_cases h : x = k
      · subst h
        rw [decide_eq_true rfl, decide_eq_true List.mem_cons_self]
        rfl
      · rw [decide_eq_false (fun z => h (prK_inj z)), Bool.false_or]
        by_cases h2 : k ∈ r
        · rw [decide_eq_true h2, decide_eq_true (List.mem_cons_of_mem _ h2)]
        · rw [decide_eq_false h2]
          refine (decide_eq_false fun z => ?_).symm
          rcases List.mem_cons.mp z with z | z
          · exact h z.symm
          · exact h2 z
  rw [e]
  by_cases hk : k ∈ acc
  · rw [if_pos (decide_eq_true hk), if_pos hk, List.map_map]
    apply List.map_congr_left
    intro x _
    show (if prK x = prK k then (prK x, V.bl true) else (prK x, V.bl true)) = (prK x, V.bl true)
    split <;> rfl
  · rw [if_neg (by rw [decide_eq_false hk]; decide), if_neg hk, List.map_append]
    rfl
theorem addP_len (acc : List Pr) (k : Pr) : (addP acc k).length ≤ acc.length + 1 := by
  unfold addP
  split
  · omega
  · rw [List.length_append, List.length_singleton]; omega
theorem mem_addP (acc : List Pr) (k x : Pr) : x ∈ addP acc k ↔ x ∈ acc ∨ x = k := by
  unfold addP
  split
  · rename_i h
    exact ⟨.inl, fun z => z.elim id fun e => e ▸ h⟩
  · rw [List.mem_append, List.mem_singleton]
theorem addP_nd {acc : List Pr} (h : acc.Nodup) (k : Pr) : (addP acc k).Nodup := by
  unfold addP
  split
  · exact h
  · rename_i n
    exact List.nodup_append.mpr ⟨h, List.nodup_cons.mpr ⟨by simp, List.nodup_nil⟩, fun a ha b hb e => n (by rw [← List.mem_singleton.mp hb, ← e]; exact ha)⟩
/-- what sorted gives of such a dict -/
theorem sorted_prs {H : Hp} {acc : List Pr} (nd : acc.Nodup) {ps : List (Addr × List Key)} (e : ps.map (·.2) = acc.map prK) (h : ∀ z ∈ ps, H z.1 = some (.tup (z.2.map kV))) :
    ∃ L, PrAll H ((ps.mergeSort keysLe).map fun z => V.ref z.1) L ∧ Asc L ∧ (∀ x, x ∈ L ↔ x ∈ acc) ∧ L.length = acc.length := by
  have hp := List.mergeSort_perm ps keysLe
  have hs : (ps.mergeSort keysLe).Pairwise fun a b => keysLe a b = true := by
    have lle : ∀ a b : Addr × List Key, keysLe a b = !PySem.W.dataLt (keyD b.2) (keyD a.2) := fun a b => rfl
    refine List.pairwise_mergeSort (fun a b c h1 h2 => ?_) (fun a b => ?_) ps
    · rw [lle] at h1 h2 ⊢
      cases h3 : PySem.W.dataLt (keyD c.2) (keyD a.2) with
      | false => rfl
      | true =>
        rcases PyProof.Rows.lex_negTrans _ (PySem.W.keyToks (keyD b.2)) _ h3 with z | z
        · have z : PySem.W.dataLt (keyD c.2) (keyD b.2) = true := z
          rw [z] at h2
          exact h2
        · have z : PySem.W.dataLt (keyD b.2) (keyD a.2) = true := z
          rw [z] at h1
          exact h1
    · rw [lle, lle]
      cases h3 : PySem.W.dataLt (keyD b.2) (keyD a.2) with
      | false => rfl
      | true =>
        cases h4 : PySem.W.dataLt (keyD a.2) (keyD b.2) with
        | false => rfl
        | true => exact absurd (show false = true from (PySem.W.dataLt_self (keyD b.2)).symm.trans (PyProof.Rows.lex_trans _ _ _ h3 h4)) (by decide)
  have n2 : ((ps.mergeSort keysLe).map (·.2)).Nodup := by
    refine (hp.map (·.2)).nodup_iff.mpr ?_
    rw [e]
    exact List.pairwise_map.mpr (nd.imp fun {a b} h z => h (prK_inj z))
  have m2 : ∀ x : List Key, x ∈ (ps.mergeSort keysLe).map (·.2) ↔ x ∈ acc.map prK := fun x => by
    rw [(hp.map (·.2)).mem_iff, e]
  have h2 : ∀ z ∈ ps.mergeSort keysLe, H z.1 = some (.tup (z.2.map kV)) := fun z hz => h z (hp.mem_iff.mp hz)
  have hl : (ps.mergeSort keysLe).length = acc.length := by
    rw [List.length_mergeSort]
    have := congrArg List.length e
    rw [List.length_map, List.length_map] at this
    exact this
  have hq : ∃ L : List Pr, (ps.mergeSort keysLe).map (·.2) = L.map prK := by
    have : ∀ l : List (List Key), (∀ x ∈ l, x ∈ acc.map prK) → ∃ L : List Pr, l = L.map prK := fun l => by
      induction l with
      | nil => exact fun _ => ⟨[], rfl⟩
      | cons x r ih =>
        intro hx
        obtain ⟨L, rfl⟩ := ih fun y hy => hx y (List.mem_cons_of_mem _ hy)
        obtain ⟨p, _, rfl⟩ := List.mem_map.mp (hx x List.mem_cons_self)
        exact ⟨p :: L, rfl⟩
    exact this _ fun x hx => (m2 x).mp hx
  obtain ⟨L, eL⟩ := hq
  refine ⟨L, ?_, ?_, ?_, ?_⟩
  · generalize ps.mergeSort keysLe = qs at eL h2
    clear hl m2 n2 hs hp
    induction qs generalizing L with
    | nil =>
      cases L with
      | nil => exact .nil
      | cons p r => cases eL
    | cons z r ih =>
      cases L with
      | nil => cases eL
      | cons p s =>
        obtain ⟨e1, e2⟩ := List.cons.inj eL
        have e1 : z.2 = prK p := e1
        refine .cons (.mk ?_) (ih s e2 fun y hy => h2 y (List.mem_cons_of_mem _ hy))
        rw [h2 z List.mem_cons_self, e1]
        rfl
  · have h5 : ((ps.mergeSort keysLe).map (·.2)).Pairwise fun a b => a ≠ b ∧ PySem.W.dataLt (keyD b) (keyD a) = false := by
      refine List.Pairwise.and n2 ?_
      refine List.pairwise_map.mpr (hs.imp fun {a b} h => ?_)
      have h : (!PySem.W.dataLt (keyD b.2) (keyD a.2)) = true := h
      cases h6 : PySem.W.dataLt (keyD b.2) (keyD a.2) with
      | false => rfl
      | true => rw [h6] at h; cases h
    rw [eL] at h5
    exact (List.pairwise_map.mp h5).imp fun {a b} h => prLt_tot (fun z => h.1 (by rw [z])) h.2
  · intro x
    constructor
    · intro hx
      have := (m2 (prK x)).mp (by rw [eL]; exact List.mem_map_of_mem hx)
      obtain ⟨y, hy, e9⟩ := List.mem_map.mp this
      rw [← prK_inj e9]
      exact hy
    · intro hx
      have := (m2 (prK x)).mpr (List.mem_map_of_mem hx)
      rw [eL] at this
      obtain ⟨y, hy, e9⟩ := List.mem_map.mp this
      rw [← prK_inj e9]
      exact hy
  · have := congrArg List.length eL
    rw [List.length_map, List.length_map] at this
    omega
theorem alike_keys (acc : List Pr) : PySem.W.AllAlike ((acc.map yesT).map fun p => keyD p.1) := by
  intro d hd d' hd'
  rw [List.map_map] at hd hd'
  obtain ⟨p, _, rfl⟩ := List.mem_map.mp hd
  obtain ⟨q, _, rfl⟩ := List.mem_map.mp hd'
  rfl
end Own
set_option maxHeartbeats 2000000
namespace Own
open PySem PySem.Spec PyProof.Rows L2 HT
/-! ### super().__init__(..) in an own exception class above ValueError -/
section
variable {prog : Program} {w : World} {A : Around} {E : Value → Shared → Prop} {hp : Heap} {g : Array GenState} {dr : Drawn} {tk : Nat} {os : OsState}
variable {nm qn : Str} {C N : Addr} {bs bm : List Value} {hd : Bool} {sn : List Str} {sub : List Value} {ab : Bool} {col : Option Bool} {dd : Option Addr} {k0 k1 k2 k3 k5 : Option Value}
/-- the bound built-in __init__ is called: the exception's arguments are laid anew, nothing else changes -/
theorem vi_call {u x t0 : Addr} {vs : List Value} {Q : Value → Shared → Prop}
    (hC : hp.get? C = some (excClassObj nm qn C N bs bm hd sn sub ab col dd k0 k1 k2 k3 k5 "ValueError.__new__"))
    (hx : hp.get? x = some (PySem.HandSPX.excO C t0)) (hu : hp.get? u = some (PySem.W.kxs_mw "ValueError.__init__" x)) (hz : vs.length ≤ sizeLine)
    (hq : ∀ h' t1, (∀ b o, b ≠ x → hp.get? b = some o → h'.get? b = some o) → h'.get? x = some (PySem.HandSPX.excO C t1) → Q .none ⟨h', g, dr, tk, os⟩) :
    wpAny (model prog w) A (call (.ref u) vs) Q E ⟨hp, g, dr, tk, os⟩ := by
  have FB := F.excBase_ValueError
  refine wpAny_call (codeAny_of_tree ?_)
  show wpAny _ _ (callAny (.ref u) ⟨vs, []⟩) _ _ ⟨hp, g, dr, tk, os⟩
  simp only [callAny]
  refine wpAny_bind (wpAny_load hu ?_)
  have b1 : (Value.type "method-wrapper" == Value.type "method" || Value.type "method-wrapper" == Value.type "builtin_function_or_method" || Value.type "method-wrapper" == Value.type "method-wrapper") = true := by decide
  simp only [PySem.W.kxs_mw, b1, if_true]
  refine PySem.W.KFB.if_so b1 (wpAny_bind (PySem.W.check_bound_init FB.toExcCallFacts hC hx rfl (wpAny_bind (wpAny_pure (wpAny_pure ?_)))))
  refine ⟨plainId_quiet FB.init.plain _, codeAny_builtin FB.initEntry ?_⟩
  exact PySem.W.exc_init_tree (cls := .ref C) (t0 := t0) (dv := none) (c2 := .none) (c3 := .none) (b4 := .bool false) hx hz fun h' k e _ => hq h' _ k e
end
/-- a statement, a block that must know its own activation (body: that of the whole def) -/
structure PSAt (X : Cx) (body : List Stmt) (st : Stmt) (t : TS) : Prop where
  run : ∀ (pins : List (Addr × Obj)) (s : Shared) (σ : L2.St) (H : Hp) (D : Ends), Inv X pins σ H s → t D σ H → PySem.wpAt (model X.prog X.w) X.A (.func body X.env) (exec st X.env) (SP X pins D) X.xe s
structure PSsAt (X : Cx) (body st : List Stmt) (t : TS) : Prop where
  run : ∀ (pins : List (Addr × Obj)) (s : Shared) (σ : L2.St) (H : Hp) (D : Ends), Inv X pins σ H s → t D σ H → PySem.wpAt (model X.prog X.w) X.A (.func body X.env) (execs st X.env) (SP X pins D) X.xe s
theorem pssAt_cons {X : Cx} {body : List Stmt} {st : Stmt} {rest : List Stmt} {t u : TS} (h1 : PSAt X body st t) (h2 : PSs X rest u) : PSsAt X body (st :: rest) (tSeq t u) := by
  refine ⟨fun pins s σ H D I h => ?_⟩
  refine ks_wpAt_execs_cons (PySem.ks_wpAt_mono (h1.run pins s σ H { D with nx := u D } I h) (fun f s1 q => ?_) fun _ _ z => z)
  cases f with
  | next =>
    obtain ⟨σ1, H1, J, q⟩ := q
    exact PySem.wpAt_of_wpAny (h2.run pins s1 σ1 H1 D J q)
  | ret u => exact q
  | brk => exact q
  | cont => exact q
/-- what the activation must have for super() -/
structure SupX (X : Cx) (C cc : Addr) : Prop where
  ks : X.env.kindOf "super" = some .globalImplicit
  kc : X.env.kindOf "__class__" = some .free
  fn : ∃ f o fd, X.env.func = some f ∧ X.K.lookup f = some o ∧ o.data = .func fd ∧ ∃ ar, (fd.params.posonlyargs ++ fd.params.args).head? = some ar ∧ ar.arg = ("self" : Str)
  code : ∃ cda o vs file tf, X.env.code = .ref cda ∧ X.K.lookup cda = some o ∧ o.data = .fields vs ∧ vs[2]? = some (.str file tf) ∧ ((X.prog.main.file : Str) == file) = true
  top : (X.prog.main.scope.names.lookup ("super" : Str)).isSome = false
  cell : X.env.cells.lookup ("__class__" : Str) = some cc
  cellv : ∃ cl cld csl, X.K.lookup cc = some ⟨cl, cld, .cell (some (.ref C)), csl⟩
  glob : X.mg "super" = none
  self : X.env.kindOf "self" = some .local
  n0 : X.N[0]? = some ("self" : Str)
/-- what the class must have for super().__init__ to be ValueError's -/
structure SupC (K : PySem.W.Frag) (C : Addr) : Prop where
  oex : OexC K C
  up : PySem.W.ks_superIn K C C "__init__" = some (some (.builtin "ValueError.__init__"))
  sub : PySem.W.subIn K (.ref C) (.type "ValueError") = some true
  own : PySem.W.mroIn K C (.ref C) = some true
  opq : PySem.W.nsIn K cStatics "thirdparty.any" = some none
def tSup (C : Addr) (ta : TA) : TS := fun D σ H => ∃ a, σ[0]? = some (some (.ref a)) ∧ H a = some (exo a C none) ∧ ta σ H fun vs H1 => vs.length ≤ 1000 ∧ H1 a = some (exo a C none) ∧ D.nx σ H1
theorem exo_get {X : Cx} {pins : List (Addr × Obj)} {σ : L2.St} {H : Hp} {s : Shared} {a C : Addr} (I : Inv X pins σ H s) (e : H a = some (exo a C none)) : ∃ t0, s.heap.get? a = some (PySem.HandSPX.excO C t0) := exo_at I.hok e
theorem ps_superAt {X : Cx} {body : List Stmt} {C cc : Addr} {p0 p1 p2 pos pos2 : Pos} {e : Expr} {es : List Expr} {ta : TA} (S : SupX X C cc) (T : SupC X.K C) (ha : PA X (e :: es) ta)
    (hev : eval (.Call (.Attribute (.Call (.Name "super" p0) [] [] p1) "__init__" p2) (e :: es) [] pos) X.env = (do
      let ov ← attributeBase (.Call (.Name "super" p0) [] [] p1) "__init__" X.env (eval (.Call (.Name "super" p0) [] [] p1) X.env)
      standAt p2.atName
      let (f, first) ← holding [ov] (getMethod ov "__init__" (pure false))
      callWith pos f first (backTo pos (starEach (e :: es) X.env)) []) := by rfl)
    (hi : interactive X.env = false := by rfl) (hs : swapsWith (.Call (.Attribute (.Call (.Name "super" p0) [] [] p1) "__init__" p2) (e :: es) [] pos) none pos2.line X.env = pure false := by rfl)
    (he : starEach (e :: es) X.env = (false, eval e X.env) :: starEach es X.env := by rfl) (hpl : (backTo pos (starEach es X.env)).any (·.1) = false := by rfl) :
    PSAt X body (.Expr (.Call (.Attribute (.Call (.Name "super" p0) [] [] p1) "__init__" p2) (e :: es) [] pos) pos2) (tSup C ta) := by
  refine ⟨fun pins s σ H D I h => ?_⟩
  obtain ⟨a, h0, hex, h⟩ := h
  obtain ⟨f, o, fd, hfu, hfl, hfd, ar, hhd, har⟩ := S.fn
  obtain ⟨cda, oc, fvs, file, tf, hco, hcl, hcd, hfv, hfile⟩ := S.code
  obtain ⟨cl, cld, csl, hcell⟩ := S.cellv
  obtain ⟨nm, qn, N, bs, bm, sn, sub, ab, col, dd, k0, k1, k2, k3, k5, hC, hbm⟩ := T.oex.cls
  have KX := I.kIn
  have hCg := KX _ _ hC
  obtain ⟨m, hns, hl⟩ := I.loc
  obtain ⟨u0, r0, lk⟩ := hl 0 "self" (.ref a) S.n0 h0 (.inl S.self)
  cases r0
  have hself : m "self" = some (.ref a) := by
    rcases lk with ⟨_, q⟩ | ⟨q, _⟩
    · exact q
    · rw [S.self] at q
      rcases q with q | q <;> cases q
  obtain ⟨t0, hox⟩ := exo_get I hex
  have hcls : PySem.W.clsIn X.K C = some { name := nm, bases := bs, mro := .ref C :: bm, ns := N, qualname := qn, hasDict := true, slotNames := sn, subclasses := sub, abstract := ab, collection := col, hasDel := false } := by unfold PySem.W.clsIn; rw [hC] <;> rfl
  have J : PySem.W.InstAt s.heap a (PySem.HandSPX.excO C t0) C none := ⟨hox, rfl, rfl, trivial⟩
  obtain ⟨mb, hb1, hb2⟩ := I.mod.blt
  refine PySem.ks_wpAt_Expr_any (PySem.ks_wpAt_MethodCall (pl := pure false) ?_ hev) hi hs
  refine PySem.ks_wpAt_super_base (env := X.env) S.ks S.kc rfl hfu (KX _ _ hfl) hfd hhd hco (KX _ _ hcl) hcd hfv hfile S.top ?_
  refine PySem.W.ks_loadName_global I.ok.kind S.ks ?_
  refine Calls.loadGlobal_builtin (by rw [I.ok.glob]; exact I.mod.glob.keeps I.bk) S.glob (by rw [I.ok.blt]; exact hb1.keeps I.bk) ((hb2 "super" (by decide)).trans (show bootBuiltins "super" = some (.type "super") by first | rfl | kernel_rfl)) ?_
  refine ⟨rfl, ?_⟩
  refine wpAny_loadName_free I.ok.kind S.kc S.cell ⟨_, KX _ _ hcell, rfl⟩ ?_
  rw [har]
  refine wpAny_loadName_local I.ok.kind S.self hns hself ?_
  obtain ⟨hh, gg, dr, tk, os⟩ := s
  refine PySem.ks_wpAny_isType_cls hCg rfl ⟨rfl, ?_⟩
  refine PySem.ks_wpAny_call_super hCg rfl hox rfl (fun c z => by cases z) (PySem.W.looks_mroIn KX T.own) (fun h1 ho1 k1 => ?_)
  -- the super object stands at hh.objs.size
  have KX1 : X.K.In h1 := KX.keeps k1
  have J1 : PySem.W.InstAt h1 a (PySem.HandSPX.excO C t0) C none := ⟨k1 _ _ hox, rfl, rfl, trivial⟩
  have I1 : Inv X pins σ H ⟨h1, gg, dr, tk, os⟩ := I.kept (t' := tk) k1
  have up := T.up
  unfold PySem.W.ks_superIn at up
  rw [hcls] at up
  refine PySem.W.kxs_getMethod PySem.W.kxs_ValueError ho1 (PySem.W.looks_opaque KX1 T.opq) (l₀ := .ref C :: bm) (fun A Q E s k q => wpAny_bind ((PySem.W.looks_clsIn KX1 hcls) A _ E s k (wpAny_pure q))) rfl KX1 up
    (J1.type.andThen (PySem.W.looks_subIn KX1 T.sub)) (PySem.W.ks_ne KX1 J1 hcls) rfl ?_
  have k2 : ∀ b ob, h1.get? b = some ob → (h1.push (PySem.W.kxs_mw "ValueError.__init__" a)).get? b = some ob := fun b ob q => Heap.get?_push_of_some _ q
  have I2 : Inv X pins σ H ⟨h1.push (PySem.W.kxs_mw "ValueError.__init__" a), gg, dr, tk + 1, os⟩ := I1.kept (t' := tk + 1) k2
  have hw : (h1.push (PySem.W.kxs_mw "ValueError.__init__" a)).get? h1.objs.size = some (PySem.W.kxs_mw "ValueError.__init__" a) := Heap.get?_push_at rfl rfl
  have hnew : H h1.objs.size = none := I1.hok.fresh (Nat.le_refl _)
  have I3 : Inv X (pins ++ [(h1.objs.size, PySem.W.kxs_mw "ValueError.__init__" a)]) σ H ⟨h1.push (PySem.W.kxs_mw "ValueError.__init__" a), gg, dr, tk + 1, os⟩ := I2.pins_of fun p hp => by
    rcases List.mem_append.mp hp with hp | hp
    · exact I2.pin p (List.mem_append_right _ hp)
    · rw [List.mem_singleton.mp hp]
      exact ⟨hw, hnew, Ne.symm (Nat.ne_of_lt I1.lt), I1.nofs (Nat.le_refl _), fun v z => by cases z⟩
  show wpAny _ _ (callWith pos (Value.ref h1.objs.size) [] (backTo pos (starEach (e :: es) X.env)) []) _ _ _
  rw [he]
  refine PySem.W.kxs_callWith (i := "ValueError.__init__") (x := a) (by show (false || (backTo pos (starEach es X.env)).any (·.1)) = false; rw [hpl]; rfl) ?_
  refine Calls.evalArgs_plain ?_
  have hr := ha.run pos _ _ σ H _ I3 h
  rw [he] at hr
  refine thn hr fun us s2 hq => ?_
  obtain ⟨vs, H2, I4, rv, hlen, hex2, hD⟩ := hq
  refine ⟨(I4.pin (h1.objs.size, _) (List.mem_append_right _ (List.mem_append_right _ (List.mem_singleton.mpr rfl)))).1, ?_⟩
  have hw4 := (I4.pin (h1.objs.size, PySem.W.kxs_mw "ValueError.__init__" a) (List.mem_append_right _ (List.mem_append_right _ (List.mem_singleton.mpr rfl)))).1
  obtain ⟨t4, hox4⟩ := exo_get I4 hex2
  have hC4 := I4.kIn _ _ hC
  have I5 : Inv X pins σ H2 s2 := I4.pins_of fun p hp => I4.pin p (List.mem_append_right _ (List.mem_append_left _ hp))
  obtain ⟨h4, g4, d4, tk4, os4⟩ := s2
  show wpAny _ _ (call (Value.ref h1.objs.size) ([] ++ us)) _ _ _
  refine vi_call hC4 hox4 hw4 (by rw [List.nil_append, ← Paired.length rv, sizeLine_eq]; omega) fun h' t1 kk hx' => ?_
  have J5 := I5.write (t' := tk4) (x := a) (e := a) (o := exo a C none) (by rw [hex2]; exact True.intro) (.inl rfl) kk ⟨_, hx'⟩ (exo_ok hx')
  have eu : upd H2 a (exo a C none) = H2 := by
    funext b
    by_cases hb : b = a
    · rw [hb, upd_same, hex2]
    · rw [upd_ne hb]
  rw [eu] at J5
  exact ⟨σ, H2, J5, hD⟩
end Own
set_option maxHeartbeats 2000000
namespace Own
open PySem PySem.Spec PyProof.Rows L2 HT NdefX
/-! ### the def __init__ that says super().__init__(..) first -/
section
variable {CX : CXT} {P : Program} {w : World} {K : PySem.W.Frag} {mg : Str → Option Value} {base : Heap} {k : Nat} {fI cc cda C : Addr} {name qual : Str} {params : Arguments} {body : List Stmt} {scope : Scope} {dV kV doc pm ct oc : Value} {an od : Option Addr}
  {osl : Array (Option Value)} {N ps : List Str} {sp : Sp}
abbrev iNF (name qual : Str) (params : Arguments) (body : List Stmt) (scope : Scope) (cc cda : Addr) : NF := ⟨name, qual, params, body, scope, [("__class__", cc)], cda⟩
abbrev icx (CX : CXT) (P : Program) (w : World) (K : PySem.W.Frag) (mg : Str → Option Value) (base : Heap) (N : List Str) (name qual : Str) (params : Arguments) (body : List Stmt) (scope : Scope) (cc cda fI : Addr) (A : Around) (outer : List Env) (s : Shared) (H : Hp) (E : XK) : Cx :=
  ncx CX P w K mg base N (iNF name qual params body scope cc cda) fI A outer s H E
theorem init_of (lk : K.lookup fI = some ⟨oc, od, .func (PySem.W.fnX name qual params body scope [("__class__", cc)] dV kV doc pm an (.ref cda) ct), osl⟩) (hcd : PySem.W.codeIn K (.ref cda) qual = true)
    (hcell : ∃ cl cld csl, K.lookup cc = some ⟨cl, cld, .cell (some (.ref C)), csl⟩) (S : NScope N ps ["__class__"] scope) (len : ∀ vs H Q E, sp vs H Q E → vs.length = ps.length)
    (hb : ∀ (A : Around) (outer : List Env) (s : Shared) (H : Hp) (vs : List V) (Q : VK) (E : XK), Room k (A.deeper (envF (iNF name qual params body scope cc cda) fI s.heap.objs.size)) → sp vs H Q E →
      ∃ t, PSsAt (icx CX P w K mg base N name qual params body scope cc cda fI A outer s H E) body body t ∧ t { nx := fun _ H' => Q .non H', rt := Q } (startF N vs [some (.ref C)]) H) :
    FnOk P w K mg base CX (k + 1) fI (PySem.W.fnX name qual params body scope [("__class__", cc)] dV kV doc pm an (.ref cda) ct) ps sp := by
  refine ⟨len, fun A outer s H args us vs Q E hr e0 hbd rv hsp => ?_⟩
  have hlen := len _ _ _ _ hsp
  have kx : K.In s.heap := e0.mod.kin.keeps fun b o e => (e0.bs b o e).1
  have nolim : s.heap.NoLimit := e0.mod.nolimit.keeps fun b o e => (e0.bs b o e).1
  obtain ⟨cl, cld, csl, hcl⟩ := hcell
  refine PySem.ks_codeAny_call_defAt (body := body) (binds := ps.zip us) hr.depth (kx _ _ lk) rfl nolim (PySem.W.codeRec_of kx hcd) rfl hbd S.nocell (fun ⟨n, _⟩ hy => S.par n (List.of_mem_zip hy).1) (fun h1 hns kp => ?_) S.co S.gen S.kind
  have hcells : CellsAt [("__class__", cc)] ["__class__"] [some (V.ref C)] s.heap H := by
    refine ⟨rfl, fun y c e => ?_, fun x y c e1 e2 => ?_, fun i y hy => ?_⟩
    · have ec : c = cc := by
        by_cases hy : y = "__class__"
        · subst hy
          simpa [List.lookup] using e.symm
        · have : (y == ("__class__" : Str)) = false := by simpa using hy
          simp [List.lookup, this] at e
      subst ec
      exact ⟨(e0.bs _ _ (e0.mod.kin _ _ hcl)).2, _, _, kx _ _ hcl, rfl⟩
    · have key : ∀ {z : Str} {d : Addr}, List.lookup z [(("__class__" : Str), cc)] = some d → z = "__class__" := fun {z d} h => by
        by_cases hz : z = "__class__"
        · exact hz
        · have : (z == ("__class__" : Str)) = false := by simpa using hz
          simp [List.lookup, this] at h
      rw [key e1, key e2]
    · cases i with
      | zero =>
        cases (show some _ = some _ from hy)
        refine ⟨cc, by simp [List.lookup], fun v hv => ?_⟩
        cases (show some (some _) = some (some _) from hv)
        exact ⟨.ref C, rfl, _, kx _ _ hcl, rfl⟩
      | succ i => cases (show none = some _ from hy)
  have I : Inv (icx CX P w K mg base N name qual params body scope cc cda fI A outer s H E) [] (startF N vs [some (.ref C)]) H { s with heap := h1, toks := s.toks + (ps.zip us).length } := inv_startN S hr.hd e0 hlen rv hcells hns kp
  obtain ⟨t, ht, hq⟩ := hb A outer s H vs Q E (hr.deeper _) hsp
  refine PySem.ks_wpAt_mono (ht.run [] _ _ H _ I hq) (fun fl s' hs => ?_) fun e s' hs => hs
  have close : ∀ {σ' : L2.St} {H' : Hp} {v : V} {u : Value}, Inv (icx CX P w K mg base N name qual params body scope cc cda fI A outer s H E) [] σ' H' s' → L2.RelV v u → Q v H' → CE outer P w H s Q u s' :=
    fun {σ' H' v u} J r q => ⟨v, H', J.os, J.bare, J.base, J.hok, r, q⟩
  cases fl with
  | ret u =>
    obtain ⟨v, σ', H', J, r, q⟩ := hs
    exact close J r q
  | next =>
    obtain ⟨σ', H', J, q⟩ := hs
    exact close (v := V.non) (u := Value.none) J rfl q
  | brk => exact False.elim hs.choose_spec.choose_spec.2
  | cont => exact False.elim hs.choose_spec.choose_spec.2
/-- what the written part says of such a def, and of its class -/
structure InitC (P : Program) (K : PySem.W.Frag) (mg : Str → Option Value) (C fI cc cda : Addr) (name qual : Str) (params : Arguments) (body : List Stmt) (scope : Scope) (fd : FuncData) : Prop where
  sup : SupC K C
  fn : ∃ oc od dV kV doc pm an ct osl, fd = PySem.W.fnX name qual params body scope [("__class__", cc)] dV kV doc pm an (.ref cda) ct ∧ K.lookup fI = some ⟨oc, od, .func fd, osl⟩
  code : PySem.W.codeIn K (.ref cda) qual = true
  file : ∃ o vs file tf, K.lookup cda = some o ∧ o.data = .fields vs ∧ vs[2]? = some (.str file tf) ∧ ((P.main.file : Str) == file) = true
  top : (P.main.scope.names.lookup ("super" : Str)).isSome = false
  cell : ∃ cl cld csl, K.lookup cc = some ⟨cl, cld, .cell (some (.ref C)), csl⟩
  glob : mg "super" = none
  self : ∃ ar, (params.posonlyargs ++ params.args).head? = some ar ∧ ar.arg = ("self" : Str)
  k1 : scope.names.lookup ("super" : Str) = some .globalImplicit
  k2 : scope.names.lookup ("__class__" : Str) = some .free
  k3 : scope.names.lookup ("self" : Str) = some .local
  iC : PySem.W.findIn K (.ref C) "__init__" = some (some (.ref fI))
  tI : PySem.W.typeIn K (.ref fI) = some (.type "function")
theorem InitC.supX {fd : FuncData} {A : Around} {outer : List Env} {s : Shared} {H : Hp} {E : XK} (T : InitC P K mg C fI cc cda name qual params body scope fd) (h0 : N[0]? = some ("self" : Str)) :
    SupX (icx CX P w K mg base N name qual params body scope cc cda fI A outer s H E) C cc := by
  obtain ⟨oc, od, dV, kV, doc, pm, an, ct, osl, rfl, l⟩ := T.fn
  obtain ⟨o, vs, file, tf, e1, e2, e3, e4⟩ := T.file
  obtain ⟨ar, e5, e6⟩ := T.self
  exact ⟨T.k1, T.k2, ⟨fI, _, _, rfl, l, rfl, ar, e5, e6⟩, ⟨cda, o, vs, file, tf, rfl, e1, e2, e3, e4⟩, T.top, by show List.lookup _ [(("__class__" : Str), cc)] = _; simp [List.lookup], T.cell, T.glob, T.k3, h0⟩
/-- the promise: the fields, each with its argument; ok: what the text of super().__init__ asks of the arguments -/
def spInit (C : Addr) (fs : List Str) (ok : List V → Hp → Prop) : Sp := fun vs H Q _ => ∃ a ws, vs = .ref a :: ws ∧ ws.length = fs.length ∧ H a = some (exo a C none) ∧ ok ws H ∧
  ∀ H2 dx, (∀ b, b ≠ a → b ≠ dx → H2 b = H b) → H dx = none → dx ≠ a → H2 a = some (exo a C (some dx)) → H2 dx = some (exd dx (fs.zip ws).reverse) → Q .non H2
end
/-! ### the call C(e, ..), where nothing is handled -/
section
variable {X : Cx} {CX : CXT} {x : Str} {e : Expr} {es : List Expr} {ta : TA} {p pos : Pos} {C fI : Addr} {k : Nat} {fd : FuncData} {ps : List Str} {sp : Sp}
theorem pmkN_sup (T : OexC X.K C) (iC : PySem.W.findIn X.K (.ref C) "__init__" = some (some (.ref fI))) (tI : PySem.W.typeIn X.K (.ref fI) = some (.type "function"))
    (F1 : FnOk X.prog X.w X.K X.mg X.base CX k fI fd ps sp) (hr : Room (k + 1) X.A) (hb : Binds X.K fd ps []) (hx : Passes CX X (fun _ _ _ => False)) (hg : Gl X x) (hm : X.mg x = some (.ref C)) (ha : PA X (e :: es) ta)
    (hdb : (x == ("__debug__" : Str)) = false := by decide) (he : starEach (e :: es) X.env = (false, eval e X.env) :: starEach es X.env := by rfl) (hpl : (backTo pos (starEach es X.env)).any (·.1) = false := by rfl) :
    L2N.PMk X (.Call (.Name x p) (e :: es) [] pos) (tMkO C sp [] ta) := by
  intro pins s σ H Q I h
  obtain ⟨nm, qn, N, bs, bm, sn, sub, ab, col, dd, k0, k1, k2, k3, k5, hcl, hve⟩ := T.cls
  refine wpAny_Call_Name_kw (ld_glob I hg hm ?_ hdb)
  refine PySem.W.callWith_K (h₀ := X.base) I.ok.mod.kin T.kC (thn (ha.run pos pins s σ H _ I h) fun us s1 hq => ?_) he hpl
  obtain ⟨vs, H1, I1, rv, hlen, hsp⟩ := hq
  refine ⟨I1.kIn, ?_⟩
  show wpAny _ _ (call (.ref C) us) _ _ _
  obtain ⟨h1, g1, d1, tk1, os1⟩ := s1
  have free1 : H1 (h1.objs.size + 1) = none := I1.hok.fresh (Nat.le_succ _)
  have hsp := hsp _ free1
  rw [List.append_nil] at hsp
  have older : ∀ b o, h1.get? b = some o → ((h1.push (PySem.W.kdv_tup us)).push (PySem.HandSPX.excO C h1.objs.size)).get? b = some o := fun b o q => Heap.get?_push_of_some _ (Heap.get?_push_of_some _ q)
  have there : ((h1.push (PySem.W.kdv_tup us)).push (PySem.HandSPX.excO C h1.objs.size)).get? (h1.objs.size + 1) = some (PySem.HandSPX.excO C h1.objs.size) := by heap_get
  have I2 := I1.laid (t' := tk1) (a := h1.objs.size + 1) (o := exo (h1.objs.size + 1) C none) older (Nat.le_succ _) (exo_ok there)
  have rv2 : Vals (V.ref (h1.objs.size + 1) :: vs) (Value.ref (h1.objs.size + 1) :: us) := .cons rfl rv
  have elen : (Value.ref (h1.objs.size + 1) :: us ++ []).length = ps.length := by
    rw [List.append_nil, ← rv2.length]
    exact F1.len _ _ _ _ hsp
  have ulen : us.length ≤ sizeLine := by
    have := Paired.length rv
    rw [sizeLine_eq]
    omega
  have bind2 := hb _ (Value.ref (h1.objs.size + 1) :: us) I2.kIn elen
  rw [List.append_nil] at bind2
  have init := F1.run _ X.stack _ _ ⟨Value.ref (h1.objs.size + 1) :: us, []⟩ (Value.ref (h1.objs.size + 1) :: us) _ _ (fun _ _ _ => False) (hr.make C us []) (I2.env0.make C us []) bind2 rv2 hsp
  refine wpAny_call (PySem.HandSPX.call_own F.excBase_ValueError (fun Y => PySem.HandSPX.refsVE_contains Y bm hve) (I1.kIn _ _ hcl) (PySem.W.looks_findIn I1.kIn iC) (fun self => PySem.W.bind_fn I1.kIn self tI) ulen (codeAny_mono init fun r s' hq => ?_))
  cases r with
  | error er => exact hx pins σ _ _ er s' I2 hq
  | ok fl =>
    cases fl with
    | ret u =>
      obtain ⟨v, H2, hos, hbare, hun, hok2, hrel, ev, d, fs, ea, ed, free2, q⟩ := hq
      subst ev
      obtain ⟨h2, g2, d2, tk2, os2⟩ := s'
      obtain ⟨t0, G, J, kG, gone, hoe, nota⟩ := mk_end0 (d2 := d2) (t2 := tk2) I1 (Nat.le_succ _) older hun hok2 hos hbare ea ed free2
      refine ⟨hrel, h1.objs.size + 1, _, _, ⟨G, g2, d2, tk2, os2⟩, _, .ref C, some d, rfl, J, kG, gone, hoe, ⟨rfl, rfl, fun vs hv => ?_⟩, rfl, rfl, nota, rfl, hbare, raises_own T.exC T.tyC, q⟩
      cases hv
      rfl
    | next => exact hq.elim
    | brk => exact hq.elim
    | cont => exact hq.elim
/-- the reading of raise C(e, ..) -/
def tMkS (C : Addr) (fs : List Str) (ok : List V → Hp → Prop) (ta : TA) : L2.St → Hp → XK → Prop := fun σ H Q => ta σ H fun vs H1 => vs.length = fs.length ∧ vs.length ≤ 1000 ∧ (∀ a, H1 a = none → ok vs (upd H1 a (exo a C none))) ∧
  ∀ d, H1 d = none → Q (.ref C) (some d) (upd H1 d (.xd (fs.zip vs).reverse))
theorem tMk_of {fs : List Str} {ok : List V → Hp → Prop} {σ : L2.St} {H : Hp} {Q : XK} (hm : ∀ {P Q : List V → Hp → Prop}, (∀ vs H, P vs H → Q vs H) → ∀ {σ H}, ta σ H P → ta σ H Q) (h : tMkS C fs ok ta σ H Q) : tMkO C (spInit C fs ok) [] ta σ H Q := by
  refine hm (fun vs H1 hq => ?_) h
  obtain ⟨h1, h2, h3, h4⟩ := hq
  refine ⟨h2, fun a na => ?_⟩
  rw [List.append_nil]
  refine ⟨a, vs, rfl, h1, upd_same, h3 a na, fun H2 dx same fx nx ea ed => ⟨rfl, dx, _, ea, ed, ?_, ?_⟩⟩
  · rw [← upd_ne (H := H1) (o := exo a C none) nx]
    exact fx
  · have e9 : upd (del H2 a) dx (.xd (fs.zip vs).reverse) = upd H1 dx (.xd (fs.zip vs).reverse) := by
      funext b
      by_cases hb : b = dx
      · rw [hb, upd_same, upd_same]
      · rw [upd_ne hb, upd_ne hb]
        by_cases hb2 : b = a
        · rw [hb2, del_same, na]
        · rw [del_ne hb2, same b hb2 hb, upd_ne hb2]
    rw [e9]
    refine h4 dx ?_
    rw [← upd_ne (H := H1) (o := exo a C none) nx]
    exact fx
end
/-! ### the fields -/
section
variable {X : Cx}
theorem fst_field {K : PySem.W.Frag} {σ : L2.St} {H : Hp} {D : Ends} {a C : Addr} {f : Str} {y : V} {to te : TE} (T : OexC K C) (hf : PySem.W.findIn K (.ref C) f = some none) (e : H a = some (exo a C none)) (h1 : ∀ Q, te σ H Q ↔ Q y H) (h2 : ∀ Q, to σ H Q ↔ Q (.ref a) H)
    (h : ∀ dx, H dx = none → dx ≠ a → D.nx σ (upd (upd H dx (exd dx [(f, y)])) a (exo a C (some dx)))) : tOst K f to te D σ H :=
  (h1 _).mpr ((h2 _).mpr ⟨a, C, rfl, T, hf, .inl ⟨e, h⟩⟩)
theorem nxt_field {K : PySem.W.Frag} {σ : L2.St} {H : Hp} {D : Ends} {a C dx : Addr} {f : Str} {y : V} {fs : List (Str × V)} {to te : TE} (T : OexC K C) (hf : PySem.W.findIn K (.ref C) f = some none) (e : H a = some (exo a C (some dx))) (ed : H dx = some (exd dx fs)) (hl : fs.length ≤ 900)
    (h1 : ∀ Q, te σ H Q ↔ Q y H) (h2 : ∀ Q, to σ H Q ↔ Q (.ref a) H) (h : D.nx σ (upd H dx (exd dx ((f, y) :: fs)))) : tOst K f to te D σ H :=
  (h1 _).mpr ((h2 _).mpr ⟨a, C, rfl, T, hf, .inr ⟨dx, fs, e, ed, hl, h⟩⟩)
end
/-! ### {t}, t a tuple of whole numbers, in an f-string: some text -/
section
variable {X : Cx}
theorem repr_ints {prog : Program} {w : World} : ∀ {l : List Int} {its : List Value}, Vals (l.map V.int) its → (∀ y ∈ l, y.natAbs.log2 < 1920) → ReprAll prog w its (l.map fun y => ((toString y : String) : Str))
  | [], _, r, _ => by
    cases r
    exact .nil
  | y :: l, _, r, h => by
    cases r with
    | cons ra rb =>
      obtain ⟨t, rfl⟩ := ra
      exact .cons (ReprIs.int t (h y List.mem_cons_self)) (repr_ints rb fun z hz => h z (List.mem_cons_of_mem _ hz))
def tFmtI (K : PySem.W.Frag) (te : TE) : TE := fun σ H Q => te σ H fun x H1 => ∃ (a : Addr) (l : List Int), x = .ref a ∧ SqT K H1 a (l.map V.int) ∧ (∀ y ∈ l, y.natAbs.log2 < 1920) ∧ (tupleText (l.map fun y => ((toString y : String) : Str))).length ≤ 1000000 ∧ ∀ m : Str, m.length ≤ 1000005 → Q (.str m) H1
theorem pe_fmtI {e : Expr} {te : TE} {pos : Pos} {k : Nat} (hr : Room k X.A) (he : PE X e te) : PE X (.FormattedValue e (-1) none pos) (tFmtI X.K te) := by
  refine ⟨fun pins s σ H Q I h => ?_⟩
  refine wpAny_FormattedValue_plain (thn (he.run pins s σ H _ I h) fun v s1 hv => ?_)
  obtain ⟨x, H1, I1, r1, a, l, rfl, ht, hl, hz, q⟩ := hv
  cases r1
  obtain ⟨its, rv, ⟨o, ho, hcl, n, hd⟩, _⟩ := I1.tuple ht
  have hu := hr.units
  refine fmt_tuple (ts := l.map fun y => ((toString y : String) : Str)) (by omega) ho hcl hd (repr_ints rv hl) (by rw [sizeLine_eq]; omega) fun m u tk hm => ?_
  exact ⟨.str m, H1, I1.tok _, ⟨u, rfl⟩, q m (by omega)⟩
end
end Own
set_option maxHeartbeats 2000000
namespace Own
open PySem PySem.Spec PyProof.Rows L2 HT NdefX
/-- the j-th statement of a class's body -/
def clsAt (s : Stmt) (j : Nat) : Stmt := match s with
  | .ClassDef _ _ _ b _ _ _ _ _ _ _ => b.getD j (.Pass ⟨0, 0, 0, 0⟩)
  | _ => .Pass ⟨0, 0, 0, 0⟩
/-! ### defs that may raise, defs called within an except suite -/
section
variable {P : Program} {w : World} {K : PySem.W.Frag} {mg : Str → Option Value} {base : Heap} {x qual : Str} {st : Stmt} {f : Addr} {fd : FuncData} {N ps : List Str} {k : Nat} {sp : Sp}
theorem _root_.L2.Fun.okN (F : Fun K x qual st f fd) (S : FnScope N ps (defScope st)) (len : ∀ vs H Q E, sp vs H Q E → vs.length = ps.length)
    (hb : ∀ (cdv : Value) (A : Around) (outer : List Env) (s : Shared) (H : Hp) (vs : List V) (Q : VK) (E : XK), Room k (A.deeper (envOfC qual (defScope st) s.heap.objs.size f cdv)) → sp vs H Q E →
      ∃ t, PSs (cxOf (L2N.CX P w) P w K mg base N qual (defScope st) f cdv A outer s H E) (defBody st) t ∧ t { nx := fun _ H' => Q .non H', rt := Q } (start N vs) H) : FnOk P w K mg base (L2N.CX P w) (k + 1) f fd ps sp := by
  obtain ⟨oc, od, kV, doc, pm, an, cdv, ct, osl, rfl, l, c⟩ := F.ex
  exact fn_of l c S len fun A outer s H vs Q E r q => hb cdv A outer s H vs Q E r q
theorem _root_.L2.Fun.okH (F : Fun K x qual st f fd) (S : FnScope N ps (defScope st)) (len : ∀ vs H Q E, sp vs H Q E → vs.length = ps.length)
    (hb : ∀ (cdv : Value) (A : Around) (outer : List Env) (s : Shared) (H : Hp) (vs : List V) (Q : VK) (E : XK) (p : Addr × Obj), L2H.HotC (L2H.cxH CX0 P w K mg base N qual (defScope st) f cdv A outer s H E p) → L2H.RoomH k (A.deeper (envOfC qual (defScope st) s.heap.objs.size f cdv)) → sp vs H Q E →
      ∃ t, PSs (L2H.cxH CX0 P w K mg base N qual (defScope st) f cdv A outer s H E p) (defBody st) t ∧ t { nx := fun _ H' => Q .non H', rt := Q } (start N vs) H) : L2H.FnH P w K mg base CX0 (k + 1) f fd ps sp := by
  obtain ⟨oc, od, kV, doc, pm, an, cdv, ct, osl, rfl, l, c⟩ := F.ex
  exact L2H.fn_ofH l c S len fun A outer s H vs Q E p hot r q => hb cdv A outer s H vs Q E p ⟨p, ⟨hot.1, hot.2⟩, List.mem_singleton.mpr rfl⟩ r q
end
theorem passA0 {X : Cx} {E : L2.St → XK} (σ : L2.St) : PassesAt CX0 X σ (E σ) := fun _ _ _ _ _ _ z => z.elim
/-- around a body nothing is let out -/
theorem takesN0 {X : Cx} : L2N.Takes X (fun _ _ _ _ => False) := fun _ _ x => by
  obtain ⟨_, _, _, _, _, _, _, _, _, _, _, _, _, _, _, _, z⟩ := x
  exact z.elim
/-! ### raise C(e, ..) -/
section
variable {X : Cx} {CX : CXT} {x : Str} {e : Expr} {es : List Expr} {ta : TA} {p pos pos2 : Pos} {C fI : Addr} {k : Nat} {fd : FuncData} {ps : List Str} {fs : List Str} {ok : List V → Hp → Prop} {W : WX}
theorem ps_raiseS (hc : X.calm = true) (tk : L2N.Takes X W) (T : OexC X.K C) (iC : PySem.W.findIn X.K (.ref C) "__init__" = some (some (.ref fI))) (tI : PySem.W.typeIn X.K (.ref fI) = some (.type "function"))
    (F1 : FnOk X.prog X.w X.K X.mg X.base CX k fI fd ps (spInit C fs ok)) (hr : Room (k + 1) X.A) (hb : Binds X.K fd ps []) (hx : Passes CX X (fun _ _ _ => False)) (hg : Gl X x) (hm : X.mg x = some (.ref C)) (ha : PA X (e :: es) ta)
    (mono : ∀ {P Q : List V → Hp → Prop}, (∀ vs H, P vs H → Q vs H) → ∀ {σ H}, ta σ H P → ta σ H Q)
    (hdb : (x == ("__debug__" : Str)) = false := by decide) (he : starEach (e :: es) X.env = (false, eval e X.env) :: starEach es X.env := by rfl) (hpl : (backTo pos (starEach es X.env)).any (·.1) = false := by rfl) :
    PS X (.Raise (some (.Call (.Name x p) (e :: es) [] pos)) none pos2) (fun _ σ H => tMkS C fs ok ta σ H fun cls d H' => W cls d σ H') := by
  have m := pmkN_sup (p := p) (pos := pos) T iC tI F1 hr hb hx hg hm ha hdb he hpl
  exact L2N.ps_raise (t := tMkS C fs ok ta) hc tk fun pins s σ H Q I h => m pins s σ H Q I (tMk_of mono h)
end
/-! ### the caught exception, asked -/
structure ErrC (K : PySem.W.Frag) (C : Addr) : Prop where
  ga : PySem.W.findIn K (.ref C) "__getattribute__" = some (some (.builtin "BaseException.__getattribute__"))
  gg : PySem.W.findIn K (.ref C) "__getattr__" = some none
  exC : PySem.W.subIn K (.ref C) (.type "BaseException") = some true
  hdC : PySem.W.hasDictIn K C = true
  ic : PySem.W.isClsIn K C = true
  ca : PySem.W.findIn K (.ref C) "__class__" = some (some (.builtin "object.__class__"))
  cn : PySem.W.specialIn K (.builtin "object.__class__") "__get__" = some (some (.builtin "getset_descriptor.__get__"))
  ct : PySem.W.takesIn K (.builtin "object.__class__") = some true
  mo : PySem.W.mroIn K C (.type "object") = some true
theorem ErrC.xf {K : PySem.W.Frag} {C : Addr} (T : ErrC K C) : XfC K C := ⟨T.ga, T.gg, T.exC, T.hdC⟩
def rIsD (K : PySem.W.Frag) (C a : Addr) (cls : Value) (d : Option Addr) : List V → Hp → VK → Prop := fun xs H Q => cls = .ref C ∧ ∃ (dd : Addr) (fs : List (Str × V)) (c : V) (cv : Value) (b : Bool), d = some dd ∧ H dd = some (.xd fs) ∧ xs = [.ref a, c] ∧ (∀ u, RelV c u → u = cv) ∧ PySem.W.kitOne K (.ref C) cv = some b ∧ Q (.bl b) H
theorem call_isD {X : Cx} {a C : Addr} {cls : Value} {d : Option Addr} {oe : Obj} {pn : List (Addr × Obj)} (T : ErrC X.K C) (hz : Zc cls d oe) (hf : ∃ vs, oe.data = .fields vs) : CallR (X.suite a ((a, oe) :: pn)) (.builtin "isinstance") (rIsD X.K C a cls d) := by
  intro pins s σ H xs us Q I r h
  obtain ⟨ec, dd, fs, c, cv, b, ed, hdd, rfl, hcv, hk, q⟩ := h
  subst ec
  subst ed
  obtain ⟨u1, rest, rfl, r1, rr⟩ : ∃ u1 rest, us = u1 :: rest ∧ RelV (.ref a) u1 ∧ Vals [c] rest := by
    cases r with
    | cons x y => exact ⟨_, _, rfl, x, y⟩
  obtain ⟨u2, rfl, r2⟩ := rr.one
  cases r1
  have e2 := hcv _ r2
  subst e2
  obtain ⟨hget, _⟩ := I.pin (a, oe) (List.mem_append_left _ List.mem_cons_self)
  obtain ⟨vs, hv⟩ := hf
  obtain ⟨mA, hns, _⟩ := (show ObjOk X.prog X.w H s.heap dd (.xd fs) from I.hok dd _ hdd)
  obtain ⟨od, ho, _⟩ := lookIn_ns hns
  have J : PySem.W.InstAt s.heap a oe C (some od) := ⟨hget, hz.1, by unfold PySem.W.notCls; rw [hv] <;> rfl, by rw [hz.2]; exact ho⟩
  exact PySem.W.kia_one (PySem.W.kitx_exc T.ic T.ga T.gg T.exC T.ca T.cn T.ct T.mo) I.kIn J hk (fun z => nomatch z) fun tk => ⟨.bl b, H, I.kept (t' := tk) fun _ _ z => z, rfl, q⟩
/-- the handled exception of a suite, for calls within it -/
theorem hot_suite {X : Cx} {a : Addr} {oe : Obj} {cls : Value} {d : Option Addr} {pn : List (Addr × Obj)} (hz : L2N.Zn cls d oe) (hf : ∃ vs, oe.data = .fields vs) : L2H.HotC (X.suite a ((a, oe) :: pn)) := by
  obtain ⟨vs, hv⟩ := hf
  exact ⟨(a, oe), ⟨rfl, vs, hv, hz.2.2 vs hv⟩, List.mem_cons_self⟩
/-- a class in an except clause, of itself -/
theorem exm_self {K : PySem.W.Frag} {C : Addr} (h1 : PySem.W.subIn K (.ref C) (.type "BaseException") = some true) (h2 : PySem.W.isClsIn K C = true) (h3 : PySem.W.typeIn K (.ref C) = some (.type "type")) {cls : Value} {b : Bool} (h4 : PySem.W.subIn K cls (.ref C) = some b) : PySem.W.exmOne K cls (.ref C) = some b := by
  have e1 : (PySem.W.subIn K (.ref C) (.type "BaseException") == some true) = true := by rw [h1] <;> rfl
  have e2 : ((PySem.W.clsIn K C).isSome && PySem.W.typeIn K (.ref C) == some (.type "type")) = true := by
    have h5 : (PySem.W.clsIn K C).isSome = true := h2
    rw [h5, h3] <;> rfl
  show (if (PySem.W.subIn K (.ref C) (.type "BaseException") == some true) = true then (if ((PySem.W.clsIn K C).isSome && PySem.W.typeIn K (.ref C) == some (.type "type")) = true then PySem.W.subIn K cls (.ref C) else none) else none) = some b
  rw [if_pos e1, if_pos e2]
  exact h4
end Own
namespace Own
open PySem PySem.Spec PyProof.Rows L2 HT
theorem mono1 {i : Nat} {P Q : List V → Hp → Prop} (hm : ∀ vs H, P vs H → Q vs H) {σ : L2.St} {H : Hp} (h : tCons (tVar i) tNil σ H P) : tCons (tVar i) tNil σ H Q := by
  obtain ⟨v, hv, hp⟩ := h
  exact ⟨v, hv, hm _ _ hp⟩
theorem monoS {x : Str} {P Q : List V → Hp → Prop} (hm : ∀ vs H, P vs H → Q vs H) {σ : L2.St} {H : Hp} (h : tCons (tC (.str x)) tNil σ H P) : tCons (tC (.str x)) tNil σ H Q := hm _ _ h
end Own
namespace Own
open PySem PySem.Spec PyProof.Rows L2 HT
/-! ### positions -/
def Ter.step (n : Int) : Ter → Option Ter
  | .var _ => none
  | .ap _ as => if 1 ≤ n then as[(n - 1).toNat]? else none
def Ter.at : Ter → List Int → Option Ter
  | t, [] => some t
  | t, n :: r => (t.step n).bind fun u => u.at r
theorem at_app : ∀ (ns ms : List Int) (t : Ter), t.at (ns ++ ms) = (t.at ns).bind fun u => u.at ms
  | [], _, _ => rfl
  | n :: r, ms, t => by
    show ((t.step n).bind fun u => u.at (r ++ ms)) = _
    rw [show t.at (n :: r) = (t.step n).bind fun u => u.at r from rfl]
    cases t.step n with
    | none => rfl
    | some u => exact at_app r ms u
theorem at_one (n : Int) (t : Ter) : t.at [n] = t.step n := by
  show ((t.step n).bind fun u => some u) = _
  cases t.step n <;> rfl
theorem at_snoc {ns : List Int} {n : Int} {t u : Ter} (h : t.at ns = some u) : t.at (ns ++ [n]) = u.step n := by
  rw [at_app, h]
  exact at_one n u
theorem at_none {ns : List Int} (ms : List Int) {t : Ter} (h : t.at ns = none) : t.at (ns ++ ms) = none := by rw [at_app, h]; rfl
/-- put in the place of the subterm at a position -/
def Ter.put : Ter → Ter → List Int → Ter
  | _, s, [] => s
  | .var k, _, _ :: _ => .var k
  | .ap f as, s, n :: r => .ap f (as.modify (n - 1).toNat fun a => a.put s r)
theorem step_eq (f : Str) (as : List Ter) (n : Int) : (Ter.ap f as).step n = if 1 ≤ n then as[(n - 1).toNat]? else none := rfl
theorem step_ap {f : Str} {as : List Ter} {n : Int} {u : Ter} (h : (Ter.ap f as).step n = some u) : 1 ≤ n ∧ as[(n - 1).toNat]? = some u := by
  rw [step_eq] at h
  by_cases c : 1 ≤ n
  · rw [if_pos c] at h
    exact ⟨c, h⟩
  · rw [if_neg c] at h
    cases h
theorem step_var {k : Key} {n : Int} : (Ter.var k).step n = none := rfl
theorem put_at (s : Ter) : ∀ (ns : List Int) (t u : Ter), t.at ns = some u → (t.put s ns).at ns = some s
  | [], t, u, _ => by cases t <;> rfl
  | n :: r, .var k, u, h => by cases h
  | n :: r, .ap f as, u, h => by
    cases e : (Ter.ap f as).step n with
    | none => rw [show (Ter.ap f as).at (n :: r) = ((Ter.ap f as).step n).bind fun u => u.at r from rfl, e] at h; cases h
    | some a =>
      have h : a.at r = some u := by rw [show (Ter.ap f as).at (n :: r) = ((Ter.ap f as).step n).bind fun u => u.at r from rfl, e] at h; exact h
      obtain ⟨h1, h2⟩ := step_ap e
      show ((Ter.ap f _).step n).bind _ = _
      rw [step_eq]
      rw [if_pos h1, List.getElem?_modify_eq, h2]
      exact put_at s r a u h
theorem put_put (s : Ter) : ∀ (ns : List Int) (t u : Ter), t.at ns = some u → (t.put s ns).put u ns = t
  | [], t, u, h => by
    cases (show some t = some u from h)
    cases s <;> rfl
  | n :: r, .var k, u, h => by cases h
  | n :: r, .ap f as, u, h => by
    cases e : (Ter.ap f as).step n with
    | none => rw [show (Ter.ap f as).at (n :: r) = ((Ter.ap f as).step n).bind fun u => u.at r from rfl, e] at h; cases h
    | some a =>
      have h : a.at r = some u := by rw [show (Ter.ap f as).at (n :: r) = ((Ter.ap f as).step n).bind fun u => u.at r from rfl, e] at h; exact h
      obtain ⟨h1, h2⟩ := step_ap e
      show Ter.ap f ((as.modify (n - 1).toNat fun a => a.put s r).modify (n - 1).toNat fun a => a.put u r) = Ter.ap f as
      congr 1
      apply List.ext_getElem?
      intro j
      by_cases hj : (n - 1).toNat = j
      · subst hj
        rw [List.getElem?_modify_eq, List.getElem?_modify_eq, h2]
        exact congrArg some (put_put s r a u h)
      · rw [List.getElem?_modify_ne _ _ hj, List.getElem?_modify_ne _ _ hj]
/-- what stands at a place that is neither above nor below -/
theorem put_beside (s : Ter) : ∀ (ms ns : List Int) (t u v : Ter), (∀ k ∈ ms, 1 ≤ k) → t.at ns = some u → t.at ms = some v → ms.take (min ms.length ns.length) ≠ ns.take (min ms.length ns.length) → (t.put s ns).at ms = some v
  | [], ns, t, u, v, _, _, _, d => by
    rw [show min ([] : List Int).length ns.length = 0 from Nat.zero_min _] at d
    exact absurd rfl d
  | m :: ms, [], t, u, v, _, _, _, d => by
    rw [show min (m :: ms).length ([] : List Int).length = 0 from Nat.min_zero _] at d
    exact absurd rfl d
  | m :: ms, n :: r, .var k, u, v, _, h, _, _ => by cases h
  | m :: ms, n :: r, .ap f as, u, v, pos, h, hm, d => by
    have key : ∀ (q : List Int) (x : Int) (w : Ter), (Ter.ap f as).at (x :: q) = some w → ∃ a, (Ter.ap f as).step x = some a ∧ a.at q = some w := fun q x w h => by
      cases e : (Ter.ap f as).step x with
      | none => rw [show (Ter.ap f as).at (x :: q) = ((Ter.ap f as).step x).bind fun u => u.at q from rfl, e] at h; cases h
      | some a => exact ⟨a, rfl, by rw [show (Ter.ap f as).at (x :: q) = ((Ter.ap f as).step x).bind fun u => u.at q from rfl, e] at h; exact h⟩
    obtain ⟨a, ea, ha⟩ := key r n u h
    obtain ⟨b, eb, hb⟩ := key ms m v hm
    obtain ⟨h1, h2⟩ := step_ap ea
    obtain ⟨g1, g2⟩ := step_ap eb
    show ((Ter.ap f (as.modify (n - 1).toNat fun a => a.put s r)).step m).bind _ = some v
    rw [step_eq]
    rw [if_pos g1]
    by_cases e : m = n
    · subst e
      rw [h2] at g2
      cases g2
      rw [List.getElem?_modify_eq, h2]
      refine put_beside s ms r a u v (fun k hk => pos k (List.mem_cons_of_mem _ hk)) ha hb fun z => d ?_
      rw [List.length_cons, List.length_cons, Nat.succ_min_succ, List.take_succ_cons, List.take_succ_cons, z]
    · rw [List.getElem?_modify_ne _ _ (show (n - 1).toNat ≠ (m - 1).toNat by omega), g2]
      exact hb
/-- what stands above -/
theorem put_above (s : Ter) : ∀ (ms ns : List Int) (t u v : Ter), t.at ns = some u → t.at ms = some v → ms.length < ns.length → ms.take (min ms.length ns.length) = ns.take (min ms.length ns.length) → ∃ f as bs, v = .ap f as ∧ (t.put s ns).at ms = some (.ap f bs) ∧ bs.length = as.length
  | [], [], _, _, _, _, _, l, _ => absurd l (by simp)
  | [], n :: r, .var k, u, v, h, _, _, _ => by cases h
  | [], n :: r, .ap f as, u, v, h, hv, l, _ => by
    cases (show some _ = some v from hv)
    exact ⟨f, as, _, rfl, rfl, List.length_modify _ _ _⟩
  | m :: ms, [], _, _, _, _, _, l, _ => absurd l (by simp)
  | m :: ms, n :: r, .var k, u, v, h, _, _, _ => by cases h
  | m :: ms, n :: r, .ap f as, u, v, h, hv, l, e => by
    rw [List.length_cons, List.length_cons, Nat.succ_min_succ, List.take_succ_cons, List.take_succ_cons] at e
    obtain ⟨e1, e2⟩ := List.cons.inj e
    subst e1
    have key : ∀ (q : List Int) (x : Int) (w : Ter), (Ter.ap f as).at (x :: q) = some w → ∃ a, (Ter.ap f as).step x = some a ∧ a.at q = some w := fun q x w h => by
      cases e : (Ter.ap f as).step x with
      | none => rw [show (Ter.ap f as).at (x :: q) = ((Ter.ap f as).step x).bind fun u => u.at q from rfl, e] at h; cases h
      | some a => exact ⟨a, rfl, by rw [show (Ter.ap f as).at (x :: q) = ((Ter.ap f as).step x).bind fun u => u.at q from rfl, e] at h; exact h⟩
    obtain ⟨a, ea, ha⟩ := key r m u h
    obtain ⟨b, eb, hb⟩ := key ms m v hv
    obtain ⟨h1, h2⟩ := step_ap ea
    rw [ea] at eb
    cases eb
    obtain ⟨g, xs, ys, rfl, hy, ly⟩ := put_above s ms r a u v ha hb (by simp only [List.length_cons] at l; omega) e2
    refine ⟨g, xs, ys, rfl, ?_, ly⟩
    show ((Ter.ap f (as.modify (m - 1).toNat fun a => a.put s r)).step m).bind _ = _
    rw [step_eq]
    rw [if_pos h1, List.getElem?_modify_eq, h2]
    exact hy
/-- from below: one level of put -/
theorem put_up {s : Ter} {ns ms : List Int} {n : Int} {t : Ter} {f : Str} {as : List Ter} {a : Ter} (ht : t.at ns = some (.ap f as)) (h1 : 1 ≤ n) (ha : as[(n - 1).toNat]? = some a) :
    (Ter.ap f as).put s (n :: ms) = .ap f (as.take (n - 1).toNat ++ a.put s ms :: as.drop ((n - 1).toNat + 1)) := by
  show Ter.ap f (as.modify (n - 1).toNat fun a => a.put s ms) = _
  congr 1
  obtain ⟨hl, e⟩ := List.getElem?_eq_some_iff.mp ha
  rw [List.modify_eq_take_cons_drop hl, e]
/-! ### the walk -/
abbrev Row := List Int × Ter
mutual
def Ter.walk (here : List Int) : Ter → List Row
  | .var k => [(here, .var k)]
  | .ap f as => (here, .ap f as) :: Ter.walks here 1 as
def Ter.walks (here : List Int) (i : Int) : List Ter → List Row
  | [] => []
  | a :: r => a.walk (here ++ [i]) ++ Ter.walks here (i + 1) r
end
theorem walks_app (here : List Int) : ∀ (as bs : List Ter) (i : Int), Ter.walks here i (as ++ bs) = Ter.walks here i as ++ Ter.walks here (i + as.length) bs
  | [], bs, i => by
    show Ter.walks here i bs = [] ++ Ter.walks here (i + (0 : Nat)) bs
    simp
  | a :: r, bs, i => by
    show a.walk (here ++ [i]) ++ Ter.walks here (i + 1) (r ++ bs) = (a.walk (here ++ [i]) ++ Ter.walks here (i + 1) r) ++ Ter.walks here (i + ((r.length + 1 : Nat) : Int)) bs
    rw [walks_app here r bs (i + 1), List.append_assoc, show i + 1 + (r.length : Int) = i + ((r.length + 1 : Nat) : Int) by omega]
mutual
theorem walk_len (here : List Int) : ∀ t : Ter, (t.walk here).length = t.size
  | .var k => rfl
  | .ap f as => by
    show (Ter.walks here 1 as).length + 1 = Ter.sizes as + 1
    rw [walks_len here as 1]
theorem walks_len (here : List Int) : ∀ (ts : List Ter) (i : Int), (Ter.walks here i ts).length = Ter.sizes ts
  | [], _ => rfl
  | t :: r, i => by
    show (t.walk _ ++ Ter.walks here (i + 1) r).length = t.size + Ter.sizes r
    rw [List.length_append, walk_len, walks_len here r]
end
/-- symbols of at most three arguments -/
def ar3 (f : Str) (n : Nat) : Prop := PyData.strOk f = true ∧ n ≤ 3
def anyKey (_ : Key) : Prop := True
theorem at_wf {W : Str → Nat → Prop} {U : Key → Prop} : ∀ (ns : List Int) (t u : Ter), t.wf W U → t.at ns = some u → u.wf W U ∧ u.size ≤ t.size ∧ u.nest + ns.length ≤ t.nest
  | [], t, u, h, e => by
    cases (show some t = some u from e)
    exact ⟨h, Nat.le_refl _, Nat.le_refl _⟩
  | n :: r, .var k, u, h, e => by cases e
  | n :: r, .ap f as, u, h, e => by
    cases e2 : (Ter.ap f as).step n with
    | none => rw [show (Ter.ap f as).at (n :: r) = ((Ter.ap f as).step n).bind fun u => u.at r from rfl, e2] at e; cases e
    | some a =>
      have e : a.at r = some u := by rw [show (Ter.ap f as).at (n :: r) = ((Ter.ap f as).step n).bind fun u => u.at r from rfl, e2] at e; exact e
      obtain ⟨h1, h2⟩ := step_ap e2
      have hm := wfs_get h.2 h2
      obtain ⟨k1, k2, k3⟩ := at_wf r a u hm e
      have s1 := size_le_of h2
      have n1 := nest_le_of h2
      refine ⟨k1, ?_, ?_⟩
      · show _ ≤ Ter.sizes as + 1
        omega
      · show u.nest + (r.length + 1) ≤ Ter.nests as + 1
        omega
mutual
theorem walk_mem (here : List Int) : ∀ (t : Ter), t.wf ar3 anyKey → ∀ x ∈ t.walk here, ∃ q, x.1 = here ++ q ∧ t.at q = some x.2 ∧ ∀ y ∈ q, 1 ≤ y ∧ y ≤ 3
  | .var k, _, x, hx => by
    rw [List.mem_singleton.mp hx]
    exact ⟨[], (List.append_nil _).symm, rfl, fun y hy => by cases hy⟩
  | .ap f as, h, x, hx => by
    rcases List.mem_cons.mp hx with rfl | hx
    · exact ⟨[], (List.append_nil _).symm, rfl, fun y hy => by cases hy⟩
    · obtain ⟨j, a, q, hj, e1, e2, e3⟩ := walks_mem here as 1 (by omega) h.2 x hx
      have lt := (List.getElem?_eq_some_iff.mp hj).1
      have l3 := h.1.2
      refine ⟨(1 + (j : Int)) :: q, e1, ?_, fun y hy => ?_⟩
      · show ((Ter.ap f as).step (1 + (j : Int))).bind _ = _
        rw [step_eq]
        rw [if_pos (by omega), show (1 + (j : Int) - 1).toNat = j by omega, hj]
        exact e2
      · rcases List.mem_cons.mp hy with rfl | hy
        · omega
        · exact e3 y hy
theorem walks_mem (here : List Int) : ∀ (ts : List Ter) (i : Int), 0 ≤ i → Ter.wfs ar3 anyKey ts → ∀ x ∈ Ter.walks here i ts, ∃ (j : Nat) (a : Ter) (q : List Int), ts[j]? = some a ∧ x.1 = here ++ (i + (j : Int)) :: q ∧ a.at q = some x.2 ∧ ∀ y ∈ q, 1 ≤ y ∧ y ≤ 3
  | [], _, _, _, x, hx => by cases hx
  | t :: r, i, hi, h, x, hx => by
    rcases List.mem_append.mp hx with hx | hx
    · obtain ⟨q, e1, e2, e3⟩ := walk_mem (here ++ [i]) t h.1 x hx
      refine ⟨0, t, q, rfl, ?_, e2, e3⟩
      rw [e1, List.append_assoc]
      show here ++ (i :: q) = here ++ (i + ((0 : Nat) : Int)) :: q
      rw [show i + ((0 : Nat) : Int) = i by omega]
    · obtain ⟨j, a, q, hj, e1, e2, e3⟩ := walks_mem here r (i + 1) (by omega) h.2 x hx
      refine ⟨j + 1, a, q, hj, ?_, e2, e3⟩
      rw [e1, show i + 1 + (j : Int) = i + ((j + 1 : Nat) : Int) by omega]
end
/-! ### rows on the heap -/
inductive RowAt (H : Hp) : V → Row → Prop
  | mk {r b : Addr} {x : V} {p : List Int} {u : Ter} : H r = some (.tup [.ref b, x]) → H b = some (.tup (p.map V.int)) → TmAt H x u → RowAt H (.ref r) (p, u)
inductive RowAll (H : Hp) : List V → List Row → Prop
  | nil : RowAll H [] []
  | cons {v : V} {p : Row} {vs : List V} {ps : List Row} : RowAt H v p → RowAll H vs ps → RowAll H (v :: vs) (p :: ps)
theorem RowAt.mono {H H' : Hp} (m : Tups H H') {v : V} {p : Row} (h : RowAt H v p) : RowAt H' v p := by
  cases h with
  | mk e1 e2 e3 => exact .mk (m _ _ e1) (m _ _ e2) (TmAt.mono m _ _ e3)
theorem RowAll.mono {H H' : Hp} (m : Tups H H') : ∀ {vs : List V} {ps : List Row}, RowAll H vs ps → RowAll H' vs ps
  | _, _, .nil => .nil
  | _, _, .cons a r => .cons (a.mono m) (r.mono m)
theorem RowAll.len {H : Hp} : ∀ {vs : List V} {ps : List Row}, RowAll H vs ps → vs.length = ps.length
  | _, _, .nil => rfl
  | _, _, .cons _ r => congrArg (· + 1) r.len
theorem RowAll.app {H : Hp} : ∀ {vs ws : List V} {ps qs : List Row}, RowAll H vs ps → RowAll H ws qs → RowAll H (vs ++ ws) (ps ++ qs)
  | _, _, _, _, .nil, b => b
  | _, _, _, _, .cons a r, b => .cons a (r.app b)
theorem RowAll.get {H : Hp} : ∀ {vs : List V} {ps : List Row} {i : Nat} {v : V}, RowAll H vs ps → vs[i]? = some v → ∃ p, ps[i]? = some p ∧ RowAt H v p
  | _, _, _, _, .nil, h => by cases h
  | _, _, 0, _, .cons a r, h => by
    cases (show some _ = some _ from h)
    exact ⟨_, rfl, a⟩
  | _, _, i + 1, _, .cons a r, h => r.get (i := i) h
/-! ### a position's text -/
def posOk (ns : List Int) : Prop := ns.length ≤ 100 ∧ ∀ y ∈ ns, 0 ≤ y ∧ y < 900
theorem pos_text {ns : List Int} (h : posOk ns) : (∀ y ∈ ns, y.natAbs.log2 < 1920) ∧ (tupleText (ns.map fun y => ((toString y : String) : Str))).length ≤ 1000000 := by
  refine ⟨fun y hy => ?_, ?_⟩
  · have := h.2 y hy
    refine Nat.lt_of_le_of_lt (Nat.log2_le_self _) ?_
    omega
  · have t1 := fmt_text (ns.map fun y => ((toString y : String) : Str))
    have t2 : ∀ l : List Int, (∀ y ∈ l, 0 ≤ y ∧ y < 900) → piled (l.map fun y => ((toString y : String) : Str)) ≤ 10 * l.length := fun l => by
      induction l with
      | nil => exact fun _ => Nat.zero_le _
      | cons y r ih =>
        intro hl
        have i1 := ih fun z hz => hl z (List.mem_cons_of_mem _ hz)
        have i2 := hl y List.mem_cons_self
        have i3 := num_len y i2.1 i2.2
        rw [List.map_cons, piled_cons, List.length_cons]
        omega
    have t3 := t2 ns h.2
    have t4 := h.1
    omega
theorem posOk_walk {t : Ter} {x : Row} (h : t.wf ar3 anyKey) (n : t.nest ≤ 50) (hx : x ∈ t.walk []) : posOk x.1 ∧ t.at x.1 = some x.2 ∧ ∀ y ∈ x.1, 1 ≤ y := by
  obtain ⟨q, e1, e2, e3⟩ := walk_mem [] t h x hx
  have e1 : x.1 = q := e1
  obtain ⟨_, _, k3⟩ := at_wf q t x.2 h e2
  rw [e1]
  exact ⟨⟨by omega, fun y hy => by have := e3 y hy; omega⟩, e2, fun y hy => (e3 y hy).1⟩
end Own
namespace Own
open PySem PySem.Spec PyProof.Rows L2 HT
theorem cut_take (xs : List V) (i : Nat) (h : i ≤ xs.length) : cutV xs none (some (i : Int)) = xs.take i := by
  unfold cutV
  rw [HT.sIx_nat, HT.sIx_none, Nat.min_eq_left h]
  simp
theorem cut_drop (xs : List V) (i : Nat) (h : i ≤ xs.length) : cutV xs (some (i : Int)) none = xs.drop i := by
  unfold cutV
  rw [HT.sIx_nat, HT.sIx_none, Nat.min_eq_left h]
  exact List.take_of_length_le (by rw [List.length_drop]; omega)
theorem TmAll.take {H : Hp} : ∀ {vs : List V} {ts : List Ter} (i : Nat), TmAll H vs ts → TmAll H (vs.take i) (ts.take i)
  | _, _, 0, _ => .nil
  | _, _, i + 1, .nil => .nil
  | _, _, i + 1, .cons a r => .cons a (r.take i)
theorem TmAll.drop {H : Hp} : ∀ {vs : List V} {ts : List Ter} (i : Nat), TmAll H vs ts → TmAll H (vs.drop i) (ts.drop i)
  | _, _, 0, h => h
  | _, _, i + 1, .nil => .nil
  | _, _, i + 1, .cons a r => r.drop i
/-- a position and one with more behind it -/
theorem catA_ints {K : PySem.W.Frag} {H : Hp} {a b : Addr} {ns ms : List Int} {Q : VK} (ha : H a = some (.tup (ns.map V.int))) (hb : H b = some (.tup (ms.map V.int))) (ne : ms ≠ []) (hl : ns.length + ms.length ≤ 1000)
    (q : ∀ (p : Addr) (H' : Hp), Same H H' → H' p = some (.tup ((ns ++ ms).map V.int)) → Q (.ref p) H') : rCatA K (.ref a) (.ref b) H Q := by
  refine ⟨a, b, _, _, rfl, rfl, .inl (.inl ha), .inl (.inl hb), small6 (by rw [List.length_map, List.length_map]; omega), fun z => ?_, fun _ z => ?_, fun _ _ p np => ?_⟩
  · have : ns = [] := List.map_eq_nil_iff.mp z
    subst this
    exact q b H (Same.refl _) hb
  · exact absurd (List.map_eq_nil_iff.mp z) ne
  · refine q p _ (same_new np _) ?_
    rw [upd_same, List.map_append]
end Own
namespace Own
open PySem PySem.Spec PyProof.Rows L2 HT
mutual
theorem wf_true : ∀ t : Ter, t.wf (fun _ _ => True) (fun _ => True)
  | .var _ => trivial
  | .ap _ as => ⟨trivial, wfs_true as⟩
theorem wfs_true : ∀ ts : List Ter, Ter.wfs (fun _ _ => True) (fun _ => True) ts
  | [] => trivial
  | t :: r => ⟨wf_true t, wfs_true r⟩
end
end Own
namespace Own
open PySem PySem.Spec PyProof.Rows L2 HT
theorem sizes_modify (f : Ter → Ter) (n : Nat) (h : ∀ a, (f a).size ≤ a.size + n) : ∀ (as : List Ter) (i : Nat), Ter.sizes (as.modify i f) ≤ Ter.sizes as + n
  | [], i => by rw [List.modify_nil]; exact Nat.zero_le _
  | a :: r, 0 => by
    rw [List.modify_zero_cons]
    have := h a
    show (f a).size + Ter.sizes r ≤ a.size + Ter.sizes r + n
    omega
  | a :: r, i + 1 => by
    rw [List.modify_succ_cons]
    have := sizes_modify f n h r i
    show a.size + Ter.sizes (r.modify i f) ≤ a.size + Ter.sizes r + n
    omega
theorem put_size (s : Ter) : ∀ (ns : List Int) (t : Ter), (t.put s ns).size ≤ t.size + s.size
  | [], t => by cases t <;> exact Nat.le_add_left _ _
  | n :: r, .var k => Nat.le_add_right _ _
  | n :: r, .ap f as => by
    have := sizes_modify (fun a => a.put s r) s.size (fun a => put_size s r a) as (n - 1).toNat
    show Ter.sizes (as.modify (n - 1).toNat fun a => a.put s r) + 1 ≤ Ter.sizes as + 1 + s.size
    omega
theorem eqv_ints : ∀ ns ms : List Int, PyData.eqvAll (ns.map PyData.int) (ms.map PyData.int) = decide (ns = ms)
  | [], [] => rfl
  | [], m :: ms => rfl
  | n :: ns, [] => rfl
  | n :: ns, m :: ms => by
    show ((n == m) && PyData.eqvAll (ns.map PyData.int) (ms.map PyData.int)) = _
    rw [eqv_ints ns ms]
    by_cases h1 : n = m
    · subst h1
      by_cases h2 : ns = ms
      · subst h2
        simp
      · simp [h2]
    · simp [h1]
theorem eqv_tints (ns ms : List Int) : PyData.eqv (.tuple (ns.map PyData.int)) (.tuple (ms.map PyData.int)) = decide (ns = ms) := eqv_ints ns ms
theorem lay_ints : ∀ ns : List Int, PyData.canLayAll0 (ns.map PyData.int) = true ∧ PyData.depthAll (ns.map PyData.int) = 0
  | [] => ⟨rfl, rfl⟩
  | n :: r => by
    obtain ⟨h1, h2⟩ := lay_ints r
    exact ⟨by show (true && PyData.canLayAll0 (r.map PyData.int)) = true; rw [h1]; rfl, by show max 0 (PyData.depthAll (r.map PyData.int)) = 0; rw [h2]; rfl⟩
theorem shaped_tints (ns : List Int) : SeqAt.shaped (.tuple (ns.map PyData.int)) = true := by
  obtain ⟨h1, h2⟩ := lay_ints ns
  show (PyData.canLayAll0 (ns.map PyData.int) && decide (PyData.depthAll (ns.map PyData.int) + 1 ≤ 64)) = true
  rw [h1, h2]
  rfl
/-- the beginning of a position -/
theorem slA_ints {K : PySem.W.Frag} {H : Hp} {a : Addr} {ns : List Int} {n : Nat} {Q : VK} (ha : H a = some (.tup (ns.map V.int))) (hn : n ≤ ns.length)
    (q : ∀ (p : Addr) (H' : Hp), Same H H' → H' p = some (.tup ((ns.take n).map V.int)) → Q (.ref p) H') : rSlA K (.ref a) none (some (n : Int)) H Q := by
  refine ⟨a, _, rfl, .inl (.inl ha), fun z => ?_, fun _ p np => ?_⟩
  · obtain ⟨_, z⟩ := z
    rw [HT.sIx_nat, List.length_map] at z
    refine q a H (Same.refl _) ?_
    rw [ha, show ns.take n = ns from List.take_of_length_le (by omega)]
  · refine q p _ (same_new np _) ?_
    rw [upd_same, cut_take _ _ (by rw [List.length_map]; exact hn), List.map_take]
theorem passLN {X : Cx} (σ : L2.St) : PassesAt (L2N.CX X.prog X.w) X σ ((fun _ => E0 : L2.St → XK) σ) := fun _ _ _ _ _ _ h => by
  obtain ⟨_, _, _, _, _, _, _, _, _, _, _, _, z⟩ := h
  exact z.elim
end Own
namespace Own
open PySem PySem.Spec PyProof.Rows L2 HT
/-! ### positions as a list, by a stack -/
def kids (p : List Int) (i : Int) : List Ter → List Row
  | [] => []
  | a :: r => (p ++ [i], a) :: kids p (i + 1) r
def allWalk (rs : List Row) : List Row := rs.flatMap fun x => x.2.walk x.1
theorem kids_walk (p : List Int) : ∀ (as : List Ter) (i : Int), allWalk (kids p i as) = Ter.walks p i as
  | [], _ => rfl
  | a :: r, i => by
    show a.walk (p ++ [i]) ++ allWalk (kids p (i + 1) r) = _
    rw [kids_walk p r (i + 1)]
    rfl
theorem kids_len (p : List Int) : ∀ (as : List Ter) (i : Int), (kids p i as).length = as.length
  | [], _ => rfl
  | _ :: r, i => congrArg (· + 1) (kids_len p r (i + 1))
theorem kids_get (p : List Int) : ∀ (as : List Ter) (i : Int) (j : Nat) (a : Ter), as[j]? = some a → (kids p i as)[j]? = some (p ++ [i + (j : Int)], a)
  | [], _, _, _, h => by cases h
  | b :: r, i, 0, a, h => by
    cases (show some b = some a from h)
    show some (p ++ [i], b) = some (p ++ [i + ((0 : Nat) : Int)], b)
    rw [show i + ((0 : Nat) : Int) = i by omega]
  | b :: r, i, j + 1, a, h => by
    show (kids p (i + 1) r)[j]? = _
    rw [kids_get p r (i + 1) j a h, show i + 1 + (j : Int) = i + ((j + 1 : Nat) : Int) by omega]
def rsize (rs : List Row) : Nat := Ter.sizes (rs.map (·.2))
theorem rsize_app (a b : List Row) : rsize (a ++ b) = rsize a + rsize b := by
  unfold rsize
  rw [List.map_append, Ter.sizes_app]
theorem rsize_rev (a : List Row) : rsize a.reverse = rsize a := by
  induction a with
  | nil => rfl
  | cons x r ih =>
    rw [List.reverse_cons, rsize_app, ih]
    show rsize r + (x.2.size + 0) = x.2.size + rsize r
    omega
theorem kids_size (p : List Int) : ∀ (as : List Ter) (i : Int), rsize (kids p i as) = Ter.sizes as
  | [], _ => rfl
  | a :: r, i => by
    have := kids_size p r (i + 1)
    show a.size + rsize (kids p (i + 1) r) = a.size + Ter.sizes r
    rw [this]
/-- what positions keeps -/
def posOf (wv : Bool) (rs : List Row) : List (List Int) := (rs.filter fun x => wv || !x.2.isVar).map (·.1)
theorem posOf_app (wv : Bool) (a b : List Row) : posOf wv (a ++ b) = posOf wv a ++ posOf wv b := by
  unfold posOf
  rw [List.filter_append, List.map_append]
theorem posOf_true (a : List Row) : posOf true a = a.map (·.1) := by
  unfold posOf
  have e : (a.filter fun x => true || !x.2.isVar) = a := List.filter_eq_self.mpr fun x _ => rfl
  rw [e]
theorem walk_ap (p : List Int) (f : Str) (as : List Ter) : (Ter.ap f as).walk p = (p, .ap f as) :: allWalk (kids p 1 as) := by rw [kids_walk]; rfl
/-! ### positions on the heap -/
inductive PosAt (H : Hp) : V → List Int → Prop
  | mk {b : Addr} {p : List Int} : H b = some (.tup (p.map V.int)) → PosAt H (.ref b) p
inductive PosAll (H : Hp) : List V → List (List Int) → Prop
  | nil : PosAll H [] []
  | cons {v : V} {p : List Int} {vs : List V} {ps : List (List Int)} : PosAt H v p → PosAll H vs ps → PosAll H (v :: vs) (p :: ps)
theorem PosAt.mono {H H' : Hp} (m : Tups H H') {v : V} {p : List Int} (h : PosAt H v p) : PosAt H' v p := by
  cases h with
  | mk e => exact .mk (m _ _ e)
theorem PosAll.mono {H H' : Hp} (m : Tups H H') : ∀ {vs : List V} {ps : List (List Int)}, PosAll H vs ps → PosAll H' vs ps
  | _, _, .nil => .nil
  | _, _, .cons a r => .cons (a.mono m) (r.mono m)
theorem PosAll.len {H : Hp} : ∀ {vs : List V} {ps : List (List Int)}, PosAll H vs ps → vs.length = ps.length
  | _, _, .nil => rfl
  | _, _, .cons _ r => congrArg (· + 1) r.len
theorem PosAll.app {H : Hp} : ∀ {vs ws : List V} {ps qs : List (List Int)}, PosAll H vs ps → PosAll H ws qs → PosAll H (vs ++ ws) (ps ++ qs)
  | _, _, _, _, .nil, b => b
  | _, _, _, _, .cons a r, b => .cons a (r.app b)
theorem PosAll.get {H : Hp} : ∀ {vs : List V} {ps : List (List Int)} {i : Nat} {v : V}, PosAll H vs ps → vs[i]? = some v → ∃ p, ps[i]? = some p ∧ PosAt H v p
  | _, _, _, _, .nil, h => by cases h
  | _, _, 0, _, .cons a r, h => by
    cases (show some _ = some _ from h)
    exact ⟨_, rfl, a⟩
  | _, _, i + 1, _, .cons a r, h => r.get (i := i) h
def posD (p : List Int) : PyData := .tuple (p.map PyData.int)
theorem dp_poss {K : PySem.W.Frag} {H : Hp} : ∀ {vs : List V} {ps : List (List Int)}, PosAll H vs ps → DpAll K H vs (ps.map posD)
  | _, _, .nil => .nil
  | _, _, .cons (.mk e) r => .cons (.tup (.inl (.inl e)) (dp_ints _)) (dp_poss r)
theorem fits_poss {ps : List (List Int)} (n : Nat) (h : ps.length ≤ 1000000) (hl : ∀ p ∈ ps, p.length ≤ 1000000) : fitsD (n + 3) (.list (ps.map posD)) := by
  refine ⟨by rw [List.length_map]; exact h, fun d hd => ?_⟩
  obtain ⟨p, hp, rfl⟩ := List.mem_map.mp hd
  refine ⟨by rw [List.length_map]; exact hl p hp, fun d hd => ?_⟩
  obtain ⟨x, _, rfl⟩ := List.mem_map.mp hd
  exact trivial
/-- the last row of a stack -/
theorem RowAll.last {H : Hp} : ∀ {vs : List V} {rs : List Row}, RowAll H vs rs → vs ≠ [] → ∃ vs' v rs' r, vs = vs' ++ [v] ∧ rs = rs' ++ [r] ∧ RowAll H vs' rs' ∧ RowAt H v r
  | _, _, .nil, h => absurd rfl h
  | _, _, .cons a .nil, _ => ⟨[], _, [], _, rfl, rfl, .nil, a⟩
  | _, _, .cons a (.cons b r), _ => by
    obtain ⟨vs', v, rs', x, e1, e2, h1, h2⟩ := RowAll.last (.cons b r) (by simp)
    exact ⟨_ :: vs', v, _ :: rs', x, by rw [e1]; rfl, by rw [e2]; rfl, .cons a h1, h2⟩
/-! ### leaves -/
def isLeaf : Ter → Bool
  | .var _ => true
  | .ap _ as => as.isEmpty
mutual
theorem has_leaf (here : List Int) : ∀ t : Ter, ∃ x ∈ t.walk here, isLeaf x.2 = true
  | .var k => ⟨_, List.mem_singleton.mpr rfl, rfl⟩
  | .ap f [] => ⟨_, List.mem_cons_self, rfl⟩
  | .ap f (a :: r) => by
    obtain ⟨x, hx, hl⟩ := has_leaf (here ++ [1]) a
    exact ⟨x, List.mem_cons_of_mem _ (List.mem_append_left _ hx), hl⟩
end
def leafOf (rs : List Row) : List Row := rs.filter fun x => isLeaf x.2
theorem leaf_step {t u : Ter} {ns : List Int} (h : t.at ns = some u) (hl : isLeaf u = true) (n : Int) (ms : List Int) : t.at (ns ++ (n :: ms)) = none := by
  rw [at_app, h]
  show (u.step n).bind _ = none
  cases u with
  | var k => rfl
  | ap f as =>
    have e : as = [] := by
      cases as with
      | nil => rfl
      | cons a r => cases hl
    subst e
    rw [step_eq]
    split <;> rfl
end Own
namespace K02
open PySem PySem.Spec PyProof.Rows L2 Own HT
def topS (i : Nat) : Stmt := PySem.Challenge.pw_elenchus_k02_positions_and_subterms.main.body.getD i (.Pass ⟨0, 0, 0, 0⟩)
abbrev s_ElenchusError : Stmt := topS 1
abbrev s_TooLarge : Stmt := topS 2
abbrev s_InvalidStep : Stmt := topS 3
abbrev s_InvalidPosition : Stmt := topS 4
abbrev s_is_variable : Stmt := topS 6
abbrev s_positions : Stmt := topS 7
abbrev s_subterm_at : Stmt := topS 8
abbrev s_path_to : Stmt := topS 9
abbrev s__law_draws : Stmt := topS 11
abbrev s__law_take : Stmt := topS 12
abbrev s__law_words : Stmt := topS 13
abbrev s__law_variable : Stmt := topS 14
abbrev s__law_term : Stmt := topS 15
abbrev s__law_same : Stmt := topS 16
abbrev s__law_walk : Stmt := topS 17
abbrev s__law_refused : Stmt := topS 18
abbrev s_law : Stmt := topS 19
structure Df (K : PySem.W.Frag) (mg : Str → Option Value) (x : Str) (st : Stmt) (ps : List Str) (f : Addr) (fd : FuncData) : Prop where
  F : Fun K x x st f fd
  b : Binds K fd ps []
  m : mg x = some (.ref f)
section
variable {P : Program} {w : World} {K : PySem.W.Frag} {mg : Str → Option Value} {base : Heap}
/-! ### is_variable -/
def spIsVar : Sp := fun vs H Q _ => ∃ v t, vs = [v] ∧ TmAt H v t ∧ Q (.bl t.isVar) H
theorem sc_is_variable : FnScope ["term"] ["term"] (defScope s_is_variable) := ⟨rfl, rfl, rfl, by decide +kernel, rfl, by decide +kernel, by decide +kernel⟩
theorem ok_is_variable {f : Addr} {fd : FuncData} (D : Df K mg "is_variable" s_is_variable ["term"] f fd) (mi : mg "isinstance" = none) (mt : mg "tuple" = none) : FnOk P w K mg base CX0 1 f fd ["term"] spIsVar := by
  refine D.F.ok sc_is_variable (fun vs H Q E h => ?_) (fun cdv A outer s H vs Q E hr h => ?_)
  · obtain ⟨v, t, rfl, _⟩ := h; rfl
  obtain ⟨v, t, rfl, ht, q⟩ := h
  refine ⟨_, pss_one (ps_ret (pe_not (pe_callB call_isiTer (by rfl) mi (by decide +kernel) (pa_cons (pv 0) (pa_cons (pe_bltn (v := .ty "tuple") (by rfl) mt (by decide +kernel) rfl) pa_nil))))), ?_⟩
  refine ⟨v, rfl, v, t, rfl, ht, _, rfl, ?_⟩
  rw [Bool.not_not]
  exact q
end

section
variable {P : Program} {w : World} {K : PySem.W.Frag} {mg : Str → Option Value} {base : Heap}
/-! ### InvalidPosition(position) -/
abbrev initSt : Stmt := clsAt s_InvalidPosition 0
def okPos (K : PySem.W.Frag) : List V → Hp → Prop := fun ws H => ∃ b ns, ws = [.ref b] ∧ SqT K H b (ns.map V.int) ∧ posOk ns
theorem sc_init : NdefX.NScope ["self", "position", "__class__"] ["self", "position"] ["__class__"] (defScope initSt) := NdefX.nscope_by (by decide +kernel)
theorem ok_init {C fI cc cda : Addr} {fd : FuncData} (T : InitC P K mg C fI cc cda "__init__" "InvalidPosition.__init__" (defArgs initSt) (defBody initSt) (defScope initSt) fd) (hn : PySem.W.findIn K (.ref C) "position" = some none) :
    FnOk P w K mg base CX0 1 fI fd ["self", "position"] (spInit C ["position"] (okPos K)) := by
  obtain ⟨oc, od, dV, kV, doc, pm, an, ct, osl, rfl, l⟩ := T.fn
  refine init_of (N := ["self", "position", "__class__"]) l T.code T.cell sc_init (fun vs H Q E h => ?_) (fun A outer s H vs Q E hr h => ?_)
  · obtain ⟨a, ws, rfl, hl, _⟩ := h
    show ws.length + 1 = 2
    rw [hl]
    rfl
  obtain ⟨a, ws, rfl, hl, hx, ⟨b, ns, rfl, hb, hp⟩, q⟩ := h
  refine ⟨_, pssAt_cons (ps_superAt (T.supX rfl) T.sup (pa_cons (pe_joined (.cons pe_str (.cons (pe_fmtI hr (pv 1)) .nil))) pa_nil)) (pss_one (ps_ost (pv 0) (pv 1))), ?_⟩
  obtain ⟨p1, p2⟩ := pos_text hp
  refine ⟨a, rfl, hx, ?_⟩
  refine ⟨_, rfl, by show ("no position " : Str).length ≤ sizeLine; decide +kernel, .ref b, rfl, b, ns, rfl, hb, p1, p2, fun m hm => ⟨m, rfl, ?_, ?_⟩⟩
  · have e1 : (Str.empty ++ ("no position " : Str)).length ≤ 20 := by decide +kernel
    rw [app_len, sizeLine_eq]
    omega
  refine ⟨by show 1 ≤ 1000; decide, hx, ?_⟩
  exact ⟨.ref b, rfl, .ref a, rfl, a, C, rfl, T.sup.oex, hn, .inl ⟨hx, fun dx nx ne => q _ dx (fun c h1 h2 => by rw [upd_ne h1, upd_ne h2]) nx ne upd_same (by rw [upd_ne ne]; exact upd_same)⟩⟩
/-- what the class must have, for the defs that raise and catch it -/
structure PosC (P : Program) (w : World) (K : PySem.W.Frag) (mg : Str → Option Value) (base : Heap) (C fI : Addr) (fd : FuncData) : Prop where
  gC : mg "InvalidPosition" = some (.ref C)
  oex : OexC K C
  iC : PySem.W.findIn K (.ref C) "__init__" = some (some (.ref fI))
  tI : PySem.W.typeIn K (.ref fI) = some (.type "function")
  ok : FnOk P w K mg base CX0 1 fI fd ["self", "position"] (spInit C ["position"] (okPos K))
  b : Binds K fd ["self", "position"] []
  err : ErrC K C
  te : PySem.W.exmOne K (.ref C) (.ref C) = some true
  hn : PySem.W.findIn K (.ref C) "position" = some none
/-! ### path_to -/
def PathAt (H : Hp) (ws : List V) (t : Ter) (ns : List Int) : Prop := ws.length = ns.length + 1 ∧ ∀ i : Nat, i ≤ ns.length → ∃ x u, ws[i]? = some x ∧ TmAt H x u ∧ t.at (ns.take i) = some u
theorem PathAt.mono {H H' : Hp} (m : Tups H H') {ws : List V} {t : Ter} {ns : List Int} (h : PathAt H ws t ns) : PathAt H' ws t ns := ⟨h.1, fun i hi => by
  obtain ⟨x, u, e1, e2, e3⟩ := h.2 i hi
  exact ⟨x, u, e1, TmAt.mono m _ _ e2, e3⟩⟩
def spPath (C : Addr) : Sp := fun vs H Q E => ∃ (v : V) (b : Addr) (t : Ter) (ns : List Int), vs = [v, .ref b] ∧ TmAt H v t ∧ H b = some (.tup (ns.map V.int)) ∧ posOk ns ∧ t.size ≤ 100000 ∧
  (∀ u, t.at ns = some u → ∀ (p : Addr) (H' : Hp) (ws : List V), Same H H' → H p = none → H' p = some (.lst ws) → PathAt H' ws t ns → Q (.ref p) H') ∧
  (t.at ns = none → ∀ (d : Addr) (H' : Hp), Same H H' → H d = none → H' d = some (.xd [("position", .ref b)]) → E (.ref C) (some d) H')
theorem sc_path_to : FnScope ["term", "position", "path", "index", "part"] ["term", "position"] (defScope s_path_to) := ⟨rfl, rfl, rfl, by decide +kernel, rfl, by decide +kernel, by decide +kernel⟩
theorem ok_path_to {f fV C fI : Addr} {fd fdV fdI : FuncData} (D : Df K mg "path_to" s_path_to ["term", "position"] f fd) (DV : Df K mg "is_variable" s_is_variable ["term"] fV fdV) (GV : FnOk P w K mg base CX0 1 fV fdV ["term"] spIsVar) (ml : mg "len" = none) (T : PosC P w K mg base C fI fdI) :
    FnOk P w K mg base (L2N.CX P w) 3 f fd ["term", "position"] (spPath C) := by
  refine D.F.okN sc_path_to (fun vs H Q E h => ?_) (fun cdv A outer s H vs Q E hr h => ?_)
  · obtain ⟨v, b, t, ns, rfl, _⟩ := h; rfl
  obtain ⟨v, b, t, ns, rfl, ht, hb, hp, hz, q, qE⟩ := h
  have nd := sc_path_to.nd
  have hr1 : Room 1 _ := hr.mono (by decide)
  refine ⟨_, pss_cons (ps_set (i := 2) nd rfl (.inl rfl) (pe_lst (pa_cons (pv 0) pa_nil)))
    (pss_cons (ps_for (passes_of rfl) rfl (pi_tup (pv 1)) (pg_name (i := 3) nd rfl (.inl rfl))
      (pss_cons (ps_set (i := 4) nd rfl (.inl rfl) (pe_ix ix_list (pv 2) (pe_un un_neg pe_int) (fun _ _ => rfl)))
      (pss_cons (ps_if (PW.pt (pw_or (pt_val (pe_call GV hr1 (by rfl) DV.m DV.F.kp DV.b .nil pass0 (pa_cons (pv 4) pa_nil))) (pw_or1 (pt_not (pt_chain op_le op_lt pe_int (pv 3) (pe_callB call_len_seq (by rfl) ml PySem.boot_len (pa_cons (pv 4) pa_nil)))))))
          (pss_one (ps_raiseS rfl (L2N.takes_of rfl rfl rfl rfl) T.oex T.iC T.tI T.ok hr T.b pass0 (by rfl) T.gC (pa_cons (pv 1) pa_nil) mono1)) pss_nil)
      (pss_one (ps_expr (pe_bm PySem.F.plainAttrs_list PySem.F.slot_list_append PySem.F.type_list_append mt_append (pv 2) (pa_cons (pe_ix ix_tup (pv 4) (pv 3) (fun _ _ => rfl)) pa_nil)))))))
    (pss_one (ps_ret (pv 2)))), ?_⟩
  refine ⟨v, rfl, by show 1 ≤ sizeLine; decide, fun p np => ?_⟩
  have s1 := same_new np (.lst [v])
  refine ⟨_, rfl, b, rfl, ⟨_, .inl (.inl (s1 _ _ hb))⟩, for_tup (xs := ns.map V.int) (fun i σ H2 => ∃ ws x u y3 y4, σ = [some v, some (.ref b), some (.ref p), y3, y4] ∧ Same H H2 ∧ H2 p = some (.lst (ws ++ [x])) ∧ TmAt H2 x u ∧ t.at (ns.take i) = some u ∧ PathAt H2 (ws ++ [x]) t (ns.take i))
    ⟨[], v, t, none, none, rfl, s1, upd_same, TmAt.mono s1.tups _ _ ht, rfl, rfl, fun i hi => ?_⟩ (fun i σ H2 _ h => ?_) (fun i y σ H2 hy h => ?_) (fun σ H2 h => ?_)⟩
  · obtain rfl : i = 0 := Nat.le_zero.mp hi
    exact ⟨v, t, rfl, TmAt.mono s1.tups _ _ ht, rfl⟩
  · obtain ⟨_, _, _, _, _, _, sm, _⟩ := h
    exact .inl (.inl (sm _ _ hb))
  · obtain ⟨ws, x, u, y3, y4, rfl, sm, ep, hx, eu, hP⟩ := h
    rw [List.getElem?_map] at hy
    obtain ⟨n, en, rfl⟩ : ∃ n, ns[i]? = some n ∧ y = V.int n := by
      cases z : ns[i]? with
      | none => rw [z] at hy; cases hy
      | some n => rw [z] at hy; exact ⟨n, rfl, (Option.some.inj hy).symm⟩
    have li : i < ns.length := (List.getElem?_eq_some_iff.mp en).1
    have etk : ns.take (i + 1) = ns.take i ++ [n] := by rw [List.take_add_one, en]; rfl
    have bad : u.step n = none → t.at ns = none := fun z => by
      rw [← List.take_append_drop (i + 1) ns]
      exact at_none _ (by rw [etk, at_snoc eu, z])
    have raise : u.step n = none → ∀ {Q' : XK}, (∀ cls d H', E cls d H' → Q' cls d H') → tMkS C ["position"] (okPos K) (tCons (tVar 1) tNil) [some v, some (.ref b), some (.ref p), some (V.int n), some x] H2 Q' := fun z Q' hQ => by
      refine ⟨_, rfl, rfl, by show 1 ≤ 1000; decide, fun a na => ⟨b, ns, rfl, .inl (.inl ((same_new na _) _ _ (sm _ _ hb))), hp⟩, fun d nd2 => hQ _ _ _ (qE (bad z) d _ (sm.trans (same_new nd2 _)) (sm.free nd2) upd_same)⟩
    refine ⟨_, rfl, _, rfl, p, _, _, x, rfl, rfl, .inl (.inl ep), atI_last ws x, ?_⟩
    refine ⟨_, rfl, x, u, rfl, hx, _, rfl, ?_⟩
    cases hx with
    | int k => exact iteT (raise rfl fun _ _ _ z => z)
    | str k => exact iteT (raise rfl fun _ _ _ z => z)
    | @ap a g xs as e hs =>
      refine iteF ?_
      have ls := hs.len
      refine ⟨_, rfl, 1, n, rfl, rfl, _, rfl, ?_⟩
      have len0 : ((V.str g :: xs).length : Int) = (as.length : Int) + 1 := by rw [List.length_cons, ls]; omega
      by_cases c1 : 1 ≤ n
      · rw [decide_eq_true c1]
        refine iteT ⟨.ref a, rfl, a, _, rfl, .inr (.inl (.inl e)), n, _, rfl, rfl, _, rfl, ?_⟩
        rw [len0]
        by_cases c2 : n < (as.length : Int) + 1
        · rw [decide_eq_true c2]
          refine iteF ?_
          have lt : (n - 1).toNat < as.length := by omega
          have ex : xs[(n - 1).toNat]? = some (xs[(n - 1).toNat]'(by omega)) := List.getElem?_eq_getElem (by omega)
          obtain ⟨t1, et, hx1⟩ := hs.get ex
          have hn1 : (V.str g :: xs)[n.toNat]? = some (xs[(n - 1).toNat]'(by omega)) := by
            rw [show n.toNat = (n - 1).toNat + 1 by omega, List.getElem?_cons_succ]
            exact ex
          generalize xs[(n - 1).toNat]'(by omega) = x1 at ex hx1 hn1
          refine ⟨.ref p, rfl, tyl ep, .ref a, rfl, .int n, rfl, a, _, n, x1, rfl, rfl, .inl (.inl e), at_of (j := n.toNat) (by omega) hn1, ?_⟩
          have l1 := hP.1
          have l2 := hp.1
          have l3 : (ns.take i).length = i := by rw [List.length_take]; omega
          refine ⟨p, _, _, rfl, rfl, ep, small6' (by omega), ?_⟩
          have b4 := But.upd (d := p) (H := H2) (o := .lst (ws ++ [V.ref a] ++ [x1]))
          have m4 := b4.tups ep
          have eu2 : t.at (ns.take (i + 1)) = some t1 := by
            rw [etk, at_snoc eu, step_eq, if_pos c1]
            exact et
          refine ⟨ws ++ [V.ref a], x1, t1, _, _, rfl, But.same np sm b4, upd_same, TmAt.mono m4 _ _ hx1, eu2, ?_, fun j hj => ?_⟩
          · rw [List.length_append, l1, l3, List.length_take]
            show i + 1 + 1 = _
            omega
          · have l4 : (ns.take (i + 1)).length = i + 1 := by rw [List.length_take]; omega
            rw [l4] at hj
            rcases Nat.lt_succ_iff_lt_or_eq.mp (Nat.lt_succ_of_le hj) with hj | rfl
            · obtain ⟨x2, u2, e1, e2, e3⟩ := hP.2 j (by omega)
              refine ⟨x2, u2, ?_, TmAt.mono m4 _ _ e2, ?_⟩
              · rw [List.getElem?_append_left (by omega)]
                exact e1
              · rw [List.take_take] at e3 ⊢
                rw [show min j (i + 1) = min j i by omega]
                exact e3
            · refine ⟨x1, t1, ?_, TmAt.mono m4 _ _ hx1, ?_⟩
              · rw [List.getElem?_append_right (by omega), show i + 1 - (ws ++ [V.ref a]).length = 0 by omega]
                rfl
              · rw [List.take_take, Nat.min_self]
                exact eu2
        · rw [decide_eq_false c2]
          refine iteT (raise ?_ fun _ _ _ z => z)
          rw [step_eq, if_pos c1]
          exact List.getElem?_eq_none (by omega)
      · rw [decide_eq_false c1]
        refine iteF ⟨_, rfl, ?_⟩
        refine iteT (raise ?_ fun _ _ _ z => z)
        rw [step_eq, if_neg c1]
  · obtain ⟨ws, x, u, y3, y4, rfl, sm, ep, hx, eu, hP⟩ := h
    rw [List.length_map, List.take_length] at eu hP
    exact ⟨.ref p, rfl, q u eu p H2 _ sm np ep hP⟩
end

section
variable {P : Program} {w : World} {K : PySem.W.Frag} {mg : Str → Option Value} {base : Heap}
/-! ### _law_walk -/
def spWalk (n : Nat) : Sp := fun vs H Q _ => ∃ (v : V) (b : Addr) (t : Ter) (here : List Int), vs = [v, .ref b] ∧ TmAt H v t ∧ t.nest < n ∧ t.size ≤ 100000 ∧ H b = some (.tup (here.map V.int)) ∧ here.length + n ≤ 500 ∧
  ∀ (p : Addr) (H' : Hp) (ws : List V), Same H H' → H p = none → H' p = some (.lst ws) → RowAll H' ws (t.walk here) → Q (.ref p) H'
theorem sc_law_walk : FnScope ["term", "here", "found", "k"] ["term", "here"] (defScope s__law_walk) := ⟨rfl, rfl, rfl, by decide +kernel, rfl, by decide +kernel, by decide +kernel⟩
theorem ok_law_walk1 {f : Addr} {fd : FuncData} (D : Df K mg "_law_walk" s__law_walk ["term", "here"] f fd) (mi : mg "isinstance" = none) (mt : mg "tuple" = none) (ml : mg "len" = none) (mr : mg "range" = none) {n : Nat} (G : FnOk P w K mg base CX0 n f fd ["term", "here"] (spWalk n)) : FnOk P w K mg base CX0 (n + 1) f fd ["term", "here"] (spWalk (n + 1)) := by
  refine D.F.ok sc_law_walk (fun vs H Q E h => ?_) (fun cdv A outer s H vs Q E hr h => ?_)
  · obtain ⟨v, b, t, here, rfl, _⟩ := h; rfl
  obtain ⟨v, b, t, here, rfl, ht, hn, hz, hb, hh, q⟩ := h
  have nd := sc_law_walk.nd
  refine ⟨_, pss_cons (ps_set (i := 2) nd rfl (.inl rfl) (pe_lst (pa_cons (pe_tup (pa_cons (pv 1) (pa_cons (pv 0) pa_nil))) pa_nil)))
    (pss_cons (ps_if (pt_val (pe_callB call_isiTer (by rfl) mi (by decide +kernel) (pa_cons (pv 0) (pa_cons (pe_bltn (v := .ty "tuple") (by rfl) mt (by decide +kernel) rfl) pa_nil))))
      (pss_one (ps_for PassesOwn.never rfl (pi_range2 (by rfl) mr (pa_cons pe_int (pa_cons (pe_callB call_len_seq (by rfl) ml PySem.boot_len (pa_cons (pv 0) pa_nil)) pa_nil))) (pg_name (i := 3) nd rfl (.inl rfl))
        (pss_one (ps_set (i := 2) nd rfl (.inl rfl) (pe_op op_cat (pv 2) (pe_call G hr (by rfl) D.m D.F.kp D.b .nil pass0 (pa_cons (pe_ix ix_tup (pv 0) (pv 3) (fun _ _ => rfl)) (pa_cons (pe_op op_catA (pv 1) (pe_tup (pa_cons (pv 3) pa_nil))) pa_nil))))))) ) pss_nil)
    (pss_one (ps_ret (pv 2)))), ?_⟩
  refine ⟨.ref b, rfl, v, rfl, by show 2 ≤ sizeLine; decide, fun r nr => ?_⟩
  have s0 := same_new nr (.tup [.ref b, v])
  refine ⟨by show 1 ≤ sizeLine; decide, fun d nd' => ?_⟩
  have ndH := s0.free nd'
  have s1 := s0.trans (same_new nd' (.lst [.ref r]))
  have er1 : upd (upd H r (.tup [.ref b, v])) d (.lst [.ref r]) r = some (.tup [.ref b, v]) := (same_new nd' _) _ _ upd_same
  have ht1 := TmAt.mono s1.tups _ _ ht
  refine ⟨v, rfl, v, t, rfl, ht1, _, rfl, ?_⟩
  cases ht with
  | int i => exact iteF ⟨.ref d, rfl, q d _ _ s1 ndH upd_same (.cons (.mk er1 (s1 _ _ hb) (.int i)) .nil)⟩
  | str i => exact iteF ⟨.ref d, rfl, q d _ _ s1 ndH upd_same (.cons (.mk er1 (s1 _ _ hb) (.str i)) .nil)⟩
  | @ap a g xs as e hs =>
    refine iteT ?_
    have ls := hs.len
    have hn : Ter.nests as + 1 < n + 1 := hn
    have hz : Ter.sizes as + 1 ≤ 100000 := hz
    have la := Ter.sizes_len as
    have len0 : ((V.str g :: xs).length : Int) = (as.length : Int) + 1 := by rw [List.length_cons, ls]; omega
    refine ⟨.ref a, rfl, a, _, rfl, .inr (.inl (.inl (s1 _ _ e))), 1, _, rfl, ⟨by omega, by omega, by omega, by omega⟩, ?_⟩
    rw [len0, show ((as.length : Int) + 1 - 1).toNat = as.length by omega]
    refine for_range (n := as.length) (fun i σ H2 => ∃ y3 d2 ws, σ = [some (.ref a), some (.ref b), some (.ref d2), y3] ∧ Same H H2 ∧ H d2 = none ∧ H2 d2 = some (.lst ws) ∧ RowAll H2 ws ((here, .ap g as) :: Ter.walks here 1 (as.take i)))
      ⟨none, d, _, rfl, s1, ndH, upd_same, .cons (.mk er1 (s1 _ _ hb) ht1) .nil⟩ (fun i σ H2 hi h => ?_) (fun σ H2 h => ?_)
    · obtain ⟨y3, d2, ws, rfl, sm, nd2, ed, hR⟩ := h
      have ex : xs[i]? = some (xs[i]'(by omega)) := List.getElem?_eq_getElem (by omega)
      obtain ⟨t1, et, hx1⟩ := hs.get ex
      have hi1 : (V.str g :: xs)[i + 1]? = some (xs[i]'(by omega)) := by rw [List.getElem?_cons_succ]; exact ex
      generalize xs[i]'(by omega) = x1 at ex hx1 hi1
      have n1 := nest_le_of et
      have m1 := size_le_of et
      have etk : as.take (i + 1) = as.take i ++ [t1] := by rw [List.take_add_one, et]; rfl
      refine ⟨.ref d2, rfl, .ref a, rfl, _, rfl, a, _, _, x1, rfl, rfl, .inl (.inl (sm _ _ e)), at_of (j := i + 1) (by omega) hi1, ?_⟩
      refine ⟨.ref b, rfl, _, rfl, by show 1 ≤ sizeLine; decide, fun r2 nr2 => ?_⟩
      have s3 := same_new nr2 (.tup [V.int (1 + (i : Nat))])
      refine catA_ints (ms := [1 + ((i : Nat) : Int)]) ((sm.trans s3) _ _ hb) upd_same (by simp) (by simp only [List.length_singleton]; omega) fun r3 H3 s4 er3 => ?_
      have sA := (sm.trans s3).trans s4
      refine ⟨x1, r3, t1, here ++ [1 + ((i : Nat) : Int)], rfl, TmAt.mono sA.tups _ _ hx1, by omega, by omega, er3, by rw [List.length_append, List.length_singleton]; omega, fun p H4 ws1 s5 np ep hR1 => ?_⟩
      have sB := (s3.trans s4).trans s5
      have l1 := hR.len
      have l2 := hR1.len
      have l3 : ((here, Ter.ap g as) :: Ter.walks here 1 (as.take i)).length ≤ 100000 := by
        rw [List.length_cons, walks_len]
        have : Ter.sizes as = Ter.sizes (as.take i) + Ter.sizes (as.drop i) := by rw [← Ter.sizes_app, List.take_append_drop]
        omega
      have l4 := walk_len (here ++ [1 + ((i : Nat) : Int)]) t1
      refine ⟨d2, p, ws, ws1, rfl, rfl, sB _ _ ed, ep, small6 (by omega), fun p2 np2 => ?_⟩
      have s6 := same_new np2 (.lst (ws ++ ws1))
      have sC := (sm.trans sB).trans s6
      refine ⟨_, p2, _, rfl, sC, (sm.trans sB).free np2, upd_same, ?_⟩
      rw [etk, walks_app]
      have e9 : Ter.walks here (1 + ((as.take i).length : Int)) [t1] = t1.walk (here ++ [1 + ((i : Nat) : Int)]) := by
        rw [List.length_take, show min i as.length = i by omega]
        exact List.append_nil _
      rw [e9]
      exact (hR.mono (sB.trans s6).tups).app (hR1.mono s6.tups)
    · obtain ⟨y3, d2, ws, rfl, sm, nd2, ed, hR⟩ := h
      rw [List.take_length] at hR
      exact ⟨.ref d2, rfl, q d2 H2 ws sm nd2 ed hR⟩
theorem ok_law_walk {f : Addr} {fd : FuncData} (D : Df K mg "_law_walk" s__law_walk ["term", "here"] f fd) (mi : mg "isinstance" = none) (mt : mg "tuple" = none) (ml : mg "len" = none) (mr : mg "range" = none) : ∀ n : Nat, FnOk P w K mg base CX0 n f fd ["term", "here"] (spWalk n)
  | 0 => by
    have no : ∀ vs H Q E, ¬ spWalk 0 vs H Q E := fun vs H Q E h => by
      obtain ⟨v, b, t, here, _, _, hn, _⟩ := h
      omega
    exact ⟨fun vs H Q E h => absurd h (no vs H Q E), fun A outer s H args us vs Q E _ _ _ _ h => absurd h (no vs H Q E)⟩
  | n + 1 => ok_law_walk1 D mi mt ml mr (ok_law_walk D mi mt ml mr n)
end

section
variable {P : Program} {w : World} {K : PySem.W.Frag} {mg : Str → Option Value} {base : Heap}
/-! ### _law_draws -/
def spDraws (K : PySem.W.Frag) : Sp := fun vs H Q _ => ∃ (a : Addr) (ns : List Int), vs = [.ref a] ∧ SqL K H a (ns.map V.int) ∧ ns.length ≤ 63 ∧ ∀ (p : Addr) (H' : Hp), Same H H' → H p = none → Ints H' p → Q (.ref p) H'
theorem sc_law_draws : FnScope ["script", "draws", "cell", "number", "first", "k", "seed"] ["script"] (defScope s__law_draws) := ⟨rfl, rfl, rfl, by decide +kernel, rfl, by decide +kernel, by decide +kernel⟩
theorem ok_law_draws {f : Addr} {fd : FuncData} (D : Df K mg "_law_draws" s__law_draws ["script"] f fd) (mabs : mg "abs" = none) (mint : mg "int" = none) (mr : mg "range" = none) (ml : mg "len" = none) (mli : mg "list" = none) (mrev : mg "reversed" = none) : FnOk P w K mg base CX0 1 f fd ["script"] (spDraws K) := by
  refine D.F.ok sc_law_draws (fun vs H Q E h => ?_) (fun cdv A outer s H vs Q E hr h => ?_)
  · obtain ⟨a, ns, rfl, _⟩ := h; rfl
  obtain ⟨a, ns, rfl, hS, hn, q⟩ := h
  have nd := sc_law_draws.nd
  refine ⟨_, pss_cons (ps_set (i := 1) nd rfl (.inl rfl) (pe_lst pa_nil))
    (pss_cons (ps_for PassesOwn.never rfl (pi_list (pv 0)) (pg_name (i := 2) nd rfl (.inl rfl))
      (pss_cons (ps_set (i := 3) nd rfl (.inl rfl) (pe_callB call_abs (by rfl) mabs (by decide +kernel) (pa_cons (pv 2) pa_nil)))
      (C8.pss_cut (ps_if (pt_cmpR op_lt (pv 3) (pe_op op_pow pe_int pe_int) (nomark _))
        (pss_cons (ps_set (i := 4) nd rfl (.inl rfl) (pe_op op_mod (pe_callTy call_int1 (by rfl) mint (by decide +kernel) (pa_cons (pe_op op_add (pe_op op_mul (pv 3) pe_int) pe_int) pa_nil)) pe_int))
        (pss_cons (ps_expr (pe_bm PySem.F.plainAttrs_list PySem.F.slot_list_append PySem.F.type_list_append mt_append (pv 1) (pa_cons (pe_op op_mod (pe_callTy call_int1 (by rfl) mint (by decide +kernel) (pa_cons (pe_op op_add (pe_op op_mul (pv 4) pe_int) (pv 3)) pa_nil)) pe_int) pa_nil)))
        (pss_cons (ps_expr (pe_bm PySem.F.plainAttrs_list PySem.F.slot_list_append PySem.F.type_list_append mt_append (pv 1) (pa_cons (pe_op op_mod (pe_callTy call_int1 (by rfl) mint (by decide +kernel) (pa_cons (pe_op op_add (pv 4) (pe_op op_fdiv (pv 3) pe_int)) pa_nil)) pe_int) pa_nil)))
        (pss_one (ps_set (i := 3) nd rfl (.inl rfl) pe_int))))) pss_nil)
      (pss_one (ps_for PassesOwn.never rfl (pi_range1 (by rfl) mr (pa_cons pe_int pa_nil)) (pg_name (i := 5) nd rfl (.inl rfl))
        (pss_one (ps_if (pt_cmpR op_gt (pv 3) pe_int (nomark _))
          (pss_cons (ps_expr (pe_bm PySem.F.plainAttrs_list PySem.F.slot_list_append PySem.F.type_list_append mt_append (pv 1) (pa_cons (pe_op op_mod (pe_callTy call_int1 (by rfl) mint (by decide +kernel) (pa_cons (pv 3) pa_nil)) pe_int) pa_nil)))
          (pss_one (ps_set (i := 3) nd rfl (.inl rfl) (pe_op op_fdiv (pv 3) pe_int)))) pss_nil)))))))
    (pss_cons (ps_set (i := 6) nd rfl (.inl rfl) pe_int)
    (C8.pss_cut (ps_if (pt_cmpR op_gt (pe_callB call_len_seq (by rfl) ml PySem.boot_len (pa_cons (pv 0) pa_nil)) pe_int (nomark _))
      (pss_one (ps_set (i := 6) nd rfl (.inl rfl) (pe_op op_add pe_int (pe_callB call_abs (by rfl) mabs (by decide +kernel) (pa_cons (pe_ix ix_list (pv 0) pe_int (fun _ _ => rfl)) pa_nil))))) pss_nil)
    (pss_cons (ps_for PassesOwn.never rfl (pi_range1 (by rfl) mr (pa_cons pe_int pa_nil)) (pg_name (i := 5) nd rfl (.inl rfl))
      (pss_cons (ps_set (i := 6) nd rfl (.inl rfl) (pe_op op_mod (pe_callTy call_int1 (by rfl) mint (by decide +kernel) (pa_cons (pe_op op_add (pe_op op_mul (pv 6) pe_int) pe_int) pa_nil)) pe_int))
      (pss_one (ps_expr (pe_bm PySem.F.plainAttrs_list PySem.F.slot_list_append PySem.F.type_list_append mt_append (pv 1) (pa_cons (pe_op op_fdiv (pv 6) pe_int) pa_nil))))))
    (pss_one (ps_ret (pe_listRev rfl (by rfl) mli (by rfl) mrev (pv 1)))))))), ?_⟩
  refine ⟨Nat.zero_le _, fun d nd' => ?_⟩
  have hz : ∀ {n : Nat}, n ≤ 100000 → n < sizeLine := fun h => Nat.lt_of_le_of_lt h (by decide)
  -- one more int at d
  have app : ∀ {H2 : Hp} {ms : List Int} {m : Int}, Same H H2 → H2 d = some (.lst (ms.map V.int)) → Same H (upd H2 d (.lst ((ms ++ [m]).map V.int))) ∧ (upd H2 d (.lst ((ms ++ [m]).map V.int))) d = some (.lst ((ms ++ [m]).map V.int)) := fun sm e => ⟨But.same nd' sm But.upd, upd_same⟩
  have e1 : ∀ (ms : List Int) (m : Int), (ms.map V.int) ++ [V.int m] = (ms ++ [m]).map V.int := fun ms m => by rw [List.map_append]; rfl
  refine ⟨.ref a, rfl, a, rfl, ⟨_, (same_new nd' _).seq hS⟩, for_list (xs := ns.map V.int) (fun i σ H2 => ∃ (ms : List Int) (y2 y3 y4 y5 : Option V), σ = [some (.ref a), some (.ref d), y2, y3, y4, y5, none] ∧ Same H H2 ∧ H2 d = some (.lst (ms.map V.int)) ∧ ms.length ≤ 62 * i)
    ⟨[], none, none, none, none, rfl, same_new nd' _, upd_same, Nat.zero_le _⟩ (fun i σ H2 _ h => ?_) (fun i x σ H2 hx h => ?_) (fun σ H2 h => ?_)⟩
  · obtain ⟨_, _, _, _, _, _, sm, _⟩ := h
    exact sm.seq hS
  · -- one cell
    obtain ⟨ms, y2, y3, y4, y5, rfl, sm, ed, lm⟩ := h
    have hi : i < 63 := by
      have := (List.getElem?_eq_some_iff.mp hx).1
      rw [List.length_map] at this
      omega
    obtain ⟨n, rfl⟩ : ∃ n, x = V.int n := by
      rw [List.getElem?_map] at hx
      cases e : ns[i]? with
      | none => rw [e] at hx; cases hx
      | some n => rw [e] at hx; exact ⟨n, (Option.some.inj hx).symm⟩
    refine ⟨_, rfl, n, rfl, ?_⟩
    generalize (if n < 0 then -n else n) = m
    refine ⟨fun σ H3 => ∃ (ms : List Int) (m : Int) (y4 : Option V), σ = [some (.ref a), some (.ref d), some (.int n), some (.int m), y4, y5, none] ∧ Same H H3 ∧ H3 d = some (.lst (ms.map V.int)) ∧ ms.length ≤ 62 * i + 2, ?_, fun σ H3 h => ?_⟩
    · refine ⟨_, rfl, _, _, rfl, rfl, ⟨by decide, by decide, by decide⟩, _, _, rfl, rfl, _, rfl, ite2 (fun _ => ?_) (fun _ => ?_)⟩
      · refine ⟨_, rfl, _, _, rfl, rfl, .inr ⟨by decide, by decide⟩, _, _, rfl, rfl, .inl ⟨_, rfl, _, _, rfl, rfl, (by show (0 : Int) < 2147483647; decide), ?_⟩⟩
        refine ⟨.ref d, rfl, tyl ed, _, rfl, _, _, rfl, rfl, .inr ⟨by decide, by decide⟩, _, rfl, _, _, rfl, rfl, .inl ⟨_, rfl, _, _, rfl, rfl, (by show (0 : Int) < 2147483629; decide), ?_⟩⟩
        refine ⟨d, _, _, rfl, rfl, ed, hz (by rw [List.length_map]; omega), ?_⟩
        rw [e1]
        obtain ⟨sm2, ed2⟩ := app (m := ((m * 48271 + 11) % 2147483647 * 69621 + m) % 2147483629) sm ed
        refine ⟨.ref d, rfl, tyl ed2, _, rfl, _, rfl, _, _, rfl, rfl, ⟨by decide, by decide⟩, _, _, rfl, rfl, .inl ⟨_, rfl, _, _, rfl, rfl, (by show (0 : Int) < 1000003; decide), ?_⟩⟩
        refine ⟨d, _, _, rfl, rfl, ed2, hz (by rw [List.length_map, List.length_append, List.length_singleton]; omega), ?_⟩
        rw [e1]
        obtain ⟨sm3, ed3⟩ := app (m := ((m * 48271 + 11) % 2147483647 + m / 7) % 1000003) sm2 ed2
        exact ⟨_, 0, _, rfl, sm3, ed3, by rw [List.length_append, List.length_append, List.length_singleton, List.length_singleton]; omega⟩
      · exact ⟨ms, m, y4, rfl, sm, ed, by omega⟩
    · obtain ⟨ms, m, y4, rfl, sm, ed, lm2⟩ := h
      refine ⟨60, rfl, by decide, by decide, for_range (n := 60) (fun j σ H3 => ∃ (ms : List Int) (m : Int) (y5 : Option V), σ = [some (.ref a), some (.ref d), some (.int n), some (.int m), y4, y5, none] ∧ Same H H3 ∧ H3 d = some (.lst (ms.map V.int)) ∧ ms.length ≤ 62 * i + 2 + j)
        ⟨ms, m, y5, rfl, sm, ed, lm2⟩ (fun j σ H3 hj h => ?_) (fun σ H3 h => ?_)⟩
      · obtain ⟨ms, m, y5, rfl, sm, ed, lm3⟩ := h
        refine ⟨_, rfl, _, _, rfl, rfl, _, rfl, ite2 (fun _ => ?_) (fun _ => ?_)⟩
        · refine ⟨.ref d, rfl, tyl ed, _, rfl, .inl ⟨_, rfl, _, _, rfl, rfl, (by show (0 : Int) < 997; decide), ?_⟩⟩
          refine ⟨d, _, _, rfl, rfl, ed, hz (by rw [List.length_map]; omega), ?_⟩
          rw [e1]
          obtain ⟨sm2, ed2⟩ := app (m := m % 997) sm ed
          refine ⟨_, rfl, _, _, rfl, rfl, ⟨by decide, by decide⟩, ?_⟩
          exact ⟨_, _, _, rfl, sm2, ed2, by rw [List.length_append, List.length_singleton]; omega⟩
        · exact ⟨ms, m, _, rfl, sm, ed, by omega⟩
      · obtain ⟨ms, m, y5, rfl, sm, ed, lm3⟩ := h
        exact ⟨ms, _, _, _, _, rfl, sm, ed, by omega⟩
  · -- behind the cells
    obtain ⟨ms, y2, y3, y4, y5, rfl, sm, ed, lm⟩ := h
    rw [List.length_map] at lm
    refine ⟨fun σ H3 => ∃ (z : Int), σ = [some (.ref a), some (.ref d), y2, y3, y4, y5, some (.int z)] ∧ H3 = H2, ?_, fun σ H3 h => ?_⟩
    · refine ⟨.ref a, rfl, a, _, rfl, .inl (sm.seq hS), _, _, rfl, rfl, _, rfl, ite2 (fun c => ?_) (fun _ => ⟨_, rfl, rfl⟩)⟩
      have c := of_decide_eq_true c
      rw [List.length_map] at c
      obtain ⟨x, r, rfl⟩ : ∃ x r, ns = x :: r := by
        cases ns with
        | nil => exact absurd c (by decide)
        | cons x r => exact ⟨x, r, rfl⟩
      exact ⟨.ref a, rfl, a, _, 0, .int x, rfl, rfl, sm.seq hS, atI_nat (j := 0) rfl, x, rfl, _, _, rfl, rfl, _, rfl, rfl⟩
    · obtain ⟨z, rfl, rfl⟩ := h
      refine ⟨60, rfl, by decide, by decide, for_range (n := 60) (fun j σ H3 => ∃ (ms : List Int) (z : Int) (y5 : Option V), σ = [some (.ref a), some (.ref d), y2, y3, y4, y5, some (.int z)] ∧ Same H H3 ∧ H3 d = some (.lst (ms.map V.int)) ∧ ms.length ≤ 3906 + j)
        ⟨ms, z, y5, rfl, sm, ed, by omega⟩ (fun j σ H3 hj h => ?_) (fun σ H3 h => ?_)⟩
      · obtain ⟨ms, z, y5, rfl, sm, ed, lm3⟩ := h
        refine ⟨_, rfl, _, _, rfl, rfl, .inr ⟨by decide, by decide⟩, _, _, rfl, rfl, .inl ⟨_, rfl, _, _, rfl, rfl, (by show (0 : Int) < 2147483647; decide), ?_⟩⟩
        refine ⟨.ref d, rfl, tyl ed, _, rfl, _, _, rfl, rfl, ⟨by decide, by decide⟩, ?_⟩
        refine ⟨d, _, _, rfl, rfl, ed, hz (by rw [List.length_map]; omega), ?_⟩
        rw [e1]
        obtain ⟨sm2, ed2⟩ := app (m := (z * 48271 + 69621) % 2147483647 / 5) sm ed
        exact ⟨_, _, _, rfl, sm2, ed2, by rw [List.length_append, List.length_singleton]; omega⟩
      · obtain ⟨ms, z, y5, rfl, sm, ed, lm3⟩ := h
        refine ⟨.ref d, rfl, d, _, rfl, .inl (.inl ed), fun p np => ?_⟩
        have s3 := same_new np (.lst (ms.map V.int).reverse)
        exact q p _ (sm.trans s3) (sm.free np) ⟨ms.reverse, by rw [List.length_reverse]; omega, by rw [upd_same, List.map_reverse]⟩
/-! ### _law_take -/
def spTake : Sp := fun vs H Q _ => ∃ (d : Addr) (b : Int), vs = [.ref d, .int b] ∧ Ints H d ∧ 0 < b ∧ ∀ (r : Int) (H' : Hp), 0 ≤ r → r < b → But d H H' → Ints H' d → Q (.int r) H'
theorem sc_law_take : FnScope ["draws", "bound"] ["draws", "bound"] (defScope s__law_take) := ⟨rfl, rfl, rfl, by decide +kernel, rfl, by decide +kernel, by decide +kernel⟩
theorem ok_law_take {f : Addr} {fd : FuncData} (D : Df K mg "_law_take" s__law_take ["draws", "bound"] f fd) (ml : mg "len" = none) (mint : mg "int" = none) : FnOk P w K mg base CX0 1 f fd ["draws", "bound"] spTake := by
  refine D.F.ok sc_law_take (fun vs H Q E h => ?_) (fun cdv A outer s H vs Q E hr h => ?_)
  · obtain ⟨d, b, rfl, _⟩ := h; rfl
  obtain ⟨d, b, rfl, ⟨ms, lm, ed⟩, hb, q⟩ := h
  refine ⟨_, pss_cons (ps_if (pt_cmpR op_eq (pe_callB call_len_seq (by rfl) ml PySem.boot_len (pa_cons (pv 0) pa_nil)) pe_int (nomark _)) (pss_one (ps_ret pe_int)) pss_nil)
    (pss_one (ps_ret (pe_op op_mod (pe_callTy call_int1 (by rfl) mint (by decide +kernel) (pa_cons (pe_bm0 PySem.F.plainAttrs_list PySem.F.slot_list_pop PySem.F.type_list_pop mt_popL (pv 0)) pa_nil)) (pv 1)))), ?_⟩
  refine ⟨.ref d, rfl, d, _, rfl, .inl (.inl (.inl ed)), rfl, _, rfl, ite2 (fun c => ?_) (fun c => ?_)⟩
  · exact q 0 H (Int.le_refl 0) hb (But.refl d H) ⟨ms, lm, ed⟩
  · have hm : ms ≠ [] := fun z => by
      subst z
      exact c (decide_eq_true rfl)
    obtain ⟨ms', m, rfl⟩ : ∃ ms' m, ms = ms' ++ [m] := ⟨_, _, (List.dropLast_concat_getLast hm).symm⟩
    rw [List.map_append] at ed
    refine ⟨.ref d, rfl, tyl ed, d, ms'.map V.int, .int m, rfl, rfl, ed, .inl ⟨m, rfl, .int b, rfl, _, _, rfl, rfl, hb, ?_⟩⟩
    exact q _ _ (Int.emod_nonneg _ (by omega)) (Int.emod_lt_of_pos _ hb) But.upd ⟨ms', by rw [List.length_append] at lm; omega, upd_same⟩
/-! ### _law_words -/
def spWords : Sp := fun vs H Q _ => ∃ (d : Addr) (n : Nat), vs = [.ref d, .int n] ∧ Ints H d ∧ n ≤ 9 ∧ ∀ (p : Addr) (ws : List Str) (H' : Hp), But d H H' → H p = none → Ints H' d → H' p = some (.lst (ws.map V.str)) → ws.length = n → Words ws → Q (.ref p) H'
theorem sc_law_words : FnScope ["draws", "many", "letters", "signs", "words", "k", "word", "j"] ["draws", "many"] (defScope s__law_words) := ⟨rfl, rfl, rfl, by decide +kernel, rfl, by decide +kernel, by decide +kernel⟩
theorem ok_law_words {f fT : Addr} {fd fdT : FuncData} (D : Df K mg "_law_words" s__law_words ["draws", "many"] f fd) (DT : Df K mg "_law_take" s__law_take ["draws", "bound"] fT fdT) (G : FnOk P w K mg base CX0 1 fT fdT ["draws", "bound"] spTake) (mr : mg "range" = none) : FnOk P w K mg base CX0 2 f fd ["draws", "many"] spWords := by
  refine D.F.ok sc_law_words (fun vs H Q E h => ?_) (fun cdv A outer s H vs Q E hr h => ?_)
  · obtain ⟨d, n, rfl, _⟩ := h; rfl
  obtain ⟨d, n, rfl, hI, hn, q⟩ := h
  have nd := sc_law_words.nd
  refine ⟨_, pss_cons (ps_set (i := 2) nd rfl (.inl rfl) pe_str) (pss_cons (ps_set (i := 3) nd rfl (.inl rfl) (pe_op op_add_str (pv 2) pe_str)) (pss_cons (ps_set (i := 4) nd rfl (.inl rfl) (pe_lst pa_nil))
    (pss_cons (ps_for PassesOwn.never rfl (pi_range1 (by rfl) mr (pa_cons (pv 1) pa_nil)) (pg_name (i := 5) nd rfl (.inl rfl))
      (pss_cons (ps_set (i := 6) nd rfl (.inl rfl) (pe_item_str (pv 2) (pe_call G hr (by rfl) DT.m DT.F.kp DT.b .nil pass0 (pa_cons (pv 0) (pa_cons pe_int pa_nil))) (fun _ _ => rfl)))
      (pss_cons (ps_for PassesOwn.never rfl (pi_range1 (by rfl) mr (pa_cons (pe_call G hr (by rfl) DT.m DT.F.kp DT.b .nil pass0 (pa_cons (pv 0) (pa_cons pe_int pa_nil))) pa_nil)) (pg_name (i := 7) nd rfl (.inl rfl))
        (pss_one (ps_set (i := 6) nd rfl (.inl rfl) (pe_op op_add_str (pv 6) (pe_item_str (pv 3) (pe_call G hr (by rfl) DT.m DT.F.kp DT.b .nil pass0 (pa_cons (pv 0) (pa_cons pe_int pa_nil))) (fun _ _ => rfl))))))
      (pss_cons (ps_for PassesOwn.never rfl (pi_range1 (by rfl) mr (pa_cons pe_int pa_nil)) (pg_name (i := 7) nd rfl (.inl rfl))
        (pss_one (ps_if (PW.pt (pw_or (pt_cmpR op_in_seq (pv 6) (pv 4) (by rfl)) (pw_or1 (pt_cmpR op_in_seq (pv 6) (pe_lst (pa_cons pe_str (pa_cons pe_str (pa_cons pe_str (pa_cons pe_str (pa_cons pe_str (pa_cons pe_str pa_nil))))))) (by rfl)))))
          (pss_one (ps_set (i := 6) nd rfl (.inl rfl) (pe_op op_add_str (pv 6) pe_str))) pss_nil)))
      (pss_one (ps_expr (pe_bm PySem.F.plainAttrs_list PySem.F.slot_list_append PySem.F.type_list_append mt_append (pv 4) (pa_cons (pv 6) pa_nil))))))))
    (pss_one (ps_ret (pv 4)))))), ?_⟩
  have hz : ∀ {n : Nat}, n ≤ 100000 → n ≤ sizeLine := fun h => Nat.le_trans h (by decide)
  refine ⟨_, rfl, _, _, rfl, rfl, hz (by decide +kernel), ?_⟩
  refine ⟨Nat.zero_le _, fun p np => ?_⟩
  have hpd : p ≠ d := hI.ne np
  refine ⟨.int n, rfl, (n : Int), rfl, by omega, by omega, for_range (n := (n : Int).toNat) (fun i σ H2 => ∃ (ws : List Str) (y5 y6 y7 : Option V), σ = [some (.ref d), some (.int n), some (.str LET), some (.str SGN), some (.ref p), y5, y6, y7] ∧ But d H H2 ∧ Ints H2 d ∧ H2 p = some (.lst (ws.map V.str)) ∧ ws.length = i ∧ Words ws)
    ⟨[], none, none, none, rfl, (same_new np _).but, hI.same (same_new np _), upd_same, rfl, ⟨(fun _ h => by cases h), List.nodup_nil, (fun _ h => by cases h)⟩⟩ (fun i σ H2 hi h => ?_) (fun σ H2 h => ?_)⟩
  · obtain ⟨ws, y5, y6, y7, rfl, b2, hI2, ep, lw, hw⟩ := h
    have hi9 : i < 9 := by omega
    refine ⟨_, rfl, _, rfl, d, 26, rfl, hI2, by decide, fun r H3 r0 r1 b3 hI3 => ?_⟩
    obtain ⟨c, hc, c1, c2⟩ := let_at (i := r.toNat) (by omega)
    refine ⟨LET, r, c, rfl, rfl, r0, by omega, by rw [let_len]; omega, hc, ?_⟩
    have ep3 := b3 p _ hpd ep
    -- the further signs
    refine ⟨_, rfl, d, 4, rfl, hI3, by decide, fun m H4 m0 m1 b4 hI4 => ?_⟩
    refine ⟨m, rfl, by omega, by omega, for_range (n := m.toNat) (fun j σ H5 => ∃ (x : Str) (y7 : Option V), σ = [some (.ref d), some (.int n), some (.str LET), some (.str SGN), some (.ref p), some (.int (0 + (i : Int))), some (.str x), y7] ∧ But d H2 H5 ∧ Ints H5 d ∧ WordIn x (1 + j))
      ⟨_, y7, rfl, b3.trans b4, hI4, word1 c1 c2⟩ (fun j σ H5 hj h => ?_) (fun σ H5 h => ?_)⟩
    · obtain ⟨x, y7, rfl, b5, hI5, wx⟩ := h
      refine ⟨_, rfl, _, rfl, _, rfl, d, 63, rfl, hI5, by decide, fun r H6 r0 r1 b6 hI6 => ?_⟩
      obtain ⟨c, hc, c1⟩ := sgn_at (i := r.toNat) (by omega)
      refine ⟨SGN, r, c, rfl, rfl, r0, by omega, by rw [sgn_len]; omega, hc, ?_⟩
      have l1 := wx.len
      refine ⟨_, _, rfl, rfl, hz (by show x.length + 1 ≤ 100000; omega), ?_⟩
      exact ⟨_, _, rfl, b5.trans b6, hI6, by rw [← Nat.add_assoc]; exact wx.add (by show (chOk c && true) = true; rw [c1]; rfl) (Nat.le_refl 1)⟩
    · obtain ⟨x, y7, rfl, b5, hI5, wx⟩ := h
      have ep5 := b5 p _ hpd ep
      -- made longer where it is taken
      refine ⟨30, rfl, by decide, by decide, for_range (n := 30) (fun j σ H6 => ∃ (x : Str) (y7 : Option V), σ = [some (.ref d), some (.int n), some (.str LET), some (.str SGN), some (.ref p), some (.int (0 + (i : Int))), some (.str x), y7] ∧ But d H2 H6 ∧ Ints H6 d ∧ WordIn x (4 + j) ∧ ((x ∉ ws ∧ x ∉ RES) ∨ longer (ws ++ RES) x.length + j ≤ (ws ++ RES).length))
        ⟨x, y7, rfl, b5, hI5, ⟨wx.head, wx.all, by have := wx.len; omega⟩, .inr (longer_le _ _)⟩ (fun j σ H6 hj h => ?_) (fun σ H6 h => ?_)⟩
      · obtain ⟨x, y7, rfl, b6, hI6, wx, hx⟩ := h
        have ep6 := b6 p _ hpd ep
        have longerx : ∀ (y : Str) H7 y7, But d H2 H7 → Ints H7 d → y ∈ ws ++ RES → y = x → ∃ (x' : Str) (y7' : Option V), ([some (.ref d), some (.int n), some (.str LET), some (.str SGN), some (.ref p), some (.int (0 + (i : Int))), some (.str (x ++ ("x" : Str))), y7] : L2.St) = [some (.ref d), some (.int n), some (.str LET), some (.str SGN), some (.ref p), some (.int (0 + (i : Int))), some (.str x'), y7'] ∧ But d H2 H7 ∧ Ints H7 d ∧ WordIn x' (4 + (j + 1)) ∧ ((x' ∉ ws ∧ x' ∉ RES) ∨ longer (ws ++ RES) x'.length + (j + 1) ≤ (ws ++ RES).length) := fun y H7 y7 b7 hI7 hy e => by
          subst e
          refine ⟨_, _, rfl, b7, hI7, ?_, .inr ?_⟩
          · rw [← Nat.add_assoc]
            exact wx.add (by decide +kernel) (by decide +kernel)
          · have l1 : (y ++ ("x" : Str)).length = y.length + 1 := by
              rw [app_len]
              have : ("x" : Str).length = 1 := by decide +kernel
              omega
            have l2 := longer_lt hy
            rw [l1]
            rcases hx with ⟨z1, z2⟩ | hx
            · exact absurd hy (fun z => (List.mem_append.mp z).elim z1 z2)
            · omega
        refine ⟨_, rfl, _, rfl, p, _, rfl, .inl (.inl (.inl ep6)), rfl, flat_strs ws, _, rfl, ?_⟩
        refine ite2 (fun c => ?_) (fun c => ?_)
        · have lx := wx.len
          refine iteT ?_
          refine ⟨_, rfl, _, _, rfl, rfl, hz (by have : ("x" : Str).length = 1 := by decide +kernel
                                                 omega), ?_⟩
          exact longerx x H6 _ b6 hI6 (List.mem_append_left _ ((inV_str x ws).mp c)) rfl
        · refine ⟨_, rfl, by show 6 ≤ sizeLine; decide, fun t nt => ?_⟩
          refine ⟨t, RES.map V.str, rfl, .inl (.inl (.inl upd_same)), rfl, flat_strs RES, _, rfl, ?_⟩
          have htd : t ≠ d := hI6.ne nt
          have b7 : But d H2 (upd H6 t (.lst (RES.map V.str))) := b6.trans (same_new nt _).but
          have hI7 := hI6.same (same_new nt (.lst (RES.map V.str)))
          refine ite2 (fun c2 => ?_) (fun c2 => ?_)
          · have lx := wx.len
            refine ⟨_, rfl, _, _, rfl, rfl, hz (by have : ("x" : Str).length = 1 := by decide +kernel
                                                   omega), ?_⟩
            exact longerx x _ _ b7 hI7 (List.mem_append_right _ ((inV_str x RES).mp c2)) rfl
          · refine ⟨x, _, rfl, b7, hI7, ⟨wx.head, wx.all, by have := wx.len; omega⟩, .inl ⟨fun z => c ((inV_str x ws).mpr z), fun z => c2 ((inV_str x RES).mpr z)⟩⟩
      · obtain ⟨x, y7, rfl, b6, hI6, wx, hx⟩ := h
        have ep6 := b6 p _ hpd ep
        have free : x ∉ ws ∧ x ∉ RES := by
          rcases hx with hx | hx
          · exact hx
          · rw [List.length_append] at hx
            have : RES.length = 6 := rfl
            omega
        refine ⟨.ref p, rfl, tyl ep6, _, rfl, p, _, _, rfl, rfl, ep6, Nat.lt_of_le_of_lt (show (ws.map V.str).length ≤ 1000 by rw [List.length_map]; omega) (by decide), ?_⟩
        rw [show ws.map V.str ++ [V.str x] = (ws ++ [x]).map V.str by rw [List.map_append]; rfl]
        refine ⟨ws ++ [x], _, _, _, rfl, ?_, ?_, upd_same, by rw [List.length_append, List.length_singleton, lw], ?_⟩
        · exact fun b o nb e => by
            have hbp : b ≠ p := ne_of_none e np
            rw [upd_ne hbp]
            exact b6 b o nb (b2 b o nb e)
        · exact hI6.of_but But.upd hpd.symm
        · refine ⟨fun y hy => ?_, ?_, fun y hy => ?_⟩
          · rcases List.mem_append.mp hy with hy | hy
            · exact hw.ok y hy
            · rw [List.mem_singleton.mp hy]; exact wx.ok (by omega)
          · exact nd_snoc hw.nd free.1
          · rcases List.mem_append.mp hy with hy | hy
            · exact hw.res y hy
            · rw [List.mem_singleton.mp hy]; exact free.2
  · obtain ⟨ws, y5, y6, y7, rfl, b2, hI2, ep, lw, hw⟩ := h
    exact ⟨.ref p, rfl, q p ws H2 b2 np hI2 ep (by omega) hw⟩
end

section
variable {P : Program} {w : World} {K : PySem.W.Frag} {mg : Str → Option Value} {base : Heap}
/-! ### _law_variable -/
def spLVar : Sp := fun vs H Q _ => ∃ (d : Addr), vs = [.ref d] ∧ Ints H d ∧ ∀ (r : Int) (H' : Hp), 0 ≤ r → r < 900 → But d H H' → Ints H' d → Q (.int r) H'
theorem sc_law_variable : FnScope ["draws"] ["draws"] (defScope s__law_variable) := ⟨rfl, rfl, rfl, by decide +kernel, rfl, by decide +kernel, by decide +kernel⟩
theorem ok_law_variable {f fT : Addr} {fd fdT : FuncData} (D : Df K mg "_law_variable" s__law_variable ["draws"] f fd) (DT : Df K mg "_law_take" s__law_take ["draws", "bound"] fT fdT) (G : FnOk P w K mg base CX0 1 fT fdT ["draws", "bound"] spTake) : FnOk P w K mg base CX0 2 f fd ["draws"] spLVar := by
  refine D.F.ok sc_law_variable (fun vs H Q E h => ?_) (fun cdv A outer s H vs Q E hr h => ?_)
  · obtain ⟨d, rfl, _⟩ := h; rfl
  obtain ⟨d, rfl, hI, q⟩ := h
  refine ⟨_, pss_cons (ps_if (pt_cmpR op_eq (pe_call G hr (by rfl) DT.m DT.F.kp DT.b .nil pass0 (pa_cons (pv 0) (pa_cons pe_int pa_nil))) pe_int (nomark _)) (pss_one (ps_ret (pe_call G hr (by rfl) DT.m DT.F.kp DT.b .nil pass0 (pa_cons (pv 0) (pa_cons pe_int pa_nil))))) pss_nil)
    (pss_one (ps_ret (pe_call G hr (by rfl) DT.m DT.F.kp DT.b .nil pass0 (pa_cons (pv 0) (pa_cons pe_int pa_nil))))), ?_⟩
  refine ⟨_, rfl, d, 8, rfl, hI, by decide, fun r H1 _ _ b1 hI1 => ?_⟩
  refine ⟨rfl, _, rfl, ite2 (fun _ => ?_) (fun _ => ?_)⟩
  · exact ⟨_, rfl, d, 900, rfl, hI1, by decide, fun r H2 h0 h1 b2 hI2 => q r H2 h0 h1 (b1.trans b2) hI2⟩
  · exact ⟨_, rfl, d, 4, rfl, hI1, by decide, fun r H2 h0 h1 b2 hI2 => q r H2 h0 (by omega) (b1.trans b2) hI2⟩
/-! ### _law_term -/
def spTerm (n : Nat) : Sp := fun vs H Q _ => ∃ (d l : Addr) (ws : List Str) (k : Nat), vs = [.ref d, .ref l, .int k] ∧ Ints H d ∧ H l = some (.lst (ws.map V.str)) ∧ l ≠ d ∧ 6 ≤ ws.length ∧ k < n ∧
  ∀ (v : V) (t : Ter) (H' : Hp), But d H H' → Ints H' d → TmAt H' v t → t.wf (symOf ws) numVar → t.size ≤ 4 ^ (k + 1) → t.nest ≤ k + 1 → Q v H'
theorem sc_law_term : FnScope ["draws", "words", "depth", "kind", "arguments", "k"] ["draws", "words", "depth"] (defScope s__law_term) := ⟨rfl, rfl, rfl, by decide +kernel, rfl, by decide +kernel, by decide +kernel⟩
theorem ok_law_term1 {f fT fV : Addr} {fd fdT fdV : FuncData} (D : Df K mg "_law_term" s__law_term ["draws", "words", "depth"] f fd) (DT : Df K mg "_law_take" s__law_take ["draws", "bound"] fT fdT) (GT : FnOk P w K mg base CX0 1 fT fdT ["draws", "bound"] spTake)
    (DV : Df K mg "_law_variable" s__law_variable ["draws"] fV fdV) (GV : FnOk P w K mg base CX0 2 fV fdV ["draws"] spLVar) (mr : mg "range" = none) (mt : mg "tuple" = none) {n : Nat} (G : FnOk P w K mg base CX0 (n + 2) f fd ["draws", "words", "depth"] (spTerm n)) : FnOk P w K mg base CX0 (n + 2 + 1) f fd ["draws", "words", "depth"] (spTerm (n + 1)) := by
  refine D.F.ok sc_law_term (fun vs H Q E h => ?_) (fun cdv A outer s H vs Q E hr h => ?_)
  · obtain ⟨d, l, ws, k, rfl, _⟩ := h; rfl
  obtain ⟨d, l, ws, k, rfl, hI, hW, nl, lw, hk, q⟩ := h
  have nd := sc_law_term.nd
  have hr1 : Room 1 _ := hr.mono (by omega)
  have hr2 : Room 2 _ := hr.mono (by omega)
  refine ⟨_, pss_cons (ps_set (i := 3) nd rfl (.inl rfl) (pe_call GT hr1 (by rfl) DT.m DT.F.kp DT.b .nil pass0 (pa_cons (pv 0) (pa_cons pe_int pa_nil))))
    (C8.pss_cut (ps_if (PW.pt (pw_and (pt_cmpR op_eq (pv 2) pe_int (nomark _)) (pw_and1 (pt_cmpR op_gt (pv 3) pe_int (nomark _))))) (pss_one (ps_set (i := 3) nd rfl (.inl rfl) (pe_op op_sub (pv 3) pe_int))) pss_nil)
    (pss_cons (ps_if (pt_cmpR op_eq (pv 3) pe_int (nomark _)) (pss_one (ps_ret (pe_call GV hr2 (by rfl) DV.m DV.F.kp DV.b .nil pass0 (pa_cons (pv 0) pa_nil)))) pss_nil)
    (pss_cons (ps_if (pt_cmpR op_lt (pv 3) pe_int (nomark _)) (pss_one (ps_ret (pe_tup (pa_cons (pe_ix ix_list (pv 1) (pe_op op_sub (pv 3) pe_int) (fun _ _ => rfl)) pa_nil)))) pss_nil)
    (pss_cons (ps_setLc (i := 4) (own := [("k", 5)]) (g := gName 5) (tt := tYes) (te := tCall (spTerm n) [] E0 (tCons (tVar 0) (tCons (tVar 1) (tCons (tOp (rI0 fun i j => .int (i - j)) (tVar 2) (tC (.int 1))) tNil)))) rfl nd rfl rfl (sw_true rfl rfl rfl (by decide +kernel)) (pi_range1 (by rfl) mr (pa_cons (pe_op op_sub (pv 3) pe_int) pa_nil))
        (blkOk_by (N := ["draws", "words", "depth", "kind", "arguments", "k"]) (sc := defScope s__law_term) (by decide +kernel)) (fun _ _ _ _ _ => pg_name (i := 5) nd rfl (Or.inl rfl)) (fun _ _ _ _ _ => pts_nil)
        (fun _ _ _ _ _ => pe_call G hr (by rfl) D.m D.F.kp D.b .nil pass0 (pa_cons (pv 0) (pa_cons (pv 1) (pa_cons (pe_op op_sub (pv 2) pe_int) pa_nil)))))
    (pss_one (ps_ret (pe_op op_catT (pe_tup (pa_cons (pe_ix ix_list (pv 1) (pe_op op_sub (pv 3) pe_int) (fun _ _ => rfl)) pa_nil)) (pe_callTy call_tuple_of (by rfl) mt (by decide +kernel) (pa_cons (pv 4) pa_nil))))))))), ?_⟩
  refine ⟨_, rfl, d, 7, rfl, hI, by decide, fun r H1 r0 r1 b1 hI1 => ?_⟩
  have hW1 := b1 l _ nl hW
  have p4 := pow4 k
  have p5 : 4 ^ (k + 1) = 4 ^ k * 4 := Nat.pow_succ 4 k
  -- the word at a kind
  have word : ∀ (c : Int), 1 ≤ c → c < 7 → ∃ x, atI (ws.map V.str) (c - 1) = some (.str x) ∧ ws[(c - 1).toNat]? = some x := fun c c1 c7 => by
    have h : (c - 1).toNat < ws.length := by omega
    have g := List.getElem?_eq_getElem h
    generalize ws[(c - 1).toNat] = x at g
    exact ⟨x, at_of (j := (c - 1).toNat) (by omega) (by rw [List.getElem?_map, g]; rfl), g⟩
  refine ⟨fun σ H2 => H2 = H1 ∧ ∃ c : Int, σ = [some (.ref d), some (.ref l), some (.int k), some (.int c), none, none] ∧ 0 ≤ c ∧ c < 7 ∧ (k = 0 → c ≤ 3), ?_, fun σ H2 h => ?_⟩
  · refine ⟨_, rfl, rfl, _, rfl, ?_⟩
    refine ite2 (fun c => ?_) (fun c => ?_)
    · have ck : (k : Int) = 0 := V.int.inj (of_decide_eq_true c)
      refine ⟨_, rfl, _, _, rfl, rfl, _, rfl, ite2 (fun c2 => ?_) (fun c2 => ?_)⟩
      · have c2 := of_decide_eq_true c2
        exact ⟨_, rfl, _, _, rfl, rfl, rfl, r - 4, rfl, by omega, by omega, fun _ => by omega⟩
      · have c2 : ¬ ((3 : Int) < r) := fun z => c2 (decide_eq_true z)
        exact ⟨rfl, r, rfl, r0, r1, fun _ => by omega⟩
    · have ck : ¬ (k : Int) = 0 := fun z => c (decide_eq_true (congrArg V.int z))
      exact ⟨rfl, r, rfl, r0, r1, fun z => absurd (by omega) ck⟩
  obtain ⟨rfl, c, rfl, c0, c7, ck⟩ := h
  refine ⟨_, rfl, rfl, _, rfl, ite2 (fun z => ?_) (fun z => ?_)⟩
  · exact ⟨_, rfl, d, rfl, hI1, fun r H3 h0 h9 b3 hI3 => q (.int r) (.var (.inl r)) H3 (b1.trans b3) hI3 (.int r) ⟨r, rfl, h0, h9⟩ (by show 1 ≤ _; omega) (by show 1 ≤ _; omega)⟩
  have z : ¬ c = 0 := fun y => z (decide_eq_true (congrArg V.int y))
  refine ⟨_, rfl, _, _, rfl, rfl, _, rfl, ite2 (fun y => ?_) (fun y => ?_)⟩
  · have y := of_decide_eq_true y
    obtain ⟨x, hx, hx2⟩ := word c (by omega) (by omega)
    refine ⟨_, rfl, _, rfl, _, _, rfl, rfl, l, _, _, _, rfl, rfl, .inl (.inl hW1), hx, by show 1 ≤ sizeLine; decide, fun p np => ?_⟩
    have s2 := same_new np (.tup [.str x])
    exact q (.ref p) (.ap x []) _ (b1.trans s2.but) (hI1.same s2) (.ap upd_same .nil) ⟨⟨(c - 1).toNat, by omega, hx2, by show 0 = _; omega⟩, trivial⟩ (by show 0 + 1 ≤ _; omega) (by show 0 + 1 ≤ _; omega)
  have y : ¬ c < 4 := fun x => y (decide_eq_true x)
  obtain ⟨m, em⟩ : ∃ m : Nat, c = (m : Int) + 3 := ⟨(c - 3).toNat, by omega⟩
  have hk1 : 1 ≤ k := by
    rcases Nat.eq_zero_or_pos k with e | e
    · exact absurd (ck e) (by omega)
    · exact e
  have p6 : 4 ^ k = 4 ^ (k - 1) * 4 := by rw [← Nat.pow_succ]; congr 1; omega
  refine ⟨_, rfl, _, _, rfl, rfl, c - 3, rfl, by omega, by omega, fun a na => ?_⟩
  have ka : a ≠ d := hI1.ne na
  have etn : (c - 3).toNat = m := by omega
  rw [etn]
  refine lc_range (lo := 0) (n := m) (fun i H3 => ∃ acc ts, But d H2 H3 ∧ Ints H3 d ∧ H3 a = some (.lst acc) ∧ TmAll H3 acc ts ∧ ts.length = i ∧ Ter.wfs (symOf ws) numVar ts ∧ Ter.sizes ts ≤ i * 4 ^ k ∧ Ter.nests ts ≤ k) ⟨[], [], (same_new na _).but, hI1.same (same_new na _), upd_same, .nil, rfl, trivial, Nat.zero_le _, Nat.zero_le _⟩ (fun i H3 hi h => ?_) (fun H3 h => ?_)
  · obtain ⟨acc, ts, b3, hI3, ea, ha, lt, hw, hs, hn⟩ := h
    refine ⟨rfl, ?_⟩
    refine ⟨_, rfl, _, rfl, _, rfl, _, _, rfl, rfl, ?_⟩
    refine ⟨d, l, ws, k - 1, by show [V.ref d, V.ref l, V.int ((k : Int) - 1)] = _; rw [show (k : Int) - 1 = ((k - 1 : Nat) : Int) by omega], hI3, b3 l _ nl hW1, nl, lw, by omega, fun v t H4 b4 hI4 hv hwf hsz hne => ?_⟩
    have ek : k - 1 + 1 = k := by omega
    rw [ek] at hsz hne
    have m4 := b4.tupsI hI3
    have ea4 := b4 a _ ka ea
    have la := ha.len
    have b5 : But a H4 (upd H4 a (.lst (acc ++ [v]))) := But.upd
    have m5 := b5.tups ea4
    refine ⟨acc, ea4, Nat.lt_of_le_of_lt (show acc.length ≤ 100 by omega) (by decide), acc ++ [v], ts ++ [t], ?_, hI4.of_but b5 ka.symm, upd_same, (TmAll.mono (m4.trans m5) _ _ ha).app (.cons (TmAt.mono m5 _ _ hv) .nil), by rw [List.length_append, List.length_singleton, lt], wfs_app hw ⟨hwf, trivial⟩, ?_, ?_⟩
    · exact fun b o nb e => by
        rw [upd_ne (ne_of_none e na)]
        exact b4 b o nb (b3 b o nb e)
    · rw [sizes_snoc, Nat.succ_mul]
      omega
    · rw [nests_snoc]
      omega
  · obtain ⟨acc, ts, b3, hI3, ea, ha, lt, hw, hs, hn⟩ := h
    obtain ⟨x, hx, hx2⟩ := word c (by omega) (by omega)
    have la := ha.len
    have hW3 := b3 l _ nl hW1
    refine ⟨_, rfl, _, rfl, _, _, rfl, rfl, l, _, _, _, rfl, rfl, .inl (.inl hW3), hx, by show 1 ≤ sizeLine; decide, fun p np => ?_⟩
    have s4 := same_new np (.tup [.str x])
    refine ⟨_, rfl, a, acc, rfl, .inl ⟨.inl (.inl (s4 _ _ ea)), fun r nr => ?_⟩⟩
    have s5 := same_new nr (.tup acc)
    refine ⟨p, r, [.str x], acc, rfl, rfl, .inl (.inl (s5 _ _ upd_same)), .inl (.inl upd_same), by simp, Nat.le_trans (show 1 + acc.length ≤ 100 by omega) (by decide), fun z => ?_, fun _ u nu => ?_⟩
    · subst z
      rw [List.length_nil] at la
      omega
    have s6 := same_new nu (.tup ([.str x] ++ acc))
    have sa := (s4.trans s5).trans s6
    have m3 := sa.tups
    refine q (.ref u) (.ap x ts) _ (b1.trans (b3.trans sa.but)) (hI3.same sa) (.ap upd_same (TmAll.mono m3 _ _ ha)) ⟨⟨(c - 1).toNat, by omega, hx2, by omega⟩, hw⟩ ?_ ?_
    · show Ter.sizes ts + 1 ≤ _
      have : m * 4 ^ k ≤ 3 * 4 ^ k := Nat.mul_le_mul_right _ (by omega)
      omega
    · show Ter.nests ts + 1 ≤ _
      omega
theorem ok_law_term {f fT fV : Addr} {fd fdT fdV : FuncData} (D : Df K mg "_law_term" s__law_term ["draws", "words", "depth"] f fd) (DT : Df K mg "_law_take" s__law_take ["draws", "bound"] fT fdT) (GT : FnOk P w K mg base CX0 1 fT fdT ["draws", "bound"] spTake)
    (DV : Df K mg "_law_variable" s__law_variable ["draws"] fV fdV) (GV : FnOk P w K mg base CX0 2 fV fdV ["draws"] spLVar) (mr : mg "range" = none) (mt : mg "tuple" = none) : ∀ n : Nat, FnOk P w K mg base CX0 (n + 2) f fd ["draws", "words", "depth"] (spTerm n)
  | 0 => by
    have no : ∀ vs H Q E, ¬ spTerm 0 vs H Q E := fun vs H Q E h => by
      obtain ⟨d, l, ws, k, _, _, _, _, _, hk, _⟩ := h
      omega
    exact ⟨fun vs H Q E h => absurd h (no vs H Q E), fun A outer s H args us vs Q E _ _ _ _ h => absurd h (no vs H Q E)⟩
  | n + 1 => ok_law_term1 D DT GT DV GV mr mt (ok_law_term D DT GT DV GV mr mt n)
end

section
variable {P : Program} {w : World} {K : PySem.W.Frag} {mg : Str → Option Value} {base : Heap}
/-! ### _law_same: the same data on both sides -/
def spSame (K : PySem.W.Frag) (n : Nat) : Sp := fun vs H Q _ => ∃ (v u : V) (x : PyData), vs = [v, u] ∧ Dp K H v x ∧ Dp K H u x ∧ fitsD n x ∧ Q (.bl true) H
theorem sc_law_same : FnScope ["value", "due", "k"] ["value", "due"] (defScope s__law_same) := ⟨rfl, rfl, rfl, by decide +kernel, rfl, by decide +kernel, by decide +kernel⟩
theorem ok_law_same1 {f : Addr} {fd : FuncData} (D : Df K mg "_law_same" s__law_same ["value", "due"] f fd) (mi : mg "isinstance" = none) (mt : mg "tuple" = none) (mli : mg "list" = none) (ml : mg "len" = none) (mr : mg "range" = none) (mb : mg "bool" = none) (mint : mg "int" = none) (ms : mg "str" = none) {n : Nat}
    (G : FnOk P w K mg base CX0 n f fd ["value", "due"] (spSame K n)) : FnOk P w K mg base CX0 (n + 1) f fd ["value", "due"] (spSame K (n + 1)) := by
  refine D.F.ok sc_law_same (fun vs H Q E h => ?_) (fun cdv A outer s H vs Q E hr h => ?_)
  · obtain ⟨v, u, x, rfl, _⟩ := h; rfl
  obtain ⟨v, u, x, rfl, hv, hu, hd, q⟩ := h
  have nd := sc_law_same.nd
  refine ⟨_, pss_cons (ps_if (PW.pt (pw_or (pt_val (pe_callB call_isiDat (by rfl) mi (by decide +kernel) (pa_cons (pv 1) (pa_cons (pe_bltn (v := .ty "tuple") (by rfl) mt (by decide +kernel) rfl) pa_nil)))) (pw_or1 (pt_val (pe_callB call_isiDat (by rfl) mi (by decide +kernel) (pa_cons (pv 1) (pa_cons (pe_bltn (v := .ty "list") (by rfl) mli (by decide +kernel) rfl) pa_nil)))))))
      (pss_cons (ps_if (PW.pt (pw_or (pt_cmpR op_ne (pe_callB call_isiDat (by rfl) mi (by decide +kernel) (pa_cons (pv 1) (pa_cons (pe_bltn (v := .ty "tuple") (by rfl) mt (by decide +kernel) rfl) pa_nil))) (pe_callB call_isiDat (by rfl) mi (by decide +kernel) (pa_cons (pv 0) (pa_cons (pe_bltn (v := .ty "tuple") (by rfl) mt (by decide +kernel) rfl) pa_nil))) (nomark _))
          (pw_or1 (pt_cmpR op_ne (pe_callB call_isiDat (by rfl) mi (by decide +kernel) (pa_cons (pv 1) (pa_cons (pe_bltn (v := .ty "list") (by rfl) mli (by decide +kernel) rfl) pa_nil))) (pe_callB call_isiDat (by rfl) mi (by decide +kernel) (pa_cons (pv 0) (pa_cons (pe_bltn (v := .ty "list") (by rfl) mli (by decide +kernel) rfl) pa_nil))) (nomark _)))))
        (pss_one (ps_ret pe_bl)) pss_nil)
      (pss_cons (ps_if (pt_cmpR op_ne (pe_callB call_len_seq (by rfl) ml PySem.boot_len (pa_cons (pv 0) pa_nil)) (pe_callB call_len_seq (by rfl) ml PySem.boot_len (pa_cons (pv 1) pa_nil)) (nomark _)) (pss_one (ps_ret pe_bl)) pss_nil)
      (pss_cons (ps_for PassesOwn.never rfl (pi_range1 (by rfl) mr (pa_cons (pe_callB call_len_seq (by rfl) ml PySem.boot_len (pa_cons (pv 1) pa_nil)) pa_nil)) (pg_name (i := 2) nd rfl (.inl rfl))
        (pss_one (ps_if (pt_not (pt_val (pe_call G hr (by rfl) D.m D.F.kp D.b .nil pass0 (pa_cons (pe_ix ix_lt (pv 0) (pv 2) (fun _ _ => rfl)) (pa_cons (pe_ix ix_lt (pv 1) (pv 2) (fun _ _ => rfl)) pa_nil))))) (pss_one (ps_ret pe_bl)) pss_nil)))
      (pss_one (ps_ret pe_bl))))) pss_nil)
    (pss_cons (ps_if (pt_cmpR op_ne (pe_callB call_isiDat (by rfl) mi (by decide +kernel) (pa_cons (pv 1) (pa_cons (pe_bltn (v := .ty "bool") (by rfl) mb (by decide +kernel) rfl) pa_nil))) (pe_callB call_isiDat (by rfl) mi (by decide +kernel) (pa_cons (pv 0) (pa_cons (pe_bltn (v := .ty "bool") (by rfl) mb (by decide +kernel) rfl) pa_nil))) (nomark _)) (pss_one (ps_ret pe_bl)) pss_nil)
    (pss_cons (ps_if (PW.pt (pw_or (pt_cmpR op_ne (pe_callB call_isiDat (by rfl) mi (by decide +kernel) (pa_cons (pv 1) (pa_cons (pe_bltn (v := .ty "int") (by rfl) mint (by decide +kernel) rfl) pa_nil))) (pe_callB call_isiDat (by rfl) mi (by decide +kernel) (pa_cons (pv 0) (pa_cons (pe_bltn (v := .ty "int") (by rfl) mint (by decide +kernel) rfl) pa_nil))) (nomark _))
        (pw_or1 (pt_cmpR op_ne (pe_callB call_isiDat (by rfl) mi (by decide +kernel) (pa_cons (pv 1) (pa_cons (pe_bltn (v := .ty "str") (by rfl) ms (by decide +kernel) rfl) pa_nil))) (pe_callB call_isiDat (by rfl) mi (by decide +kernel) (pa_cons (pv 0) (pa_cons (pe_bltn (v := .ty "str") (by rfl) ms (by decide +kernel) rfl) pa_nil))) (nomark _)))))
      (pss_one (ps_ret pe_bl)) pss_nil)
    (pss_one (ps_ret (pe_cmpR op_eq (pv 0) (pv 1) (nomark _)))))), ?_⟩
  have ns : ∀ b : Bool, (!decide (V.bl b = V.bl b)) = false := fun b => by rw [decide_eq_true rfl]; rfl
  by_cases hs : (isTupD x || isListD x) = true
  · -- a sequence: item by item
    obtain ⟨a, b, xs, ys, ds, rfl, rfl, ha, hb, hxs, hys, hf⟩ : ∃ (a b : Addr) (xs ys : List V) (ds : List PyData), v = .ref a ∧ u = .ref b ∧ (SqL K H a xs ∨ SqT K H a xs) ∧ (SqL K H b ys ∨ SqT K H b ys) ∧ DpAll K H xs ds ∧ DpAll K H ys ds ∧ (ds.length ≤ 1000000 ∧ ∀ d ∈ ds, fitsD n d) := by
      cases hv with
      | lst h1 h2 =>
        cases hu with
        | lst h3 h4 => exact ⟨_, _, _, _, _, rfl, rfl, .inl h1, .inl h3, h2, h4, hd⟩
      | tup h1 h2 =>
        cases hu with
        | tup h3 h4 => exact ⟨_, _, _, _, _, rfl, rfl, .inr h1, .inr h3, h2, h4, hd⟩
      | _ => exact absurd (show false = true from hs) Bool.false_ne_true
    have l1 := Dp.len hxs
    have l2 := Dp.len hys
    have lz := hf.1
    refine ⟨_, rfl, _, x, "tuple", _, rfl, hu, k_tup x, _, rfl, ?_⟩
    refine ite2 (fun _ => ?g1) (fun c => ⟨_, rfl, _, x, "list", _, rfl, hu, k_list x, _, rfl, ?g2⟩)
    case' g2 =>
      rw [show isListD x = true by
        cases h : isTupD x with
        | true => exact absurd h c
        | false => rw [h] at hs; exact hs]
      refine iteT ?_
    all_goals
      refine ⟨_, rfl, _, x, "tuple", _, rfl, hu, k_tup x, _, rfl, _, x, "tuple", _, rfl, hv, k_tup x, rfl, _, rfl, ?_⟩
      rw [ns]
      refine iteF ⟨_, rfl, _, x, "list", _, rfl, hu, k_list x, _, rfl, _, x, "list", _, rfl, hv, k_list x, rfl, _, rfl, ?_⟩
      rw [ns]
      refine iteF ⟨_, rfl, a, xs, rfl, ha, _, rfl, b, ys, rfl, hb, rfl, _, rfl, iteNS (by rw [l1, l2]) ?_⟩
      refine ⟨_, rfl, b, ys, rfl, hb, (ys.length : Nat), rfl, by omega, by omega, for_range (n := ((ys.length : Nat) : Int).toNat) (fun i σ H2 => ∃ y, σ = [some (.ref a), some (.ref b), y] ∧ H2 = H) ⟨none, rfl, rfl⟩ (fun i σ H2 hi h => ?_) (fun σ H2 h => ?_)⟩
      · obtain ⟨y, rfl, rfl⟩ := h
        have hi : i < ys.length := by omega
        have e1 : xs[i]? = some xs[i] := List.getElem?_eq_getElem (by omega)
        have e2 : ys[i]? = some ys[i] := List.getElem?_eq_getElem hi
        obtain ⟨d1, q1, w1⟩ := Dp.get hxs e1
        obtain ⟨d2, q2, w2⟩ := Dp.get hys e2
        have e3 : d1 = d2 := Option.some.inj (q1.symm.trans q2)
        subst e3
        have e4 : (0 : Int) + (i : Nat) = (i : Nat) := Int.zero_add _
        refine ⟨_, rfl, _, rfl, a, xs, _, _, rfl, rfl, ha, at_of e4 e1, _, rfl, _, rfl, b, ys, _, _, rfl, rfl, hb, at_of e4 e2, ?_⟩
        exact ⟨_, _, d1, rfl, w1, w2, hf.2 d1 (List.mem_of_getElem? q1), _, rfl, iteF ⟨_, rfl, rfl⟩⟩
      · obtain ⟨y, rfl, rfl⟩ := h
        exact q
  · have h1 : isTupD x = false := by
      cases h : isTupD x with
      | true => rw [h] at hs; exact absurd rfl hs
      | false => rfl
    have h2 : isListD x = false := by
      cases h : isListD x with
      | true => rw [h, Bool.or_true] at hs; exact absurd rfl hs
      | false => rfl
    refine ⟨_, rfl, _, x, "tuple", _, rfl, hu, k_tup x, _, rfl, ?_⟩
    rw [h1]
    refine iteF ⟨_, rfl, _, x, "list", _, rfl, hu, k_list x, _, rfl, ?_⟩
    rw [h2]
    refine iteF ?_
    refine ⟨_, rfl, _, x, "bool", _, rfl, hu, k_bool x, _, rfl, _, x, "bool", _, rfl, hv, k_bool x, rfl, _, rfl, ?_⟩
    rw [ns]
    refine iteF ⟨_, rfl, _, x, "int", _, rfl, hu, k_int x, _, rfl, _, x, "int", _, rfl, hv, k_int x, rfl, _, rfl, ?_⟩
    rw [ns]
    refine iteF ⟨_, rfl, _, x, "str", _, rfl, hu, k_str x, _, rfl, _, x, "str", _, rfl, hv, k_str x, rfl, _, rfl, ?_⟩
    rw [ns]
    refine iteF ?_
    cases hv with
    | lst _ _ => cases h2
    | tup _ _ => cases h1
    | non =>
      cases hu
      exact ⟨_, rfl, _, rfl, rfl, q⟩
    | bl b =>
      cases hu
      exact ⟨_, rfl, _, rfl, rfl, by rw [decide_eq_true rfl]; exact q⟩
    | int b =>
      cases hu
      exact ⟨_, rfl, _, rfl, rfl, by rw [decide_eq_true rfl]; exact q⟩
    | str b =>
      cases hu
      exact ⟨_, rfl, _, rfl, rfl, by rw [decide_eq_true rfl]; exact q⟩
theorem ok_law_same {f : Addr} {fd : FuncData} (D : Df K mg "_law_same" s__law_same ["value", "due"] f fd) (mi : mg "isinstance" = none) (mt : mg "tuple" = none) (mli : mg "list" = none) (ml : mg "len" = none) (mr : mg "range" = none) (mb : mg "bool" = none) (mint : mg "int" = none) (ms : mg "str" = none) :
    ∀ n : Nat, FnOk P w K mg base CX0 n f fd ["value", "due"] (spSame K n)
  | 0 => by
    have no : ∀ vs H Q E, ¬ spSame K 0 vs H Q E := fun vs H Q E h => by
      obtain ⟨v, u, x, _, _, _, hf, _⟩ := h
      exact hf
    exact ⟨fun vs H Q E h => absurd h (no vs H Q E), fun A outer s H args us vs Q E _ _ _ _ h => absurd h (no vs H Q E)⟩
  | n + 1 => ok_law_same1 D mi mt mli ml mr mb mint ms (ok_law_same D mi mt mli ml mr mb mint ms n)
end

section
variable {P : Program} {w : World} {K : PySem.W.Frag} {mg : Str → Option Value} {base : Heap}
/-! ### _law_same: the same data on both sides -/
theorem sc_law_sameH : FnScope ["value", "due", "k"] ["value", "due"] (defScope s__law_same) := ⟨rfl, rfl, rfl, by decide +kernel, rfl, by decide +kernel, by decide +kernel⟩
theorem ok_law_sameH1 {f : Addr} {fd : FuncData} (D : Df K mg "_law_same" s__law_same ["value", "due"] f fd) (mi : mg "isinstance" = none) (mt : mg "tuple" = none) (mli : mg "list" = none) (ml : mg "len" = none) (mr : mg "range" = none) (mb : mg "bool" = none) (mint : mg "int" = none) (ms : mg "str" = none) {n : Nat}
    (G : L2H.FnH P w K mg base CX0 n f fd ["value", "due"] (spSame K n)) : L2H.FnH P w K mg base CX0 (n + 1) f fd ["value", "due"] (spSame K (n + 1)) := by
  refine D.F.okH sc_law_sameH (fun vs H Q E h => ?_) (fun cdv A outer s H vs Q E p hc hr h => ?_)
  · obtain ⟨v, u, x, rfl, _⟩ := h; rfl
  obtain ⟨v, u, x, rfl, hv, hu, hd, q⟩ := h
  have nd := sc_law_sameH.nd
  refine ⟨_, pss_cons (ps_if (PW.pt (pw_or (pt_val (pe_callB call_isiDat (by rfl) mi (by decide +kernel) (pa_cons (pv 1) (pa_cons (pe_bltn (v := .ty "tuple") (by rfl) mt (by decide +kernel) rfl) pa_nil)))) (pw_or1 (pt_val (pe_callB call_isiDat (by rfl) mi (by decide +kernel) (pa_cons (pv 1) (pa_cons (pe_bltn (v := .ty "list") (by rfl) mli (by decide +kernel) rfl) pa_nil)))))))
      (pss_cons (ps_if (PW.pt (pw_or (pt_cmpR op_ne (pe_callB call_isiDat (by rfl) mi (by decide +kernel) (pa_cons (pv 1) (pa_cons (pe_bltn (v := .ty "tuple") (by rfl) mt (by decide +kernel) rfl) pa_nil))) (pe_callB call_isiDat (by rfl) mi (by decide +kernel) (pa_cons (pv 0) (pa_cons (pe_bltn (v := .ty "tuple") (by rfl) mt (by decide +kernel) rfl) pa_nil))) (nomark _))
          (pw_or1 (pt_cmpR op_ne (pe_callB call_isiDat (by rfl) mi (by decide +kernel) (pa_cons (pv 1) (pa_cons (pe_bltn (v := .ty "list") (by rfl) mli (by decide +kernel) rfl) pa_nil))) (pe_callB call_isiDat (by rfl) mi (by decide +kernel) (pa_cons (pv 0) (pa_cons (pe_bltn (v := .ty "list") (by rfl) mli (by decide +kernel) rfl) pa_nil))) (nomark _)))))
        (pss_one (ps_ret pe_bl)) pss_nil)
      (pss_cons (ps_if (pt_cmpR op_ne (pe_callB call_len_seq (by rfl) ml PySem.boot_len (pa_cons (pv 0) pa_nil)) (pe_callB call_len_seq (by rfl) ml PySem.boot_len (pa_cons (pv 1) pa_nil)) (nomark _)) (pss_one (ps_ret pe_bl)) pss_nil)
      (pss_cons (L2H.ps_forH (passes_of rfl) hc (L2H.pi_range1H (by rfl) mr (pa_cons (pe_callB call_len_seq (by rfl) ml PySem.boot_len (pa_cons (pv 1) pa_nil)) pa_nil)) (pg_name (i := 2) nd rfl (.inl rfl))
        (pss_one (ps_if (pt_not (pt_val (L2H.pe_callH (E := fun _ => E0) G hr hc (by rfl) D.m D.F.kp D.b passA0 (pa_cons (pe_ix ix_lt (pv 0) (pv 2) (fun _ _ => rfl)) (pa_cons (pe_ix ix_lt (pv 1) (pv 2) (fun _ _ => rfl)) pa_nil))))) (pss_one (ps_ret pe_bl)) pss_nil)))
      (pss_one (ps_ret pe_bl))))) pss_nil)
    (pss_cons (ps_if (pt_cmpR op_ne (pe_callB call_isiDat (by rfl) mi (by decide +kernel) (pa_cons (pv 1) (pa_cons (pe_bltn (v := .ty "bool") (by rfl) mb (by decide +kernel) rfl) pa_nil))) (pe_callB call_isiDat (by rfl) mi (by decide +kernel) (pa_cons (pv 0) (pa_cons (pe_bltn (v := .ty "bool") (by rfl) mb (by decide +kernel) rfl) pa_nil))) (nomark _)) (pss_one (ps_ret pe_bl)) pss_nil)
    (pss_cons (ps_if (PW.pt (pw_or (pt_cmpR op_ne (pe_callB call_isiDat (by rfl) mi (by decide +kernel) (pa_cons (pv 1) (pa_cons (pe_bltn (v := .ty "int") (by rfl) mint (by decide +kernel) rfl) pa_nil))) (pe_callB call_isiDat (by rfl) mi (by decide +kernel) (pa_cons (pv 0) (pa_cons (pe_bltn (v := .ty "int") (by rfl) mint (by decide +kernel) rfl) pa_nil))) (nomark _))
        (pw_or1 (pt_cmpR op_ne (pe_callB call_isiDat (by rfl) mi (by decide +kernel) (pa_cons (pv 1) (pa_cons (pe_bltn (v := .ty "str") (by rfl) ms (by decide +kernel) rfl) pa_nil))) (pe_callB call_isiDat (by rfl) mi (by decide +kernel) (pa_cons (pv 0) (pa_cons (pe_bltn (v := .ty "str") (by rfl) ms (by decide +kernel) rfl) pa_nil))) (nomark _)))))
      (pss_one (ps_ret pe_bl)) pss_nil)
    (pss_one (ps_ret (pe_cmpR op_eq (pv 0) (pv 1) (nomark _)))))), ?_⟩
  have ns : ∀ b : Bool, (!decide (V.bl b = V.bl b)) = false := fun b => by rw [decide_eq_true rfl]; rfl
  by_cases hs : (isTupD x || isListD x) = true
  · -- a sequence: item by item
    obtain ⟨a, b, xs, ys, ds, rfl, rfl, ha, hb, hxs, hys, hf⟩ : ∃ (a b : Addr) (xs ys : List V) (ds : List PyData), v = .ref a ∧ u = .ref b ∧ (SqL K H a xs ∨ SqT K H a xs) ∧ (SqL K H b ys ∨ SqT K H b ys) ∧ DpAll K H xs ds ∧ DpAll K H ys ds ∧ (ds.length ≤ 1000000 ∧ ∀ d ∈ ds, fitsD n d) := by
      cases hv with
      | lst h1 h2 =>
        cases hu with
        | lst h3 h4 => exact ⟨_, _, _, _, _, rfl, rfl, .inl h1, .inl h3, h2, h4, hd⟩
      | tup h1 h2 =>
        cases hu with
        | tup h3 h4 => exact ⟨_, _, _, _, _, rfl, rfl, .inr h1, .inr h3, h2, h4, hd⟩
      | _ => exact absurd (show false = true from hs) Bool.false_ne_true
    have l1 := Dp.len hxs
    have l2 := Dp.len hys
    have lz := hf.1
    refine ⟨_, rfl, _, x, "tuple", _, rfl, hu, k_tup x, _, rfl, ?_⟩
    refine ite2 (fun _ => ?g1) (fun c => ⟨_, rfl, _, x, "list", _, rfl, hu, k_list x, _, rfl, ?g2⟩)
    case' g2 =>
      rw [show isListD x = true by
        cases h : isTupD x with
        | true => exact absurd h c
        | false => rw [h] at hs; exact hs]
      refine iteT ?_
    all_goals
      refine ⟨_, rfl, _, x, "tuple", _, rfl, hu, k_tup x, _, rfl, _, x, "tuple", _, rfl, hv, k_tup x, rfl, _, rfl, ?_⟩
      rw [ns]
      refine iteF ⟨_, rfl, _, x, "list", _, rfl, hu, k_list x, _, rfl, _, x, "list", _, rfl, hv, k_list x, rfl, _, rfl, ?_⟩
      rw [ns]
      refine iteF ⟨_, rfl, a, xs, rfl, ha, _, rfl, b, ys, rfl, hb, rfl, _, rfl, iteNS (by rw [l1, l2]) ?_⟩
      refine ⟨_, rfl, b, ys, rfl, hb, (ys.length : Nat), rfl, by omega, by omega, for_range (n := ((ys.length : Nat) : Int).toNat) (fun i σ H2 => ∃ y, σ = [some (.ref a), some (.ref b), y] ∧ H2 = H) ⟨none, rfl, rfl⟩ (fun i σ H2 hi h => ?_) (fun σ H2 h => ?_)⟩
      · obtain ⟨y, rfl, rfl⟩ := h
        have hi : i < ys.length := by omega
        have e1 : xs[i]? = some xs[i] := List.getElem?_eq_getElem (by omega)
        have e2 : ys[i]? = some ys[i] := List.getElem?_eq_getElem hi
        obtain ⟨d1, q1, w1⟩ := Dp.get hxs e1
        obtain ⟨d2, q2, w2⟩ := Dp.get hys e2
        have e3 : d1 = d2 := Option.some.inj (q1.symm.trans q2)
        subst e3
        have e4 : (0 : Int) + (i : Nat) = (i : Nat) := Int.zero_add _
        refine ⟨_, rfl, _, rfl, a, xs, _, _, rfl, rfl, ha, at_of e4 e1, _, rfl, _, rfl, b, ys, _, _, rfl, rfl, hb, at_of e4 e2, ?_⟩
        exact ⟨_, _, d1, rfl, w1, w2, hf.2 d1 (List.mem_of_getElem? q1), _, rfl, iteF ⟨_, rfl, rfl⟩⟩
      · obtain ⟨y, rfl, rfl⟩ := h
        exact q
  · have h1 : isTupD x = false := by
      cases h : isTupD x with
      | true => rw [h] at hs; exact absurd rfl hs
      | false => rfl
    have h2 : isListD x = false := by
      cases h : isListD x with
      | true => rw [h, Bool.or_true] at hs; exact absurd rfl hs
      | false => rfl
    refine ⟨_, rfl, _, x, "tuple", _, rfl, hu, k_tup x, _, rfl, ?_⟩
    rw [h1]
    refine iteF ⟨_, rfl, _, x, "list", _, rfl, hu, k_list x, _, rfl, ?_⟩
    rw [h2]
    refine iteF ?_
    refine ⟨_, rfl, _, x, "bool", _, rfl, hu, k_bool x, _, rfl, _, x, "bool", _, rfl, hv, k_bool x, rfl, _, rfl, ?_⟩
    rw [ns]
    refine iteF ⟨_, rfl, _, x, "int", _, rfl, hu, k_int x, _, rfl, _, x, "int", _, rfl, hv, k_int x, rfl, _, rfl, ?_⟩
    rw [ns]
    refine iteF ⟨_, rfl, _, x, "str", _, rfl, hu, k_str x, _, rfl, _, x, "str", _, rfl, hv, k_str x, rfl, _, rfl, ?_⟩
    rw [ns]
    refine iteF ?_
    cases hv with
    | lst _ _ => cases h2
    | tup _ _ => cases h1
    | non =>
      cases hu
      exact ⟨_, rfl, _, rfl, rfl, q⟩
    | bl b =>
      cases hu
      exact ⟨_, rfl, _, rfl, rfl, by rw [decide_eq_true rfl]; exact q⟩
    | int b =>
      cases hu
      exact ⟨_, rfl, _, rfl, rfl, by rw [decide_eq_true rfl]; exact q⟩
    | str b =>
      cases hu
      exact ⟨_, rfl, _, rfl, rfl, by rw [decide_eq_true rfl]; exact q⟩
theorem ok_law_sameH {f : Addr} {fd : FuncData} (D : Df K mg "_law_same" s__law_same ["value", "due"] f fd) (mi : mg "isinstance" = none) (mt : mg "tuple" = none) (mli : mg "list" = none) (ml : mg "len" = none) (mr : mg "range" = none) (mb : mg "bool" = none) (mint : mg "int" = none) (ms : mg "str" = none) :
    ∀ n : Nat, L2H.FnH P w K mg base CX0 n f fd ["value", "due"] (spSame K n)
  | 0 => by
    have no : ∀ vs H Q E, ¬ spSame K 0 vs H Q E := fun vs H Q E h => by
      obtain ⟨v, u, x, _, _, _, hf, _⟩ := h
      exact hf
    exact ⟨fun vs H Q E h => absurd h (no vs H Q E), fun A outer s H args us vs Q E p _ _ _ _ _ _ h => absurd h (no vs H Q E)⟩
  | n + 1 => ok_law_sameH1 D mi mt mli ml mr mb mint ms (ok_law_sameH D mi mt mli ml mr mb mint ms n)
end

end K02
namespace K02
open PySem PySem.Spec PyProof.Rows L2 Own HT
structure DkG (K : PySem.W.Frag) (mg : Str → Option Value) (x : Str) (st : Stmt) (ps : List Str) (n : Nat) (kn : Str) (dv : V) (f : Addr) (fd : FuncData) : Prop where
  F : Fun K x x st f fd
  b : ∃ ds, Vals [dv] ds ∧ Binds K fd ps ds
  kb : KBn K fd ps n [kn] (fun us ws => us ++ ws) (fun vs zs => vs ++ zs)
  m : mg x = some (.ref f)
section
variable {P : Program} {w : World} {K : PySem.W.Frag} {mg : Str → Option Value} {base : Heap}
/-! ### positions -/
def spPoss : Sp := fun vs H Q _ => ∃ (v : V) (t : Ter) (wv : Bool), vs = [v, .bl wv] ∧ TmAt H v t ∧ t.size ≤ 100000 ∧ t.nest ≤ 400 ∧ ∀ (p : Addr) (H' : Hp) (ws : List V), Same H H' → H p = none → H' p = some (.lst ws) → PosAll H' ws (posOf wv (t.walk [])) → Q (.ref p) H'
theorem sc_positions : FnScope ["term", "with_variables", "found", "waiting", "position", "part", "index"] ["term", "with_variables"] (defScope s_positions) := ⟨rfl, rfl, rfl, by decide +kernel, rfl, by decide +kernel, by decide +kernel⟩
/-- rows of a stack: short positions, and no more than the whole -/
def stkOk (t : Ter) (rs : List Own.Row) : Prop := ∀ x ∈ rs, x.1.length + x.2.nest ≤ t.nest
theorem kids_ok {t u : Ter} {p : List Int} {f : Str} {as : List Ter} (h : p.length + (Ter.ap f as).nest ≤ t.nest) : ∀ (i : Int) (bs : List Ter), (∀ b ∈ bs, b.nest ≤ Ter.nests as) → stkOk t (kids p i bs)
  | _, [], _, x, hx => by cases hx
  | i, b :: r, hb, x, hx => by
    have h : p.length + (Ter.nests as + 1) ≤ t.nest := h
    rcases List.mem_cons.mp hx with rfl | hx
    · have := hb b List.mem_cons_self
      show (p ++ [i]).length + b.nest ≤ t.nest
      rw [List.length_append, List.length_singleton]
      omega
    · exact kids_ok (u := u) (f := f) h (i + 1) r (fun c hc => hb c (List.mem_cons_of_mem _ hc)) x hx
theorem ok_positions {f fV : Addr} {fd fdV : FuncData} (D : DkG K mg "positions" s_positions ["term", "with_variables"] 1 "with_variables" (.bl true) f fd) (DV : Df K mg "is_variable" s_is_variable ["term"] fV fdV) (G : FnOk P w K mg base CX0 1 fV fdV ["term"] spIsVar) (ml : mg "len" = none) (mr : mg "range" = none) : FnOk P w K mg base CX0 2 f fd ["term", "with_variables"] spPoss := by
  refine D.F.ok sc_positions (fun vs H Q E h => ?_) (fun cdv A outer s H vs Q E hr h => ?_)
  · obtain ⟨v, t, wv, rfl, _⟩ := h; rfl
  obtain ⟨v, t, wv, rfl, ht, hz, hne, q⟩ := h
  have nd := sc_positions.nd
  refine ⟨_, pss_cons (ps_set (i := 2) nd rfl (.inl rfl) (pe_lst pa_nil)) (pss_cons (ps_set (i := 3) nd rfl (.inl rfl) (pe_lst (pa_cons (pe_tup (pa_cons (pe_tup pa_nil) (pa_cons (pv 0) pa_nil))) pa_nil)))
    (pss_cons (ps_while PassesOwn.never (pt_truth (pv 3) (by intro _; rfl))
      (pss_cons (ps_asg (pe_bm0 PySem.F.plainAttrs_list PySem.F.slot_list_pop PySem.F.type_list_pop mt_popL (pv 3)) (pg_tup rfl (pgs_cons (pg_name (i := 4) nd rfl (.inl rfl)) (pgs_cons (pg_name (i := 5) nd rfl (.inl rfl)) pgs_nil))))
      (pss_one (ps_if (pt_not (pt_val (pe_call G hr (by rfl) DV.m DV.F.kp DV.b .nil pass0 (pa_cons (pv 5) pa_nil))))
        (pss_cons (ps_expr (pe_bm PySem.F.plainAttrs_list PySem.F.slot_list_append PySem.F.type_list_append mt_append (pv 2) (pa_cons (pv 4) pa_nil)))
        (pss_one (ps_for PassesOwn.never rfl (pi_range3 (by rfl) mr (pa_cons (pe_op op_sub (pe_callB call_len_seq (by rfl) ml PySem.boot_len (pa_cons (pv 5) pa_nil)) pe_int) (pa_cons pe_int (pa_cons (pe_un un_neg pe_int) pa_nil)))) (pg_name (i := 6) nd rfl (.inl rfl))
          (pss_one (ps_expr (pe_bm PySem.F.plainAttrs_list PySem.F.slot_list_append PySem.F.type_list_append mt_append (pv 3) (pa_cons (pe_tup (pa_cons (pe_op op_catA (pv 4) (pe_tup (pa_cons (pv 6) pa_nil))) (pa_cons (pe_ix ix_tup (pv 5) (pv 6) (fun _ _ => rfl)) pa_nil))) pa_nil)))))))
        (pss_one (ps_if (pt_val (pv 1)) (pss_one (ps_expr (pe_bm PySem.F.plainAttrs_list PySem.F.slot_list_append PySem.F.type_list_append mt_append (pv 2) (pa_cons (pv 4) pa_nil)))) pss_nil))))))
    (pss_one (ps_ret (pv 2))))), ?_⟩
  refine ⟨Nat.zero_le _, fun d nd' => ?_⟩
  have s0 := same_new nd' (.lst [])
  refine ⟨Nat.zero_le _, fun b0 nb0 => ?_⟩
  have s1 := s0.trans (same_new nb0 (.tup []))
  refine ⟨v, rfl, by show 2 ≤ sizeLine; decide, fun r0 nr0 => ?_⟩
  have s2 := s1.trans (same_new nr0 (.tup [.ref b0, v]))
  refine ⟨by show 1 ≤ sizeLine; decide, fun l nl => ?_⟩
  have s3 := s2.trans (same_new nl (.lst [.ref r0]))
  have ed0 : upd (upd (upd (upd H d (.lst [])) b0 (.tup [])) r0 (.tup [.ref b0, v])) l (.lst [.ref r0]) d = some (.lst []) := (same_new nl _) _ _ ((same_new nr0 _) _ _ ((same_new nb0 _) _ _ upd_same))
  have eb0 : upd (upd (upd (upd H d (.lst [])) b0 (.tup [])) r0 (.tup [.ref b0, v])) l (.lst [.ref r0]) b0 = some (.tup []) := (same_new nl _) _ _ ((same_new nr0 _) _ _ upd_same)
  have er0 : upd (upd (upd (upd H d (.lst [])) b0 (.tup [])) r0 (.tup [.ref b0, v])) l (.lst [.ref r0]) r0 = some (.tup [.ref b0, v]) := (same_new nl _) _ _ upd_same
  have nld : l ≠ d := (ne_of_none ((same_new nr0 _) _ _ ((same_new nb0 _) _ _ (show upd H d (.lst []) d = some _ from upd_same))) nl).symm
  have nlH : H l = none := s2.free nl
  refine ⟨fun m σ H' => ∃ (done : List (List Int)) (fs vs : List V) (rs : List Own.Row) (y4 y5 y6 : Option V), σ = [some v, some (.bl wv), some (.ref d), some (.ref l), y4, y5, y6] ∧ Same H H' ∧ H' d = some (.lst fs) ∧ PosAll H' fs done ∧ H' l = some (.lst vs) ∧ RowAll H' vs rs ∧ done ++ posOf wv (allWalk rs.reverse) = posOf wv (t.walk []) ∧ done.length + rsize rs ≤ t.size ∧ stkOk t rs ∧ m = rsize rs,
    ⟨_, [], [], [.ref r0], [([], t)], none, none, none, rfl, s3, ed0, .nil, upd_same, .cons (.mk (p := []) er0 eb0 (TmAt.mono s3.tups _ _ ht)) .nil, ?_, ?_, ?_, rfl⟩, fun m σ H' hW => ?_⟩
  · show posOf wv (t.walk [] ++ []) = _
    rw [List.append_nil]
  · show 0 + (t.size + 0) ≤ t.size
    omega
  · intro x hx
    rw [List.mem_singleton.mp hx]
    show 0 + t.nest ≤ t.nest
    omega
  obtain ⟨done, fs, vs, rs, y4, y5, y6, rfl, sm, ed, hF, el, hR, et, hl, hk, rfl⟩ := hW
  refine ⟨.ref l, rfl, _, tru_l el, ?_⟩
  refine ite2 (fun c => ?_) (fun c => ?_)
  · have hv : vs ≠ [] := fun z => by subst z; exact absurd c (by decide)
    obtain ⟨vs', u, rs', x, rfl, rfl, hR', hx⟩ := hR.last hv
    have lF := hF.len
    rw [rsize_app] at hl
    have ez : rsize [x] = x.2.size := by show x.2.size + 0 = x.2.size; omega
    rw [ez] at hl
    have su := x.2.size_pos
    rw [List.reverse_append] at et
    have et : done ++ posOf wv (x.2.walk x.1 ++ allWalk rs'.reverse) = posOf wv (t.walk []) := et
    have hkx := hk x (List.mem_append_right _ (List.mem_singleton.mpr rfl))
    have hk' : stkOk t rs' := fun y hy => hk y (List.mem_append_left _ hy)
    refine ⟨fun σ' H2 => ∃ (done : List (List Int)) (fs vs : List V) (rs : List Own.Row) (y4 y5 y6 : Option V), σ' = [some v, some (.bl wv), some (.ref d), some (.ref l), y4, y5, y6] ∧ Same H H2 ∧ H2 d = some (.lst fs) ∧ PosAll H2 fs done ∧ H2 l = some (.lst vs) ∧ RowAll H2 vs rs ∧ done ++ posOf wv (allWalk rs.reverse) = posOf wv (t.walk []) ∧ done.length + rsize rs ≤ t.size ∧ stkOk t rs ∧ rsize rs < rsize (rs' ++ [x]),
      fun σ' H2 hN => ?_, ?_⟩
    · obtain ⟨a1, a2, a3, a4, a5, a6, a7, e1, e2, e3, e4, e5, e6, e7, e8, e9, e10⟩ := hN
      exact ⟨_, e10, a1, a2, a3, a4, a5, a6, a7, e1, e2, e3, e4, e5, e6, e7, e8, e9, rfl⟩
    have b1 : But l H' (upd H' l (.lst vs')) := But.upd
    have t1 := b1.tups el
    have sm1 := But.same nlH sm b1
    have ed1 := b1 d _ nld.symm ed
    have hF1 := hF.mono t1
    have hR1 := hR'.mono t1
    have lR := hR1.len
    refine ⟨.ref l, rfl, tyl el, l, vs', u, rfl, rfl, el, ?_⟩
    cases hx with
    | @mk rr bb xv p w1 e1 e2 e3 =>
    refine ⟨rr, _, rfl, .inl (.inl (t1 _ _ e1)), rfl, _, _, rfl, _, _, rfl, rfl, ?_⟩
    have hw1 := TmAt.mono t1 _ _ e3
    have eb := t1 _ _ e2
    have lt : rsize rs' < rsize (rs' ++ [(p, w1)]) := by rw [rsize_app, ez]; omega
    refine ⟨xv, rfl, xv, w1, rfl, hw1, _, rfl, ?_⟩
    have b9 := But.upd (d := d) (H := upd H' l (.lst vs')) (o := .lst (fs ++ [.ref bb]))
    have t9 := b9.tups ed1
    have eb9 : PosAt (upd (upd H' l (.lst vs')) d (.lst (fs ++ [.ref bb]))) (.ref bb) p := .mk (t9 _ _ eb)
    have ndl : l ≠ d := nld
    have leaf : ∀ k : Key, w1 = .var k → (if wv = true then (∃ x, some (V.ref d) = some x ∧ True) else True) → posOf wv (w1.walk p) = if wv = true then [p] else [] := fun k e _ => by
      subst e
      cases wv <;> rfl
    cases hw1 with
    | int i =>
      refine iteF ⟨.bl wv, rfl, wv, rfl, ?_⟩
      cases wv with
      | true =>
        refine iteT ⟨.ref d, rfl, tyl ed1, .ref bb, rfl, d, fs, .ref bb, rfl, rfl, ed1, small6' (by omega), ?_⟩
        refine ⟨done ++ [p], _, vs', rs', _, _, y6, rfl, But.same nd' sm1 b9, upd_same, (hF1.mono t9).app (.cons eb9 .nil), b9 l _ ndl upd_same, hR1.mono t9, ?_, by rw [List.length_append, List.length_singleton]; omega, hk', lt⟩
        rw [← et, posOf_app, List.append_assoc]
        rfl
      | false =>
        refine iteF ⟨done, fs, vs', rs', _, _, y6, rfl, sm1, ed1, hF1, upd_same, hR1, ?_, by omega, hk', lt⟩
        rw [← et, posOf_app]
        rfl
    | str i =>
      refine iteF ⟨.bl wv, rfl, wv, rfl, ?_⟩
      cases wv with
      | true =>
        refine iteT ⟨.ref d, rfl, tyl ed1, .ref bb, rfl, d, fs, .ref bb, rfl, rfl, ed1, small6' (by omega), ?_⟩
        refine ⟨done ++ [p], _, vs', rs', _, _, y6, rfl, But.same nd' sm1 b9, upd_same, (hF1.mono t9).app (.cons eb9 .nil), b9 l _ ndl upd_same, hR1.mono t9, ?_, by rw [List.length_append, List.length_singleton]; omega, hk', lt⟩
        rw [← et, posOf_app, List.append_assoc]
        rfl
      | false =>
        refine iteF ⟨done, fs, vs', rs', _, _, y6, rfl, sm1, ed1, hF1, upd_same, hR1, ?_, by omega, hk', lt⟩
        rw [← et, posOf_app]
        rfl
    | @ap a g xs as e hs =>
      have ls := hs.len
      have la := Ter.sizes_len as
      have es : (Ter.ap g as).size = Ter.sizes as + 1 := rfl
      have len0 : ((V.str g :: xs).length : Int) = (as.length : Int) + 1 := by rw [List.length_cons, ls]; omega
      have hk0 : p.length + (Ter.nests as + 1) ≤ t.nest := hkx
      have hl : done.length + (rsize rs' + (Ter.sizes as + 1)) ≤ t.size := hl
      refine iteT ⟨.ref d, rfl, tyl ed1, .ref bb, rfl, d, fs, .ref bb, rfl, rfl, ed1, small6' (by omega), ?_⟩
      have el9 := b9 l _ ndl upd_same
      have sm9 := But.same nd' sm1 b9
      have hR9 := hR1.mono t9
      have hF9 := (hF1.mono t9).app (.cons eb9 .nil)
      have e9 := t9 _ _ e
      have hs9 := TmAll.mono t9 _ _ hs
      have eb99 := t9 _ _ eb
      have ed9 : upd (upd H' l (.lst vs')) d (.lst (fs ++ [.ref bb])) d = some (.lst (fs ++ [.ref bb])) := upd_same
      generalize upd (upd H' l (.lst vs')) d (.lst (fs ++ [.ref bb])) = H9 at *
      refine ⟨.ref a, rfl, a, _, rfl, .inr (.inl (.inl e9)), _, _, rfl, rfl, 1, rfl, _, _, _, as.length, rfl, ?_, ?_⟩
      · have := RgC.neg (i := (((V.str g :: xs).length : Nat) : Int) - 1) (j := 0) (by omega) (by omega) (by omega) (by omega)
        rw [show ((((V.str g :: xs).length : Nat) : Int) - 1 - 0).toNat = as.length by omega] at this
        exact this
      refine for_rangeC (fun j σ H2 => ∃ vs2 y6, σ = [some v, some (.bl wv), some (.ref d), some (.ref l), some (.ref bb), some (.ref a), y6] ∧ Same H H2 ∧ Tups H9 H2 ∧ H2 d = some (.lst (fs ++ [.ref bb])) ∧ H2 l = some (.lst vs2) ∧ RowAll H2 vs2 (rs' ++ ((kids p 1 as).drop (as.length - j)).reverse))
        ⟨vs', y6, rfl, sm9, Tups.refl _, ed9, el9, ?_⟩ (fun j σ H2 hj h => ?_) (fun σ H2 h => ?_)
      · rw [Nat.sub_zero, List.drop_eq_nil_of_le (by rw [kids_len]; exact Nat.le_refl _)]
        show RowAll H9 vs' (rs' ++ [])
        rw [List.append_nil]
        exact hR9
      · obtain ⟨vs2, y6', rfl, sm2, t92, ed2, el2, hR2⟩ := h
        obtain ⟨m, em⟩ : ∃ m, as.length - j = m + 1 := ⟨as.length - j - 1, by omega⟩
        have em2 : as.length - (j + 1) = m := by omega
        have ei : ((V.str g :: xs).length : Int) - 1 + (j : Int) * (-1) = ((m + 1 : Nat) : Int) := by omega
        have ex : xs[m]? = some (xs[m]'(by omega)) := List.getElem?_eq_getElem (by omega)
        obtain ⟨t3, et3, hx3⟩ := hs9.get ex
        have hi1 : (V.str g :: xs)[m + 1]? = some (xs[m]'(by omega)) := by rw [List.getElem?_cons_succ]; exact ex
        generalize xs[m]'(by omega) = x3 at ex hx3 hi1
        have l2 := hR2.len
        have l3 : (rs' ++ ((kids p 1 as).drop (as.length - j)).reverse).length ≤ 300000 := by
          have h1 : rs'.length ≤ rsize rs' := by
            have := Ter.sizes_len (rs'.map (·.2))
            rw [List.length_map] at this
            exact this
          rw [List.length_append, List.length_reverse, List.length_drop, kids_len]
          omega
        refine ⟨.ref l, rfl, tyl el2, .ref bb, rfl, _, rfl, by show 1 ≤ sizeLine; decide, fun q1 nq1 => ?_⟩
        have s4 := same_new nq1 (.tup [V.int (((V.str g :: xs).length : Int) - 1 + (j : Int) * (-1))])
        refine catA_ints (ns := p) (ms := [((V.str g :: xs).length : Int) - 1 + (j : Int) * (-1)]) (s4 _ _ (t92 _ _ eb99)) upd_same (by simp) (by simp only [List.length_singleton]; omega) fun q2 H4 s5 eq2 => ?_
        have s45 := s4.trans s5
        refine ⟨.ref a, rfl, _, rfl, a, _, _, x3, rfl, rfl, .inl (.inl (s45 _ _ (t92 _ _ e9))), at_of (j := m + 1) ei hi1, by show 2 ≤ sizeLine; decide, fun q3 nq3 => ?_⟩
        have s6 := same_new nq3 (.tup [.ref q2, x3])
        have s456 := s45.trans s6
        have el4 := s456 _ _ el2
        refine ⟨l, _, _, rfl, rfl, el4, small6' (by omega), ?_⟩
        have b7 := But.upd (d := l) (H := upd H4 q3 (.tup [.ref q2, x3])) (o := .lst (vs2 ++ [.ref q3]))
        have t7 := b7.tups el4
        refine ⟨_, _, rfl, But.same nlH (sm2.trans s456) b7, t92.trans (s456.tups.trans t7), b7 d _ nld.symm (s456 _ _ ed2), upd_same, ?_⟩
        have ek : (kids p 1 as)[m]? = some (p ++ [((V.str g :: xs).length : Int) - 1 + (j : Int) * (-1)], t3) := by
          rw [kids_get p as 1 m t3 et3, ei, show (1 : Int) + (m : Int) = ((m + 1 : Nat) : Int) by omega]
        have edr : (kids p 1 as).drop m = (p ++ [((V.str g :: xs).length : Int) - 1 + (j : Int) * (-1)], t3) :: (kids p 1 as).drop (m + 1) := by
          obtain ⟨h1, h2⟩ := List.getElem?_eq_some_iff.mp ek
          rw [List.drop_eq_getElem_cons h1, h2]
        rw [em2, edr, List.reverse_cons, ← List.append_assoc, ← em]
        refine (hR2.mono (s456.tups.trans t7)).app (.cons (.mk (t7 _ _ upd_same) (t7 _ _ (s6 _ _ eq2)) ?_) .nil)
        exact TmAt.mono ((t92.trans s456.tups).trans t7) _ _ hx3
      · obtain ⟨vs2, y6', rfl, sm2, t92, ed2, el2, hR2⟩ := h
        rw [Nat.sub_self, List.drop_zero] at hR2
        have nb : ∀ b ∈ as, b.nest ≤ Ter.nests as := fun b hb => by
          obtain ⟨i, hi⟩ := List.getElem?_of_mem hb
          exact nest_le_of hi
        refine ⟨done ++ [p], _, vs2, _, _, _, _, rfl, sm2, ed2, hF9.mono t92, el2, hR2, ?_, ?_, ?_, ?_⟩
        · rw [← et, List.reverse_append, List.reverse_reverse, walk_ap, List.append_assoc]
          have e1 : allWalk (kids p 1 as ++ rs'.reverse) = allWalk (kids p 1 as) ++ allWalk rs'.reverse := List.flatMap_append
          rw [e1]
          have e2 : posOf wv ((p, Ter.ap g as) :: allWalk (kids p 1 as) ++ allWalk rs'.reverse) = [p] ++ posOf wv (allWalk (kids p 1 as) ++ allWalk rs'.reverse) := by
            show posOf wv ([(p, Ter.ap g as)] ++ (allWalk (kids p 1 as) ++ allWalk rs'.reverse)) = _
            rw [posOf_app]
            have : posOf wv [(p, Ter.ap g as)] = [p] := by cases wv <;> rfl
            rw [this]
          rw [e2]
        · rw [rsize_app, rsize_rev, kids_size, List.length_append, List.length_singleton]
          omega
        · intro x hx
          rcases List.mem_append.mp hx with hx | hx
          · exact hk' x hx
          · exact kids_ok (u := t) (f := g) hkx 1 as nb x (List.mem_reverse.mp hx)
        · rw [rsize_app, rsize_rev, kids_size, rsize_app, ez]
          show _ < rsize rs' + (Ter.sizes as + 1)
          omega
  · have hv : vs = [] := by
      cases vs with
      | nil => rfl
      | cons x r => exact absurd rfl c
    subst hv
    cases hR
    have et : done ++ [] = posOf wv (t.walk []) := et
    rw [List.append_nil] at et
    exact ⟨.ref d, rfl, q d H' fs sm nd' ed (by rw [← et]; exact hF)⟩
end

end K02
namespace K02
open PySem PySem.Spec PyProof.Rows L2 Own HT
section
variable {P : Program} {w : World} {K : PySem.W.Frag} {mg : Str → Option Value} {base : Heap}
/-! ### subterm_at -/
def spSubT (C : Addr) : Sp := fun vs H Q E => ∃ (v : V) (b : Addr) (t : Ter) (ns : List Int), vs = [v, .ref b] ∧ TmAt H v t ∧ H b = some (.tup (ns.map V.int)) ∧ posOk ns ∧ t.size ≤ 100000 ∧
  (∀ u, t.at ns = some u → ∀ (v' : V) (H' : Hp), Same H H' → TmAt H' v' u → Q v' H') ∧
  (t.at ns = none → ∀ (d : Addr) (H' : Hp), Same H H' → H d = none → H' d = some (.xd [("position", .ref b)]) → E (.ref C) (some d) H')
theorem sc_subterm_at : FnScope ["term", "position"] ["term", "position"] (defScope s_subterm_at) := ⟨rfl, rfl, rfl, by decide +kernel, rfl, by decide +kernel, by decide +kernel⟩
theorem ok_subterm_at {f fP C : Addr} {fd fdP : FuncData} (D : Df K mg "subterm_at" s_subterm_at ["term", "position"] f fd) (DP : Df K mg "path_to" s_path_to ["term", "position"] fP fdP) (GP : FnOk P w K mg base (L2N.CX P w) 3 fP fdP ["term", "position"] (spPath C)) :
    FnOk P w K mg base (L2N.CX P w) 4 f fd ["term", "position"] (spSubT C) := by
  refine D.F.okN sc_subterm_at (fun vs H Q E h => ?_) (fun cdv A outer s H vs Q E hr h => ?_)
  · obtain ⟨v, b, t, ns, rfl, _⟩ := h; rfl
  obtain ⟨v, b, t, ns, rfl, ht, hb, hp, hz, q, qE⟩ := h
  have tk : L2N.Takes (cxOf (L2N.CX P w) P w K mg base ["term", "position"] "subterm_at" (defScope s_subterm_at) f cdv A outer s H E) (fun cls d _ H' => E cls d H') := L2N.takes_of rfl rfl rfl rfl
  refine ⟨_, pss_one (ps_ret (pe_ix ix_list (pe_callS GP hr (by rfl) DP.m DP.F.kp DP.b (fun σ => L2N.passAt tk σ) (pa_cons (pv 0) (pa_cons (pv 1) pa_nil))) (pe_un un_neg pe_int) (fun _ _ => rfl))), ?_⟩
  refine ⟨v, rfl, .ref b, rfl, v, b, t, ns, rfl, ht, hb, hp, hz, fun u eu p H1 ws s1 np ep hP => ?_, qE⟩
  obtain ⟨x, u', ex, hx, eu'⟩ := hP.2 ns.length (Nat.le_refl _)
  rw [List.take_length, eu] at eu'
  cases eu'
  have l1 := hP.1
  obtain ⟨ws', e⟩ : ∃ ws', ws = ws' ++ [x] := by
    rcases List.eq_nil_or_concat ws with h | ⟨ws', y, h⟩
    · rw [h] at l1
      cases l1
    · rw [List.concat_eq_append] at h
      subst h
      rw [List.length_append, List.length_singleton] at l1
      rw [List.getElem?_append_right (by omega), show ns.length - ws'.length = 0 by omega] at ex
      cases (show some y = some x from ex)
      exact ⟨ws', rfl⟩
  subst e
  exact ⟨1, rfl, p, _, _, x, rfl, rfl, .inl (.inl ep), atI_last ws' x, q u eu x H1 s1 hx⟩
/-! ### _law_refused -/
theorem fits_ints (n : Nat) {ns : List Int} (h : ns.length ≤ 1000000) : fitsD (n + 2) (.tuple (ns.map PyData.int)) := by
  refine ⟨by rw [List.length_map]; exact h, fun d hd => ?_⟩
  obtain ⟨x, _, rfl⟩ := List.mem_map.mp hd
  exact trivial
/-- how InvalidPosition stands to the other classes -/
structure KinC (K : PySem.W.Frag) (mg : Str → Option Value) (C S L B : Addr) : Prop where
  gS : mg "InvalidStep" = some (.ref S)
  gL : mg "TooLarge" = some (.ref L)
  gB : mg "ElenchusError" = some (.ref B)
  gV : mg "ValueError" = none
  kS : PySem.W.kitOne K (.ref C) (.ref S) = some false
  kL : PySem.W.kitOne K (.ref C) (.ref L) = some false
  kB : PySem.W.kitOne K (.ref C) (.ref B) = some true
  kV : PySem.W.kitOne K (.ref C) (.type "ValueError") = some true
def spRef : Sp := fun vs H Q _ => ∃ (v : V) (b : Addr) (t : Ter) (ns : List Int), vs = [v, .ref b] ∧ TmAt H v t ∧ H b = some (.tup (ns.map V.int)) ∧ posOk ns ∧ t.size ≤ 100000 ∧ t.at ns = none ∧ ∀ H', Same H H' → Q (.bl true) H'
theorem sc_law_refused : FnScope ["term", "position", "e"] ["term", "position"] (defScope s__law_refused) := ⟨rfl, rfl, rfl, by decide +kernel, rfl, by decide +kernel, by decide +kernel⟩
theorem ok_law_refused {f fR fS C fI S L B : Addr} {fd fdR fdS fdI : FuncData} (D : Df K mg "_law_refused" s__law_refused ["term", "position"] f fd) (DR : Df K mg "subterm_at" s_subterm_at ["term", "position"] fR fdR) (GR : FnOk P w K mg base (L2N.CX P w) 4 fR fdR ["term", "position"] (spSubT C))
    (DS : Df K mg "_law_same" s__law_same ["value", "due"] fS fdS) (GS : L2H.FnH P w K mg base CX0 3 fS fdS ["value", "due"] (spSame K 3)) (T : PosC P w K mg base C fI fdI) (TK : KinC K mg C S L B) (mi : mg "isinstance" = none) : FnOk P w K mg base CX0 5 f fd ["term", "position"] spRef := by
  refine D.F.ok sc_law_refused (fun vs H Q E h => ?_) (fun cdv A outer s H vs Q E hr h => ?_)
  · obtain ⟨v, b, t, ns, rfl, _⟩ := h; rfl
  obtain ⟨v, b, t, ns, rfl, ht, hb, hp, hz, en, q⟩ := h
  have nd := sc_law_refused.nd
  have hr3 : Room 3 _ := hr.mono (by decide)
  refine ⟨_, pss_cons (L2N.ps_try_as (i := 2) (Wout := fun _ _ _ _ => False) (tb := fun W => tDrop (tCallS (spSubT C) (WE W) (tCons (tVar 0) (tCons (tVar 1) tNil))))
      (ts := fun a cls d => tSeq (tIfS (tOr (tB (tCB (rIsD K C a cls d) (tCons (tVar 2) (tCons (tC (.ref S)) tNil)))) (tB (tCB (rIsD K C a cls d) (tCons (tVar 2) (tCons (tC (.ref L)) tNil))))) (tRet (tC (.bl false))) tNext)
        (tSeq (tIfS (tOr (tNot (tB (tCB (rIsD K C a cls d) (tCons (tVar 2) (tCons (tC (.ref B)) tNil))))) (tNot (tB (tCB (rIsD K C a cls d) (tCons (tVar 2) (tCons (tC (.ty "ValueError")) tNil)))))) (tRet (tC (.bl false))) tNext)
        (tRet (tCallS (spSame K 3) (fun _ => E0) (tCons (tXf a cls d C "position" (tVar 2)) (tCons (tVar 1) tNil)))))) rfl rfl nd rfl rfl ⟨rfl, by decide, .inl T.gC⟩ takesN0
      (fun W pn xe tk _ => pss_one (ps_expr (by exact (pe_callS GR hr (by rfl) DR.m DR.F.kp DR.b (fun σ => L2N.passAt tk σ) (pa_cons (pv 0) (pa_cons (pv 1) pa_nil))))))
      (fun a oe cls d pn hz hf => pss_cons (ps_if (PW.pt (pw_or (pt_val (pe_callB (call_isD T.err hz.zc hf) (by rfl) mi (by decide +kernel) (pa_cons (pv 2) (pa_cons (pe_glob (v := .ref S) (by rfl) TK.gS rfl) pa_nil)))) (pw_or1 (pt_val (pe_callB (call_isD T.err hz.zc hf) (by rfl) mi (by decide +kernel) (pa_cons (pv 2) (pa_cons (pe_glob (v := .ref L) (by rfl) TK.gL rfl) pa_nil))))))) (pss_one (ps_ret pe_bl)) pss_nil)
        (pss_cons (ps_if (PW.pt (pw_or (pt_not (pt_val (pe_callB (call_isD T.err hz.zc hf) (by rfl) mi (by decide +kernel) (pa_cons (pv 2) (pa_cons (pe_glob (v := .ref B) (by rfl) TK.gB rfl) pa_nil))))) (pw_or1 (pt_not (pt_val (pe_callB (call_isD T.err hz.zc hf) (by rfl) mi (by decide +kernel) (pa_cons (pv 2) (pa_cons (pe_bltn (v := .ty "ValueError") (by rfl) TK.gV (by decide +kernel) rfl) pa_nil)))))))) (pss_one (ps_ret pe_bl)) pss_nil)
        (pss_one (ps_ret (by exact (L2H.pe_callH GS (L2H.roomH_mark hr3 _) (hot_suite hz hf) (by rfl) DS.m DS.F.kp DS.b (fun σ => passA0 (E := fun _ => E0) σ) (pa_cons (pe_xf T.err.xf T.hn hz.zc hf (pv 2)) (pa_cons (pv 1) pa_nil)))))))))
    (pss_one (ps_ret pe_bl)), ?_⟩
  refine ⟨v, rfl, .ref b, rfl, v, b, t, ns, rfl, ht, hb, hp, hz, (fun u eu => by rw [en] at eu; cases eu), fun _ d H1 s1 nd1 ed => ⟨true, T.te, fun _ a na => ?_, fun z => by cases z⟩⟩
  have rl : ∀ X : Addr, ∀ u : Value, RelV (.ref X) u → u = .ref X := fun X u h => h
  refine ⟨.ref a, rfl, rfl, d, _, .ref S, .ref S, _, rfl, ed, rfl, rl S, TK.kS, _, rfl, ?_⟩
  refine iteF ⟨.ref a, rfl, rfl, d, _, .ref L, .ref L, _, rfl, ed, rfl, rl L, TK.kL, _, rfl, ?_⟩
  refine iteF ?_
  refine ⟨.ref a, rfl, rfl, d, _, .ref B, .ref B, _, rfl, ed, rfl, rl B, TK.kB, _, rfl, ?_⟩
  refine iteF ⟨.ref a, rfl, rfl, d, _, .ty "ValueError", .type "ValueError", _, rfl, ed, rfl, fun u h => h, TK.kV, _, rfl, ?_⟩
  refine iteF ?_
  refine ⟨.ref a, rfl, rfl, rfl, d, _, .ref b, rfl, ed, rfl, .ref b, rfl, ?_⟩
  have l2 := hp.1
  exact ⟨_, _, .tuple (ns.map PyData.int), rfl, .tup (.inl (.inl (s1 _ _ hb))) (dp_ints ns), .tup (.inl (.inl (s1 _ _ hb))) (dp_ints ns), fits_ints 1 (by omega), q H1 s1⟩
end

end K02
namespace K02
open PySem PySem.Spec PyProof.Rows L2 Own HT
section
variable {P : Program} {w : World} {K : PySem.W.Frag} {mg : Str → Option Value} {base : Heap}
/-! ### law -/
def spLaw (K : PySem.W.Frag) : Sp := fun vs H Q _ => ∃ (a : Addr) (ns : List Int), vs = [.ref a] ∧ SqL K H a (ns.map V.int) ∧ ns.length ≤ 63 ∧ ∀ H', Q (.bl true) H'
abbrev LN : List Str := ["script", "draws", "words", "term", "rows", "due", "told", "due_inner", "leaves", "row", "place", "beyond", "leaf", "tail", "bad"]
theorem sc_law : FnScope LN ["script"] (defScope s_law) := ⟨rfl, rfl, rfl, by decide +kernel, rfl, by decide +kernel, by decide +kernel⟩
/-- [row[0] for row in rows if ..], over rows at p -/
theorem ok_law {f C : Addr} {fd : FuncData} (D : Df K mg "law" s_law ["script"] f fd)
    {fD fT fW fTm fX fK fP fR fF : Addr} {dD dT dW dTm dX dK dP dR dF : FuncData}
    (DD : Df K mg "_law_draws" s__law_draws ["script"] fD dD) (GD : FnOk P w K mg base CX0 1 fD dD ["script"] (spDraws K))
    (DT : Df K mg "_law_take" s__law_take ["draws", "bound"] fT dT) (GT : FnOk P w K mg base CX0 1 fT dT ["draws", "bound"] spTake)
    (DW : Df K mg "_law_words" s__law_words ["draws", "many"] fW dW) (GW : FnOk P w K mg base CX0 2 fW dW ["draws", "many"] spWords)
    (DTm : Df K mg "_law_term" s__law_term ["draws", "words", "depth"] fTm dTm) (GTm : FnOk P w K mg base CX0 7 fTm dTm ["draws", "words", "depth"] (spTerm 5))
    (DX : Df K mg "_law_same" s__law_same ["value", "due"] fX dX) (GX : FnOk P w K mg base CX0 8 fX dX ["value", "due"] (spSame K 8))
    (DK : Df K mg "_law_walk" s__law_walk ["term", "here"] fK dK) (GK : FnOk P w K mg base CX0 6 fK dK ["term", "here"] (spWalk 6))
    (DP : DkG K mg "positions" s_positions ["term", "with_variables"] 1 "with_variables" (.bl true) fP dP) (GP : FnOk P w K mg base CX0 2 fP dP ["term", "with_variables"] spPoss)
    (DR : Df K mg "subterm_at" s_subterm_at ["term", "position"] fR dR) (GR : FnOk P w K mg base (L2N.CX P w) 4 fR dR ["term", "position"] (spSubT C))
    (DF : Df K mg "_law_refused" s__law_refused ["term", "position"] fF dF) (GF : FnOk P w K mg base CX0 5 fF dF ["term", "position"] spRef)
    (m_isinstance : mg "isinstance" = none) (m_tuple : mg "tuple" = none) (m_len : mg "len" = none) : FnOk P w K mg base CX0 9 f fd ["script"] (spLaw K) := by
  refine D.F.ok sc_law (fun vs H Q E h => ?_) (fun cdv A outer s H vs Q E hr h => ?_)
  · obtain ⟨a, ns, rfl, _⟩ := h; rfl
  obtain ⟨a, ns, rfl, hS, hn, q⟩ := h
  have nd := sc_law.nd
  have r1 : Room 1 _ := hr.mono (by decide)
  have r2 : Room 2 _ := hr.mono (by decide)
  have r4 : Room 4 _ := hr.mono (by decide)
  have r5 : Room 5 _ := hr.mono (by decide)
  have r6 : Room 6 _ := hr.mono (by decide)
  have r7 : Room 7 _ := hr.mono (by decide)
  obtain ⟨dsP, rdP, bdP⟩ := DP.b
  refine ⟨_, (pss_cons (ps_set (i := 1) nd rfl (.inl rfl) (pe_call GD r1 (by rfl) DD.m DD.F.kp DD.b .nil pass0 (pa_cons (pv 0) pa_nil)))
    (pss_cons (ps_set (i := 2) nd rfl (.inl rfl) (pe_call GW r2 (by rfl) DW.m DW.F.kp DW.b .nil pass0 (pa_cons (pv 1) (pa_cons pe_int pa_nil))))
    (pss_cons (ps_set (i := 3) nd rfl (.inl rfl) (pe_call GTm r7 (by rfl) DTm.m DTm.F.kp DTm.b .nil pass0 (pa_cons (pv 1) (pa_cons (pv 2) (pa_cons (pe_call GT r1 (by rfl) DT.m DT.F.kp DT.b .nil pass0 (pa_cons (pv 1) (pa_cons pe_int pa_nil))) pa_nil)))))
    (pss_cons (ps_set (i := 4) nd rfl (.inl rfl) (pe_call GK r6 (by rfl) DK.m DK.F.kp DK.b .nil pass0 (pa_cons (pv 3) (pa_cons (pe_tup pa_nil) pa_nil))))
    (pss_cons (ps_setLc (i := 5) (own := [("row", 9)]) (g := gName 9) (tt := tYes) (te := tOp (rIxT K) (tVar 9) (tC (.int 0))) rfl nd rfl rfl (sw_true rfl rfl rfl (by decide +kernel)) (pi_list (pv 4)) (blkOk_by (N := LN) (sc := defScope s_law) (by decide +kernel)) (fun _ _ _ _ _ => (pg_name (i := 9) nd rfl (.inl rfl))) (fun _ _ _ _ _ => pts_nil) (fun _ _ _ _ _ => (pe_ix ix_tup (pv 9) pe_int (fun _ _ => rfl))))
    (pss_cons (ps_set (i := 6) nd rfl (.inl rfl) (pe_call GP r2 (by rfl) DP.m DP.F.kp bdP rdP pass0 (pa_cons (pv 3) pa_nil)))
    (pss_cons (ps_if (pt_not (pt_val (pe_call GX hr (by rfl) DX.m DX.F.kp DX.b .nil pass0 (pa_cons (pv 6) (pa_cons (pv 5) pa_nil)))))
      (pss_one (ps_ret pe_bl))
      pss_nil)
    (pss_cons (ps_expr (pe_bm PySem.F.plainAttrs_list PySem.F.slot_list_append PySem.F.type_list_append mt_append (pv 6) (pa_cons (pe_tup (pa_cons pe_int pa_nil)) pa_nil)))
    (pss_cons (ps_if (PW.pt (pw_or (pt_not (pt_val (pe_call GX hr (by rfl) DX.m DX.F.kp DX.b .nil pass0 (pa_cons (pe_call GP r2 (by rfl) DP.m DP.F.kp bdP rdP pass0 (pa_cons (pv 3) pa_nil)) (pa_cons (pv 5) pa_nil))))) (pw_or1 (pt_not (pt_val (pe_call GX hr (by rfl) DX.m DX.F.kp DX.b .nil pass0 (pa_cons (pe_callN GP r2 (by rfl) DP.m DP.F.kp DP.kb pass0 (pa_cons (pv 3) pa_nil) (pk_cons pe_bl pk_nil)) (pa_cons (pv 5) pa_nil))))))))
      (pss_one (ps_ret pe_bl))
      pss_nil)
    (pss_cons (ps_setLc (i := 7) (own := [("row", 9)]) (g := gName 9) (tt := tB (tCB rIsiTer (tCons (tOp (rIxT K) (tVar 9) (tC (.int 1))) (tCons (tC (.ty "tuple")) tNil)))) (te := tOp (rIxT K) (tVar 9) (tC (.int 0))) rfl nd rfl rfl (sw_true rfl rfl rfl (by decide +kernel)) (pi_list (pv 4)) (blkOk_by (N := LN) (sc := defScope s_law) (by decide +kernel)) (fun _ _ _ _ _ => (pg_name (i := 9) nd rfl (.inl rfl))) (fun _ _ _ _ _ => (pts_one (pt_val (pe_callB call_isiTer (by rfl) m_isinstance (by decide +kernel) (pa_cons (pe_ix ix_tup (pv 9) pe_int (fun _ _ => rfl)) (pa_cons (pe_bltn (v := .ty "tuple") (by rfl) m_tuple (by decide +kernel) rfl) pa_nil)))))) (fun _ _ _ _ _ => (pe_ix ix_tup (pv 9) pe_int (fun _ _ => rfl))))
    (pss_cons (ps_if (pt_not (pt_val (pe_call GX hr (by rfl) DX.m DX.F.kp DX.b .nil pass0 (pa_cons (pe_callN GP r2 (by rfl) DP.m DP.F.kp DP.kb pass0 (pa_cons (pv 3) pa_nil) (pk_cons pe_bl pk_nil)) (pa_cons (pv 7) pa_nil)))))
      (pss_one (ps_ret pe_bl))
      pss_nil)
    (pss_cons (ps_set (i := 8) nd rfl (.inl rfl) (pe_lst pa_nil))
    (pss_cons (ps_for PassesOwn.never rfl (pi_list (pv 4)) (pg_name (i := 9) nd rfl (.inl rfl))
      (pss_cons (ps_if (pt_not (pt_val (pe_call GX hr (by rfl) DX.m DX.F.kp DX.b .nil pass0 (pa_cons (pe_callS (E := fun _ => E0) GR r4 (by rfl) DR.m DR.F.kp DR.b passLN (pa_cons (pv 3) (pa_cons (pe_ix ix_tup (pv 9) pe_int (fun _ _ => rfl)) pa_nil))) (pa_cons (pe_ix ix_tup (pv 9) pe_int (fun _ _ => rfl)) pa_nil)))))
      (pss_one (ps_ret pe_bl))
      pss_nil)
    (pss_one (ps_if (PW.pt (pw_or (pt_not (pt_val (pe_callB call_isiTer (by rfl) m_isinstance (by decide +kernel) (pa_cons (pe_ix ix_tup (pv 9) pe_int (fun _ _ => rfl)) (pa_cons (pe_bltn (v := .ty "tuple") (by rfl) m_tuple (by decide +kernel) rfl) pa_nil))))) (pw_or1 (pt_cmpR op_eq (pe_callB call_len_seq (by rfl) m_len PySem.boot_len (pa_cons (pe_ix ix_tup (pv 9) pe_int (fun _ _ => rfl)) pa_nil)) pe_int (nomark _)))))
      (pss_one (ps_expr (pe_bm PySem.F.plainAttrs_list PySem.F.slot_list_append PySem.F.type_list_append mt_append (pv 8) (pa_cons (pe_ix ix_tup (pv 9) pe_int (fun _ _ => rfl)) pa_nil))))
      pss_nil))))
    (pss_cons (ps_set (i := 10) nd rfl (.inl rfl) (pe_ix ix_list (pv 4) (pe_call GT r1 (by rfl) DT.m DT.F.kp DT.b .nil pass0 (pa_cons (pv 1) (pa_cons (pe_callB call_len_seq (by rfl) m_len PySem.boot_len (pa_cons (pv 4) pa_nil)) pa_nil))) (fun _ _ => rfl)))
    (pss_cons (ps_set (i := 11) nd rfl (.inl rfl) pe_int)
    (C8.pss_cut (ps_if (pt_val (pe_callB call_isiTer (by rfl) m_isinstance (by decide +kernel) (pa_cons (pe_ix ix_tup (pv 10) pe_int (fun _ _ => rfl)) (pa_cons (pe_bltn (v := .ty "tuple") (by rfl) m_tuple (by decide +kernel) rfl) pa_nil))))
      (pss_one (ps_set (i := 11) nd rfl (.inl rfl) (pe_callB call_len_seq (by rfl) m_len PySem.boot_len (pa_cons (pe_ix ix_tup (pv 10) pe_int (fun _ _ => rfl)) pa_nil))))
      pss_nil)
    (pss_cons (ps_set (i := 12) nd rfl (.inl rfl) (pe_ix ix_list (pv 8) (pe_call GT r1 (by rfl) DT.m DT.F.kp DT.b .nil pass0 (pa_cons (pv 1) (pa_cons (pe_callB call_len_seq (by rfl) m_len PySem.boot_len (pa_cons (pv 8) pa_nil)) pa_nil))) (fun _ _ => rfl)))
    (pss_cons (ps_set (i := 13) nd rfl (.inl rfl) (pe_tup (pa_cons (pe_op op_add pe_int (pe_call GT r1 (by rfl) DT.m DT.F.kp DT.b .nil pass0 (pa_cons (pv 1) (pa_cons pe_int pa_nil)))) pa_nil)))
    (pss_cons (ps_for PassesOwn.never rfl (pi_list (pe_lst (pa_cons (pe_op op_catA (pe_ix ix_tup (pv 10) pe_int (fun _ _ => rfl)) (pe_tup (pa_cons pe_int pa_nil))) (pa_cons (pe_op op_catA (pe_ix ix_tup (pv 10) pe_int (fun _ _ => rfl)) (pe_tup (pa_cons (pv 11) pa_nil))) (pa_cons (pe_op op_catA (pv 12) (pv 13)) (pa_cons (pe_op op_catA (pe_op op_catA (pe_ix ix_tup (pv 10) pe_int (fun _ _ => rfl)) (pe_tup (pa_cons pe_int pa_nil))) (pv 13)) pa_nil)))))) (pg_name (i := 14) nd rfl (.inl rfl))
      (pss_one (ps_if (pt_not (pt_val (pe_call GF r5 (by rfl) DF.m DF.F.kp DF.b .nil pass0 (pa_cons (pv 3) (pa_cons (pv 14) pa_nil)))))
      (pss_one (ps_ret pe_bl))
      pss_nil)))
    (pss_one (ps_ret pe_bl))))))))))))))))))))), ?_⟩
  --READ
  refine ⟨_, rfl, a, ns, rfl, hS, hn, fun d H1 s1 nd1 hI1 => ?_⟩
  refine ⟨_, rfl, d, 6, rfl, hI1, by decide, fun l ws H2 b2 nl1 hI2 hW lw okw => ?_⟩
  have nl : l ≠ d := hI1.ne nl1
  refine ⟨_, rfl, _, rfl, _, rfl, d, 5, rfl, hI2, by decide, fun r H3 r0 r5' b3 hI3 => ?_⟩
  have hW3 := b3 l _ nl hW
  refine ⟨d, l, ws, r.toNat, by show [V.ref d, V.ref l, V.int r] = _; rw [show ((r.toNat : Nat) : Int) = r by omega], hI3, hW3, nl, by omega, by omega, fun v t H4 b4 hI4 hv hw hz hne => ?_⟩
  have z5 : 4 ^ (r.toNat + 1) ≤ 4 ^ 5 := Nat.pow_le_pow_right (by decide) (by omega)
  have z6 : 4 ^ 5 = 1024 := by decide
  have hwf : t.wf ar3 anyKey := wf_mono (fun f n h => ⟨(sym_sh okw f n h).2, by obtain ⟨i, hi, _, rfl⟩ := h; omega⟩) (fun _ _ => trivial) t hw
  refine ⟨_, rfl, Nat.zero_le _, fun b0 nb0 => ?_⟩
  have s7 := same_new nb0 (.tup [])
  have hv7 := TmAt.mono s7.tups _ _ hv
  have hI7 := hI4.same s7
  refine ⟨v, b0, t, [], rfl, hv7, by omega, by omega, upd_same, by show 0 + 6 ≤ 500; decide, fun p H8 rws s8 np ep hR => ?_⟩
  have hI8 := hI7.same s8
  have hv8 := TmAt.mono s8.tups _ _ hv7
  have ld := hR.len
  have lw2 := walk_len [] t
  have tpos := t.size_pos
  generalize hL : t.walk [] = L at hR lw2 ld
  have okr : ∀ {i : Nat} {x : Own.Row}, L[i]? = some x → posOk x.1 ∧ t.at x.1 = some x.2 ∧ ∀ y ∈ x.1, 1 ≤ y := fun {i x} h => by
    rw [← hL] at h
    exact posOk_walk hwf (by omega) (List.mem_of_getElem? h)
  have fitL : ∀ wv : Bool, ∀ M : List Own.Row, (∀ x ∈ M, x ∈ L) → M.length ≤ 1024 → fitsD 8 (.list ((posOf wv M).map posD)) := fun wv M hM hl => by
    refine fits_poss 5 ?_ (fun q hq => ?_)
    · have : (posOf wv M).length ≤ M.length := by
        unfold posOf
        rw [List.length_map]
        exact List.length_filter_le _ _
      omega
    · obtain ⟨x, hx, rfl⟩ := List.mem_map.mp hq
      obtain ⟨i, hi⟩ := List.getElem?_of_mem (hM x (List.mem_filter.mp hx).1)
      have := (okr hi).1.1
      omega
  -- due
  refine ⟨.ref p, rfl, p, rfl, ⟨_, .inl (.inl ep)⟩, fun D1 nD1 => ?_⟩
  refine walk_l (xs := rws) (fun i H9 => ∃ acc, Same H8 H9 ∧ H9 D1 = some (.lst acc) ∧ PosAll H9 acc (posOf true (L.take i))) ⟨[], same_new nD1 _, upd_same, .nil⟩ (fun i H9 _ h => ?_) (fun i x H9 hx h => ?_) (fun H9 h => ?_)
  · obtain ⟨acc, sm, _⟩ := h
    exact .inl (.inl (sm _ _ ep))
  · obtain ⟨acc, sm, ed, hP⟩ := h
    obtain ⟨ro, ero, hro⟩ := hR.get hx
    have li := (List.getElem?_eq_some_iff.mp ero).1
    have etk : L.take (i + 1) = L.take i ++ [ro] := by rw [List.take_add_one, ero]; rfl
    cases hro with
    | @mk rr br xr pr ur er eb hx2 =>
    have lP := hP.len
    have lq : (posOf true (L.take i)).length ≤ 1024 := by rw [posOf_true, List.length_map, List.length_take]; omega
    refine ⟨rfl, ?_⟩
    have b9 := But.upd (d := D1) (H := H9) (o := .lst (acc ++ [.ref br]))
    have t9 := b9.tups ed
    refine ⟨_, rfl, rr, _, 0, .ref br, rfl, rfl, .inl (.inl (sm _ _ er)), atI_nat (j := 0) rfl, acc, ed, small6' (by omega), _, But.same nD1 sm b9, upd_same, ?_⟩
    rw [etk, posOf_app]
    exact (hP.mono t9).app (.cons (.mk (t9 _ _ (sm _ _ eb))) .nil)
  obtain ⟨acc1, s9, eD1, hP1⟩ := h
  rw [ld, List.take_length] at hP1
  have lP1 := hP1.len
  have lL : (posOf true L).length ≤ 1024 := by rw [posOf_true, List.length_map]; omega
  have hv9 := TmAt.mono s9.tups _ _ hv8
  -- told
  refine ⟨v, rfl, v, t, true, rfl, hv9, by omega, by omega, fun u1 H10 ws1 s10 nu1 eu1 hQ1 => ?_⟩
  rw [hL] at hQ1
  have hv10 := TmAt.mono s10.tups _ _ hv9
  have eD10 := s10 _ _ eD1
  have hP10 := hP1.mono s10.tups
  have lQ1 := hQ1.len
  refine ⟨_, rfl, _, rfl, _, _, .list ((posOf true L).map posD), rfl, .lst (.inl (.inl eu1)) (dp_poss hQ1), .lst (.inl (.inl eD10)) (dp_poss hP10), fitL true L (fun _ h => h) (by omega), _, rfl, iteF ?_⟩
  refine ⟨_, rfl, tyl eu1, by show 1 ≤ sizeLine; decide, fun y ny => ?_⟩
  have s11 := same_new ny (.tup [.int 7])
  refine ⟨u1, _, _, rfl, rfl, s11 _ _ eu1, small6' (by omega), ?_⟩
  have b12 := But.upd (d := u1) (H := upd H10 y (.tup [.int 7])) (o := .lst (ws1 ++ [.ref y]))
  have t12 := s11.tups.trans (b12.tups (s11 _ _ eu1))
  have nuD : D1 ≠ u1 := ne_of_none eD1 nu1
  have nup : p ≠ u1 := ne_of_none (s9 _ _ ep) nu1
  have hv12 := TmAt.mono t12 _ _ hv10
  have eD12 := b12 D1 _ nuD (s11 _ _ eD10)
  have hP12 := hP10.mono t12
  have ep12 := b12 p _ nup (s11 _ _ (s10 _ _ (s9 _ _ ep)))
  have hR12 := hR.mono ((s9.trans s10).tups.trans t12)
  have hI12 : Ints (upd (upd H10 y (.tup [.int 7])) u1 (.lst (ws1 ++ [.ref y]))) d := ((hI8.same (s9.trans s10)).same s11).of_but b12 (fun z => by
    obtain ⟨vs, hd⟩ := (hI8.same s9).lst
    rw [z, nu1] at hd
    cases hd)
  generalize upd (upd H10 y (.tup [.int 7])) u1 (.lst (ws1 ++ [.ref y])) = H12 at *
  -- positions(term), positions(term, with_variables=True)
  refine ⟨v, rfl, v, t, true, rfl, hv12, by omega, by omega, fun u2 H13 ws2 s13 nu2 eu2 hQ2 => ?_⟩
  rw [hL] at hQ2
  have hv13 := TmAt.mono s13.tups _ _ hv12
  refine ⟨_, rfl, _, _, .list ((posOf true L).map posD), rfl, .lst (.inl (.inl eu2)) (dp_poss hQ2), .lst (.inl (.inl (s13 _ _ eD12))) (dp_poss (hP12.mono s13.tups)), fitL true L (fun _ h => h) (by omega), _, rfl, iteF ?_⟩
  refine ⟨v, rfl, rfl, rfl, v, t, true, rfl, hv13, by omega, by omega, fun u3 H14 ws3 s14 nu3 eu3 hQ3 => ?_⟩
  rw [hL] at hQ3
  have sA := s13.trans s14
  have hv14 := TmAt.mono sA.tups _ _ hv12
  refine ⟨_, rfl, _, _, .list ((posOf true L).map posD), rfl, .lst (.inl (.inl eu3)) (dp_poss hQ3), .lst (.inl (.inl (sA _ _ eD12))) (dp_poss (hP12.mono sA.tups)), fitL true L (fun _ h => h) (by omega), _, rfl, iteF ?_⟩
  have ep14 := sA _ _ ep12
  have hR14 := hR12.mono sA.tups
  have hI14 := hI12.same sA
  -- due_inner
  refine ⟨.ref p, rfl, p, rfl, ⟨_, .inl (.inl ep14)⟩, fun D2 nD2 => ?_⟩
  refine walk_l (xs := rws) (fun i H9 => ∃ acc, Same H14 H9 ∧ H9 D2 = some (.lst acc) ∧ PosAll H9 acc (posOf false (L.take i))) ⟨[], same_new nD2 _, upd_same, .nil⟩ (fun i H9 _ h => ?_) (fun i x H9 hx h => ?_) (fun H15 h => ?_)
  · obtain ⟨acc, sm, _⟩ := h
    exact .inl (.inl (sm _ _ ep14))
  · obtain ⟨acc, sm, ed, hP⟩ := h
    obtain ⟨ro, ero, hro⟩ := hR14.get hx
    have li := (List.getElem?_eq_some_iff.mp ero).1
    have etk : L.take (i + 1) = L.take i ++ [ro] := by rw [List.take_add_one, ero]; rfl
    cases hro with
    | @mk rr br xr pr ur er eb hx2 =>
    have lP := hP.len
    have lq : (posOf false (L.take i)).length ≤ 1024 := by
      have : (posOf false (L.take i)).length ≤ (L.take i).length := by
        unfold posOf
        rw [List.length_map]
        exact List.length_filter_le _ _
      rw [List.length_take] at this
      omega
    refine ⟨rfl, ?_⟩
    have er9 := sm _ _ er
    have hx9 := TmAt.mono sm.tups _ _ hx2
    refine ⟨_, rfl, rr, _, 1, xr, rfl, rfl, .inl (.inl er9), atI_nat (j := 1) rfl, xr, ur, rfl, hx9, _, rfl, ?_⟩
    have eone : posOf false [(pr, ur)] = if (!ur.isVar) = true then [pr] else [] := by
      cases ur <;> rfl
    cases hvv : ur.isVar with
    | true =>
      refine iteF ⟨acc, sm, ed, ?_⟩
      rw [etk, posOf_app, eone, hvv]
      exact (List.append_nil _).symm ▸ hP
    | false =>
      have b9 := But.upd (d := D2) (H := H9) (o := .lst (acc ++ [.ref br]))
      have t9 := b9.tups ed
      refine iteT ⟨_, rfl, rr, _, 0, .ref br, rfl, rfl, .inl (.inl er9), atI_nat (j := 0) rfl, acc, ed, small6' (by omega), _, But.same nD2 sm b9, upd_same, ?_⟩
      rw [etk, posOf_app, eone, hvv]
      exact (hP.mono t9).app (.cons (.mk (t9 _ _ (sm _ _ eb))) .nil)
  obtain ⟨acc2, s15, eD2, hP2⟩ := h
  rw [ld, List.take_length] at hP2
  have hv15 := TmAt.mono s15.tups _ _ hv14
  refine ⟨v, rfl, rfl, rfl, v, t, false, rfl, hv15, by omega, by omega, fun u4 H16 ws4 s16 nu4 eu4 hQ4 => ?_⟩
  rw [hL] at hQ4
  refine ⟨_, rfl, _, _, .list ((posOf false L).map posD), rfl, .lst (.inl (.inl eu4)) (dp_poss hQ4), .lst (.inl (.inl (s16 _ _ eD2))) (dp_poss (hP2.mono s16.tups)), fitL false L (fun _ h => h) (by omega), _, rfl, iteF ?_⟩
  -- leaves
  refine ⟨Nat.zero_le _, fun lv nlv => ?_⟩
  have s17 := (s15.trans s16).trans (same_new nlv (.lst []))
  have nlv14 : H14 lv = none := (s15.trans s16).free nlv
  have ep17 := s17 _ _ ep14
  have hI17 := hI14.same s17
  have npl : p ≠ lv := ne_of_none ep14 nlv14
  have ndl : d ≠ lv := fun z => by
    obtain ⟨vs, hd⟩ := hI14.lst
    rw [z, nlv14] at hd
    cases hd
  refine ⟨.ref p, rfl, p, rfl, ⟨_, .inl (.inl ep17)⟩, for_list (xs := rws) (fun i σ H9 => ∃ y9 lvs, σ = [some (.ref a), some (.ref d), some (.ref l), some v, some (.ref p), some (.ref D1), some (.ref u1), some (.ref D2), some (.ref lv), y9, none, none, none, none, none] ∧ Same H14 H9 ∧ H9 lv = some (.lst lvs) ∧ PosAll H9 lvs ((leafOf (L.take i)).map (·.1)))
    ⟨none, [], rfl, s17, upd_same, .nil⟩ (fun i σ H9 _ h => ?_) (fun i x σ H9 hx h => ?_) (fun σ H18 h => ?_)⟩
  · obtain ⟨_, _, _, sm, _⟩ := h
    exact .inl (.inl (sm _ _ ep14))
  · obtain ⟨y9, lvs, rfl, sm, el, hP⟩ := h
    obtain ⟨ro, ero, hro⟩ := hR14.get hx
    obtain ⟨rk, rat, _⟩ := okr ero
    have li := (List.getElem?_eq_some_iff.mp ero).1
    have etk : L.take (i + 1) = L.take i ++ [ro] := by rw [List.take_add_one, ero]; rfl
    cases hro with
    | @mk rr br xr pr ur er eb hx2 =>
    have er9 := sm _ _ er
    obtain ⟨_, zr, nr⟩ := at_wf pr t ur hwf rat
    have lP := hP.len
    have lq : ((leafOf (L.take i)).map (·.1)).length ≤ 1024 := by
      have : (leafOf (L.take i)).length ≤ (L.take i).length := List.length_filter_le _ _
      rw [List.length_take] at this
      rw [List.length_map]
      omega
    refine ⟨v, rfl, .ref rr, rfl, rr, _, 0, .ref br, rfl, rfl, .inl (.inl er9), atI_nat (j := 0) rfl, ?_⟩
    refine ⟨v, br, t, pr, rfl, TmAt.mono sm.tups _ _ hv14, sm _ _ eb, rk, by omega, fun u eu v9 H19 s19 h9 => ?_, fun z => by rw [show t.at pr = some ur from rat] at z; cases z⟩
    have eu2 : u = ur := Option.some.inj (eu.symm.trans rat)
    subst eu2
    have sm2 := sm.trans s19
    have er19 := sm2 _ _ er
    have hx19 := TmAt.mono sm2.tups _ _ hx2
    refine ⟨.ref rr, rfl, rr, _, 1, xr, rfl, rfl, .inl (.inl er19), atI_nat (j := 1) rfl, ?_⟩
    refine ⟨v9, xr, u.dat, rfl, dp_ter _ _ h9, dp_ter _ _ hx19, fits_ter _ 8 (by omega) (by omega), _, rfl, iteF ?_⟩
    have el19 := s19 _ _ el
    have b9 := But.upd (d := lv) (H := H19) (o := .lst (lvs ++ [.ref br]))
    have t9 := b9.tups el19
    have yes : isLeaf u = true → ∃ y9' lvs', ([some (.ref a), some (.ref d), some (.ref l), some v, some (.ref p), some (.ref D1), some (.ref u1), some (.ref D2), some (.ref lv), some (.ref rr), none, none, none, none, none] : List (Option V)) = [some (.ref a), some (.ref d), some (.ref l), some v, some (.ref p), some (.ref D1), some (.ref u1), some (.ref D2), some (.ref lv), y9', none, none, none, none, none] ∧ Same H14 (upd H19 lv (.lst (lvs ++ [.ref br]))) ∧ upd H19 lv (.lst (lvs ++ [.ref br])) lv = some (.lst lvs') ∧ PosAll (upd H19 lv (.lst (lvs ++ [.ref br]))) lvs' ((leafOf (L.take (i + 1))).map (·.1)) := fun hl => by
      refine ⟨_, _, rfl, But.same nlv14 sm2 b9, upd_same, ?_⟩
      rw [etk]
      unfold Own.leafOf
      rw [List.filter_append, List.map_append]
      have : (List.filter (fun x : Own.Row => isLeaf x.2) [(pr, u)]) = [(pr, u)] := by rw [List.filter_cons, if_pos hl]; rfl
      rw [this]
      exact (hP.mono (s19.tups.trans t9)).app (.cons (.mk (t9 _ _ (sm2 _ _ eb))) .nil)
    refine ⟨.ref rr, rfl, rr, _, 1, xr, rfl, rfl, .inl (.inl er19), atI_nat (j := 1) rfl, xr, u, rfl, hx19, _, rfl, ?_⟩
    cases hx19 with
    | int k => exact iteT ⟨.ref lv, rfl, tyl el19, .ref rr, rfl, rr, _, 0, .ref br, rfl, rfl, .inl (.inl er19), atI_nat (j := 0) rfl, lv, lvs, .ref br, rfl, rfl, el19, small6' (by omega), yes rfl⟩
    | str k => exact iteT ⟨.ref lv, rfl, tyl el19, .ref rr, rfl, rr, _, 0, .ref br, rfl, rfl, .inl (.inl er19), atI_nat (j := 0) rfl, lv, lvs, .ref br, rfl, rfl, el19, small6' (by omega), yes rfl⟩
    | @ap a6 g6 xs6 as6 e6 hs6 =>
      have l6 := hs6.len
      refine iteF ⟨.ref rr, rfl, rr, _, 1, .ref a6, rfl, rfl, .inl (.inl er19), atI_nat (j := 1) rfl, a6, _, rfl, .inr (.inl (.inl e6)), rfl, _, rfl, ite2 (fun c => ?_) (fun c => ?_)⟩
      · have c : (((V.str g6 :: xs6).length : Nat) : Int) = 1 := V.int.inj (of_decide_eq_true c)
        have e0 : as6 = [] := by
          rw [List.length_cons, l6] at c
          exact List.length_eq_zero_iff.mp (by omega)
        subst e0
        exact ⟨.ref lv, rfl, tyl el19, .ref rr, rfl, rr, _, 0, .ref br, rfl, rfl, .inl (.inl er19), atI_nat (j := 0) rfl, lv, lvs, .ref br, rfl, rfl, el19, small6' (by omega), yes rfl⟩
      · have hne0 : isLeaf (.ap g6 as6) = false := by
          cases as6 with
          | nil =>
            have : xs6 = [] := List.length_eq_zero_iff.mp l6
            subst this
            exact absurd (decide_eq_true rfl) c
          | cons x r => rfl
        refine ⟨_, lvs, rfl, sm2, el19, ?_⟩
        rw [etk]
        unfold Own.leafOf
        rw [List.filter_append, List.map_append]
        have : (List.filter (fun x : Own.Row => isLeaf x.2) [(pr, Ter.ap g6 as6)]) = [] := by rw [List.filter_cons, if_neg (by rw [hne0]; decide)]; rfl
        rw [this]
        exact (List.append_nil _).symm ▸ hP.mono s19.tups
  obtain ⟨y9, lvs, rfl, s18, elv, hPl⟩ := h
  rw [ld, List.take_length] at hPl
  have hI18 : Ints H18 d := hI14.same s18
  have ep18 := s18 _ _ ep14
  have hR18 := hR14.mono s18.tups
  have hv18 := TmAt.mono s18.tups _ _ hv14
  -- place
  refine ⟨.ref p, rfl, _, rfl, .ref p, rfl, p, _, rfl, .inl (.inl (.inl ep18)), d, _, rfl, hI18, by omega, fun c H20 c0 c1 b20 hI20 => ?_⟩
  have npd : p ≠ d := fun z => by
    obtain ⟨vs, hd⟩ := hI18.lst
    rw [← z, ep18] at hd
    obtain ⟨ms, _, hd2⟩ := hI7
    rw [← z, np] at hd2
    cases hd2
  have ep20 := b20 p _ npd ep18
  have t20 := b20.tupsI hI18
  have hR20 := hR18.mono t20
  have hv20 := TmAt.mono t20 _ _ hv18
  have elv20 := b20 lv _ ndl.symm elv
  have hPl20 := hPl.mono t20
  have ex : rws[c.toNat]? = some (rws[c.toNat]'(by omega)) := List.getElem?_eq_getElem (by omega)
  obtain ⟨pl, epl, hpl⟩ := hR20.get ex
  generalize rws[c.toNat]'(by omega) = vp at ex hpl
  refine ⟨p, _, c, vp, rfl, rfl, .inl (.inl ep20), at_of (j := c.toNat) (by omega) ex, ?_⟩
  obtain ⟨pk, eat, ge1⟩ := okr epl
  cases hpl with
  | @mk rp bp xp pp up er eb hx =>
  have eat : t.at pp = some up := eat
  have hwu := (at_wf pp t up hwf eat).1
  have hnu := (at_wf pp t up hwf eat).2.2
  have pk1 := pk.1
  refine ⟨fun σ H13 => H13 = H20 ∧ ∃ by_ : Int, σ = [some (.ref a), some (.ref d), some (.ref l), some v, some (.ref p), some (.ref D1), some (.ref u1), some (.ref D2), some (.ref lv), y9, some (.ref rp), some (.int by_), none, none, none] ∧ t.at (pp ++ [by_]) = none ∧ 0 ≤ by_ ∧ by_ < 900, ?_, fun σ H13 h => ?_⟩
  · refine ⟨.ref rp, rfl, rp, _, 1, xp, rfl, rfl, .inl (.inl er), atI_nat (j := 1) rfl, xp, up, rfl, hx, _, rfl, ?_⟩
    cases hx with
    | int k => exact iteF ⟨rfl, 1, rfl, at_snoc eat, by omega, by omega⟩
    | str k => exact iteF ⟨rfl, 1, rfl, at_snoc eat, by omega, by omega⟩
    | @ap a6 g6 xs6 as6 e6 hs6 =>
      have l6 := hs6.len
      have l3 : as6.length ≤ 3 := hwu.1.2
      refine iteT ⟨.ref rp, rfl, rp, _, 1, .ref a6, rfl, rfl, .inl (.inl er), atI_nat (j := 1) rfl, a6, _, rfl, .inr (.inl (.inl e6)), rfl, _, rfl, ?_, by omega, by rw [List.length_cons]; omega⟩
      rw [at_snoc eat, step_eq, List.length_cons, l6, if_pos (by omega)]
      exact List.getElem?_eq_none (by omega)
  obtain ⟨rfl, by_, rfl, nby, g0, g1⟩ := h
  -- a leaf
  have lPl := hPl20.len
  have hleaf : 0 < lvs.length := by
    obtain ⟨x, hx0, hl0⟩ := has_leaf [] t
    rw [hL] at hx0
    have : 0 < (leafOf L).length := List.length_pos_of_mem (List.mem_filter.mpr ⟨hx0, hl0⟩)
    rw [lPl, List.length_map]
    exact this
  refine ⟨.ref lv, rfl, _, rfl, .ref lv, rfl, lv, _, rfl, .inl (.inl (.inl elv20)), d, _, rfl, hI20, by omega, fun c2 H21 c20 c21 b21 hI21 => ?_⟩
  have t21 := b21.tupsI hI20
  have elv21 := b21 lv _ ndl.symm elv20
  have hPl21 := hPl20.mono t21
  have ex2 : lvs[c2.toNat]? = some (lvs[c2.toNat]'(by omega)) := List.getElem?_eq_getElem (by omega)
  obtain ⟨lp, elp, hlp⟩ := hPl21.get ex2
  generalize lvs[c2.toNat]'(by omega) = vl at ex2 hlp
  refine ⟨lv, _, c2, vl, rfl, rfl, .inl (.inl elv21), at_of (j := c2.toNat) (by omega) ex2, ?_⟩
  obtain ⟨ul, eul, hul, lk⟩ : ∃ ul, t.at lp = some ul ∧ isLeaf ul = true ∧ posOk lp := by
    rw [List.getElem?_map] at elp
    cases z : (leafOf L)[c2.toNat]? with
    | none => rw [z] at elp; cases elp
    | some x =>
      rw [z] at elp
      have e1 : x.1 = lp := Option.some.inj elp
      have hm := List.mem_filter.mp (List.mem_of_getElem? z)
      obtain ⟨i, hi⟩ := List.getElem?_of_mem hm.1
      obtain ⟨k1, k2, _⟩ := okr hi
      exact ⟨x.2, e1 ▸ k2, hm.2, e1 ▸ k1⟩
  cases hlp with
  | @mk bl0 _ ebl =>
  have lk1 := lk.1
  refine ⟨_, rfl, d, 3, rfl, hI21, by decide, fun c3 H22 c30 c31 b22 hI22 => ?_⟩
  have t22 := t21.trans (b22.tupsI hI21)
  refine ⟨_, _, rfl, rfl, by show 1 ≤ sizeLine; decide, fun tl ntl => ?_⟩
  have s23 := same_new ntl (.tup [V.int (1 + c3)])
  have t23 := t22.trans s23.tups
  have er23 := t23 _ _ er
  have eb23 := t23 _ _ eb
  have ebl23 := s23 _ _ ((b22.tupsI hI21) _ _ ebl)
  have etl : upd H22 tl (.tup [V.int (1 + c3)]) tl = some (.tup (([1 + c3] : List Int).map V.int)) := upd_same
  have hv23 := TmAt.mono t23 _ _ hv20
  generalize upd H22 tl (.tup [V.int (1 + c3)]) = H23 at *
  have bad : ∀ (qq ms : List Int), posOk qq → qq.length ≤ 90 → (∀ y ∈ ms, 0 ≤ y ∧ y < 900) → ms.length ≤ 2 → posOk (qq ++ ms) := fun qq ms hq hl h2 h3 => by
    refine ⟨by rw [List.length_append]; omega, fun y hy => ?_⟩
    rcases List.mem_append.mp hy with hy | hy
    · exact hq.2 y hy
    · exact h2 y hy
  have b1 : ∀ x : Int, 0 ≤ x → x < 900 → ∀ y ∈ ([x] : List Int), 0 ≤ y ∧ y < 900 := fun x h1 h2 y hy => by rw [List.mem_singleton.mp hy]; exact ⟨h1, h2⟩
  have lnu := (at_wf lp t ul hwf eul).2.2
  have n0 : ∀ ms : List Int, t.at (pp ++ (0 :: ms)) = none := fun ms => by
    rw [at_app, eat]
    show (up.step 0).bind _ = none
    cases up with
    | var k => rfl
    | ap f as => rfl
  -- the four bad positions
  refine ⟨.ref rp, rfl, rp, _, 0, .ref bp, rfl, rfl, .inl (.inl er23), atI_nat (j := 0) rfl, by show 1 ≤ sizeLine; decide, fun q1 nq1 => ?_⟩
  have s24 := same_new nq1 (.tup [V.int 0])
  refine catA_ints (ms := [0]) (s24 _ _ eb23) upd_same (by simp) (by simp only [List.length_singleton]; omega) fun p1 H25 s25 ep1 => ?_
  have sB := s24.trans s25
  refine ⟨.ref rp, rfl, rp, _, 0, .ref bp, rfl, rfl, .inl (.inl (sB _ _ er23)), atI_nat (j := 0) rfl, _, rfl, by show 1 ≤ sizeLine; decide, fun q2 nq2 => ?_⟩
  have s26 := same_new nq2 (.tup [V.int by_])
  refine catA_ints (ms := [by_]) ((sB.trans s26) _ _ eb23) upd_same (by simp) (by simp only [List.length_singleton]; omega) fun p2 H27 s27 ep2 => ?_
  have sC := (sB.trans s26).trans s27
  refine ⟨_, rfl, _, rfl, catA_ints (ms := [1 + c3]) (sC _ _ ebl23) (sC _ _ etl) (by simp) (by simp only [List.length_singleton]; omega) fun p3 H28 s28 ep3 => ?_⟩
  have sD := sC.trans s28
  refine ⟨.ref rp, rfl, rp, _, 0, .ref bp, rfl, rfl, .inl (.inl (sD _ _ er23)), atI_nat (j := 0) rfl, by show 1 ≤ sizeLine; decide, fun q4 nq4 => ?_⟩
  have s29 := same_new nq4 (.tup [V.int 0])
  refine catA_ints (ms := [0]) ((sD.trans s29) _ _ eb23) upd_same (by simp) (by simp only [List.length_singleton]; omega) fun p4 H30 s30 ep4 => ?_
  have sE := (sD.trans s29).trans s30
  refine ⟨_, rfl, catA_ints (ns := pp ++ [0]) (ms := [1 + c3]) ep4 (sE _ _ etl) (by simp) (by rw [List.length_append, List.length_singleton]; simp only [List.length_singleton]; omega) fun p5 H31 s31 ep5 => ?_⟩
  refine ⟨by show 4 ≤ sizeLine; decide, fun z nz => ?_⟩
  have s32 := same_new nz (.lst [.ref p1, .ref p2, .ref p3, .ref p5])
  have x4 := ((s29.trans s30).trans s31).trans s32
  have sF := (sE.trans s31).trans s32
  have f1 := (((s26.trans s27).trans s28).trans x4) _ _ ep1
  have f2 := (s28.trans x4) _ _ ep2
  have f3 := x4 _ _ ep3
  have f5 := s32 _ _ ep5
  have hv32 := TmAt.mono sF.tups _ _ hv23
  have ez : upd H31 z (.lst [.ref p1, .ref p2, .ref p3, .ref p5]) z = some (.lst [.ref p1, .ref p2, .ref p3, .ref p5]) := upd_same
  generalize upd H31 z (.lst [.ref p1, .ref p2, .ref p3, .ref p5]) = H32 at *
  have hQ : PosAll H32 [.ref p1, .ref p2, .ref p3, .ref p5] [pp ++ [0], pp ++ [by_], lp ++ [1 + c3], pp ++ [0] ++ [1 + c3]] := .cons (.mk f1) (.cons (.mk f2) (.cons (.mk f3) (.cons (.mk f5) .nil)))
  have hbad : ∀ x ∈ [pp ++ [0], pp ++ [by_], lp ++ [1 + c3], pp ++ [0] ++ [1 + c3]], posOk x ∧ t.at x = none := fun x hx => by
    rcases List.mem_cons.mp hx with rfl | hx
    · exact ⟨bad _ _ pk (by omega) (b1 0 (by omega) (by omega)) (by simp), n0 []⟩
    rcases List.mem_cons.mp hx with rfl | hx
    · exact ⟨bad _ _ pk (by omega) (b1 by_ g0 g1) (by simp), nby⟩
    rcases List.mem_cons.mp hx with rfl | hx
    · exact ⟨bad _ _ lk (by omega) (b1 (1 + c3) (by omega) (by omega)) (by simp), leaf_step eul hul _ []⟩
    · rw [List.mem_singleton.mp hx, List.append_assoc]
      refine ⟨bad _ _ pk (by omega) (fun y hy => ?_) (by simp), n0 _⟩
      rcases List.mem_cons.mp hy with rfl | hy
      · exact ⟨by omega, by omega⟩
      · exact b1 (1 + c3) (by omega) (by omega) y hy
  refine ⟨z, rfl, ⟨_, .inl (.inl ez)⟩, for_list (xs := [.ref p1, .ref p2, .ref p3, .ref p5]) (fun i σ H9 => ∃ y14, σ = [some (.ref a), some (.ref d), some (.ref l), some v, some (.ref p), some (.ref D1), some (.ref u1), some (.ref D2), some (.ref lv), y9, some (.ref rp), some (.int by_), some (.ref bl0), some (.ref tl), y14] ∧ Same H32 H9)
    ⟨none, rfl, Same.refl _⟩ (fun i σ H9 _ h => ?_) (fun i x σ H9 hx h => ?_) (fun σ H18 h => ?_)⟩
  · obtain ⟨_, _, sm⟩ := h
    exact .inl (.inl (sm _ _ ez))
  · obtain ⟨y14, rfl, sm⟩ := h
    obtain ⟨pq, epq, hpq⟩ := hQ.get hx
    obtain ⟨k1, k2⟩ := hbad pq (List.mem_of_getElem? epq)
    cases hpq with
    | @mk bq _ ebq =>
    exact ⟨v, rfl, .ref bq, rfl, v, bq, t, pq, rfl, TmAt.mono sm.tups _ _ hv32, sm _ _ ebq, k1, by omega, k2, fun H40 s40 => ⟨true, rfl, iteF ⟨_, rfl, sm.trans s40⟩⟩⟩
  · exact q H18
end

end K02
namespace K02
open PySem PySem.Spec PyProof.Rows L2 Own HT
theorem all_mk {l : PySem.W.OpenLaw} {w : World} {K : PySem.W.Frag} {h : Heap} {mg : Str → Option Value} {fa f_is_variable f_positions f_subterm_at f_path_to f__law_draws f__law_take f__law_words f__law_variable f__law_term f__law_same f__law_walk f__law_refused f_law : Addr}
    {D_S D_L D_B : Addr} {C_InvalidPosition fI_InvalidPosition cc_InvalidPosition ca_InvalidPosition NN_InvalidPosition : Addr} {nm_InvalidPosition qn_InvalidPosition fl_InvalidPosition : Str} {bs_InvalidPosition bm_InvalidPosition su_InvalidPosition : List Value} {sn_InvalidPosition : List Str} {ab_InvalidPosition : Bool} {cl_InvalidPosition : Option Bool} {dd_InvalidPosition oe_InvalidPosition an_InvalidPosition cx_InvalidPosition ce_InvalidPosition : Option Addr} {m0_InvalidPosition m1_InvalidPosition m2_InvalidPosition m3_InvalidPosition m5_InvalidPosition : Option Value} {oc_InvalidPosition kV_InvalidPosition do_InvalidPosition pm_InvalidPosition ct_InvalidPosition oo_InvalidPosition ol_InvalidPosition : Value} {os_InvalidPosition ox_InvalidPosition oy_InvalidPosition : Array (Option Value)} {vv_InvalidPosition : Array Value} {tf_InvalidPosition : Tok}
    (X : K.In h) (G : h.Ns mainGlobals mg) (hfa : mg "law" = some (.ref fa))
    {od_is_variable an_is_variable od_positions an_positions od_subterm_at an_subterm_at od_path_to an_path_to od__law_draws an__law_draws od__law_take an__law_take od__law_words an__law_words od__law_variable an__law_variable od__law_term an__law_term od__law_same an__law_same od__law_walk an__law_walk od__law_refused an__law_refused od_law an_law : Option Addr} {sl_is_variable sl_positions sl_subterm_at sl_path_to sl__law_draws sl__law_take sl__law_words sl__law_variable sl__law_term sl__law_same sl__law_walk sl__law_refused sl_law : Array (Option Value)} {oc_is_variable kV_is_variable dc_is_variable pm_is_variable cd_is_variable ct_is_variable oc_positions dc_positions pm_positions cd_positions ct_positions oc_subterm_at kV_subterm_at dc_subterm_at pm_subterm_at cd_subterm_at ct_subterm_at oc_path_to kV_path_to dc_path_to pm_path_to cd_path_to ct_path_to oc__law_draws kV__law_draws dc__law_draws pm__law_draws cd__law_draws ct__law_draws oc__law_take kV__law_take dc__law_take pm__law_take cd__law_take ct__law_take oc__law_words kV__law_words dc__law_words pm__law_words cd__law_words ct__law_words oc__law_variable kV__law_variable dc__law_variable pm__law_variable cd__law_variable ct__law_variable oc__law_term kV__law_term dc__law_term pm__law_term cd__law_term ct__law_term oc__law_same kV__law_same dc__law_same pm__law_same cd__law_same ct__law_same oc__law_walk kV__law_walk dc__law_walk pm__law_walk cd__law_walk ct__law_walk oc__law_refused kV__law_refused dc__law_refused pm__law_refused cd__law_refused ct__law_refused oc_law kV_law dc_law pm_law cd_law ct_law : Value} {kd_positions : Addr}
    (a_is_variable : PySem.W.nsIn K mainGlobals "is_variable" = some (some (.ref f_is_variable))) (l_is_variable : K.lookup f_is_variable = some ⟨oc_is_variable, od_is_variable, .func (PySem.W.fnOf "is_variable" "is_variable" (defArgs s_is_variable) (defBody s_is_variable) (defScope s_is_variable) .none kV_is_variable dc_is_variable pm_is_variable an_is_variable cd_is_variable ct_is_variable), sl_is_variable⟩) (c_is_variable : PySem.W.codeIn K cd_is_variable "is_variable" = true) (k_is_variable : PySem.W.keepIn K (.ref f_is_variable) = true)
    (d_positions : PySem.W.nsIn K kd_positions "with_variables" = some (some (Value.bool true)))
    (a_positions : PySem.W.nsIn K mainGlobals "positions" = some (some (.ref f_positions))) (l_positions : K.lookup f_positions = some ⟨oc_positions, od_positions, .func (PySem.W.fnOf "positions" "positions" (defArgs s_positions) (defBody s_positions) (defScope s_positions) .none (.ref kd_positions) dc_positions pm_positions an_positions cd_positions ct_positions), sl_positions⟩) (c_positions : PySem.W.codeIn K cd_positions "positions" = true) (k_positions : PySem.W.keepIn K (.ref f_positions) = true)
    (a_subterm_at : PySem.W.nsIn K mainGlobals "subterm_at" = some (some (.ref f_subterm_at))) (l_subterm_at : K.lookup f_subterm_at = some ⟨oc_subterm_at, od_subterm_at, .func (PySem.W.fnOf "subterm_at" "subterm_at" (defArgs s_subterm_at) (defBody s_subterm_at) (defScope s_subterm_at) .none kV_subterm_at dc_subterm_at pm_subterm_at an_subterm_at cd_subterm_at ct_subterm_at), sl_subterm_at⟩) (c_subterm_at : PySem.W.codeIn K cd_subterm_at "subterm_at" = true) (k_subterm_at : PySem.W.keepIn K (.ref f_subterm_at) = true)
    (a_path_to : PySem.W.nsIn K mainGlobals "path_to" = some (some (.ref f_path_to))) (l_path_to : K.lookup f_path_to = some ⟨oc_path_to, od_path_to, .func (PySem.W.fnOf "path_to" "path_to" (defArgs s_path_to) (defBody s_path_to) (defScope s_path_to) .none kV_path_to dc_path_to pm_path_to an_path_to cd_path_to ct_path_to), sl_path_to⟩) (c_path_to : PySem.W.codeIn K cd_path_to "path_to" = true) (k_path_to : PySem.W.keepIn K (.ref f_path_to) = true)
    (a__law_draws : PySem.W.nsIn K mainGlobals "_law_draws" = some (some (.ref f__law_draws))) (l__law_draws : K.lookup f__law_draws = some ⟨oc__law_draws, od__law_draws, .func (PySem.W.fnOf "_law_draws" "_law_draws" (defArgs s__law_draws) (defBody s__law_draws) (defScope s__law_draws) .none kV__law_draws dc__law_draws pm__law_draws an__law_draws cd__law_draws ct__law_draws), sl__law_draws⟩) (c__law_draws : PySem.W.codeIn K cd__law_draws "_law_draws" = true) (k__law_draws : PySem.W.keepIn K (.ref f__law_draws) = true)
    (a__law_take : PySem.W.nsIn K mainGlobals "_law_take" = some (some (.ref f__law_take))) (l__law_take : K.lookup f__law_take = some ⟨oc__law_take, od__law_take, .func (PySem.W.fnOf "_law_take" "_law_take" (defArgs s__law_take) (defBody s__law_take) (defScope s__law_take) .none kV__law_take dc__law_take pm__law_take an__law_take cd__law_take ct__law_take), sl__law_take⟩) (c__law_take : PySem.W.codeIn K cd__law_take "_law_take" = true) (k__law_take : PySem.W.keepIn K (.ref f__law_take) = true)
    (a__law_words : PySem.W.nsIn K mainGlobals "_law_words" = some (some (.ref f__law_words))) (l__law_words : K.lookup f__law_words = some ⟨oc__law_words, od__law_words, .func (PySem.W.fnOf "_law_words" "_law_words" (defArgs s__law_words) (defBody s__law_words) (defScope s__law_words) .none kV__law_words dc__law_words pm__law_words an__law_words cd__law_words ct__law_words), sl__law_words⟩) (c__law_words : PySem.W.codeIn K cd__law_words "_law_words" = true) (k__law_words : PySem.W.keepIn K (.ref f__law_words) = true)
    (a__law_variable : PySem.W.nsIn K mainGlobals "_law_variable" = some (some (.ref f__law_variable))) (l__law_variable : K.lookup f__law_variable = some ⟨oc__law_variable, od__law_variable, .func (PySem.W.fnOf "_law_variable" "_law_variable" (defArgs s__law_variable) (defBody s__law_variable) (defScope s__law_variable) .none kV__law_variable dc__law_variable pm__law_variable an__law_variable cd__law_variable ct__law_variable), sl__law_variable⟩) (c__law_variable : PySem.W.codeIn K cd__law_variable "_law_variable" = true) (k__law_variable : PySem.W.keepIn K (.ref f__law_variable) = true)
    (a__law_term : PySem.W.nsIn K mainGlobals "_law_term" = some (some (.ref f__law_term))) (l__law_term : K.lookup f__law_term = some ⟨oc__law_term, od__law_term, .func (PySem.W.fnOf "_law_term" "_law_term" (defArgs s__law_term) (defBody s__law_term) (defScope s__law_term) .none kV__law_term dc__law_term pm__law_term an__law_term cd__law_term ct__law_term), sl__law_term⟩) (c__law_term : PySem.W.codeIn K cd__law_term "_law_term" = true) (k__law_term : PySem.W.keepIn K (.ref f__law_term) = true)
    (a__law_same : PySem.W.nsIn K mainGlobals "_law_same" = some (some (.ref f__law_same))) (l__law_same : K.lookup f__law_same = some ⟨oc__law_same, od__law_same, .func (PySem.W.fnOf "_law_same" "_law_same" (defArgs s__law_same) (defBody s__law_same) (defScope s__law_same) .none kV__law_same dc__law_same pm__law_same an__law_same cd__law_same ct__law_same), sl__law_same⟩) (c__law_same : PySem.W.codeIn K cd__law_same "_law_same" = true) (k__law_same : PySem.W.keepIn K (.ref f__law_same) = true)
    (a__law_walk : PySem.W.nsIn K mainGlobals "_law_walk" = some (some (.ref f__law_walk))) (l__law_walk : K.lookup f__law_walk = some ⟨oc__law_walk, od__law_walk, .func (PySem.W.fnOf "_law_walk" "_law_walk" (defArgs s__law_walk) (defBody s__law_walk) (defScope s__law_walk) .none kV__law_walk dc__law_walk pm__law_walk an__law_walk cd__law_walk ct__law_walk), sl__law_walk⟩) (c__law_walk : PySem.W.codeIn K cd__law_walk "_law_walk" = true) (k__law_walk : PySem.W.keepIn K (.ref f__law_walk) = true)
    (a__law_refused : PySem.W.nsIn K mainGlobals "_law_refused" = some (some (.ref f__law_refused))) (l__law_refused : K.lookup f__law_refused = some ⟨oc__law_refused, od__law_refused, .func (PySem.W.fnOf "_law_refused" "_law_refused" (defArgs s__law_refused) (defBody s__law_refused) (defScope s__law_refused) .none kV__law_refused dc__law_refused pm__law_refused an__law_refused cd__law_refused ct__law_refused), sl__law_refused⟩) (c__law_refused : PySem.W.codeIn K cd__law_refused "_law_refused" = true) (k__law_refused : PySem.W.keepIn K (.ref f__law_refused) = true)
    (a_law : PySem.W.nsIn K mainGlobals "law" = some (some (.ref f_law))) (l_law : K.lookup f_law = some ⟨oc_law, od_law, .func (PySem.W.fnOf "law" "law" (defArgs s_law) (defBody s_law) (defScope s_law) .none kV_law dc_law pm_law an_law cd_law ct_law), sl_law⟩) (c_law : PySem.W.codeIn K cd_law "law" = true) (k_law : PySem.W.keepIn K (.ref f_law) = true)
     (aC_InvalidPosition : PySem.W.nsIn K mainGlobals "InvalidPosition" = some (some (.ref C_InvalidPosition)))
    (xC_InvalidPosition : K.lookup C_InvalidPosition = some (excClassObj nm_InvalidPosition qn_InvalidPosition C_InvalidPosition NN_InvalidPosition bs_InvalidPosition bm_InvalidPosition true sn_InvalidPosition su_InvalidPosition ab_InvalidPosition cl_InvalidPosition dd_InvalidPosition m0_InvalidPosition m1_InvalidPosition m2_InvalidPosition m3_InvalidPosition m5_InvalidPosition "ValueError.__new__"))
    (hv_InvalidPosition : PySem.HandSPX.refsVE bm_InvalidPosition = true)
    (sa_InvalidPosition : PySem.W.findIn K (.ref C_InvalidPosition) "__setattr__" = some (some (.builtin "object.__setattr__")))
    (eC_InvalidPosition : PySem.W.subIn K (.ref C_InvalidPosition) (.type "BaseException") = some true)
    (tC_InvalidPosition : PySem.W.typeIn K (.ref C_InvalidPosition) = some (.type "type"))
    (kC_InvalidPosition : PySem.W.keepIn K (.ref C_InvalidPosition) = true)
    (up_InvalidPosition : PySem.W.ks_superIn K C_InvalidPosition C_InvalidPosition "__init__" = some (some (.builtin "ValueError.__init__")))
    (vs_InvalidPosition : PySem.W.subIn K (.ref C_InvalidPosition) (.type "ValueError") = some true)
    (ow_InvalidPosition : PySem.W.mroIn K C_InvalidPosition (.ref C_InvalidPosition) = some true)
    (oq_InvalidPosition : PySem.W.nsIn K cStatics "thirdparty.any" = some none)
    (iC_InvalidPosition : PySem.W.findIn K (.ref C_InvalidPosition) "__init__" = some (some (.ref fI_InvalidPosition)))
    (tI_InvalidPosition : PySem.W.typeIn K (.ref fI_InvalidPosition) = some (.type "function"))
    (lI_InvalidPosition : K.lookup fI_InvalidPosition = some ⟨oc_InvalidPosition, oe_InvalidPosition, .func (PySem.W.fnX "__init__" "InvalidPosition.__init__" (defArgs initSt) (defBody initSt) (defScope initSt) [("__class__", cc_InvalidPosition)] .none kV_InvalidPosition do_InvalidPosition pm_InvalidPosition an_InvalidPosition (.ref ca_InvalidPosition) ct_InvalidPosition), os_InvalidPosition⟩)
    (cI_InvalidPosition : PySem.W.codeIn K (.ref ca_InvalidPosition) "InvalidPosition.__init__" = true)
    (lc_InvalidPosition : K.lookup ca_InvalidPosition = some ⟨oo_InvalidPosition, cx_InvalidPosition, .fields vv_InvalidPosition, ox_InvalidPosition⟩)
    (vf_InvalidPosition : vv_InvalidPosition[2]? = some (.str fl_InvalidPosition tf_InvalidPosition))
    (hf_InvalidPosition : ((l.prog.main.file : Str) == fl_InvalidPosition) = true)
    (ht_InvalidPosition : (l.prog.main.scope.names.lookup ("super" : Str)).isSome = false)
    (ce_InvalidPositionx : K.lookup cc_InvalidPosition = some ⟨ol_InvalidPosition, ce_InvalidPosition, .cell (some (.ref C_InvalidPosition)), oy_InvalidPosition⟩)
    (no_InvalidPosition_position : PySem.W.findIn K (.ref C_InvalidPosition) "position" = some none)
    (ga_InvalidPosition : PySem.W.findIn K (.ref C_InvalidPosition) "__getattribute__" = some (some (.builtin "BaseException.__getattribute__")))
    (gg_InvalidPosition : PySem.W.findIn K (.ref C_InvalidPosition) "__getattr__" = some none)
    (hd_InvalidPosition : PySem.W.hasDictIn K C_InvalidPosition = true)
    (ic_InvalidPosition : PySem.W.isClsIn K C_InvalidPosition = true)
    (cc_InvalidPositionc : PySem.W.findIn K (.ref C_InvalidPosition) "__class__" = some (some (.builtin "object.__class__")))
    (cn_InvalidPosition : PySem.W.specialIn K (.builtin "object.__class__") "__get__" = some (some (.builtin "getset_descriptor.__get__")))
    (ck_InvalidPosition : PySem.W.takesIn K (.builtin "object.__class__") = some true)
    (mo_InvalidPosition : PySem.W.mroIn K C_InvalidPosition (.type "object") = some true)
    (sC_InvalidPosition : PySem.W.subIn K (.ref C_InvalidPosition) (.ref C_InvalidPosition) = some true)
    (gS : PySem.W.nsIn K mainGlobals "InvalidStep" = some (some (.ref D_S)))
    (gL : PySem.W.nsIn K mainGlobals "TooLarge" = some (some (.ref D_L)))
    (gB : PySem.W.nsIn K mainGlobals "ElenchusError" = some (some (.ref D_B)))
    (kS : PySem.W.kitOne K (.ref C_InvalidPosition) (.ref D_S) = some false)
    (kL : PySem.W.kitOne K (.ref C_InvalidPosition) (.ref D_L) = some false)
    (kB : PySem.W.kitOne K (.ref C_InvalidPosition) (.ref D_B) = some true)
    (kV : PySem.W.kitOne K (.ref C_InvalidPosition) (.type "ValueError") = some true)
   
    (z_len : PySem.W.nsIn K mainGlobals "len" = some none)
    (z_int : PySem.W.nsIn K mainGlobals "int" = some none)
    (z_abs : PySem.W.nsIn K mainGlobals "abs" = some none)
    (z_range : PySem.W.nsIn K mainGlobals "range" = some none)
    (z_list : PySem.W.nsIn K mainGlobals "list" = some none)
    (z_reversed : PySem.W.nsIn K mainGlobals "reversed" = some none)
    (z_tuple : PySem.W.nsIn K mainGlobals "tuple" = some none)
    (z_isinstance : PySem.W.nsIn K mainGlobals "isinstance" = some none)
    (z_bool : PySem.W.nsIn K mainGlobals "bool" = some none)
    (z_str : PySem.W.nsIn K mainGlobals "str" = some none)
    (z_super : PySem.W.nsIn K mainGlobals "super" = some none)
    (z_ValueError : PySem.W.nsIn K mainGlobals "ValueError" = some none)
    : ∃ fd : FuncData, (∀ (s : Shared) (v : Value), BindsTo s fd ⟨[v], []⟩ [("script", v)]) ∧ ∀ base : Heap, K.In base → base.Ns mainGlobals mg → FnOk l.prog w K mg base CX0 9 fa fd ["script"] (spLaw K) := by
  have e := hfa.symm.trans (PySem.W.mg_of X G a_law); cases e
  have F_is_variable := fun_mk (st := s_is_variable) l_is_variable c_is_variable k_is_variable
  have D_is_variable : Df K mg "is_variable" s_is_variable ["term"] _ _ := ⟨F_is_variable, F_is_variable.binds (ps := ["term"]) (fun _ _ _ _ _ _ us hl => match us, hl with | [_], _ => rfl), PySem.W.mg_of X G a_is_variable⟩
  have F_positions := fun_mk (st := s_positions) l_positions c_positions k_positions
  have FD_positions : FunD K "positions" "positions" (defArgs s_positions) (defBody s_positions) (defScope s_positions) [] [("with_variables", V.bl true)] f_positions _ := ⟨⟨_, _, _, _, _, _, _, _, _, _, rfl, l_positions, c_positions, .inl ⟨rfl, rfl⟩, .inr ⟨_, rfl, fun q hq => by cases List.mem_singleton.mp hq; exact ⟨_, d_positions, rfl⟩⟩⟩, k_positions⟩
  have D_positions : DkG K mg "positions" s_positions ["term", "with_variables"] 1 "with_variables" (V.bl true) _ _ := ⟨F_positions, FD_positions.binds0 1 (by decide) rfl (fun D doc pm an cdv ct us ks h1 h2 => match us, ks, h1, h2 with | [_], [_], _, _ => ⟨_, _, _, _, _, _, rfl, rfl, rfl⟩), ⟨fun s us ws X h1 h2 => match us, ws, h1, h2 with | [_], [_], _, _ => .of_eq rfl, fun r1 r2 => r1.append r2⟩, PySem.W.mg_of X G a_positions⟩
  have F_subterm_at := fun_mk (st := s_subterm_at) l_subterm_at c_subterm_at k_subterm_at
  have D_subterm_at : Df K mg "subterm_at" s_subterm_at ["term", "position"] _ _ := ⟨F_subterm_at, F_subterm_at.binds (ps := ["term", "position"]) (fun _ _ _ _ _ _ us hl => match us, hl with | [_, _], _ => rfl), PySem.W.mg_of X G a_subterm_at⟩
  have F_path_to := fun_mk (st := s_path_to) l_path_to c_path_to k_path_to
  have D_path_to : Df K mg "path_to" s_path_to ["term", "position"] _ _ := ⟨F_path_to, F_path_to.binds (ps := ["term", "position"]) (fun _ _ _ _ _ _ us hl => match us, hl with | [_, _], _ => rfl), PySem.W.mg_of X G a_path_to⟩
  have F__law_draws := fun_mk (st := s__law_draws) l__law_draws c__law_draws k__law_draws
  have D__law_draws : Df K mg "_law_draws" s__law_draws ["script"] _ _ := ⟨F__law_draws, F__law_draws.binds (ps := ["script"]) (fun _ _ _ _ _ _ us hl => match us, hl with | [_], _ => rfl), PySem.W.mg_of X G a__law_draws⟩
  have F__law_take := fun_mk (st := s__law_take) l__law_take c__law_take k__law_take
  have D__law_take : Df K mg "_law_take" s__law_take ["draws", "bound"] _ _ := ⟨F__law_take, F__law_take.binds (ps := ["draws", "bound"]) (fun _ _ _ _ _ _ us hl => match us, hl with | [_, _], _ => rfl), PySem.W.mg_of X G a__law_take⟩
  have F__law_words := fun_mk (st := s__law_words) l__law_words c__law_words k__law_words
  have D__law_words : Df K mg "_law_words" s__law_words ["draws", "many"] _ _ := ⟨F__law_words, F__law_words.binds (ps := ["draws", "many"]) (fun _ _ _ _ _ _ us hl => match us, hl with | [_, _], _ => rfl), PySem.W.mg_of X G a__law_words⟩
  have F__law_variable := fun_mk (st := s__law_variable) l__law_variable c__law_variable k__law_variable
  have D__law_variable : Df K mg "_law_variable" s__law_variable ["draws"] _ _ := ⟨F__law_variable, F__law_variable.binds (ps := ["draws"]) (fun _ _ _ _ _ _ us hl => match us, hl with | [_], _ => rfl), PySem.W.mg_of X G a__law_variable⟩
  have F__law_term := fun_mk (st := s__law_term) l__law_term c__law_term k__law_term
  have D__law_term : Df K mg "_law_term" s__law_term ["draws", "words", "depth"] _ _ := ⟨F__law_term, F__law_term.binds (ps := ["draws", "words", "depth"]) (fun _ _ _ _ _ _ us hl => match us, hl with | [_, _, _], _ => rfl), PySem.W.mg_of X G a__law_term⟩
  have F__law_same := fun_mk (st := s__law_same) l__law_same c__law_same k__law_same
  have D__law_same : Df K mg "_law_same" s__law_same ["value", "due"] _ _ := ⟨F__law_same, F__law_same.binds (ps := ["value", "due"]) (fun _ _ _ _ _ _ us hl => match us, hl with | [_, _], _ => rfl), PySem.W.mg_of X G a__law_same⟩
  have F__law_walk := fun_mk (st := s__law_walk) l__law_walk c__law_walk k__law_walk
  have D__law_walk : Df K mg "_law_walk" s__law_walk ["term", "here"] _ _ := ⟨F__law_walk, F__law_walk.binds (ps := ["term", "here"]) (fun _ _ _ _ _ _ us hl => match us, hl with | [_, _], _ => rfl), PySem.W.mg_of X G a__law_walk⟩
  have F__law_refused := fun_mk (st := s__law_refused) l__law_refused c__law_refused k__law_refused
  have D__law_refused : Df K mg "_law_refused" s__law_refused ["term", "position"] _ _ := ⟨F__law_refused, F__law_refused.binds (ps := ["term", "position"]) (fun _ _ _ _ _ _ us hl => match us, hl with | [_, _], _ => rfl), PySem.W.mg_of X G a__law_refused⟩
  have F_law := fun_mk (st := s_law) l_law c_law k_law
  have D_law : Df K mg "law" s_law ["script"] _ _ := ⟨F_law, F_law.binds (ps := ["script"]) (fun _ _ _ _ _ _ us hl => match us, hl with | [_], _ => rfl), PySem.W.mg_of X G a_law⟩
  have m_len := PySem.W.mg_none_of X G z_len
  have m_int := PySem.W.mg_none_of X G z_int
  have m_abs := PySem.W.mg_none_of X G z_abs
  have m_range := PySem.W.mg_none_of X G z_range
  have m_list := PySem.W.mg_none_of X G z_list
  have m_reversed := PySem.W.mg_none_of X G z_reversed
  have m_tuple := PySem.W.mg_none_of X G z_tuple
  have m_isinstance := PySem.W.mg_none_of X G z_isinstance
  have m_bool := PySem.W.mg_none_of X G z_bool
  have m_str := PySem.W.mg_none_of X G z_str
  have m_super := PySem.W.mg_none_of X G z_super
  have m_ValueError := PySem.W.mg_none_of X G z_ValueError
  have SC_InvalidPosition : SupC K C_InvalidPosition := ⟨⟨⟨nm_InvalidPosition, qn_InvalidPosition, NN_InvalidPosition, bs_InvalidPosition, bm_InvalidPosition, sn_InvalidPosition, su_InvalidPosition, ab_InvalidPosition, cl_InvalidPosition, dd_InvalidPosition, m0_InvalidPosition, m1_InvalidPosition, m2_InvalidPosition, m3_InvalidPosition, m5_InvalidPosition, xC_InvalidPosition, hv_InvalidPosition⟩, sa_InvalidPosition, eC_InvalidPosition, tC_InvalidPosition, kC_InvalidPosition⟩, up_InvalidPosition, vs_InvalidPosition, ow_InvalidPosition, oq_InvalidPosition⟩
  have IC_InvalidPosition : InitC l.prog K mg C_InvalidPosition fI_InvalidPosition cc_InvalidPosition ca_InvalidPosition "__init__" "InvalidPosition.__init__" (defArgs initSt) (defBody initSt) (defScope initSt) _ := { sup := SC_InvalidPosition, fn := ⟨_, _, _, _, _, _, _, _, _, rfl, lI_InvalidPosition⟩, code := cI_InvalidPosition, file := ⟨_, _, _, _, lc_InvalidPosition, rfl, vf_InvalidPosition, hf_InvalidPosition⟩, top := ht_InvalidPosition, cell := ⟨_, _, _, ce_InvalidPositionx⟩, glob := m_super, self := ⟨_, rfl, rfl⟩, k1 := by decide +kernel, k2 := by decide +kernel, k3 := by decide +kernel, iC := iC_InvalidPosition, tI := tI_InvalidPosition }
  have EC_InvalidPosition : ErrC K C_InvalidPosition := ⟨ga_InvalidPosition, gg_InvalidPosition, eC_InvalidPosition, hd_InvalidPosition, ic_InvalidPosition, cc_InvalidPositionc, cn_InvalidPosition, ck_InvalidPosition, mo_InvalidPosition⟩
  refine ⟨PySem.W.fnOf "law" "law" (defArgs s_law) (defBody s_law) (defScope s_law) .none kV_law dc_law pm_law an_law cd_law ct_law, fun s v => .of_eq rfl, fun base _ _ => ?_⟩
  have G_take := ok_law_take (P := l.prog) (w := w) (base := base) D__law_take m_len m_int
  have G_draws := ok_law_draws (P := l.prog) (w := w) (base := base) D__law_draws m_abs m_int m_range m_len m_list m_reversed
  have G_words := ok_law_words (P := l.prog) (w := w) (base := base) D__law_words D__law_take G_take m_range
  have G_var := ok_law_variable (P := l.prog) (w := w) (base := base) D__law_variable D__law_take G_take
  have G_term := ok_law_term (P := l.prog) (w := w) (base := base) D__law_term D__law_take G_take D__law_variable G_var m_range m_tuple 5
  have G_isv := ok_is_variable (P := l.prog) (w := w) (base := base) D_is_variable m_isinstance m_tuple
  have G_init := ok_init (P := l.prog) (w := w) (base := base) IC_InvalidPosition no_InvalidPosition_position
  have T_pos : PosC l.prog w K mg base C_InvalidPosition fI_InvalidPosition _ := ⟨PySem.W.mg_of X G aC_InvalidPosition, SC_InvalidPosition.oex, iC_InvalidPosition, tI_InvalidPosition, G_init, .all (fun us hl => match us, hl with | [_, _], _ => rfl), EC_InvalidPosition, exm_self eC_InvalidPosition ic_InvalidPosition tC_InvalidPosition sC_InvalidPosition, no_InvalidPosition_position⟩
  have T_kin : KinC K mg C_InvalidPosition D_S D_L D_B := ⟨PySem.W.mg_of X G gS, PySem.W.mg_of X G gL, PySem.W.mg_of X G gB, m_ValueError, kS, kL, kB, kV⟩
  have G_poss := ok_positions (P := l.prog) (w := w) (base := base) D_positions D_is_variable G_isv m_len m_range
  have G_path := ok_path_to (P := l.prog) (w := w) (base := base) D_path_to D_is_variable G_isv m_len T_pos
  have G_sub := ok_subterm_at (P := l.prog) (w := w) (base := base) D_subterm_at D_path_to G_path
  have G_walk := ok_law_walk (P := l.prog) (w := w) (base := base) D__law_walk m_isinstance m_tuple m_len m_range 6
  have G_same := ok_law_same (P := l.prog) (w := w) (base := base) D__law_same m_isinstance m_tuple m_list m_len m_range m_bool m_int m_str 8
  have G_sameH := ok_law_sameH (P := l.prog) (w := w) (base := base) D__law_same m_isinstance m_tuple m_list m_len m_range m_bool m_int m_str 3
  have G_ref := ok_law_refused (P := l.prog) (w := w) (base := base) D__law_refused D_subterm_at G_sub D__law_same G_sameH T_pos T_kin m_isinstance
  exact ok_law D_law D__law_draws G_draws D__law_take G_take D__law_words G_words D__law_term G_term D__law_same G_same D__law_walk G_walk D_positions G_poss D_subterm_at G_sub D__law_refused G_ref m_isinstance m_tuple m_len
end K02
open PySem PySem.W PyProof.Rows
set_option maxRecDepth 100000 in
set_option maxHeartbeats 0 in
theorem PySem.Challenge.cw_elenchus_k02_positions_and_subterms_holds : PySem.Challenge.rw_elenchus_k02_positions_and_subterms.Holds := by
  w_on; o_law; k_head; (case hw => w_witness2)
  k_fill
  refine L2.walk_of (l := PySem.Challenge.rw_elenchus_k02_positions_and_subterms) (n := 63) (k := 9) (x := "script") (CX := fun _ => L2.CX0) (sp := fun w => K02.spLaw _) rfl (by decide) rfl ⟨rfl, by decide, by decide⟩ (fun w h Y => PySem.W.kIn_of Y) ?F (fun _ _ a ns hl _ hS => ⟨a, ns, rfl, hS, hl, fun _ => rfl⟩) (fun _ _ _ _ _ h => h)
  case F =>
    intro w mg fa h KX G hmg
    refine' K02.all_mk (l := PySem.Challenge.rw_elenchus_k02_positions_and_subterms) KX G hmg ?a_is_variable ?l_is_variable ?c_is_variable ?k_is_variable ?d_positions ?a_positions ?l_positions ?c_positions ?k_positions ?a_subterm_at ?l_subterm_at ?c_subterm_at ?k_subterm_at ?a_path_to ?l_path_to ?c_path_to ?k_path_to ?a__law_draws ?l__law_draws ?c__law_draws ?k__law_draws ?a__law_take ?l__law_take ?c__law_take ?k__law_take ?a__law_words ?l__law_words ?c__law_words ?k__law_words ?a__law_variable ?l__law_variable ?c__law_variable ?k__law_variable ?a__law_term ?l__law_term ?c__law_term ?k__law_term ?a__law_same ?l__law_same ?c__law_same ?k__law_same ?a__law_walk ?l__law_walk ?c__law_walk ?k__law_walk ?a__law_refused ?l__law_refused ?c__law_refused ?k__law_refused ?a_law ?l_law ?c_law ?k_law ?aC_InvalidPosition ?xC_InvalidPosition ?hv_InvalidPosition ?sa_InvalidPosition ?eC_InvalidPosition ?tC_InvalidPosition ?kC_InvalidPosition ?up_InvalidPosition ?vs_InvalidPosition ?ow_InvalidPosition ?oq_InvalidPosition ?iC_InvalidPosition ?tI_InvalidPosition ?lI_InvalidPosition ?cI_InvalidPosition ?lc_InvalidPosition ?vf_InvalidPosition ?hf_InvalidPosition ?ht_InvalidPosition ?ce_InvalidPositionx ?no_InvalidPosition_position ?ga_InvalidPosition ?gg_InvalidPosition ?hd_InvalidPosition ?ic_InvalidPosition ?cc_InvalidPositionc ?cn_InvalidPosition ?ck_InvalidPosition ?mo_InvalidPosition ?sC_InvalidPosition ?gS ?gL ?gB ?kS ?kL ?kB ?kV ?z_len ?z_int ?z_abs ?z_range ?z_list ?z_reversed ?z_tuple ?z_isinstance ?z_bool ?z_str ?z_super ?z_ValueError
    (case a_is_variable => k_is)
    (case l_is_variable => k_is)
    (case c_is_variable => k_is)
    (case k_is_variable => k_is)
    (case a_positions => k_is)
    (case l_positions => k_is)
    (case c_positions => k_is)
    (case k_positions => k_is)
    (case a_subterm_at => k_is)
    (case l_subterm_at => k_is)
    (case c_subterm_at => k_is)
    (case k_subterm_at => k_is)
    (case a_path_to => k_is)
    (case l_path_to => k_is)
    (case c_path_to => k_is)
    (case k_path_to => k_is)
    (case a__law_draws => k_is)
    (case l__law_draws => k_is)
    (case c__law_draws => k_is)
    (case k__law_draws => k_is)
    (case a__law_take => k_is)
    (case l__law_take => k_is)
    (case c__law_take => k_is)
    (case k__law_take => k_is)
    (case a__law_words => k_is)
    (case l__law_words => k_is)
    (case c__law_words => k_is)
    (case k__law_words => k_is)
    (case a__law_variable => k_is)
    (case l__law_variable => k_is)
    (case c__law_variable => k_is)
    (case k__law_variable => k_is)
    (case a__law_term => k_is)
    (case l__law_term => k_is)
    (case c__law_term => k_is)
    (case k__law_term => k_is)
    (case a__law_same => k_is)
    (case l__law_same => k_is)
    (case c__law_same => k_is)
    (case k__law_same => k_is)
    (case a__law_walk => k_is)
    (case l__law_walk => k_is)
    (case c__law_walk => k_is)
    (case k__law_walk => k_is)
    (case a__law_refused => k_is)
    (case l__law_refused => k_is)
    (case c__law_refused => k_is)
    (case k__law_refused => k_is)
    (case a_law => k_is)
    (case l_law => k_is)
    (case c_law => k_is)
    (case k_law => k_is)
    (case aC_InvalidPosition => k_is)
    (case xC_InvalidPosition => k_is)
    (case hv_InvalidPosition => first | rfl | decide +kernel)
    (case sa_InvalidPosition => k_is)
    (case eC_InvalidPosition => k_is)
    (case tC_InvalidPosition => k_is)
    (case kC_InvalidPosition => k_is)
    (case up_InvalidPosition => ks_is)
    (case vs_InvalidPosition => k_is)
    (case ow_InvalidPosition => k_is)
    (case oq_InvalidPosition => k_is)
    (case iC_InvalidPosition => k_is)
    (case tI_InvalidPosition => k_is)
    (case lI_InvalidPosition => k_is)
    (case cI_InvalidPosition => k_is)
    (case lc_InvalidPosition => k_is)
    (case vf_InvalidPosition => rfl)
    (case hf_InvalidPosition => first | rfl | decide +kernel)
    (case ht_InvalidPosition => first | rfl | decide +kernel)
    (case ce_InvalidPositionx => k_is)
    (case no_InvalidPosition_position => k_is)
    (case ga_InvalidPosition => k_is)
    (case gg_InvalidPosition => k_is)
    (case hd_InvalidPosition => k_is)
    (case ic_InvalidPosition => k_is)
    (case cc_InvalidPositionc => k_is)
    (case cn_InvalidPosition => k_is)
    (case ck_InvalidPosition => k_is)
    (case mo_InvalidPosition => k_is)
    (case sC_InvalidPosition => first | rfl | k_is)
    (case gS => k_is)
    (case gL => k_is)
    (case gB => k_is)
    (case kS => first | k_is | (with_unfolding_all rfl) | (decide +kernel))
    (case kL => first | k_is | (with_unfolding_all rfl) | (decide +kernel))
    (case kB => first | k_is | (with_unfolding_all rfl) | (decide +kernel))
    (case kV => first | k_is | (with_unfolding_all rfl) | (decide +kernel))
    (case z_len => k_is)
    (case z_int => k_is)
    (case z_abs => k_is)
    (case z_range => k_is)
    (case z_list => k_is)
    (case z_reversed => k_is)
    (case z_tuple => k_is)
    (case z_isinstance => k_is)
    (case z_bool => k_is)
    (case z_str => k_is)
    (case z_super => k_is)
    (case z_ValueError => k_is)
    (case d_positions => k_is)
