import PyProof.Rows.All
import Wide.All
import OpenK.AllK
import Wide.FinOn
import HandS.ForMost
import HandS.Rev
import HandS.RevTup
import HandS.IsInst
import HandS.Style
import HandS.Conv
import HandS.Wide
import HandS.Flow
import HandS.ListEq
import HandS.More
import HandS.Codes
import HandS.FStr
import HandS.Zip
import HandS.Defaults
import HandS.DeepEq
import KE.SortData
import KE.DataCmp
import KE.KDictSum
import HandS.Deep
import KE.DatumOrd
import KE.KSortTupAny
import PySem.Challenge.RW_elenchus_k04_shifted_terms_and_symbols
set_option Elab.async false
set_option linter.all false
set_option maxRecDepth 100000
namespace Own
open PySem PySem.Spec PyProof.Rows L2 RT

/-! ### xs.extend(t), t a tuple -/
theorem ext_meets (l b : Addr) (xs ys : Array Value) (n m : Nat) (dd : Option Addr) (sl : Array (Option Value)) (long : ¬(!xs.isEmpty && Builtin.List.listTooLong (xs.size + ys.size)) = true) (hx : xs.size ≤ sizeLine) (hxy : xs.size + ys.size ≤ sizeLine + 1) :
    Meets (Builtin.«list.extend» ⟨[.ref l, .ref b], []⟩) (fun _ R s => s.heap.get? l = some { cls := .type "list", dict := none, data := .seq xs n, slots := #[] } ∧
      s.heap.get? b = some { cls := .type "tuple", dict := dd, data := .seq ys m, slots := sl } ∧ R (.ok (.ret Value.none)) { s with heap := s.heap.update l (Obj.mapSeq fun x => x ++ ys), toks := s.toks }) :=
  .of_wp fun prog w A R s h => by
    obtain ⟨hp, g, d, tk, os⟩ := s
    obtain ⟨h1, h2, h3⟩ := h
    have g1 := AutoSeq1.idx_int; have g2 := AutoSeq1.sub_tuple_tuple; have g3 := AutoSeq1.sub_list_list; have g4 := AutoSeq1.sub_tuple_list; have g5 := AutoSeq1.sub_list_tuple
    have fit : (xs ++ ys).size ≤ sizeLine + 1 := Array.size_append ▸ hxy
    wp_walk using (wpAny_updateSeq h1 rfl (hz := hx) (_hz' := fit)), AutoSeq1.wpAny_loadPart' h1, AutoSeq1.wpAny_loadPart' h2
    exact ⟨_, rfl, h3⟩
def rExtendT (K : PySem.W.Frag) : V → List V → Hp → VK → Prop := fun x vs H Q => ∃ l b xs zs, x = .ref l ∧ vs = [.ref b] ∧ H l = some (.lst xs) ∧ SqT K H b zs ∧ xs.length + zs.length ≤ sizeLine ∧ Q .non (upd H l (.lst (xs ++ zs)))
theorem mt_extendT {X : Cx} : MtR X "list.extend" (rExtendT X.K) := by
  intro pins s σ H x vs v us Q I rx rv h
  obtain ⟨l, b, xs, zs, rfl, rfl, hl, hb, fit, q⟩ := h
  cases rx
  obtain ⟨u, rfl, ru⟩ := rv.one
  cases ru
  obtain ⟨z, its, n, r, hlen, e⟩ := I.lstM hl
  obtain ⟨its2, r2, p2, z2⟩ := I.tuple hb
  obtain ⟨⟨c2, d2, dt2, sl2⟩, ho2, hc2, m2, hd2⟩ := id p2
  simp only at hc2 hd2
  subst hc2 hd2
  have e2 := r2.length
  have tot : its.toArray.size + its2.toArray.size ≤ sizeLine := by rw [List.size_toArray, List.size_toArray]; omega
  have notlong : ¬ (!its.toArray.isEmpty && Builtin.List.listTooLong (its.toArray.size + its2.toArray.size)) = true := by rw [notLongL tot, Bool.and_false]; exact Bool.false_ne_true
  refine call_meets PySem.F.slot_list_extend ⟨_, e, rfl⟩ PySem.F.entry_list_extend (PySem.F.args_list_extend_2 _ _) (ext_meets l b its.toArray its2.toArray n m2 d2 sl2 notlong (by rw [List.size_toArray]; omega) (by omega)) ⟨e, ho2, ?_⟩
  exact ⟨.non, _, I.lset (its' := its ++ its2) hl e (by simp) (r.append r2) (by rw [List.length_append]; omega), rfl, q⟩

/-! ### list(reversed(xs)) -/
section
variable {prog : Program} {w : World} {A : Around} {E : Value → Shared → Prop} {s : Shared}
theorem extend_rev {R : Result → Shared → Prop} {it l S : Addr} {items : Array Value} {res : Value} {c0 : Nat} (hh : A.handled = none) (hit : s.heap.IsRevIter it l ((items.size : Int) - 1)) (hl : s.heap.IsList l items) (hne : l ≠ it) (hn : items.size ≤ sizeLine)
    (hS : s.heap.get? S = some { cls := .type "list", data := .seq #[] c0 }) (hSi : S ≠ it) (hSl : S ≠ l)
    (hR : ∀ h' tk acc c', (∀ b o, b ≠ S → b ≠ it → s.heap.get? b = some o → h'.get? b = some o) → h'.get? S = some { cls := .type "list", dict := none, data := .seq acc c', slots := #[] } →
      ItemsOf (fun i v => items[items.size - 1 - i]? = some v) acc items.size → R (.ok (.ret res)) { s with heap := h', toks := tk }) :
    wpAny (model prog w) A.in1 (Builtin.List.listExtendWith (.ref S) (.ref it) res)
      (fun fin s' => match fin with | .done f => R (.ok f) s' | .again c' => c'.quiet = true ∧ codeAny (model prog w) A c' R s') (fun e s' => R (.error e) s') s := by
  have W := (Walks.listRev (prog := prog) (w := w) (A := A.in1) hh it l hne items).toS
  have hSf : S ∉ [it, l] := by simp only [List.mem_cons, List.not_mem_nil, or_false, not_or]; exact ⟨hSi, hSl⟩
  have hT : s.TypeIs (.ref it) "list_reverseiterator" := Heap.IsRevIter.typeIs hit
  have h1 : Builtin.List.listSameRef (.ref S) (.ref it) = false := by simp [Builtin.List.listSameRef, hSi]
  unfold Builtin.List.listExtendWith
  refine wpAny_bind (wpAny_typeOf hT ?_); rw [if_neg (by rw [h1]; decide)]
  refine wpAny_bind (wpAny_pyIter_revIter hit ?_); refine wpAny_bind (wpAny_holding ?_)
  unfold Builtin.List.listLengthHint
  refine wpAny_bind (wpAny_specialOf hT nolen_lri ?_); show wpAny _ A.in1 (specialOf (Value.ref it) (Str.ofString "__length_hint__") >>= _) _ _ s
  refine wpAny_bind (wpAny_specialOf hT hint_lri ?_); generalize hid : ("list_reverseiterator.__length_hint__" : String) = id0
  wp_delta
  rw [show splitId id0 = some ("list_reverseiterator", "__length_hint__") from by subst hid; decide +kernel]; subst hid
  refine wpAny_bind (wpAny_isInstance (b := true) hT (by rw [isSubtype_type]; kernel_rfl) ?_); refine wpAny_pure ?_; rw [if_neg (by decide)]
  have e0 : ((items.size : Nat) : Int) - 1 - ((0 : Nat) : Int) = (items.size : Int) - 1 := by omega
  refine wpAny_pure ⟨plainId_quiet F.plain_extend_loop _, codeAny_extend_loopS W hn S hSf res items.size 0 _ _ _ rfl (Nat.zero_le _) ⟨Nat.zero_le _, by rw [e0]; exact hit, hl⟩ hS (ItemsOf.nil _) fun s' acc' c' hm hS' hacc => ?_⟩
  rw [Moved.eq_with hm]
  refine hR s'.heap s'.toks acc' c' (fun b o hbS hbi e => hm.heap b o (fun hmem => ?_) e) hS' hacc
  rcases List.mem_cons.mp hmem with e' | hmem
  · exact hbS e'
  · exact hbi (List.mem_singleton.mp hmem)
theorem call_list_rev {it l : Addr} {items : Array Value} {Q : Value → Shared → Prop} (hh : A.handled = none) (hit : s.heap.IsRevIter it l ((items.size : Int) - 1)) (hl : s.heap.IsList l items) (hne : l ≠ it) (hn : items.size ≤ sizeLine)
    (hQ : ∀ h' tk acc c', (∀ b o, b ≠ it → s.heap.get? b = some o → h'.get? b = some o) → h'.get? s.heap.objs.size = some { cls := .type "list", dict := none, data := .seq acc c', slots := #[] } →
      ItemsOf (fun i v => items[items.size - 1 - i]? = some v) acc items.size → Q (.ref s.heap.objs.size) { s with heap := h', toks := tk }) :
    wpAny (model prog w) A (call (.type "list") [.ref it]) Q E s := by
  refine callType_codes (Q₁ := fun obj s₁ => obj = .ref s.heap.objs.size ∧ s₁ = { s with heap := s.heap.push { cls := .type "list", data := .seq #[] } }) PySem.F.called_list (PySem.F.typeCall_list_1 _) PySem.F.entry_list_init (code_list_new _ ⟨rfl, rfl⟩) fun obj s₁ h₁ => ?_
  obtain ⟨rfl, rfl⟩ := h₁
  have hS : (s.heap.push { cls := .type "list", data := .seq #[] }).get? s.heap.objs.size = some { cls := .type "list", data := .seq #[] } := Heap.get?_push_size _ rfl
  refine ⟨⟨_, hS, rfl⟩, PySem.F.args_list_init_2 _ _, ?_⟩
  obtain ⟨oi, hoi, _⟩ := id hit
  obtain ⟨ol, hol, _⟩ := id hl
  have nSi : s.heap.objs.size ≠ it := Nat.ne_of_gt (Heap.lt_size hoi)
  have nSl : s.heap.objs.size ≠ l := Nat.ne_of_gt (Heap.lt_size hol)
  have k0 : ∀ b o, s.heap.get? b = some o → ((s.heap.push { cls := .type "list", data := .seq #[] }).update s.heap.objs.size (Obj.mapSeq (fun _ => (#[] : Array Value)))).get? b = some o :=
    fun b o e => (Heap.get?_update_other _ _ (Nat.ne_of_gt (Heap.lt_size e))).trans (Heap.get?_push_of_some _ e)
  show wpAny _ _ (do let old ← Builtin.List.listItems (.ref s.heap.objs.size); Builtin.List.listUpdate (.ref s.heap.objs.size) (fun _ => #[]); letGo old.toList.reverse; Builtin.List.listExtendWith (.ref s.heap.objs.size) (.ref it) .none) _ _ _
  refine wpAny_bind ?_; unfold Builtin.List.listItems
  refine wpAny_bind (wpAny_seqItems hS rfl (wpAny_pure ?_))
  show wpAny _ _ (updateSeq s.heap.objs.size (fun _ => #[]) >>= fun _ => letGo (#[] : Array Value).toList.reverse >>= fun _ => Builtin.List.listExtendWith (.ref s.heap.objs.size) (.ref it) .none) _ _ _
  refine wpAny_bind (wpAny_updateSeq hS rfl ?_)
  refine wpAny_bind (wpAny_letGo ?_)
  refine extend_rev (A := A.in1) (l := l) (items := items) hh (hit.at fun o e => k0 _ _ e) ?_ hne hn (Heap.get?_update_self (Obj.mapSeq (fun _ => (#[] : Array Value))) hS rfl) nSi nSl fun h' tk acc c' hk hS' hacc => ?_
  · obtain ⟨o, ho, hc⟩ := id hl
    exact ⟨o, k0 _ _ ho, hc⟩
  · exact ⟨rfl, hQ h' tk acc c' (fun b o hb e => hk b o (Nat.ne_of_lt (Heap.lt_size e)) hb (k0 _ _ e)) hS' hacc⟩
end
def tListRev (K : PySem.W.Frag) (te : TE) : TE := fun σ H Q => te σ H fun v H1 => ∃ (a : Addr) (xs : List V), v = .ref a ∧ SqL K H1 a xs ∧ ∀ q, H1 q = none → Q (.ref q) (upd H1 q (.lst xs.reverse))
theorem pe_listRev {X : Cx} {e : Expr} {te : TE} {p p2 pos pos2 : Pos} (hc : X.calm = true) (hg : Gl X "list") (hm : X.mg "list" = none) (hg2 : Gl X "reversed") (hm2 : X.mg "reversed" = none) (he : PE X e te)
    (hs : starEach [e] X.env = (false, eval e X.env) :: starEach [] X.env := by rfl)
    (hs2 : starEach [.Call (.Name "reversed" p2) [e] [] pos2] X.env = (false, eval (.Call (.Name "reversed" p2) [e] [] pos2) X.env) :: starEach [] X.env := by rfl) :
    PE X (.Call (.Name "list" p) [.Call (.Name "reversed" p2) [e] [] pos2] [] pos) (tListRev X.K te) := by
  refine ⟨fun pins s σ H Q I h => ?_⟩
  refine Call_ (ld_blt I hg hm boot_list (callWith_type1 (args_cons (Call_ (ld_blt I hg2 hm2 boot_reversed (callWith_type1 (args_cons (thn (he.run pins s σ H _ I h) fun u s1 ⟨v, H1, I1, r1, q1⟩ => args_nil ?_) hs) hs rfl))) hs2) hs2 rfl))
  obtain ⟨a, xs, ev, hq, q⟩ := q1
  subst ev
  obtain rfl : u = Value.ref a := r1
  obtain ⟨its, rv, p', hz⟩ := I1.list hq
  refine call_reversed_list p'.isList (args_nil ?_)
  have k0 : ∀ b o, s1.heap.get? b = some o → (s1.heap.push (revObj a ((its.toArray.size : Int) - 1))).get? b = some o := fun b o e => Heap.get?_push_of_some _ e
  have I2 : Inv X pins σ H1 { s1 with heap := s1.heap.push (revObj a ((its.toArray.size : Int) - 1)) } := I1.kept (t' := s1.toks) k0
  obtain ⟨f0, f1, f2, f3, f4, f5⟩ := I1.fpOk (H' := H1) (b := s1.heap.objs.size) (Nat.le_refl _) (I1.hok.fresh (Nat.le_refl _))
  obtain ⟨ol, hol, _⟩ := id p'.isList
  have hne : a ≠ s1.heap.objs.size := Nat.ne_of_lt (Heap.lt_size hol)
  have hn : its.toArray.size ≤ sizeLine := by rw [List.size_toArray, ← rv.length]; exact hz
  refine call_list_rev (s := { s1 with heap := s1.heap.push (revObj a ((its.toArray.size : Int) - 1)) }) (I1.ok.hd hc) ⟨_, Heap.get?_push_size _ rfl, rfl, rfl⟩ (p'.isList.push _) hne hn fun h' tk acc c' hk hS' hi => ?_
  have kk : ∀ b o, s1.heap.get? b = some o → h'.get? b = some o := fun b o e => hk b o (Nat.ne_of_lt (Heap.lt_size e)) (k0 b o e)
  have hsz : (s1.heap.push (revObj a ((its.toArray.size : Int) - 1))).objs.size = s1.heap.objs.size + 1 := Heap.size_push ..
  have fresh : s1.heap.objs.size ≤ (s1.heap.push (revObj a ((its.toArray.size : Int) - 1))).objs.size := by rw [hsz]; exact Nat.le_succ _
  refine ⟨.ref _, upd H1 _ (.lst xs.reverse), I1.laid (t' := tk) kk fresh (show ObjOk X.prog X.w _ _ _ (.lst xs.reverse) from ⟨by rw [List.length_reverse]; exact hz, acc.toList, c', vals_rev rv hi, ?_⟩), rfl, q _ (I1.hok.fresh fresh)⟩
  rw [Array.toArray_toList]
  exact hS'
end Own
namespace Own
open PySem PySem.Spec PyProof.Rows L2 RT HT

/-! ### t[:0:-1], t a tuple: all but the first item, backwards -/
theorem adjust_back (n : Nat) (h : 0 < n) : Builtin.Slice.sliceAdjust none (some 0) (-1) (n : Int) = ((n : Int) - 1, 0) := by
  unfold Builtin.Slice.sliceAdjust
  have h1 : (-1 : Int) < 0 := by decide
  have h2 : ¬ ((0 : Int) < 0) := by decide
  simp only [h1, h2, if_true, if_false]
  refine Prod.ext rfl ?_
  show min (0 : Int) ((n : Int) - 1) = 0
  omega
theorem places_back (n : Nat) (h : 0 < n) : Builtin.Slice.slicePlaces ((n : Int) - 1) 0 (-1) = n - 1 := by
  unfold Builtin.Slice.slicePlaces
  have h1 : ¬ ((-1 : Int) > 0) := by decide
  simp only [h1, if_false]
  have e : (- -1 : Int) = 1 := by decide
  rw [e, Int.ediv_one]
  split <;> omega
theorem fm_congr {α β : Type} {f g : α → Option β} : ∀ l : List α, (∀ a ∈ l, f a = g a) → l.filterMap f = l.filterMap g
  | [], _ => rfl
  | a :: r, h => by
    rw [List.filterMap_cons, List.filterMap_cons, h a List.mem_cons_self, fm_congr r fun b hb => h b (List.mem_cons_of_mem _ hb)]
theorem pick_back (xs : Array Value) : ((List.range (xs.size - 1)).filterMap fun (m : Nat) => xs[(((xs.size : Int) - 1) + (m : Int) * (-1)).toNat]?).toArray = xs.toList.tail.reverse.toArray := by
  have e1 : (fun (m : Nat) => xs[(((xs.size : Int) - 1) + (m : Int) * (-1)).toNat]?) = fun m => xs[xs.size - 1 - m]? := by
    funext m
    have : (((xs.size : Int) - 1) + (m : Int) * (-1)).toNat = xs.size - 1 - m := by omega
    rw [this]
  rw [e1]
  congr 1
  have e2 : (List.range (xs.size - 1)).filterMap (fun m => xs[xs.size - 1 - m]?) = (List.range (xs.size - 1)).filterMap (fun m => xs.toList.tail.reverse[m]?) := by
    apply fm_congr
    intro m hm
    have hm := List.mem_range.mp hm
    have hl : xs.toList.tail.length = xs.size - 1 := by rw [List.length_tail, Array.length_toList]
    rw [List.getElem?_reverse (by omega), hl, List.getElem?_tail, Array.getElem?_toList]
    try (congr 1; omega)
  rw [e2]
  have hl : xs.toList.tail.reverse.length = xs.size - 1 := by rw [List.length_reverse, List.length_tail, Array.length_toList]
  rw [← hl]
  generalize xs.toList.tail.reverse = ys
  have q := PySem.W.krv_all ys.toArray
  simpa using q
section
variable {prog : Program} {w : World} {A : Around} {E : Value → Shared → Prop} {s : Shared}
theorem sliceApplied_back {sl : Addr} {vl vu vs : Value} {n : Nat} {Q : Int × Int × Nat → Shared → Prop} (hn : 0 < n) (hs : s.heap.IsSliceOf sl vl vu vs) (pl : IsPart vl none) (pu : IsPart vu (some 0)) (ps : IsPart vs (some (-1)))
    (h : Q ((n : Int) - 1, -1, n - 1) s) : wpAny (model prog w) A (Builtin.Slice.sliceApplied (.ref sl) (pure (n : Int))) Q E s := by
  obtain ⟨os, hos, hcs, hds⟩ := id hs
  unfold Builtin.Slice.sliceApplied Builtin.Slice.sliceFields
  refine wpAny_bind (wpAny_bind (wpAny_field hos hds (x := vl) rfl (wpAny_bind (wpAny_field hos hds (x := vu) rfl (wpAny_bind (wpAny_field hos hds (x := vs) rfl (wpAny_pure ?_)))))))
  refine wpAny_bind (slicePart_ ps ?_); show wpAny _ _ (if ((-1 : Int) == 0) = true then _ else _) _ _ s; rw [if_neg (by decide)]
  refine wpAny_bind (slicePart_ pl (wpAny_bind (slicePart_ pu (wpAny_bind (wpAny_pure ?_)))))
  show wpAny _ _ (match Builtin.Slice.sliceAdjust none (some 0) (-1) (n : Int) with | (lo, hi) => pure (lo, (-1 : Int), Builtin.Slice.slicePlaces lo hi (-1))) _ _ s
  rw [adjust_back n hn]
  show wpAny _ _ (pure ((n : Int) - 1, (-1 : Int), Builtin.Slice.slicePlaces ((n : Int) - 1) 0 (-1))) _ _ s
  rw [places_back n hn]
  exact wpAny_pure h
theorem getItem_tuple_back {t sl : Addr} {items : Array Value} {vl vu vs : Value} {Q : Value → Shared → Prop} (ht : IsTup s.heap t items) (hs : s.heap.IsSliceOf sl vl vu vs) (pl : IsPart vl none) (pu : IsPart vu (some 0)) (ps : IsPart vs (some (-1)))
    (hn : 0 < items.size) (h : Q (.ref s.heap.objs.size) { s with heap := s.heap.push { cls := .type "tuple", data := .seq items.toList.tail.reverse.toArray } })
    (hsz : items.size ≤ sizeLine) : wpAny (model prog w) A (getItem (.ref t) (.ref sl)) Q E s := by
  have fit : sizeOk (.seq items.toList.tail.reverse.toArray) := by
    show items.toList.tail.reverse.toArray.size ≤ sizeLine
    rw [List.size_toArray, List.length_reverse, List.length_tail, Array.length_toList]; omega
  obtain ⟨os, hos, hcs, hds⟩ := id hs
  have hTs : s.TypeIs (.ref sl) "slice" := ⟨os, hos, hcs⟩
  unfold getItem
  try with_reducible refine wpAny_holding ?_
  first | refine wpAny_bind (wpAny_pure ?_) | skip
  refine wpAny_bind (wpAny_sequenceKey ht.typeIs (by decide) ?_)
  refine wpAny_bind (wpAny_callSpecial?_slot (name := Str.ofString "__getitem__") ht.typeIs slot_tuple_getitem (wpAny_call_entry slot_tuple_getitem ht.typeIs entry_tuple_getitem ?_ (args_tuple_getitem _ _)))
  show wpAny _ _ (Builtin.Tuple.tupleItemsOf (.ref t) >>= _) _ _ s; refine wpAny_bind (tupleItemsOf_ ht ?_)
  refine wpAny_bind (wpAny_typeOf hTs ?_); rw [if_pos (by decide)]
  refine wpAny_bind (sliceApplied_back hn hs pl pu ps ?_)
  show wpAny _ _ (if (((items.size : Int) - 1) == 0 && (-1 : Int) == 1 && (items.size - 1) == items.size) = true then _ else _) _ _ s
  rw [if_neg (by simp), pick_back]
  first
    | exact wpAny_bind (m := Builtin.Tuple.tupleExact _) (wpAny_newObj_type (wpAny_pure ⟨_, rfl, wpAny_pure h⟩) fit)
    | exact wpAny_bind (m := Builtin.Tuple.tupleExact _) (wpAny_newObj_type (wpAny_bind (wpAny_pure (wpAny_pure ⟨_, rfl, wpAny_pure h⟩))) fit)
    | exact wpAny_bind (wpAny_bind (m := Builtin.Tuple.tupleExact _) (wpAny_newObj_type (wpAny_pure (wpAny_pure ⟨_, rfl, wpAny_pure h⟩)) fit))
    | exact wpAny_bind (wpAny_bind (m := Builtin.Tuple.tupleExact _) (wpAny_newObj_type (wpAny_pure ⟨_, rfl, wpAny_pure h⟩) fit))
end
def tSlBack (K : PySem.W.Frag) (te : TE) : TE := fun σ H Q => te σ H fun x H1 => ∃ a y xs, x = .ref a ∧ SqT K H1 a (y :: xs) ∧ ∀ p, H1 p = none → Q (.ref p) (upd H1 p (.tup xs.reverse))
theorem pe_slBack {X : Cx} {e : Expr} {te : TE} {k0 k1 : Nat} {p0 p1 p2 p3 pos : Pos} (he : PE X e te) :
    PE X (.Subscript e (.Slice none (some (.Constant (.int 0) k0 p0)) (some (.UnaryOp .USub (.Constant (.int 1) k1 p1) p2)) p3) pos) (tSlBack X.K te) := by
  refine ⟨fun pins s σ H Q I h => ?_⟩
  refine Subscript_ (thn (he.run pins s σ H _ I h) fun v s1 ⟨x, H1, I1, r1, q1⟩ => ?_)
  obtain ⟨a, y, xs, ex, hx, q⟩ := q1
  subst ex
  cases r1
  have hhi : PO X (some (.Constant (.int 0) k0 p0)) (tPart (tC (.int 0))) := po_some pe_int
  have hst : PO X (some (.UnaryOp .USub (.Constant (.int 1) k1 p1) p2)) (tPart (tUn (rU fun i => .int (-i)) (tC (.int 1)))) := po_some (pe_un un_neg pe_int)
  refine wpAny_Slice (thn (po_none.run pins s1 σ H1 (fun o H2 => o = none ∧ H2 = H1) I1 ⟨rfl, rfl⟩) fun vl s2 ⟨l, H2, I2, pl, el, e2⟩ => ?_)
  subst el e2
  refine thn (hhi.run pins s2 σ H2 (fun o H3 => o = some 0 ∧ H3 = H2) I2 ⟨0, rfl, rfl, rfl⟩) fun vu s3 ⟨u, H3, I3, pu, eu, e3⟩ => ?_
  subst eu e3
  refine thn (hst.run pins s3 σ H3 (fun o H4 => o = some (-1) ∧ H4 = H3) I3 ⟨1, rfl, -1, rfl, rfl, rfl⟩) fun vs s4 ⟨o, H4, I4, ps, eo, e4⟩ => ?_
  subst eo e4
  have I5 : Inv X pins σ H4 { s4 with heap := s4.heap.push { cls := .type "slice", data := .fields #[vl, vu, vs] } } := I4.kept (t' := s4.toks) fun b ob q => Heap.get?_push_of_some _ q
  obtain ⟨its, r, ht, hz⟩ := I5.tuple hx
  have hlen := r.length
  rw [List.length_cons] at hlen hz
  show wpAny (model X.prog X.w) X.A (subscriptTail e (.Slice none (some (.Constant (.int 0) k0 p0)) (some (.UnaryOp .USub (.Constant (.int 1) k1 p1) p2)) p3) (.ref a) (.ref s4.heap.objs.size)) (EP X pins σ Q) X.xe { s4 with heap := s4.heap.push { cls := .type "slice", data := .fields #[vl, vu, vs] } }
  refine tail_any (ops := [.ref a, .ref s4.heap.objs.size]) ht.typeIs slot_tuple_getitem.lookup ?_ (by with_unfolding_all rfl)
  refine getItem_tuple_back ht (Heap.IsSliceOf.new _ vl vu vs) pl pu ps (by rw [List.size_toArray]; omega) ?_ (by rw [List.size_toArray]; omega)
  have rt : Vals xs its.tail := by
    cases r with
    | cons _ t => exact t
  refine ⟨.ref _, _, I5.laid (t' := s4.toks) (o := .tup xs.reverse) (fun b ob q => Heap.get?_push_of_some _ q) (Nat.le_refl _) ?_, rfl, q _ (I5.hok.fresh (Nat.le_refl _))⟩
  exact ⟨by rw [List.length_reverse]; omega, _, rt.reverse, IsTup.new _ _⟩
end Own
namespace Own
open PySem PySem.Spec PyProof.Rows L2 RT HT

/-! ### heaps: all but one object stays; tuples stay -/
def But (d : Addr) (H H' : Hp) : Prop := ∀ b o, b ≠ d → H b = some o → H' b = some o
theorem But.refl (d : Addr) (H : Hp) : But d H H := fun _ _ _ e => e
theorem But.trans {d : Addr} {H H1 H2 : Hp} (a : But d H H1) (b : But d H1 H2) : But d H H2 := fun c o n e => b c o n (a c o n e)
theorem But.upd {d : Addr} {H : Hp} {o : HO} : But d H (upd H d o) := fun b u n e => by rw [upd_ne n]; exact e
theorem same_new {H : Hp} {p : Addr} (h : H p = none) (o : HO) : Same H (upd H p o) := fun b u e => by rw [upd_ne (ne_of_none e h)]; exact e
theorem _root_.L2.Same.but {d : Addr} {H H' : Hp} (a : Same H H') : But d H H' := fun b o _ e => a b o e
/-- a change of what is new is no change -/
theorem But.same {d : Addr} {H H1 H2 : Hp} (n : H d = none) (a : Same H H1) (b : But d H1 H2) : Same H H2 := fun c o e => b c o (ne_of_none e n) (a c o e)
theorem But.free {d : Addr} {H H' : Hp} (a : But d H H') {p : Addr} (n : p ≠ d) (h : H' p = none) : H p = none := by
  cases e : H p with
  | none => rfl
  | some o => rw [a p o n e] at h; cases h
def Tups (H H' : Hp) : Prop := ∀ b xs, H b = some (.tup xs) → H' b = some (.tup xs)
theorem Tups.trans {H H1 H2 : Hp} (a : Tups H H1) (b : Tups H1 H2) : Tups H H2 := fun c xs e => b c xs (a c xs e)
theorem Tups.refl (H : Hp) : Tups H H := fun _ _ e => e
theorem _root_.L2.Same.tups {H H' : Hp} (a : Same H H') : Tups H H' := fun b xs e => a b _ e
theorem But.tups {d : Addr} {H H' : Hp} {ys : List V} (a : But d H H') (h : H d = some (.lst ys)) : Tups H H' := fun b xs e => a b _ (ne_of e h (by intro z; cases z)) e
theorem tups_upd {H : Hp} {d : Addr} {ys : List V} {o : HO} (h : H d = some (.lst ys)) : Tups H (upd H d o) := But.upd.tups h
theorem tups_updD {H : Hp} {d : Addr} {ys : List (Key × V)} {o : HO} (h : H d = some (.dK ys)) : Tups H (upd H d o) := fun b xs e => by rw [upd_ne (ne_of e h (by intro z; cases z))]; exact e

/-! ### terms -/
inductive Ter where
  | var (k : Key)
  | ap (f : Str) (as : List Ter)
mutual
def Ter.size : Ter → Nat
  | .var _ => 1
  | .ap _ as => Ter.sizes as + 1
def Ter.sizes : List Ter → Nat
  | [] => 0
  | a :: r => a.size + Ter.sizes r
end
mutual
def Ter.nest : Ter → Nat
  | .var _ => 1
  | .ap _ as => Ter.nests as + 1
def Ter.nests : List Ter → Nat
  | [] => 0
  | a :: r => max a.nest (Ter.nests r)
end
mutual
def Ter.ground : Ter → Bool
  | .var _ => false
  | .ap _ as => Ter.grounds as
def Ter.grounds : List Ter → Bool
  | [] => true
  | a :: r => a.ground && Ter.grounds r
end
def Ter.isVar : Ter → Bool
  | .var _ => true
  | .ap _ _ => false
theorem Ter.size_pos : ∀ t : Ter, 1 ≤ t.size
  | .var _ => Nat.le_refl _
  | .ap _ _ => Nat.le_add_left _ _
theorem Ter.sizes_len : ∀ ts : List Ter, ts.length ≤ Ter.sizes ts
  | [] => Nat.zero_le _
  | a :: r => by
    have h1 := a.size_pos
    have h2 := Ter.sizes_len r
    show r.length + 1 ≤ a.size + Ter.sizes r
    omega
theorem Ter.sizes_app : ∀ (as bs : List Ter), Ter.sizes (as ++ bs) = Ter.sizes as + Ter.sizes bs
  | [], bs => by show Ter.sizes bs = 0 + Ter.sizes bs; omega
  | a :: r, bs => by
    show a.size + Ter.sizes (r ++ bs) = a.size + Ter.sizes r + Ter.sizes bs
    rw [Ter.sizes_app r bs]
    omega
mutual
inductive TmAt (H : Hp) : V → Ter → Prop
  | int (i : Int) : TmAt H (.int i) (.var (.inl i))
  | str (x : Str) : TmAt H (.str x) (.var (.inr x))
  | ap {p : Addr} {f : Str} {xs : List V} {as : List Ter} : H p = some (.tup (.str f :: xs)) → TmAll H xs as → TmAt H (.ref p) (.ap f as)
inductive TmAll (H : Hp) : List V → List Ter → Prop
  | nil : TmAll H [] []
  | cons {v : V} {vs : List V} {t : Ter} {ts : List Ter} : TmAt H v t → TmAll H vs ts → TmAll H (v :: vs) (t :: ts)
end
mutual
theorem TmAt.mono {H H' : Hp} (m : Tups H H') : ∀ (t : Ter) (v : V), TmAt H v t → TmAt H' v t
  | .var _, _, h => by
    cases h with
    | int i => exact .int i
    | str x => exact .str x
  | .ap f as, _, h => by
    cases h with
    | ap e hs => exact .ap (m _ _ e) (TmAll.mono m as _ hs)
theorem TmAll.mono {H H' : Hp} (m : Tups H H') : ∀ (ts : List Ter) (vs : List V), TmAll H vs ts → TmAll H' vs ts
  | [], _, h => by cases h; exact .nil
  | t :: ts, _, h => by
    cases h with
    | cons h1 h2 => exact .cons (TmAt.mono m t _ h1) (TmAll.mono m ts _ h2)
end
theorem TmAll.len {H : Hp} : ∀ {vs : List V} {ts : List Ter}, TmAll H vs ts → vs.length = ts.length
  | _, _, .nil => rfl
  | _, _, .cons _ t => congrArg (· + 1) t.len
theorem TmAll.app {H : Hp} : ∀ {vs ws : List V} {ts us : List Ter}, TmAll H vs ts → TmAll H ws us → TmAll H (vs ++ ws) (ts ++ us)
  | _, _, _, _, .nil, h => h
  | _, _, _, _, .cons a r, h => .cons a (r.app h)
theorem TmAll.rev {H : Hp} : ∀ {vs : List V} {ts : List Ter}, TmAll H vs ts → TmAll H vs.reverse ts.reverse
  | _, _, .nil => .nil
  | _, _, .cons a r => by
    rw [List.reverse_cons, List.reverse_cons]
    exact r.rev.app (.cons a .nil)
theorem TmAll.get {H : Hp} : ∀ {vs : List V} {ts : List Ter} {i : Nat} {v : V}, TmAll H vs ts → vs[i]? = some v → ∃ t, ts[i]? = some t ∧ TmAt H v t
  | _, _, _, _, .nil, e => by simp at e
  | _, _, 0, _, .cons a r, e => by
    simp at e
    subst e
    exact ⟨_, rfl, a⟩
  | _, _, i + 1, v, .cons a r, e => by
    obtain ⟨t, h1, h2⟩ := TmAll.get (i := i) (v := v) r (by simpa using e)
    exact ⟨t, by simpa using h1, h2⟩
/-- the last one -/
theorem TmAll.last {H : Hp} {vs : List V} {ts : List Ter} (h : TmAll H vs ts) (hv : vs ≠ []) : ∃ vs' v ts' t, vs = vs' ++ [v] ∧ ts = ts' ++ [t] ∧ TmAll H vs' ts' ∧ TmAt H v t := by
  have r := h.rev
  cases e1 : vs.reverse with
  | nil => exact absurd (List.reverse_eq_nil_iff.mp e1) hv
  | cons v vr =>
    cases e2 : ts.reverse with
    | nil => rw [e1, e2] at r; cases r
    | cons t tr =>
      rw [e1, e2] at r
      cases r with
      | cons a q =>
        refine ⟨vr.reverse, v, tr.reverse, t, ?_, ?_, q.rev, a⟩
        · rw [← List.reverse_reverse (as := vs), e1, List.reverse_cons]
        · rw [← List.reverse_reverse (as := ts), e2, List.reverse_cons]

/-! ### readings that come often -/
/-- isinstance(v, tuple), v a term -/
def rIsiTer : List V → Hp → VK → Prop := fun xs H Q => ∃ (v : V) (t : Ter), xs = [v, .ty "tuple"] ∧ TmAt H v t ∧ Q (.bl (!t.isVar)) H
theorem call_isiTer {X : Cx} : CallR X (.builtin "isinstance") rIsiTer := by
  intro pins s σ H xs us Q I r h
  obtain ⟨v, t, rfl, h, q⟩ := h
  refine call_isi pins s σ H _ us Q I r ?_
  cases h with
  | int i => exact ⟨_, _, _, _, false, rfl, .ty _, .base (.int i), kit_ty (by decide +kernel), q⟩
  | str x => exact ⟨_, _, _, _, false, rfl, .ty _, .base (.str x), kit_ty (by decide +kernel), q⟩
  | ap e _ => exact ⟨_, _, _, _, true, rfl, .ty _, .base (.tup e), kit_ty (by decide +kernel), q⟩
theorem cut_1 (y : V) (ys : List V) : cutV (y :: ys) (some 1) none = ys := by
  unfold cutV
  rw [show HT.sIx (y :: ys).length 0 (some 1) = min 1 (y :: ys).length from HT.sIx_nat (y :: ys).length 0 1, HT.sIx_none, List.length_cons, show min 1 (ys.length + 1) = 1 by omega]
  show List.take (ys.length + 1 - 1) ys = ys
  rw [Nat.add_sub_cancel]
  exact List.take_length
/-- t[1:] of a tuple that is not empty -/
def rSl1 (K : PySem.W.Frag) : V → Option Int → Option Int → Hp → VK → Prop := fun x lo hi H Q => ∃ a y ys, x = .ref a ∧ lo = some 1 ∧ hi = none ∧ SqT K H a (y :: ys) ∧ ∀ p, H p = none → Q (.ref p) (upd H p (.tup ys))
theorem sl_1 {X : Cx} : SlR X (rSl1 X.K) := by
  intro pins s σ H x v vl vu lo hi sl Q I rx hs pl pu h
  obtain ⟨a, y, ys, rfl, rfl, rfl, e, q⟩ := h
  refine sl_tup pins s σ H _ v vl vu _ _ sl Q I rx hs pl pu ⟨a, _, rfl, e, fun ⟨z, _⟩ => ?_, fun p hp => ?_⟩
  · rw [show HT.sIx (y :: ys).length 0 (some 1) = min 1 (y :: ys).length from HT.sIx_nat (y :: ys).length 0 1, List.length_cons] at z
    omega
  · rw [cut_1]
    exact q p hp
/-- xs.pop(), the last item told -/
def rPopL : V → List V → Hp → VK → Prop := fun x xs H Q => ∃ (l : Addr) (vs : List V) (v : V), x = .ref l ∧ xs = [] ∧ H l = some (.lst (vs ++ [v])) ∧ Q v (upd H l (.lst vs))
theorem mt_popL {X : Cx} : MtR X "list.pop" rPopL := by
  intro pins s σ H x xs v us Q I rx rxs h
  obtain ⟨l, vs, y, rfl, rfl, e, q⟩ := h
  refine mt_pop pins s σ H _ _ v us Q I rx rxs ⟨l, _, y, rfl, rfl, e, ?_, ?_⟩
  · rw [List.length_append, List.length_singleton, Nat.add_sub_cancel]
    exact List.getElem?_concat_length
  · rw [List.dropLast_concat]
    exact q
theorem tyl {K : PySem.W.Frag} {H : Hp} {l : Addr} {vs : List V} (h : H l = some (.lst vs)) : tyV K "list" (.ref l) H := .inl ⟨rfl, _, .inl (.inl h)⟩
theorem tru_l {K : PySem.W.Frag} {H : Hp} {l : Addr} {vs : List V} (h : H l = some (.lst vs)) : TruV K (.ref l) H (!vs.isEmpty) := .inl ⟨vs, .inl (.inl h), rfl⟩
theorem small6 {n : Nat} (h : n ≤ 1000000) : n ≤ sizeLine := Nat.le_trans h (by decide)
theorem small6' {n : Nat} (h : n ≤ 1000000) : n < sizeLine := Nat.lt_of_le_of_lt h (by decide)
end Own
namespace Own
open PySem PySem.Spec PyProof.Rows L2 RT HT

/-! ### walks within a comprehension, the turn's body any -/
theorem walk_l {K : PySem.W.Frag} {a : Addr} {xs : List V} {H0 : Hp} {Qd : Hp → Prop} {body : (Hp → Prop) → V → Hp → Prop} (Pv : Nat → Hp → Prop) (h0 : Pv 0 H0) (hl : ∀ i H, i ≤ xs.length → Pv i H → SqL K H a xs)
    (hs : ∀ i x H, xs[i]? = some x → Pv i H → body (Pv (i + 1)) x H) (hd : ∀ H, Pv xs.length H → Qd H) :
    ∃ W : Nat → Nat → Hp → Prop, (∃ m, W 0 m H0) ∧ ∀ i m H, W i m H → ((Itl K a).stop i H ∧ Qd H) ∨ ((Itl K a).go i H ∧ ∃ Nx : Hp → Prop, (∀ H', Nx H' → ∃ m', m' < m ∧ W (i + 1) m' H') ∧ ∀ x H', (Itl K a).yld i H x H' → body Nx x H') := by
  refine ⟨fun i m H => m = xs.length - i ∧ i ≤ xs.length ∧ Pv i H, ⟨xs.length, by simp, Nat.zero_le _, h0⟩, ?_⟩
  rintro i m H ⟨rfl, hi, p⟩
  have q := hl i H hi p
  by_cases hlt : i < xs.length
  · refine .inr ⟨⟨xs, xs[i], q, by simp [hlt]⟩, Pv (i + 1), fun H' p' => ⟨xs.length - (i + 1), by omega, rfl, hlt, p'⟩, fun x H' y => ?_⟩
    obtain ⟨e, y⟩ := y
    subst e
    exact hs i x _ (y xs q) p
  · have e : i = xs.length := by omega
    subst e
    exact .inl ⟨⟨xs, q, Nat.le_refl _⟩, hd H p⟩
theorem walk_t {K : PySem.W.Frag} {a : Addr} {xs : List V} {H0 : Hp} {Qd : Hp → Prop} {body : (Hp → Prop) → V → Hp → Prop} (Pv : Nat → Hp → Prop) (h0 : Pv 0 H0) (hl : ∀ i H, i ≤ xs.length → Pv i H → SqT K H a xs)
    (hs : ∀ i x H, xs[i]? = some x → Pv i H → body (Pv (i + 1)) x H) (hd : ∀ H, Pv xs.length H → Qd H) :
    ∃ W : Nat → Nat → Hp → Prop, (∃ m, W 0 m H0) ∧ ∀ i m H, W i m H → ((Itt K a).stop i H ∧ Qd H) ∨ ((Itt K a).go i H ∧ ∃ Nx : Hp → Prop, (∀ H', Nx H' → ∃ m', m' < m ∧ W (i + 1) m' H') ∧ ∀ x H', (Itt K a).yld i H x H' → body Nx x H') := by
  refine ⟨fun i m H => m = xs.length - i ∧ i ≤ xs.length ∧ Pv i H, ⟨xs.length, by simp, Nat.zero_le _, h0⟩, ?_⟩
  rintro i m H ⟨rfl, hi, p⟩
  have q := hl i H hi p
  by_cases hlt : i < xs.length
  · refine .inr ⟨⟨xs, xs[i], q, by simp [hlt]⟩, Pv (i + 1), fun H' p' => ⟨xs.length - (i + 1), by omega, rfl, hlt, p'⟩, fun x H' y => ?_⟩
    obtain ⟨e, y⟩ := y
    subst e
    exact hs i x _ (y xs q) p
  · have e : i = xs.length := by omega
    subst e
    exact .inl ⟨⟨xs, q, Nat.le_refl _⟩, hd H p⟩

/-! ### what the functions of terms compute -/
def Ter.args : Ter → List Ter
  | .var _ => []
  | .ap _ as => as
def argsOf (ts : List Ter) : List Ter := ts.flatMap Ter.args
theorem argsOf_app (as bs : List Ter) : argsOf (as ++ bs) = argsOf as ++ argsOf bs := List.flatMap_append
theorem argsOf_take {ts : List Ter} {i : Nat} {t : Ter} (h : ts[i]? = some t) : argsOf (ts.take (i + 1)) = argsOf (ts.take i) ++ t.args := by
  rw [List.take_add_one, h, argsOf_app]
  show _ ++ ([t].flatMap Ter.args) = _
  rw [List.flatMap_cons, List.flatMap_nil, List.append_nil]
theorem sizes_argsOf : ∀ ts : List Ter, Ter.sizes (argsOf ts) + ts.length = Ter.sizes ts
  | [] => rfl
  | .var k :: r => by
    have ih := sizes_argsOf r
    show Ter.sizes (argsOf r) + (r.length + 1) = 1 + Ter.sizes r
    omega
  | .ap f as :: r => by
    have ih := sizes_argsOf r
    show Ter.sizes (as ++ argsOf r) + (r.length + 1) = Ter.sizes as + 1 + Ter.sizes r
    rw [Ter.sizes_app]
    omega
theorem nests_app : ∀ (as bs : List Ter), Ter.nests (as ++ bs) = max (Ter.nests as) (Ter.nests bs)
  | [], bs => by show Ter.nests bs = max 0 _; omega
  | a :: r, bs => by
    show max a.nest (Ter.nests (r ++ bs)) = max (max a.nest (Ter.nests r)) (Ter.nests bs)
    rw [nests_app r bs]
    omega
theorem Ter.nest_pos : ∀ t : Ter, 1 ≤ t.nest
  | .var _ => Nat.le_refl _
  | .ap _ _ => Nat.le_add_left _ _
theorem nests_argsOf : ∀ ts : List Ter, ts ≠ [] → Ter.nests (argsOf ts) + 1 = Ter.nests ts
  | [], h => absurd rfl h
  | [.var k], _ => rfl
  | [.ap f as], _ => by
    show Ter.nests (as ++ []) + 1 = max (Ter.nests as + 1) 0
    rw [List.append_nil]
    omega
  | .var k :: b :: r, _ => by
    have ih := nests_argsOf (b :: r) (by simp)
    have p := b.nest_pos
    have e : Ter.nests (b :: r) = max b.nest (Ter.nests r) := rfl
    show Ter.nests (argsOf (b :: r)) + 1 = max 1 (Ter.nests (b :: r))
    omega
  | .ap f as :: b :: r, _ => by
    have ih := nests_argsOf (b :: r) (by simp)
    show Ter.nests (as ++ argsOf (b :: r)) + 1 = max (Ter.nests as + 1) (Ter.nests (b :: r))
    rw [nests_app]
    omega
def hasK (acc : List Key) (k : Key) : Bool := acc.any fun x => decide (x = k)
theorem hasK_iff {acc : List Key} {k : Key} : hasK acc k = true ↔ k ∈ acc := by
  unfold hasK
  rw [List.any_eq_true]
  constructor
  · rintro ⟨x, hx, h⟩
    have h : x = k := of_decide_eq_true h
    exact h ▸ hx
  · intro h
    exact ⟨k, h, decide_eq_true rfl⟩
def addK (acc : List Key) (k : Key) : List Key := if hasK acc k = true then acc else acc ++ [k]
mutual
def Ter.into (acc : List Key) : Ter → List Key
  | .var k => addK acc k
  | .ap _ as => Ter.intos acc as
def Ter.intos (acc : List Key) : List Ter → List Key
  | [] => acc
  | a :: r => Ter.intos (Ter.into acc a) r
end
theorem intos_app : ∀ (as bs : List Ter) (acc : List Key), Ter.intos acc (as ++ bs) = Ter.intos (Ter.intos acc as) bs
  | [], _, _ => rfl
  | a :: r, bs, acc => intos_app r bs (Ter.into acc a)
def Ter.vars (t : Ter) : List Key := Ter.into [] t
def yes (k : Key) : Key × V := (k, .bl true)
theorem put_yes (acc : List Key) (k : Key) : putK (acc.map yes) k (.bl true) = (addK acc k).map yes := by
  unfold putK addK
  have e : ((acc.map yes).any fun kv => decide (kv.1 = k)) = hasK acc k := by
    rw [List.any_map]
    rfl
  rw [e]
  by_cases hk : hasK acc k = true
  · rw [if_pos hk, if_pos hk, List.map_map]
    apply List.map_congr_left
    intro x _
    show (if x = k then (x, V.bl true) else (x, V.bl true)) = (x, V.bl true)
    split <;> rfl
  · rw [if_neg hk, if_neg hk, List.map_append]
    rfl
theorem addK_len (acc : List Key) (k : Key) : (addK acc k).length ≤ acc.length + 1 := by
  unfold addK
  split
  · omega
  · rw [List.length_append, List.length_singleton]; omega
theorem yes_keys (acc : List Key) : (acc.map yes).map (fun kv => kV kv.1) = acc.map kV := by
  rw [List.map_map]
  rfl
theorem addK_ne (acc : List Key) (k : Key) : addK acc k ≠ [] := by
  unfold addK
  split
  · rename_i h
    intro z
    rw [z] at h
    exact absurd (show false = true from h) Bool.false_ne_true
  · simp
mutual
theorem into_ne : ∀ (t : Ter) (acc : List Key), acc ≠ [] ∨ t.ground = false → Ter.into acc t ≠ []
  | .var k, acc, _ => addK_ne acc k
  | .ap f as, acc, h => intos_ne as acc h
theorem intos_ne : ∀ (ts : List Ter) (acc : List Key), acc ≠ [] ∨ Ter.grounds ts = false → Ter.intos acc ts ≠ []
  | [], acc, h => h.resolve_right (by intro z; cases z)
  | a :: r, acc, h => by
    refine intos_ne r _ ?_
    rcases h with h | h
    · exact .inl (into_ne a acc (.inl h))
    · have h : (a.ground && Ter.grounds r) = false := h
      cases ha : a.ground with
      | false => exact .inl (into_ne a acc (.inr ha))
      | true =>
        rw [ha] at h
        exact .inr h
end
mutual
theorem into_ground : ∀ (t : Ter) (acc : List Key), t.ground = true → Ter.into acc t = acc
  | .var k, _, h => by cases h
  | .ap f as, acc, h => intos_ground as acc h
theorem intos_ground : ∀ (ts : List Ter) (acc : List Key), Ter.grounds ts = true → Ter.intos acc ts = acc
  | [], _, _ => rfl
  | a :: r, acc, h => by
    have h : (a.ground && Ter.grounds r) = true := h
    rw [Bool.and_eq_true] at h
    show Ter.intos (Ter.into acc a) r = acc
    rw [into_ground a acc h.1, intos_ground r acc h.2]
end
theorem vars_nil (t : Ter) : decide (t.vars = []) = t.ground := by
  cases h : t.ground with
  | true => exact decide_eq_true (into_ground t [] h)
  | false => exact decide_eq_false (into_ne t [] (.inr h))
end Own
namespace Own
open PySem PySem.Spec PyProof.Rows L2 RT HT

/-! ### a list of ints at d, whatever they are -/
def Ints (H : Hp) (d : Addr) : Prop := ∃ ms : List Int, ms.length ≤ 100000 ∧ H d = some (.lst (ms.map V.int))
theorem Ints.lst {H : Hp} {d : Addr} (h : Ints H d) : ∃ vs, H d = some (.lst vs) := by
  obtain ⟨ms, _, e⟩ := h
  exact ⟨_, e⟩
theorem But.tupsI {d : Addr} {H H' : Hp} (a : But d H H') (h : Ints H d) : Tups H H' := by
  obtain ⟨ms, _, e⟩ := h
  exact a.tups e
theorem Ints.ne {H : Hp} {d p : Addr} (h : Ints H d) (n : H p = none) : p ≠ d := by
  obtain ⟨ms, _, e⟩ := h
  exact (ne_of_none e n).symm
theorem Ints.of_but {H H' : Hp} {d p : Addr} (h : Ints H d) (b : But p H H') (n : d ≠ p) : Ints H' d := by
  obtain ⟨ms, l, e⟩ := h
  exact ⟨ms, l, b d _ n e⟩
theorem Ints.same {H H' : Hp} {d : Addr} (h : Ints H d) (b : Same H H') : Ints H' d := by
  obtain ⟨ms, l, e⟩ := h
  exact ⟨ms, l, b d _ e⟩

/-! ### words -/
abbrev LET : Str := "abcdefghijklmnopqrstuvwxyz"
abbrev SGN : Str := LET ++ ("ABCDEFGHIJKLMNOPQRSTUVWXYZ0123456789_" : Str)
abbrev RES : List Str := ["true", "false", "all", "some", "goal", "axiom"]
def chOk (c : Nat) : Bool := (decide (97 ≤ c) && decide (c ≤ 122)) || (decide (65 ≤ c) && decide (c ≤ 90)) || (decide (48 ≤ c) && decide (c ≤ 57)) || decide (c = 95)
def isLow (c : Nat) : Bool := decide (97 ≤ c) && decide (c ≤ 122)
/-- a word: a small letter, then signs -/
structure WordOk (x : Str) : Prop where
  head : ∃ c r, x.cps.toList = c :: r ∧ isLow c = true
  all : x.cps.toList.all chOk = true
  len : x.length ≤ 40
theorem let_len : LET.length = 26 := by decide +kernel
theorem sgn_len : SGN.length = 63 := by decide +kernel
theorem let_at {i : Nat} (h : i < 26) : ∃ c, LET.cps[i]? = some c ∧ isLow c = true ∧ chOk c = true := by
  have a : LET.cps.toList.all (fun c => isLow c && chOk c) = true := by decide +kernel
  have l : LET.cps.toList.length = 26 := by decide +kernel
  have hi : i < LET.cps.toList.length := by omega
  have b := List.all_eq_true.mp a _ (List.getElem_mem hi)
  rw [Bool.and_eq_true] at b
  exact ⟨_, by rw [← Array.getElem?_toList, List.getElem?_eq_getElem hi], b.1, b.2⟩
theorem sgn_at {i : Nat} (h : i < 63) : ∃ c, SGN.cps[i]? = some c ∧ chOk c = true := by
  have a : SGN.cps.toList.all chOk = true := by decide +kernel
  have l : SGN.cps.toList.length = 63 := by decide +kernel
  have hi : i < SGN.cps.toList.length := by omega
  exact ⟨_, by rw [← Array.getElem?_toList, List.getElem?_eq_getElem hi], List.all_eq_true.mp a _ (List.getElem_mem hi)⟩
theorem app_cps (x y : Str) : (x ++ y).cps.toList = x.cps.toList ++ y.cps.toList := by
  show (x.cps ++ y.cps).toList = _
  rw [Array.toList_append]
theorem app_len (x y : Str) : (x ++ y).length = x.length + y.length := by
  show (x.cps ++ y.cps).size = x.cps.size + y.cps.size
  rw [Array.size_append]
/-- part of a word: all but the length -/
structure WordIn (x : Str) (n : Nat) : Prop where
  head : ∃ c r, x.cps.toList = c :: r ∧ isLow c = true
  all : x.cps.toList.all chOk = true
  len : x.length ≤ n
theorem word1 {c : Nat} (h1 : isLow c = true) (h2 : chOk c = true) : WordIn ⟨#[c]⟩ 1 := ⟨⟨c, [], rfl, h1⟩, by show (chOk c && true) = true; rw [h2]; rfl, Nat.le_refl _⟩
theorem WordIn.add {x y : Str} {n m : Nat} (h : WordIn x n) (a : y.cps.toList.all chOk = true) (l : y.length ≤ m) : WordIn (x ++ y) (n + m) := by
  obtain ⟨c, r, e, hc⟩ := h.head
  refine ⟨⟨c, r ++ y.cps.toList, by rw [app_cps, e]; rfl, hc⟩, by rw [app_cps, List.all_append, h.all, a]; rfl, by rw [app_len]; have := h.len; omega⟩
theorem WordIn.ok {x : Str} {n : Nat} (h : WordIn x n) (l : n ≤ 40) : WordOk x := ⟨h.head, h.all, Nat.le_trans h.len l⟩
/-- words of a law: all right, no two alike, none reserved -/
structure Words (ws : List Str) : Prop where
  ok : ∀ x ∈ ws, WordOk x
  nd : ws.Nodup
  res : ∀ x ∈ ws, x ∉ RES
/-- how many of the blocked ones are as long as n or longer -/
def longer (B : List Str) (n : Nat) : Nat := (B.filter fun y => decide (n ≤ y.length)).length
theorem longer_le (B : List Str) (n : Nat) : longer B n ≤ B.length := List.length_filter_le _ _
theorem longer_lt : ∀ {B : List Str} {x : Str}, x ∈ B → longer B (x.length + 1) < longer B x.length := by
  intro B
  have mono : ∀ (B : List Str) (n : Nat), longer B (n + 1) ≤ longer B n := fun B n => by
    induction B with
    | nil => exact Nat.le_refl _
    | cons y r ih =>
      unfold longer at ih ⊢
      rw [List.filter_cons, List.filter_cons]
      by_cases h1 : n + 1 ≤ y.length
      · rw [if_pos (decide_eq_true h1), if_pos (decide_eq_true (by omega)), List.length_cons, List.length_cons]; omega
      · rw [if_neg (by rw [decide_eq_false h1]; decide)]
        split
        · rw [List.length_cons]; omega
        · exact ih
  induction B with
  | nil => intro x h; cases h
  | cons y r ih =>
    intro x h
    unfold longer at ih ⊢
    rw [List.filter_cons, List.filter_cons]
    rcases List.mem_cons.mp h with e | h
    · subst e
      rw [if_neg (by rw [decide_eq_false (by omega)]; decide), if_pos (decide_eq_true (Nat.le_refl _)), List.length_cons]
      have := mono r x.length
      unfold longer at this
      omega
    · have q := ih h
      by_cases h1 : x.length + 1 ≤ y.length
      · rw [if_pos (decide_eq_true h1), if_pos (decide_eq_true (by omega)), List.length_cons, List.length_cons]; omega
      · rw [if_neg (by rw [decide_eq_false h1]; decide)]
        split
        · rw [List.length_cons]; omega
        · exact q
theorem inV_str (x : Str) (ws : List Str) : inV (.str x) (ws.map V.str) = true ↔ x ∈ ws := by
  unfold inV
  rw [List.any_map, List.any_eq_true]
  constructor
  · rintro ⟨y, hy, h⟩
    have h : (y == x) = true := h
    exact eq_of_beq h ▸ hy
  · intro h
    exact ⟨x, h, show (x == x) = true from beq_self_eq_true x⟩
theorem flat_strs (ws : List Str) : (ws.map V.str).all flatV = true := by
  rw [List.all_map, List.all_eq_true]
  intro x _
  rfl
end Own
namespace Own
open PySem PySem.Spec PyProof.Rows L2 RT HT

/-! ### terms over words -/
mutual
def Ter.wf (W : Str → Nat → Prop) (U : Key → Prop) : Ter → Prop
  | .var k => U k
  | .ap f as => W f as.length ∧ Ter.wfs W U as
def Ter.wfs (W : Str → Nat → Prop) (U : Key → Prop) : List Ter → Prop
  | [] => True
  | a :: r => a.wf W U ∧ Ter.wfs W U r
end
theorem wfs_app {W : Str → Nat → Prop} {U : Key → Prop} : ∀ {as bs : List Ter}, Ter.wfs W U as → Ter.wfs W U bs → Ter.wfs W U (as ++ bs)
  | [], _, _, h => h
  | _ :: _, _, h, h2 => ⟨h.1, wfs_app h.2 h2⟩
theorem wfs_get {W : Str → Nat → Prop} {U : Key → Prop} : ∀ {as : List Ter} {i : Nat} {t : Ter}, Ter.wfs W U as → as[i]? = some t → t.wf W U
  | [], _, _, _, e => by simp at e
  | a :: r, 0, t, h, e => by
    simp at e
    exact e ▸ h.1
  | a :: r, i + 1, t, h, e => wfs_get (as := r) (i := i) h.2 (by simpa using e)
/-- the i-th word has i - 2 arguments -/
def symOf (ws : List Str) (f : Str) (n : Nat) : Prop := ∃ i : Nat, i < 6 ∧ ws[i]? = some f ∧ n = i - 2
def numVar (k : Key) : Prop := ∃ r : Int, k = .inl r ∧ 0 ≤ r ∧ r < 900
theorem sizes_snoc (as : List Ter) (t : Ter) : Ter.sizes (as ++ [t]) = Ter.sizes as + t.size := by
  rw [Ter.sizes_app]
  show _ + (t.size + 0) = _
  omega
theorem nests_snoc (as : List Ter) (t : Ter) : Ter.nests (as ++ [t]) = max (Ter.nests as) t.nest := by
  rw [nests_app]
  show max _ (max t.nest 0) = _
  omega
theorem grounds_app : ∀ (as bs : List Ter), Ter.grounds (as ++ bs) = (Ter.grounds as && Ter.grounds bs)
  | [], _ => rfl
  | a :: r, bs => by
    show (a.ground && Ter.grounds (r ++ bs)) = _
    rw [grounds_app r bs, ← Bool.and_assoc]
    rfl
theorem grounds_snoc (as : List Ter) (t : Ter) : Ter.grounds (as ++ [t]) = (Ter.grounds as && t.ground) := by
  rw [grounds_app]
  show (_ && (t.ground && true)) = _
  rw [Bool.and_true]
theorem pow4 (n : Nat) : 1 ≤ 4 ^ n := Nat.one_le_pow _ _ (by decide)
mutual
theorem nest_size : ∀ t : Ter, t.nest ≤ t.size
  | .var _ => Nat.le_refl _
  | .ap _ as => Nat.succ_le_succ (nests_sizes as)
theorem nests_sizes : ∀ ts : List Ter, Ter.nests ts ≤ Ter.sizes ts
  | [] => Nat.le_refl _
  | a :: r => by
    have h1 := nest_size a
    have h2 := nests_sizes r
    show max a.nest (Ter.nests r) ≤ a.size + Ter.sizes r
    omega
end
theorem nest_le_of : ∀ {ts : List Ter} {i : Nat} {t : Ter}, ts[i]? = some t → t.nest ≤ Ter.nests ts
  | [], _, _, e => by simp at e
  | a :: r, 0, t, e => by
    simp at e
    subst e
    exact Nat.le_max_left _ _
  | a :: r, i + 1, t, e => Nat.le_trans (nest_le_of (ts := r) (i := i) (by simpa using e)) (Nat.le_max_right _ _)
theorem size_le_of : ∀ {ts : List Ter} {i : Nat} {t : Ter}, ts[i]? = some t → t.size ≤ Ter.sizes ts
  | [], _, _, e => by simp at e
  | a :: r, 0, t, e => by
    simp at e
    subst e
    exact Nat.le_add_right _ _
  | a :: r, i + 1, t, e => Nat.le_trans (size_le_of (ts := r) (i := i) (by simpa using e)) (Nat.le_add_left _ _)

/-! ### data: the kind of a value -/
def kindOf : PyData → String
  | .none => "NoneType"
  | .bool _ => "bool"
  | .int _ => "int"
  | .str _ => "str"
  | .list _ => "list"
  | .tuple _ => "tuple"
  | .dict _ => "dict"
theorem tyx_dp {K : PySem.W.Frag} {H : Hp} {v : V} {x : PyData} (h : Dp K H v x) : TyX K H v (.type (kindOf x)) := by
  cases h with
  | non => exact .base .non
  | bl b => exact .base (.bl b)
  | int i => exact .base (.int i)
  | str y => exact .base (.str y)
  | lst h _ =>
    rcases h with (h | ⟨o, h⟩) | ⟨o, its, n, h, c, _⟩
    · exact .base (.lst h)
    · exact .base (.frz h)
    · exact .kList h c
  | tup h _ =>
    rcases h with (h | ⟨o, h⟩) | ⟨o, its, n, h, c, _⟩
    · exact .base (.tup h)
    · exact .fTuple h
    · exact .kTuple h c
def rIsiDat (K : PySem.W.Frag) : List V → Hp → VK → Prop := fun xs H Q => ∃ (v : V) (x : PyData) (c : String) (b : Bool), xs = [v, .ty c] ∧ Dp K H v x ∧ kitB (kindOf x) c = some b ∧ Q (.bl b) H
theorem call_isiDat {X : Cx} : CallR X (.builtin "isinstance") (rIsiDat X.K) := by
  intro pins s σ H xs us Q I r h
  obtain ⟨v, x, c, b, rfl, h, e, q⟩ := h
  exact call_isi pins s σ H _ us Q I r ⟨v, .ty c, _, _, b, rfl, .ty c, tyx_dp h, kit_ty e, q⟩
theorem Dp.len {K : PySem.W.Frag} {H : Hp} : ∀ {vs : List V} {xs : List PyData}, DpAll K H vs xs → vs.length = xs.length
  | _, _, .nil => rfl
  | _, _, .cons _ t => congrArg (· + 1) (Dp.len t)
theorem Dp.get {K : PySem.W.Frag} {H : Hp} : ∀ {vs : List V} {xs : List PyData} {i : Nat} {v : V}, DpAll K H vs xs → vs[i]? = some v → ∃ x, xs[i]? = some x ∧ Dp K H v x
  | _, _, _, _, .nil, e => by simp at e
  | _, _, 0, _, .cons a r, e => by
    simp at e
    subst e
    exact ⟨_, rfl, a⟩
  | _, _, i + 1, v, .cons a r, e => by
    obtain ⟨t, h1, h2⟩ := Dp.get (i := i) (v := v) r (by simpa using e)
    exact ⟨t, by simpa using h1, h2⟩
theorem depth_le_of : ∀ {xs : List PyData} {i : Nat} {x : PyData}, xs[i]? = some x → x.depth ≤ PyData.depthAll xs
  | [], _, _, e => by simp at e
  | a :: r, 0, t, e => by
    simp at e
    subst e
    exact Nat.le_max_left _ _
  | a :: r, i + 1, t, e => Nat.le_trans (depth_le_of (xs := r) (i := i) (by simpa using e)) (Nat.le_max_right _ _)
mutual
theorem Dp.same {K : PySem.W.Frag} {H H' : Hp} (m : Same H H') : ∀ (x : PyData) (v : V), Dp K H v x → Dp K H' v x
  | .none, _, h => by cases h; exact .non
  | .bool b, _, h => by cases h; exact .bl b
  | .int i, _, h => by cases h; exact .int i
  | .str x, _, h => by cases h; exact .str x
  | .list ds, _, h => by
    cases h with
    | lst e hs => exact .lst (m.seq e) (Dp.sameA m ds _ hs)
  | .tuple ds, _, h => by
    cases h with
    | tup e hs =>
      refine .tup ?_ (Dp.sameA m ds _ hs)
      rcases e with (e | ⟨o, e⟩) | e
      · exact .inl (.inl (m _ _ e))
      · exact .inl (.inr ⟨o, m _ _ e⟩)
      · exact .inr e
  | .dict _, _, h => by cases h
theorem Dp.sameA {K : PySem.W.Frag} {H H' : Hp} (m : Same H H') : ∀ (xs : List PyData) (vs : List V), DpAll K H vs xs → DpAll K H' vs xs
  | [], _, h => by cases h; exact .nil
  | x :: xs, _, h => by
    cases h with
    | cons a r => exact .cons (Dp.same m x _ a) (Dp.sameA m xs _ r)
end
def isTupD : PyData → Bool
  | .tuple _ => true
  | _ => false
def isListD : PyData → Bool
  | .list _ => true
  | _ => false
def isBoolD : PyData → Bool
  | .bool _ => true
  | _ => false
def isIntD : PyData → Bool
  | .bool _ => true
  | .int _ => true
  | _ => false
def isStrD : PyData → Bool
  | .str _ => true
  | _ => false
theorem k_tup (x : PyData) : kitB (kindOf x) "tuple" = some (isTupD x) := by
  cases x <;> (unfold kindOf isTupD; dsimp only; decide +kernel)
theorem k_list (x : PyData) : kitB (kindOf x) "list" = some (isListD x) := by
  cases x <;> (unfold kindOf isListD; dsimp only; decide +kernel)
theorem k_bool (x : PyData) : kitB (kindOf x) "bool" = some (isBoolD x) := by
  cases x <;> (unfold kindOf isBoolD; dsimp only; decide +kernel)
theorem k_int (x : PyData) : kitB (kindOf x) "int" = some (isIntD x) := by
  cases x <;> (unfold kindOf isIntD; dsimp only; decide +kernel)
theorem k_str (x : PyData) : kitB (kindOf x) "str" = some (isStrD x) := by
  cases x <;> (unfold kindOf isStrD; dsimp only; decide +kernel)
/-- nested less than n deep, no dict, no item too long -/
def fitsD : Nat → PyData → Prop
  | 0, _ => False
  | n + 1, .list ds => ds.length ≤ 1000000 ∧ ∀ d ∈ ds, fitsD n d
  | n + 1, .tuple ds => ds.length ≤ 1000000 ∧ ∀ d ∈ ds, fitsD n d
  | _ + 1, .dict _ => False
  | _ + 1, _ => True
/-- a[i], a a list or a tuple -/
def rIxLT (K : PySem.W.Frag) : R2 := fun x y H Q => ∃ (p : Addr) (xs : List V) (i : Int) (v : V), x = .ref p ∧ y = .int i ∧ (SqL K H p xs ∨ SqT K H p xs) ∧ atI xs i = some v ∧ Q v H
theorem ix_lt {X : Cx} : IxR X (rIxLT X.K) := by
  intro value slice pins s σ H x y v u Q I rx ry h hs
  obtain ⟨p, xs, i, z, ex, ey, h, e, q⟩ := h
  rcases h with h | h
  · exact ix_list value slice pins s σ H x y v u Q I rx ry ⟨p, xs, i, z, ex, ey, h, e, q⟩ hs
  · exact ix_tup value slice pins s σ H x y v u Q I rx ry ⟨p, xs, i, z, ex, ey, h, e, q⟩ hs
theorem dp_ints {K : PySem.W.Frag} {H : Hp} : ∀ ns : List Int, DpAll K H (ns.map V.int) (ns.map PyData.int)
  | [] => .nil
  | n :: r => .cons (.int n) (dp_ints r)
end Own
namespace Own
open PySem PySem.Spec PyProof.Rows L2 RT HT

def isNum : Key → Prop
  | .inl _ => True
  | .inr _ => False
theorem addK_all {R : Key → Prop} {acc : List Key} {k : Key} (h : ∀ x ∈ acc, R x) (hk : R k) : ∀ x ∈ addK acc k, R x := by
  unfold addK
  split
  · exact h
  · intro x hx
    rcases List.mem_append.mp hx with hx | hx
    · exact h x hx
    · rw [List.mem_singleton.mp hx]; exact hk
mutual
theorem into_all {W : Str → Nat → Prop} {U R : Key → Prop} (ur : ∀ k, U k → R k) : ∀ (t : Ter) (acc : List Key), t.wf W U → (∀ x ∈ acc, R x) → ∀ x ∈ Ter.into acc t, R x
  | .var k, acc, h, a => addK_all a (ur k h)
  | .ap f as, acc, h, a => intos_all ur as acc h.2 a
theorem intos_all {W : Str → Nat → Prop} {U R : Key → Prop} (ur : ∀ k, U k → R k) : ∀ (ts : List Ter) (acc : List Key), Ter.wfs W U ts → (∀ x ∈ acc, R x) → ∀ x ∈ Ter.intos acc ts, R x
  | [], _, _, a => a
  | t :: r, acc, h, a => intos_all ur r _ h.2 (into_all ur t acc h.1 a)
end
/-- a key as data -/
def kD : Key → PyData
  | .inl i => .int i
  | .inr x => .str x
def keyFine : Key → Prop
  | .inl _ => True
  | .inr x => PyData.strOk x = true
theorem dp_keys {K : PySem.W.Frag} {H : Hp} : ∀ ks : List Key, DpAll K H (ks.map kV) (ks.map kD)
  | [] => .nil
  | .inl i :: r => .cons (.int i) (dp_keys r)
  | .inr x :: r => .cons (.str x) (dp_keys r)
theorem lay_keys : ∀ ks : List Key, (∀ k ∈ ks, keyFine k) → PyData.canLayAll0 (ks.map kD) = true ∧ PyData.depthAll (ks.map kD) = 0
  | [], _ => ⟨rfl, rfl⟩
  | .inl i :: r, h => by
    obtain ⟨h1, h2⟩ := lay_keys r fun k hk => h k (List.mem_cons_of_mem _ hk)
    exact ⟨by show (true && PyData.canLayAll0 (r.map kD)) = true; rw [h1]; rfl, by show max 0 (PyData.depthAll (r.map kD)) = 0; rw [h2]; rfl⟩
  | .inr x :: r, h => by
    obtain ⟨h1, h2⟩ := lay_keys r fun k hk => h k (List.mem_cons_of_mem _ hk)
    have hx : PyData.strOk x = true := h (.inr x) List.mem_cons_self
    exact ⟨by show (PyData.strOk x && PyData.canLayAll0 (r.map kD)) = true; rw [h1, hx]; rfl, by show max 0 (PyData.depthAll (r.map kD)) = 0; rw [h2]; rfl⟩
theorem shaped_keys {ks : List Key} (h : ∀ k ∈ ks, keyFine k) : SeqAt.shaped (.list (ks.map kD)) = true := by
  obtain ⟨h1, h2⟩ := lay_keys ks h
  show (PyData.canLayAll0 (ks.map kD) && decide (PyData.depthAll (ks.map kD) + 1 ≤ 64)) = true
  rw [h1, h2]
  rfl
theorem eqv_nil (ks : List Key) : PyData.eqv (.list (ks.map kD)) (.list []) = decide (ks = []) := by
  cases ks with
  | nil => rfl
  | cons a r => exact (decide_eq_false (by simp)).symm
theorem num_fine (k : Key) (h : numVar k) : keyFine k := by
  obtain ⟨r, rfl, _⟩ := h
  exact trivial
end Own
namespace Own
open PySem PySem.Spec PyProof.Rows L2 RT HT

theorem kV_inj {a b : Key} (h : kV a = kV b) : a = b := by
  cases a <;> cases b <;> simp [kV] at h <;> simp [h]
theorem flat_keys (ks : List Key) : (ks.map kV).all flatV = true := by
  rw [List.all_map, List.all_eq_true]
  intro k _
  cases k <;> rfl
theorem eqV_key (a b : Key) : eqV (kV a) (kV b) = decide (a = b) := by
  cases a with
  | inl i =>
    cases b with
    | inl j =>
      rw [key_ll]
      rfl
    | inr y => rw [key_lr]; rfl
  | inr x =>
    cases b with
    | inl j => rw [key_rl]; rfl
    | inr y =>
      rw [key_rr]
      show (x == y) = decide (x = y)
      rfl
theorem inV_key (k : Key) (ks : List Key) : inV (kV k) (ks.map kV) = hasK ks k := by
  unfold inV hasK
  rw [List.any_map]
  congr 1
  funext x
  exact eqV_key x k
theorem flat_key (k : Key) : flatV (kV k) = true := by cases k <;> rfl
/-- keys put in one by one -/
def addKs (acc : List Key) (ks : List Key) : List Key := ks.foldl addK acc
theorem hasK_addK (acc : List Key) (k x : Key) : hasK (addK acc k) x = (hasK acc x || decide (k = x)) := by
  unfold addK
  by_cases h : hasK acc k = true
  · rw [if_pos h]
    by_cases e : k = x
    · subst e
      rw [h, Bool.true_or]
    · rw [decide_eq_false e, Bool.or_false]
  · rw [if_neg h]
    unfold hasK
    rw [List.any_append]
    simp
theorem hasK_addKs : ∀ (ks acc : List Key) (x : Key), hasK (addKs acc ks) x = (hasK acc x || hasK ks x)
  | [], acc, x => by show hasK acc x = (hasK acc x || false); rw [Bool.or_false]
  | k :: r, acc, x => by
    show hasK (addKs (addK acc k) r) x = _
    rw [hasK_addKs r, hasK_addK, Bool.or_assoc]
    rfl
theorem addKs_addK (acc b : List Key) (k : Key) : addKs acc (addK b k) = addK (addKs acc b) k := by
  by_cases h : hasK b k = true
  · have e : addK b k = b := by unfold addK; rw [if_pos h]
    have h2 : hasK (addKs acc b) k = true := by rw [hasK_addKs, h, Bool.or_true]
    rw [e]
    unfold addK
    rw [if_pos h2]
  · have e : addK b k = b ++ [k] := by unfold addK; rw [if_neg h]
    rw [e]
    unfold addKs
    rw [List.foldl_append]
    rfl
mutual
theorem addKs_into (acc : List Key) : ∀ (t : Ter) (b : List Key), addKs acc (Ter.into b t) = Ter.into (addKs acc b) t
  | .var k, b => addKs_addK acc b k
  | .ap _ as, b => addKs_intos acc as b
theorem addKs_intos (acc : List Key) : ∀ (ts : List Ter) (b : List Key), addKs acc (Ter.intos b ts) = Ter.intos (addKs acc b) ts
  | [], _ => rfl
  | t :: r, b => by
    show addKs acc (Ter.intos (Ter.into b t) r) = _
    rw [addKs_intos acc r, addKs_into acc t]
    rfl
end
theorem into_met (acc : List Key) (t : Ter) : addKs acc t.vars = Ter.into acc t := addKs_into acc t []
theorem intos_snoc (acc : List Key) (as : List Ter) (t : Ter) : Ter.intos acc (as ++ [t]) = Ter.into (Ter.intos acc as) t := by
  rw [intos_app]
  rfl
mutual
theorem into_len : ∀ (t : Ter) (acc : List Key), (Ter.into acc t).length ≤ acc.length + t.size
  | .var k, acc => addK_len acc k
  | .ap _ as, acc => Nat.le_trans (intos_len as acc) (by show _ ≤ acc.length + (Ter.sizes as + 1); omega)
theorem intos_len : ∀ (ts : List Ter) (acc : List Key), (Ter.intos acc ts).length ≤ acc.length + Ter.sizes ts
  | [], acc => by show acc.length ≤ acc.length + 0; omega
  | t :: r, acc => by
    have h1 := into_len t acc
    have h2 := intos_len r (Ter.into acc t)
    show (Ter.intos (Ter.into acc t) r).length ≤ acc.length + (t.size + Ter.sizes r)
    omega
end
theorem fits_keys {ks : List Key} (n : Nat) (h : ks.length ≤ 1000000) : fitsD (n + 2) (.list (ks.map kD)) := by
  refine ⟨by rw [List.length_map]; exact h, fun d hd => ?_⟩
  obtain ⟨k, _, rfl⟩ := List.mem_map.mp hd
  cases k <;> exact trivial
/-- xs.pop(i) etc. read the list at its place; t[0] of an application -/
theorem head_at {f : V} {xs : List V} : atI (f :: xs) 0 = some f := atI_nat (j := 0) rfl
end Own
namespace Own
open PySem PySem.Spec PyProof.Rows L2 RT HT

/-! ### texts -/
theorem strE {a b : Str} (h : a.cps.toList = b.cps.toList) : a = b := by
  cases a with
  | mk x =>
    cases b with
    | mk y => exact congrArg Str.mk (Array.toList_inj.mp h)
theorem sApp (a b c : Str) : (a ++ b) ++ c = a ++ (b ++ c) := strE (by simp only [app_cps, List.append_assoc])
theorem sEmp (a : Str) : Str.empty ++ a = a := strE (by rw [app_cps]; rfl)
theorem eqS {a b : Str} {A B : Prop} (h : (a == b) = true) (k : A) : if decide (V.str a = V.str b) = true then A else B := by
  rw [dec_str, h]
  exact iteT k
theorem neS {a b : Str} {A B : Prop} (h : (a == b) = false) (k : B) : if decide (V.str a = V.str b) = true then A else B := by
  rw [dec_str, h]
  exact iteF k

/-! ### terms as data -/
mutual
def Ter.dat : Ter → PyData
  | .var k => kD k
  | .ap f as => .tuple (.str f :: Ter.dats as)
def Ter.dats : List Ter → List PyData
  | [] => []
  | a :: r => a.dat :: Ter.dats r
end
mutual
theorem dp_ter {K : PySem.W.Frag} {H : Hp} : ∀ (t : Ter) (v : V), TmAt H v t → Dp K H v t.dat
  | .var k, _, h => by
    cases h with
    | int i => exact .int i
    | str x => exact .str x
  | .ap f as, _, h => by
    cases h with
    | ap e hs => exact .tup (.inl (.inl e)) (.cons (.str f) (dp_ters as _ hs))
theorem dp_ters {K : PySem.W.Frag} {H : Hp} : ∀ (ts : List Ter) (vs : List V), TmAll H vs ts → DpAll K H vs (Ter.dats ts)
  | [], _, h => by cases h; exact .nil
  | t :: r, _, h => by
    cases h with
    | cons a b => exact .cons (dp_ter t _ a) (dp_ters r _ b)
end
def symFine (f : Str) (_ : Nat) : Prop := PyData.strOk f = true
mutual
theorem lay_ter : ∀ t : Ter, t.wf symFine keyFine → PyData.canLay0 t.dat = true ∧ PyData.depth t.dat ≤ t.nest
  | .var (.inl _), _ => ⟨rfl, Nat.zero_le _⟩
  | .var (.inr x), h => ⟨h, Nat.zero_le _⟩
  | .ap f as, h => by
    obtain ⟨h1, h2⟩ := lay_ters as h.2
    refine ⟨?_, ?_⟩
    · show (PyData.strOk f && PyData.canLayAll0 (Ter.dats as)) = true
      rw [show PyData.strOk f = true from h.1, h1]
      rfl
    · show max 0 (PyData.depthAll (Ter.dats as)) + 1 ≤ Ter.nests as + 1
      omega
theorem lay_ters : ∀ ts : List Ter, Ter.wfs symFine keyFine ts → PyData.canLayAll0 (Ter.dats ts) = true ∧ PyData.depthAll (Ter.dats ts) ≤ Ter.nests ts
  | [], _ => ⟨rfl, Nat.le_refl _⟩
  | t :: r, h => by
    obtain ⟨h1, h2⟩ := lay_ter t h.1
    obtain ⟨h3, h4⟩ := lay_ters r h.2
    refine ⟨?_, ?_⟩
    · show (PyData.canLay0 t.dat && PyData.canLayAll0 (Ter.dats r)) = true
      rw [h1, h3]
      rfl
    · show max t.dat.depth (PyData.depthAll (Ter.dats r)) ≤ max t.nest (Ter.nests r)
      omega
end
theorem shaped_ter {t : Ter} (h : t.wf symFine keyFine) (n : t.nest ≤ 64) : SeqAt.shaped t.dat = true := by
  obtain ⟨h1, h2⟩ := lay_ter t h
  unfold SeqAt.shaped
  rw [h1, decide_eq_true (Nat.le_trans h2 n)]
  rfl
mutual
theorem wf_mono {W W' : Str → Nat → Prop} {U U' : Key → Prop} (w : ∀ f n, W f n → W' f n) (u : ∀ k, U k → U' k) : ∀ t : Ter, t.wf W U → t.wf W' U'
  | .var k, h => u k h
  | .ap f as, h => ⟨w f _ h.1, wfs_mono w u as h.2⟩
theorem wfs_mono {W W' : Str → Nat → Prop} {U U' : Key → Prop} (w : ∀ f n, W f n → W' f n) (u : ∀ k, U k → U' k) : ∀ ts : List Ter, Ter.wfs W U ts → Ter.wfs W' U' ts
  | [], _ => trivial
  | t :: r, h => ⟨wf_mono w u t h.1, wfs_mono w u r h.2⟩
end
theorem wordok_str {x : Str} (h : WordOk x) : PyData.strOk x = true := by
  have a := h.all
  unfold PyData.strOk
  rw [← Array.all_toList, List.all_eq_true]
  intro c hc
  have q := List.all_eq_true.mp a c hc
  unfold chOk at q
  simp only [Bool.or_eq_true, Bool.and_eq_true, decide_eq_true_eq] at q
  exact decide_eq_true (by omega)
def trueT : Ter := .ap "true" []
def isTrueT (t : Ter) : Bool := PyData.eqv t.dat trueT.dat

/-! ### the written form of terms -/
/-- what may be written: short words, small numbers -/
def shSym (f : Str) (_ : Nat) : Prop := f.length ≤ 40 ∧ PyData.strOk f = true
def shKey : Key → Prop
  | .inl r => 0 ≤ r ∧ r < 900
  | .inr x => x.length ≤ 40 ∧ PyData.strOk x = true
theorem sh_fine : ∀ t : Ter, t.wf shSym shKey → t.wf symFine keyFine := wf_mono (fun _ _ h => h.2) (fun k h => by
  cases k with
  | inl r => trivial
  | inr x => exact h.2)
mutual
def showT : Ter → Str
  | .var (.inl i) => ("X" : Str) ++ (toString i : String)
  | .var (.inr x) => x
  | .ap f [] => f
  | .ap f (a :: r) => f ++ (("(" : Str) ++ (Txt.join "," (showTs (a :: r)) ++ (")" : Str)))
def showTs : List Ter → List Str
  | [] => []
  | a :: r => showT a :: showTs r
end
theorem showTs_len : ∀ ts : List Ter, (showTs ts).length = ts.length
  | [] => rfl
  | _ :: r => congrArg (· + 1) (showTs_len r)
theorem showTs_app : ∀ as bs : List Ter, showTs (as ++ bs) = showTs as ++ showTs bs
  | [], _ => rfl
  | a :: r, bs => congrArg (showT a :: ·) (showTs_app r bs)
theorem num_len (r : Int) (h0 : 0 ≤ r) (h1 : r < 900) : ((toString r : String) : Str).length ≤ 4 := by
  have a : ∀ r : Fin 900, (((toString ((r.val : Nat) : Int)) : String) : Str).length ≤ 4 := by decide +kernel
  have e : r = ((r.toNat : Nat) : Int) := by omega
  rw [e]
  exact a ⟨r.toNat, by omega⟩
end Own
namespace Own
open PySem PySem.Spec PyProof.Rows L2 RT HT

def tlen (ys : List Str) : Nat := (ys.map (·.length)).sum
theorem tlen_cons (y : Str) (ys : List Str) : tlen (y :: ys) = y.length + tlen ys := by
  unfold tlen
  rw [List.map_cons, List.sum_cons]
theorem join_len (sep : Str) : ∀ ys : List Str, (Txt.join sep ys).length ≤ tlen ys + ys.length * sep.length
  | [] => by rw [TL.join_eq]; exact Nat.zero_le _
  | [x] => by
    rw [TL.join_eq, tlen_cons]
    show x.length ≤ _
    omega
  | x :: y :: r => by
    have ih := join_len sep (y :: r)
    rw [TL.join_eq] at ih ⊢
    show (x ++ sep ++ Str.join sep (y :: r)).length ≤ _
    rw [app_len, app_len, tlen_cons, List.length_cons, Nat.succ_mul]
    omega
theorem len1 : ("X" : Str).length = 1 ∧ ("(" : Str).length = 1 ∧ (")" : Str).length = 1 ∧ ("," : Str).length = 1 := by decide +kernel
mutual
theorem showT_len : ∀ t : Ter, t.wf shSym shKey → (showT t).length + 1 ≤ 60 * t.size
  | .var (.inl i), h => by
    have q := num_len i h.1 h.2
    show (("X" : Str) ++ (toString i : String)).length + 1 ≤ 60
    rw [app_len, len1.1]
    omega
  | .var (.inr x), h => by
    have q : x.length ≤ 40 := h.1
    show x.length + 1 ≤ 60
    omega
  | .ap f [], h => by
    have q : f.length ≤ 40 := h.1.1
    show f.length + 1 ≤ 60
    omega
  | .ap f (a :: r), h => by
    have q : f.length ≤ 40 := h.1.1
    have q2 := showTs_len2 (a :: r) h.2
    have q3 := join_len "," (showTs (a :: r))
    rw [showTs_len, len1.2.2.2] at q3
    show (f ++ (("(" : Str) ++ (Txt.join "," (showTs (a :: r)) ++ (")" : Str)))).length + 1 ≤ 60 * (Ter.sizes (a :: r) + 1)
    rw [app_len, app_len, app_len, len1.2.1, len1.2.2.1]
    omega
theorem showTs_len2 : ∀ ts : List Ter, Ter.wfs shSym shKey ts → tlen (showTs ts) + ts.length ≤ 60 * Ter.sizes ts
  | [], _ => Nat.le_refl _
  | t :: r, h => by
    have q1 := showT_len t h.1
    have q2 := showTs_len2 r h.2
    show tlen (showT t :: showTs r) + (r.length + 1) ≤ 60 * (t.size + Ter.sizes r)
    rw [tlen_cons]
    omega
end
/-! ### literals -/
def showL (b : Bool) (l r : Ter) : Str :=
  if isTrueT r = true then (if b = true then showT l else ("~" : Str) ++ showT l) else showT l ++ ((if b = true then (" = " : Str) else (" != " : Str)) ++ showT r)
def Lit := Bool × Ter × Ter
def Lit.ok (x : Lit) : Prop := x.2.1.wf shSym shKey ∧ x.2.2.wf shSym shKey ∧ x.2.1.nest ≤ 60 ∧ x.2.2.nest ≤ 60 ∧ x.2.1.size ≤ 1000 ∧ x.2.2.size ≤ 1000
inductive LitAt (H : Hp) : V → Lit → Prop
  | mk {p : Addr} {b : Bool} {x y : V} {l r : Ter} : H p = some (.tup [.bl b, x, y]) → TmAt H x l → TmAt H y r → LitAt H (.ref p) (b, l, r)
theorem LitAt.mono {H H' : Hp} (m : Tups H H') {v : V} {x : Lit} (h : LitAt H v x) : LitAt H' v x := by
  cases h with
  | mk e a b => exact .mk (m _ _ e) (TmAt.mono m _ _ a) (TmAt.mono m _ _ b)
inductive LitAll (H : Hp) : List V → List Lit → Prop
  | nil : LitAll H [] []
  | cons {v : V} {vs : List V} {x : Lit} {xs : List Lit} : LitAt H v x → LitAll H vs xs → LitAll H (v :: vs) (x :: xs)
theorem LitAll.mono {H H' : Hp} (m : Tups H H') : ∀ {vs : List V} {xs : List Lit}, LitAll H vs xs → LitAll H' vs xs
  | _, _, .nil => .nil
  | _, _, .cons a r => .cons (a.mono m) (r.mono m)
theorem LitAll.app {H : Hp} : ∀ {vs ws : List V} {xs ys : List Lit}, LitAll H vs xs → LitAll H ws ys → LitAll H (vs ++ ws) (xs ++ ys)
  | _, _, _, _, .nil, h => h
  | _, _, _, _, .cons a r, h => .cons a (r.app h)
theorem LitAll.len {H : Hp} : ∀ {vs : List V} {xs : List Lit}, LitAll H vs xs → vs.length = xs.length
  | _, _, .nil => rfl
  | _, _, .cons _ t => congrArg (· + 1) t.len
theorem LitAll.get {H : Hp} : ∀ {vs : List V} {xs : List Lit} {i : Nat} {v : V}, LitAll H vs xs → vs[i]? = some v → ∃ x, xs[i]? = some x ∧ LitAt H v x
  | _, _, _, _, .nil, e => by simp at e
  | _, _, 0, _, .cons a r, e => by
    simp at e
    subst e
    exact ⟨_, rfl, a⟩
  | _, _, i + 1, v, .cons a r, e => by
    obtain ⟨t, h1, h2⟩ := LitAll.get (i := i) (v := v) r (by simpa using e)
    exact ⟨t, by simpa using h1, h2⟩
def showC (c : List Lit) : List Str := c.map fun x => showL x.1 x.2.1 x.2.2
theorem showL_len {b : Bool} {l r : Ter} (h1 : l.wf shSym shKey) (h2 : r.wf shSym shKey) (s1 : l.size ≤ 1000) (s2 : r.size ≤ 1000) : (showL b l r).length ≤ 200000 := by
  have q1 := showT_len l h1
  have q2 := showT_len r h2
  have z1 : ("~" : Str).length = 1 := by decide +kernel
  have z2 : (" = " : Str).length = 3 := by decide +kernel
  have z3 : (" != " : Str).length = 4 := by decide +kernel
  unfold showL
  split
  · split
    · omega
    · rw [app_len, z1]; omega
  · rw [app_len, app_len]
    split
    · rw [z2]; omega
    · rw [z3]; omega
/-! ### formulas -/
inductive Op | and | or | imp | iff
def Op.word : Op → Str
  | .and => "and"
  | .or => "or"
  | .imp => "implies"
  | .iff => "iff"
def Op.sign : Op → Str
  | .and => "&"
  | .or => "|"
  | .imp => "->"
  | .iff => "<->"
def qWord (a : Bool) : Str := if a = true then "all" else "some"
inductive Fm where
  | tt (b : Bool)
  | eq (l r : Ter)
  | neg (f : Fm)
  | bin (o : Op) (f g : Fm)
  | qu (a : Bool) (x : Str) (f : Fm)
def Fm.ter : Fm → Ter
  | .tt b => .ap (if b = true then "true" else "false") []
  | .eq l r => .ap "equal" [l, r]
  | .neg f => .ap "not" [f.ter]
  | .bin o f g => .ap o.word [f.ter, g.ter]
  | .qu a x f => .ap (qWord a) [.var (.inr x), f.ter]
def Fm.high : Fm → Nat
  | .tt _ => 1
  | .eq _ _ => 1
  | .neg f => f.high + 1
  | .bin _ f g => max f.high g.high + 1
  | .qu _ _ f => f.high + 1
def Fm.all (R : Ter → Prop) (S : Str → Prop) : Fm → Prop
  | .tt _ => True
  | .eq l r => R l ∧ R r
  | .neg f => f.all R S
  | .bin _ f g => f.all R S ∧ g.all R S
  | .qu _ x f => S x ∧ f.all R S
def showF : Fm → Str
  | .tt b => if b = true then "true" else "false"
  | .eq l r => showL true l r
  | .neg (.eq l r) => showL false l r
  | .neg f => ("~" : Str) ++ showF f
  | .bin o f g => ("(" : Str) ++ (showF f ++ ((" " : Str) ++ (o.sign ++ ((" " : Str) ++ (showF g ++ (")" : Str))))))
  | .qu a x f => ("(" : Str) ++ (qWord a ++ ((" " : Str) ++ (x ++ ((": " : Str) ++ (showF f ++ (")" : Str))))))
end Own
namespace Own
open PySem PySem.Spec PyProof.Rows L2 RT HT

def fmTer (t : Ter) : Prop := t.wf shSym shKey ∧ t.nest ≤ 60 ∧ t.size ≤ 200
def fmStr (x : Str) : Prop := x.length ≤ 40
theorem showL_len2 {b : Bool} {l r : Ter} (h1 : l.wf shSym shKey) (h2 : r.wf shSym shKey) (s1 : l.size ≤ 200) (s2 : r.size ≤ 200) : (showL b l r).length ≤ 25000 := by
  have q1 := showT_len l h1
  have q2 := showT_len r h2
  have z1 : ("~" : Str).length = 1 := by decide +kernel
  have z2 : (" = " : Str).length = 3 := by decide +kernel
  have z3 : (" != " : Str).length = 4 := by decide +kernel
  unfold showL
  split
  · split
    · omega
    · rw [app_len, z1]; omega
  · rw [app_len, app_len]
    split
    · rw [z2]; omega
    · rw [z3]; omega
theorem lens : ("(" : Str).length = 1 ∧ (")" : Str).length = 1 ∧ (" " : Str).length = 1 ∧ (": " : Str).length = 2 ∧ ("~" : Str).length = 1 := by decide +kernel
theorem sign_len (o : Op) : o.sign.length ≤ 3 := by cases o <;> decide +kernel
theorem q_len (a : Bool) : (qWord a).length ≤ 4 := by cases a <;> decide +kernel
theorem two_max (a b : Nat) : 2 ^ a ≤ 2 ^ max a b ∧ 2 ^ b ≤ 2 ^ max a b := ⟨Nat.pow_le_pow_right (by decide) (Nat.le_max_left _ _), Nat.pow_le_pow_right (by decide) (Nat.le_max_right _ _)⟩
theorem showF_len : ∀ f : Fm, f.all fmTer fmStr → (showF f).length + 60 ≤ 25100 * 2 ^ f.high
  | .tt b, _ => by
    show (if b = true then ("true" : Str) else "false").length + 60 ≤ 25100 * 2 ^ 1
    have z1 : ("true" : Str).length = 4 := by decide +kernel
    have z2 : ("false" : Str).length = 5 := by decide +kernel
    split <;> omega
  | .eq l r, h => by
    have q := showL_len2 (b := true) h.1.1 h.2.1 h.1.2.2 h.2.2.2
    show (showL true l r).length + 60 ≤ 25100 * 2 ^ 1
    omega
  | .neg (.eq l r), h => by
    have q := showL_len2 (b := false) h.1.1 h.2.1 h.1.2.2 h.2.2.2
    show (showL false l r).length + 60 ≤ 25100 * 2 ^ 2
    omega
  | .neg (.tt b), h => neg_len (.tt b) (showF_len (.tt b) h)
  | .neg (.neg f), h => neg_len (.neg f) (showF_len (.neg f) h)
  | .neg (.bin o f g), h => neg_len (.bin o f g) (showF_len (.bin o f g) h)
  | .neg (.qu a x f), h => neg_len (.qu a x f) (showF_len (.qu a x f) h)
  | .bin o f g, h => by
    have q1 := showF_len f h.1
    have q2 := showF_len g h.2
    obtain ⟨z1, z2, z3, z4, z5⟩ := lens
    have z6 := sign_len o
    obtain ⟨m1, m2⟩ := two_max f.high g.high
    show (("(" : Str) ++ (showF f ++ ((" " : Str) ++ (o.sign ++ ((" " : Str) ++ (showF g ++ (")" : Str))))))).length + 60 ≤ 25100 * 2 ^ (max f.high g.high + 1)
    rw [app_len, app_len, app_len, app_len, app_len, app_len, Nat.pow_succ]
    omega
  | .qu a x f, h => by
    have q1 := showF_len f h.2
    have q2 : x.length ≤ 40 := h.1
    obtain ⟨z1, z2, z3, z4, z5⟩ := lens
    have z6 := q_len a
    have p : 1 ≤ 2 ^ f.high := Nat.one_le_two_pow
    show (("(" : Str) ++ (qWord a ++ ((" " : Str) ++ (x ++ ((": " : Str) ++ (showF f ++ (")" : Str))))))).length + 60 ≤ 25100 * 2 ^ (f.high + 1)
    rw [app_len, app_len, app_len, app_len, app_len, app_len, Nat.pow_succ]
    omega
where
  neg_len (f : Fm) (h : (showF f).length + 60 ≤ 25100 * 2 ^ f.high) : (("~" : Str) ++ showF f).length + 60 ≤ 25100 * 2 ^ (f.high + 1) := by
    obtain ⟨z1, z2, z3, z4, z5⟩ := lens
    have p : 1 ≤ 2 ^ f.high := Nat.one_le_two_pow
    rw [app_len, Nat.pow_succ]
    omega
def Fm.isEq : Fm → Bool
  | .eq _ _ => true
  | _ => false
theorem showF_neg {f : Fm} (h : f.isEq = false) : showF (.neg f) = ("~" : Str) ++ showF f := by
  cases f with
  | eq l r => cases h
  | _ => rfl
theorem zB {n : Nat} (h : n ≤ 16000000) : n ≤ sizeLine := Nat.le_trans h (by decide)
def Fm.head : Fm → Str
  | .tt b => if b = true then "true" else "false"
  | .eq _ _ => "equal"
  | .neg _ => "not"
  | .bin o _ _ => o.word
  | .qu a _ _ => qWord a
def Fm.tail : Fm → List Ter
  | .tt _ => []
  | .eq l r => [l, r]
  | .neg f => [f.ter]
  | .bin _ f g => [f.ter, g.ter]
  | .qu _ x f => [.var (.inr x), f.ter]
theorem fm_ter (f : Fm) : f.ter = .ap f.head f.tail := by cases f <;> rfl
theorem fm_at {H : Hp} {v : V} {f : Fm} (h : TmAt H v f.ter) : ∃ a xs, v = .ref a ∧ H a = some (.tup (.str f.head :: xs)) ∧ TmAll H xs f.tail := by
  rw [fm_ter] at h
  cases h with
  | ap e hs => exact ⟨_, _, rfl, e, hs⟩
theorem headN {f : Fm} {s : Str} {b : Bool} (w : Str) (h : f.head = w) (d : (w == s) = b) : (f.head == s) = b := by
  rw [h]
  exact d
theorem head_eq (f : Fm) : (f.head == ("equal" : Str)) = f.isEq := by
  cases f with
  | tt b => cases b <;> decide +kernel
  | eq l r => exact headN (b := true) "equal" rfl (by decide +kernel)
  | neg f => exact headN (b := false) "not" rfl (by decide +kernel)
  | bin o f g => exact headN (b := false) o.word rfl (by cases o <;> decide +kernel)
  | qu a x f => exact headN (b := false) (qWord a) rfl (by cases a <;> decide +kernel)
theorem all_two {H : Hp} {xs : List V} {a b : Ter} (h : TmAll H xs [a, b]) : ∃ x y, xs = [x, y] ∧ TmAt H x a ∧ TmAt H y b := by
  cases h with
  | cons h1 h2 =>
    cases h2 with
    | cons h3 h4 =>
      cases h4
      exact ⟨_, _, rfl, h1, h3⟩
theorem all_one {H : Hp} {xs : List V} {a : Ter} (h : TmAll H xs [a]) : ∃ x, xs = [x] ∧ TmAt H x a := by
  cases h with
  | cons h1 h2 =>
    cases h2
    exact ⟨_, rfl, h1⟩
theorem all_nil {H : Hp} {xs : List V} (h : TmAll H xs []) : xs = [] := by cases h; rfl
theorem at_1 {x y : V} {zs : List V} : atI (x :: y :: zs) 1 = some y := atI_nat (j := 1) rfl
theorem at_2 {x y z : V} {zs : List V} : atI (x :: y :: z :: zs) 2 = some z := atI_nat (j := 2) rfl
end Own
namespace Own
open PySem PySem.Spec PyProof.Rows L2 RT HT

abbrev NAMES5 : List Str := ["X", "Y", "Zeta", "X1", "W_0"]
def nameVar (k : Key) : Prop := ∃ x, k = .inr x ∧ x ∈ NAMES5
theorem name_sh (k : Key) (h : nameVar k) : shKey k := by
  obtain ⟨x, rfl, hx⟩ := h
  have a : ∀ x ∈ NAMES5, x.length ≤ 40 ∧ PyData.strOk x = true := by decide +kernel
  exact a x hx
theorem num_sh (k : Key) (h : numVar k) : shKey k := by
  obtain ⟨r, rfl, h0, h1⟩ := h
  exact ⟨h0, h1⟩
theorem sym_sh {ws : List Str} (hw : Words ws) (f : Str) (n : Nat) (h : symOf ws f n) : shSym f n := by
  obtain ⟨i, _, e, _⟩ := h
  have o := hw.ok f (List.mem_of_getElem? e)
  exact ⟨o.len, wordok_str o⟩
theorem word_sh {ws : List Str} (hw : Words ws) {f : Str} {n : Nat} (h : f ∈ ws) : shSym f n := ⟨(hw.ok f h).len, wordok_str (hw.ok f h)⟩
theorem true_sh : trueT.wf shSym shKey := ⟨⟨by decide +kernel, by decide +kernel⟩, trivial⟩
/-- the law's own joining of a literal -/
theorem joinC (c : List Lit) : showC c = c.map fun x => showL x.1 x.2.1 x.2.2 := rfl
theorem showC_snoc (c : List Lit) (x : Lit) : showC (c ++ [x]) = showC c ++ [showL x.1 x.2.1 x.2.2] := by
  unfold showC
  rw [List.map_append]
  rfl
end Own
namespace Own
open PySem PySem.Spec PyProof.Rows L2 HT
/-! ### terms with the places where they stand, and what a match binds -/
inductive DTer where
  | var (k : Key)
  | ap (p : Addr) (f : Str) (as : List DTer)
def DTer.val : DTer → V
  | .var k => kV k
  | .ap p _ _ => .ref p
mutual
def DTer.ter : DTer → Ter
  | .var k => .var k
  | .ap _ f as => .ap f (DTer.ters as)
def DTer.ters : List DTer → List Ter
  | [] => []
  | a :: r => a.ter :: DTer.ters r
end
mutual
def DAt (H : Hp) : DTer → Prop
  | .var _ => True
  | .ap p f as => H p = some (.tup (.str f :: as.map DTer.val)) ∧ DAts H as
def DAts (H : Hp) : List DTer → Prop
  | [] => True
  | a :: r => DAt H a ∧ DAts H r
end
mutual
theorem DAt.mono {H H' : Hp} (m : Tups H H') : ∀ d : DTer, DAt H d → DAt H' d
  | .var _, _ => trivial
  | .ap p f as, h => ⟨m _ _ h.1, DAts.mono m as h.2⟩
theorem DAts.mono {H H' : Hp} (m : Tups H H') : ∀ ds : List DTer, DAts H ds → DAts H' ds
  | [], _ => trivial
  | a :: r, h => ⟨DAt.mono m a h.1, DAts.mono m r h.2⟩
end
mutual
theorem DAt.tm {H : Hp} : ∀ d : DTer, DAt H d → TmAt H d.val d.ter
  | .var (.inl i), _ => .int i
  | .var (.inr x), _ => .str x
  | .ap p f as, h => .ap h.1 (DAts.tm as h.2)
theorem DAts.tm {H : Hp} : ∀ ds : List DTer, DAts H ds → TmAll H (ds.map DTer.val) (DTer.ters ds)
  | [], _ => .nil
  | a :: r, h => .cons (DAt.tm a h.1) (DAts.tm r h.2)
end
mutual
theorem TmAt.deco {H : Hp} : ∀ (t : Ter) (v : V), TmAt H v t → ∃ d : DTer, d.val = v ∧ d.ter = t ∧ DAt H d
  | .var k, v, h => by
    cases h with
    | int i => exact ⟨.var (.inl i), rfl, rfl, trivial⟩
    | str x => exact ⟨.var (.inr x), rfl, rfl, trivial⟩
  | .ap f as, v, h => by
    cases h with
    | @ap p _ xs _ e hs =>
      obtain ⟨ds, e1, e2, h2⟩ := TmAll.deco as xs hs
      subst e1
      subst e2
      exact ⟨.ap p f ds, rfl, rfl, e, h2⟩
theorem TmAll.deco {H : Hp} : ∀ (ts : List Ter) (vs : List V), TmAll H vs ts → ∃ ds : List DTer, ds.map DTer.val = vs ∧ DTer.ters ds = ts ∧ DAts H ds
  | [], vs, h => by
    cases h
    exact ⟨[], rfl, rfl, trivial⟩
  | t :: ts, vs, h => by
    cases h with
    | cons a r =>
      obtain ⟨d, e1, e2, h1⟩ := TmAt.deco t _ a
      obtain ⟨ds, e3, e4, h2⟩ := TmAll.deco ts _ r
      subst e1
      subst e2
      subst e3
      subst e4
      exact ⟨d :: ds, rfl, rfl, h1, h2⟩
end
theorem ters_len : ∀ ds : List DTer, (DTer.ters ds).length = ds.length
  | [] => rfl
  | _ :: r => congrArg (· + 1) (ters_len r)
theorem ters_get : ∀ (ds : List DTer) (i : Nat), (DTer.ters ds)[i]? = (ds[i]?).map DTer.ter
  | [], i => by simp [DTer.ters]
  | a :: r, 0 => by simp [DTer.ters]
  | a :: r, i + 1 => by simp [DTer.ters, ters_get r i]
theorem DAts.get {H : Hp} : ∀ {ds : List DTer} {i : Nat} {d : DTer}, DAts H ds → ds[i]? = some d → DAt H d
  | [], _, _, _, e => by simp at e
  | a :: r, 0, d, h, e => by simp at e; exact e ▸ h.1
  | a :: r, i + 1, d, h, e => DAts.get (ds := r) (i := i) h.2 (by simpa using e)
abbrev Bd := List (Key × DTer)
def bKvs (B : Bd) : List (Key × V) := B.map fun e => (e.1, e.2.val)
def look (B : Bd) (k : Key) : Option DTer := (B.find? fun e => decide (e.1 = k)).map (·.2)
theorem look_val : ∀ (B : Bd) (k : Key), valV (bKvs B) k = (look B k).map DTer.val
  | [], k => rfl
  | e :: r, k => by
    by_cases h : e.1 = k
    · rw [show bKvs (e :: r) = (e.1, e.2.val) :: bKvs r from rfl, valV_pos (p := (e.1, e.2.val)) h]
      unfold look
      rw [List.find?_cons, decide_eq_true h]
      rfl
    · rw [show bKvs (e :: r) = (e.1, e.2.val) :: bKvs r from rfl, valV_neg (p := (e.1, e.2.val)) h, look_val r k]
      unfold look
      rw [List.find?_cons, decide_eq_false h]
theorem look_mem {B : Bd} {k : Key} {u : DTer} (h : look B k = some u) : (k, u) ∈ B := by
  unfold look at h
  cases e : B.find? fun e => decide (e.1 = k) with
  | none => rw [e] at h; cases h
  | some p =>
    rw [e] at h
    have h1 := List.find?_some e
    have h2 := List.mem_of_find?_eq_some e
    have h3 : p.1 = k := of_decide_eq_true h1
    have h4 : p.2 = u := Option.some.inj h
    rw [← h3, ← h4]
    exact h2
mutual
def mtch : Ter → DTer → Bd → Bool × Bd
  | .var k, u, B => match look B k with
    | some s => (PyData.eqv s.ter.dat u.ter.dat, B)
    | none => (true, B ++ [(k, u)])
  | .ap g as, u, B => match u with
    | .var _ => (false, B)
    | .ap _ h bs => if g = h ∧ as.length = bs.length then mtchs as bs B else (false, B)
def mtchs : List Ter → List DTer → Bd → Bool × Bd
  | [], _, B => (true, B)
  | a :: as, us, B => match us with
    | [] => (true, B)
    | b :: bs => if (mtch a b B).1 = true then mtchs as bs (mtch a b B).2 else (false, (mtch a b B).2)
end
theorem val_of_mem : ∀ {kvs : List (Key × V)} {e : Key × V}, (kvs.map (·.1)).Nodup → e ∈ kvs → valV kvs e.1 = some e.2
  | [], _, _, h => by cases h
  | p :: r, e, hn, h => by
    have hn : p.1 ∉ r.map (·.1) ∧ (r.map (·.1)).Nodup := List.nodup_cons.mp hn
    rcases List.mem_cons.mp h with rfl | h
    · exact valV_pos rfl
    · have n : ¬ p.1 = e.1 := fun z => hn.1 (z ▸ List.mem_map_of_mem h)
      rw [valV_neg n]
      exact val_of_mem hn.2 h
/-- small symbols of at most two arguments -/
def s7 (f : Str) (n : Nat) : Prop := shSym f n ∧ n ≤ 2
theorem s7_sh : ∀ t : Ter, t.wf s7 numVar → t.wf shSym shKey := wf_mono (fun _ _ h => h.1) (fun k h => by
  obtain ⟨r, rfl, h1, h2⟩ := h
  exact ⟨h1, h2⟩)
structure Gd (H : Hp) (u : DTer) (N : Nat) : Prop where
  at_ : DAt H u
  wf : u.ter.wf s7 numVar
  ne : u.ter.nest ≤ N
theorem Gd.mono {H H' : Hp} {u : DTer} {N : Nat} (g : Gd H u N) (m : Tups H H') : Gd H' u N := ⟨DAt.mono m _ g.at_, g.wf, g.ne⟩
structure BOk (H : Hp) (B : Bd) (N : Nat) : Prop where
  nd : (B.map (·.1)).Nodup
  al : ∀ e ∈ B, (∃ i, e.1 = .inl i ∧ 0 ≤ i) ∧ Gd H e.2 N
theorem BOk.mono {H H' : Hp} {B : Bd} {N : Nat} (g : BOk H B N) (m : Tups H H') : BOk H' B N := ⟨g.nd, fun e h => ⟨(g.al e h).1, (g.al e h).2.mono m⟩⟩
theorem look_none {B : Bd} {k : Key} (h : look B k = none) : k ∉ B.map (·.1) := by
  intro z
  obtain ⟨e, he, h2⟩ := List.mem_map.mp z
  unfold look at h
  cases q : B.find? fun e => decide (e.1 = k) with
  | none =>
    have := List.find?_eq_none.mp q e he
    exact this (decide_eq_true h2)
  | some p => rw [q] at h; cases h
theorem BOk.snoc {H : Hp} {B : Bd} {N : Nat} (g : BOk H B N) {i : Int} (hi : 0 ≤ i) {u : DTer} (hu : Gd H u N) (h : look B (.inl i) = none) : BOk H (B ++ [(.inl i, u)]) N := by
  refine ⟨?_, fun e he => ?_⟩
  · rw [List.map_append]
    exact nd_snoc g.nd (look_none h)
  · rcases List.mem_append.mp he with he | he
    · exact g.al e he
    · rcases List.mem_cons.mp he with rfl | he
      · exact ⟨⟨i, rfl, hi⟩, hu⟩
      · cases he
mutual
theorem mtch_ok {H : Hp} {N : Nat} : ∀ (p : Ter) (u : DTer) (B : Bd), p.wf s7 numVar → Gd H u N → BOk H B N → BOk H (mtch p u B).2 N ∧ (mtch p u B).2.length ≤ B.length + p.size
  | .var k, u, B, hp, hu, hB => by
    obtain ⟨r, rfl, h1, h2⟩ := hp
    unfold mtch
    cases e : look B (.inl r) with
    | some s => exact ⟨hB, Nat.le_add_right _ _⟩
    | none => exact ⟨hB.snoc h1 hu e, by rw [List.length_append]; exact Nat.le_refl _⟩
  | .ap g as, u, B, hp, hu, hB => by
    unfold mtch
    cases u with
    | var k => exact ⟨hB, Nat.le_add_right _ _⟩
    | ap q h bs =>
      show BOk H (if g = h ∧ as.length = bs.length then mtchs as bs B else (false, B)).2 N ∧ (if g = h ∧ as.length = bs.length then mtchs as bs B else (false, B)).2.length ≤ _
      by_cases c : g = h ∧ as.length = bs.length
      · rw [if_pos c]
        have hn : Ter.nests (DTer.ters bs) + 1 ≤ N := hu.ne
        obtain ⟨a, b⟩ := mtchs_ok as bs B hp.2 hu.at_.2 hu.wf.2 (by omega) hB
        exact ⟨a, Nat.le_trans b (Nat.add_le_add_left (Nat.le_succ _) _)⟩
      · rw [if_neg c]
        exact ⟨hB, Nat.le_add_right _ _⟩
theorem mtchs_ok {H : Hp} {N : Nat} : ∀ (ps : List Ter) (us : List DTer) (B : Bd), Ter.wfs s7 numVar ps → DAts H us → Ter.wfs s7 numVar (DTer.ters us) → Ter.nests (DTer.ters us) ≤ N → BOk H B N → BOk H (mtchs ps us B).2 N ∧ (mtchs ps us B).2.length ≤ B.length + Ter.sizes ps
  | [], _, B, _, _, _, _, hB => ⟨hB, Nat.le_add_right _ _⟩
  | a :: as, [], B, _, _, _, _, hB => ⟨hB, Nat.le_add_right _ _⟩
  | a :: as, b :: bs, B, hp, hu, hw, hn, hB => by
    have hn : max b.ter.nest (Ter.nests (DTer.ters bs)) ≤ N := hn
    have z : Ter.sizes (a :: as) = a.size + Ter.sizes as := rfl
    obtain ⟨x, y⟩ := mtch_ok a b B hp.1 ⟨hu.1, hw.1, by omega⟩ hB
    show BOk H (if (mtch a b B).1 = true then mtchs as bs (mtch a b B).2 else (false, (mtch a b B).2)).2 N ∧ (if (mtch a b B).1 = true then mtchs as bs (mtch a b B).2 else (false, (mtch a b B).2)).2.length ≤ _
    by_cases c : (mtch a b B).1 = true
    · rw [if_pos c]
      obtain ⟨x2, y2⟩ := mtchs_ok as bs _ hp.2 hu.2 hw.2 (by omega) x
      exact ⟨x2, by omega⟩
    · rw [if_neg c]
      exact ⟨x, by show (mtch a b B).2.length ≤ _; omega⟩
end
mutual
theorem ter_refl : ∀ t : Ter, PyData.eqv t.dat t.dat = true
  | .var (.inl i) => by show PyData.eqv (.int i) (.int i) = true; simp [PyData.eqv]
  | .var (.inr x) => by show PyData.eqv (.str x) (.str x) = true; simp [PyData.eqv]
  | .ap f as => by
    show PyData.eqv (.tuple (.str f :: Ter.dats as)) (.tuple (.str f :: Ter.dats as)) = true
    rw [PyData.eqv, PyData.eqvAll, ters_refl as]
    simp [PyData.eqv]
theorem ters_refl : ∀ ts : List Ter, PyData.eqvAll (Ter.dats ts) (Ter.dats ts) = true
  | [] => rfl
  | t :: r => by
    show PyData.eqvAll (t.dat :: Ter.dats r) (t.dat :: Ter.dats r) = true
    rw [PyData.eqvAll, ter_refl t, ters_refl r]
    rfl
end
theorem Gd.fine {H : Hp} {u : DTer} (g : Gd H u 40) : SeqAt.shaped u.ter.dat = true := shaped_ter (sh_fine _ (s7_sh _ g.wf)) (by have := g.ne; omega)
theorem But.tupsK {d : Addr} {H H' : Hp} {kvs : List (Key × V)} (a : But d H H') (h : H d = some (.dK kvs)) : Tups H H' := fun b xs e => a b _ (ne_of e h (by intro z; cases z)) e
end Own
namespace Own
open PySem PySem.Spec PyProof.Rows L2 HT
/-! ### < of data; sorted over a dict with tuple keys -/
section
variable {X : Cx}
def rLtD (K : PySem.W.Frag) : R2 := fun x y H Q => ∃ d e, Dp K H x d ∧ Dp K H y e ∧ PySem.W.alike d e = true ∧ d ≠ .none ∧ d.depth ≤ 64 ∧ Q (.bl (PySem.W.dataLt d e)) H
theorem op_ltD (hu : X.A.units + 64 < cLine) : OpR X (compareOp .Lt) (rLtD X.K) := by
  intro pins s σ H x y v u Q I rx ry h
  obtain ⟨d, e, hd, he, ha, hn, h64, q⟩ := h
  obtain ⟨as, r1⟩ := Dp.reads I d x v hd rx
  obtain ⟨bs, r2⟩ := Dp.reads I e y u he ry
  exact PySem.W.lt_data r1 r2 ha hn (by omega) ⟨.bl _, H, I, rfl, q⟩
/-- a key tuple as data -/
def keyD (k : List Key) : PyData := .tuple (k.map kD)
def keysLe : Addr × List Key → Addr × List Key → Bool := PySem.W.dataLe false fun z => keyD z.2
def rSortedDT (K : PySem.W.Frag) : List V → Hp → VK → Prop := fun vs H Q => ∃ (a : Addr) (kvs : List (List Key × V)), vs = [V.ref a] ∧ H a = some (.dT kvs) ∧ kvs.length ≤ 100000 ∧
  PySem.W.AllAlike (kvs.map fun p => keyD p.1) ∧ (∀ p ∈ kvs, ∃ x r, p.1 = x :: r) ∧ (∀ p ∈ kvs, (keyD p.1).depth ≤ 60) ∧
  ∀ (ps : List (Addr × List Key)) (p : Addr), ps.map (·.2) = kvs.map (·.1) → (∀ z ∈ ps, H z.1 = some (.tup (z.2.map kV))) → H p = none → Q (.ref p) (upd H p (.lst ((ps.mergeSort keysLe).map fun z => V.ref z.1)))
theorem dp_key {K : PySem.W.Frag} {H : Hp} : ∀ k : List Key, DpAll K H (k.map kV) (k.map kD)
  | [] => .nil
  | .inl i :: r => .cons (.int i) (dp_key r)
  | .inr x :: r => .cons (.str x) (dp_key r)
theorem cr_sortedDT (hc : X.calm = true) (hu : X.A.units + 64 < cLine) : CallR X (.builtin "sorted") (rSortedDT X.K) := by
  intro pins s σ H xs us Q I r h
  obtain ⟨a, kvs, rfl, hd, hlen, hal, hne, hdep, q⟩ := h
  obtain ⟨u, rfl, rx⟩ := r.one
  cases rx
  obtain ⟨z, hs, ks, pr, o, es, ep, ho, hx, hdt, he, hn⟩ := (show ObjOk X.prog X.w H s.heap a (.dT kvs) from I.hok _ _ hd)
  have l1 : es.size = ks.length := size_of_entries he
  have l2 : kvs.length = ks.length := Paired.length pr
  refine Calls.call_function_entry PyProof.Rows.kind_sorted PyProof.Rows.plain_sorted PyProof.Rows.entry_sorted (PyProof.Rows.args_sorted1 _) ?_
  unfold Builtin.«sorted»
  refine wpAny_bind (m := checkCount "sorted" 1 1 _) (wpAny_pure ?_)
  refine wpAny_bind (PySem.W.kdu_collect (A := X.A.in1) (kdl_raw hs hx hdt) (I.ok.hd hc) ho (by rw [l1, ← l2]; exact Nat.le_trans hlen (by decide)) fun h' tk acc' kp it => ?_)
  have ea : acc'.toList = (ks.map fun x => x.2.1).map Value.ref := by
    rw [List.map_map]
    have hl : acc'.toList.length = ks.length := by rw [Array.length_toList, it.1]; exact l1
    apply List.ext_getElem?
    intro j
    rw [List.getElem?_map]
    cases hj : acc'.toList[j]? with
    | none =>
      have h1 := List.getElem?_eq_none_iff.mp hj
      rw [List.getElem?_eq_none (by omega)]
      all_goals rfl
    | some v =>
      obtain ⟨en, hen, hv⟩ := it.2 j v (by rw [← Array.getElem?_toList]; exact hj)
      have qe := entry_at he j
      rw [hen] at qe
      cases hb : ks[j]? with
      | none =>
        rw [hb] at qe
        exact nomatch (show some en = none from qe)
      | some b =>
        rw [hb] at qe
        have e2 : en = entryOfKey (tupleKind (mixKind X.prog X.w)) b := Option.some.inj qe
        rw [hv, e2]
        all_goals rfl
  -- the keys with their places
  generalize hps : (ks.map fun x => (x.2.1, x.1)) = ps
  have e1 : ps.map (·.2) = kvs.map (·.1) := by
    rw [← hps, List.map_map]
    clear hps q ea it he hdt l1 l2 hal hne hdep hlen hd z hn
    induction pr with
    | nil => rfl
    | cons h t ih => rw [List.map_cons, List.map_cons, ih]; exact congrArg (· :: _) h.1.symm
  have e2 : ∀ z ∈ ps, H z.1 = some (.tup (z.2.map kV)) := by
    rw [← hps]
    clear hps q ea it he hdt l1 l2 hal hne hdep hlen hd e1 z hn
    induction pr with
    | nil => intro z hz; cases hz
    | cons h t ih =>
      intro z hz
      rcases List.mem_cons.mp hz with rfl | hz
      · show H _ = some (.tup (_))
        rw [h.2.1, h.1]
      · exact ih z hz
  have e3 : (ks.map fun x => x.2.1) = ps.map (·.1) := by rw [← hps, List.map_map]; rfl
  have lps : ps.length = kvs.length := by rw [← hps, List.length_map, l2]
  have hvs : acc'.toList = ps.map fun z => Value.ref z.1 := by rw [ea, e3, List.map_map]; rfl
  have hsz : acc'.toList.length ≤ sizeLine := by rw [hvs, List.length_map, lps]; exact Nat.le_trans hlen (by decide)
  have er : ∀ (h'' : Heap), (∀ b ob, s.heap.get? b = some ob → h''.get? b = some ob) → PySem.W.EachIs (fun v b => ∃ as, Reads h'' v (keyD b.2) as) acc'.toList ps := fun h'' k => by
    rw [hvs]
    have : ∀ qs : List (Addr × List Key), (∀ z ∈ qs, H z.1 = some (.tup (z.2.map kV))) → PySem.W.EachIs (fun v b => ∃ as, Reads h'' v (keyD b.2) as) (qs.map fun z => Value.ref z.1) qs := fun qs => by
      induction qs with
      | nil => exact fun _ => .nil
      | cons z r ih =>
        intro hq
        obtain ⟨as, rd⟩ := Dp.reads I (keyD z.2) (.ref z.1) (.ref z.1) (.tup (.inl (.inl (hq z List.mem_cons_self))) (dp_key _)) rfl
        exact .cons ⟨as, PyProof.Rows.Reads.keeps k rd⟩ (ih fun y hy => hq y (List.mem_cons_of_mem _ hy))
    exact this ps e2
  have I1 : Inv X pins σ H { s with heap := h', toks := tk } := I.kept kp
  refine wpAny_bind (wpAny_newList ?_ hsz)
  have hoL : (h'.push (seqObj "list" acc'.toList.toArray 0)).get? h'.objs.size = some (seqObj "list" acc'.toList.toArray 0) := Heap.get?_push_size _ rfl
  show wpAny _ _ _ _ _ { s with heap := h'.push (seqObj "list" acc'.toList.toArray 0), toks := tk }
  have hk2 : ∀ b ob, s.heap.get? b = some ob → (PySem.W.sortingHeap (h'.push (seqObj "list" acc'.toList.toArray 0)) h'.objs.size acc'.toList).get? b = some ob := fun b ob e => by
    have e4 := kp b ob e
    exact PySem.W.sortingHeap_old (Nat.ne_of_lt (Heap.lt_size e4)) (Heap.get?_push_of_some _ e4)
  have er2 := er _ hk2
  have hmm : ∀ z ∈ ps, ∃ p ∈ kvs, p.1 = z.2 := fun z hz => by
    have : z.2 ∈ kvs.map (·.1) := by rw [← e1]; exact List.mem_map_of_mem hz
    obtain ⟨p, hp, e⟩ := List.mem_map.mp this
    exact ⟨p, hp, e⟩
  have hal2 : PySem.W.AllAlike (ps.map fun z => keyD z.2) := fun d hd d' hd' => by
    obtain ⟨z, hz, rfl⟩ := List.mem_map.mp hd
    obtain ⟨z', hz', rfl⟩ := List.mem_map.mp hd'
    obtain ⟨p, hp, e⟩ := hmm z hz
    obtain ⟨p', hp', e'⟩ := hmm z' hz'
    rw [← e, ← e']
    exact hal _ (List.mem_map_of_mem (f := fun p : List Key × V => keyD p.1) hp) _ (List.mem_map_of_mem (f := fun p : List Key × V => keyD p.1) hp')
  have hso : PySem.W.Sortable (ps.map fun z => keyD z.2) := .inl fun d hd => by
    obtain ⟨z, hz, rfl⟩ := List.mem_map.mp hd
    obtain ⟨p, hp, e⟩ := hmm z hz
    obtain ⟨x, r, e5⟩ := hne p hp
    refine ⟨kD x, r.map kD, ?_⟩
    show PyData.tuple (z.2.map kD) = _
    rw [← e, e5]
    rfl
  have S := PySem.W.SortsAt.data (prog := X.prog) (w := X.w) (A := X.A.in1.in1) (s := { s with heap := PySem.W.sortingHeap (h'.push (seqObj "list" acc'.toList.toArray 0)) h'.objs.size acc'.toList, toks := tk }) (PySem.W.each_map (R := fun v d => ∃ as, Reads (PySem.W.sortingHeap (h'.push (seqObj "list" acc'.toList.toArray 0)) h'.objs.size acc'.toList) v d as) (fun z : Addr × List Key => keyD z.2) er2) hal2 hso (fun d hd => by
    obtain ⟨z, hz, rfl⟩ := List.mem_map.mp hd
    obtain ⟨p, hp, e⟩ := hmm z hz
    have := hdep p hp
    rw [e] at this
    show X.A.units + 2 + _ < cLine
    omega)
  have out := PySem.W.sortVals_data (R := fun v (z : Addr × List Key) => v = Value.ref z.1) false (show PySem.W.EachIs (fun v (z : Addr × List Key) => v = Value.ref z.1) acc'.toList ps from by
    rw [hvs]
    clear hps e1 e2 e3 lps hvs er er2 hmm hal2 hso S
    induction ps with
    | nil => exact .nil
    | cons z r ih => exact .cons rfl ih) er2 hal2
  refine wpAny_bind (wpAny_holding (wpAny_call_entry PyProof.Rows.slot_list_sort ⟨_, hoL, rfl⟩ PyProof.Rows.entry_list_sort
    (PySem.W.list_sort_vals (s := { s with heap := h'.push (seqObj "list" acc'.toList.toArray 0), toks := tk }) hoL S hsz ⟨_, rfl, ?_⟩)
    (PyProof.Rows.args_list_sort _)))
  generalize (PySem.W.sortVals (PySem.W.dataKind (PySem.W.sortingHeap (h'.push (seqObj "list" acc'.toList.toArray 0)) h'.objs.size acc'.toList) (ps.map fun z => keyD z.2)) false acc'.toList acc'.toList) = ov at out
  obtain ⟨e', he'⟩ := PyProof.Rows.sortedHeap_at (vs := acc'.toList) (out := ov.toArray) hoL
  have hov : ov = (ps.mergeSort keysLe).map fun z => Value.ref z.1 := by
    have : ∀ (vs : List Value) (qs : List (Addr × List Key)), PySem.W.EachIs (fun v (z : Addr × List Key) => v = Value.ref z.1) vs qs → vs = qs.map fun z => Value.ref z.1 := fun vs qs h => by
      induction h with
      | nil => rfl
      | cons a _ ih => rw [List.map_cons, ← ih, a]
    exact this _ _ out
  have lov : ((ps.mergeSort keysLe).map fun z => V.ref z.1).length ≤ sizeLine := by
    rw [List.length_map, List.length_mergeSort, lps]
    exact Nat.le_trans hlen (by decide)
  have rv : Vals ((ps.mergeSort keysLe).map fun z => V.ref z.1) ov := by
    rw [hov]
    have := vals_refs ((ps.mergeSort keysLe).map (·.1))
    rw [List.map_map, List.map_map] at this
    exact this
  refine wpAny_pure ⟨_, rfl, .ref h'.objs.size, upd H h'.objs.size (.lst ((ps.mergeSort keysLe).map fun z => V.ref z.1)), I1.laid (t' := tk) (fun b u e => ?_) (Nat.le_refl _)
    (show ObjOk X.prog X.w _ _ _ (.lst ((ps.mergeSort keysLe).map fun z => V.ref z.1)) from ⟨lov, ov, e', rv, he'⟩), rfl, q ps _ e1 e2 (I1.hok.fresh (Nat.le_refl _))⟩
  have hb : b < h'.objs.size := Heap.lt_size e
  rw [PyProof.Rows.sortedHeap_old (Nat.ne_of_lt hb) (by rw [size_push']; exact Nat.lt_succ_of_lt hb)]
  exact Heap.get?_push_of_some _ e
end
end Own
namespace Own
open PySem PySem.Spec PyProof.Rows L2 HT
/-! ### pairs of a symbol and its number of arguments -/
abbrev Pr := Str × Nat
def prD (p : Pr) : PyData := .tuple [.str p.1, .int p.2]
def prV (p : Pr) : List V := [.str p.1, .int (p.2 : Int)]
def prK (p : Pr) : List Key := [.inr p.1, .inl (p.2 : Int)]
theorem prK_inj {p q : Pr} (h : prK p = prK q) : p = q := by
  obtain ⟨a, b⟩ := p
  obtain ⟨c, d⟩ := q
  unfold prK at h
  simp only [List.cons.injEq, Sum.inr.injEq, Sum.inl.injEq, and_true] at h
  obtain ⟨h1, h2⟩ := h
  exact Prod.ext h1 (by show b = d; omega)
theorem keyD_pr (p : Pr) : keyD (prK p) = prD p := rfl
theorem prK_V (p : Pr) : (prK p).map kV = prV p := rfl
inductive PrAt (H : Hp) : V → Pr → Prop
  | mk {a : Addr} {p : Pr} : H a = some (.tup (prV p)) → PrAt H (.ref a) p
inductive PrAll (H : Hp) : List V → List Pr → Prop
  | nil : PrAll H [] []
  | cons {v : V} {p : Pr} {vs : List V} {ps : List Pr} : PrAt H v p → PrAll H vs ps → PrAll H (v :: vs) (p :: ps)
theorem PrAt.mono {H H' : Hp} (m : Tups H H') {v : V} {p : Pr} (h : PrAt H v p) : PrAt H' v p := by
  cases h with
  | mk e => exact .mk (m _ _ e)
theorem PrAll.mono {H H' : Hp} (m : Tups H H') : ∀ {vs : List V} {ps : List Pr}, PrAll H vs ps → PrAll H' vs ps
  | _, _, .nil => .nil
  | _, _, .cons a r => .cons (a.mono m) (r.mono m)
theorem PrAll.len {H : Hp} : ∀ {vs : List V} {ps : List Pr}, PrAll H vs ps → vs.length = ps.length
  | _, _, .nil => rfl
  | _, _, .cons _ r => congrArg (· + 1) r.len
theorem PrAll.app {H : Hp} : ∀ {vs ws : List V} {ps qs : List Pr}, PrAll H vs ps → PrAll H ws qs → PrAll H (vs ++ ws) (ps ++ qs)
  | _, _, _, _, .nil, b => b
  | _, _, _, _, .cons a r, b => .cons a (r.app b)
theorem PrAll.get {H : Hp} : ∀ {vs : List V} {ps : List Pr} {i : Nat} {v : V}, PrAll H vs ps → vs[i]? = some v → ∃ p, ps[i]? = some p ∧ PrAt H v p
  | _, _, _, _, .nil, h => by cases h
  | _, _, 0, _, .cons a r, h => by
    cases (show some _ = some _ from h)
    exact ⟨_, rfl, a⟩
  | _, _, i + 1, _, .cons a r, h => r.get (i := i) h
theorem PrAll.erase {H : Hp} : ∀ {vs : List V} {ps : List Pr} (i : Nat), PrAll H vs ps → PrAll H (vs.eraseIdx i) (ps.eraseIdx i)
  | _, _, _, .nil => .nil
  | _, _, 0, .cons a r => r
  | _, _, i + 1, .cons a r => .cons a (r.erase i)
theorem dp_pr {K : PySem.W.Frag} {H : Hp} {v : V} {p : Pr} (h : PrAt H v p) : Dp K H v (prD p) := by
  cases h with
  | mk e => exact .tup (.inl (.inl e)) (.cons (.str _) (.cons (.int _) .nil))
theorem dp_prs {K : PySem.W.Frag} {H : Hp} : ∀ {vs : List V} {ps : List Pr}, PrAll H vs ps → DpAll K H vs (ps.map prD)
  | _, _, .nil => .nil
  | _, _, .cons a r => .cons (dp_pr a) (dp_prs r)
/-! ### the order -/
def prLt (p q : Pr) : Bool := PySem.W.dataLt (prD p) (prD q)
theorem eqv_pr (p q : Pr) : PyData.eqv (prD p) (prD q) = decide (p = q) := by
  obtain ⟨a, b⟩ := p
  obtain ⟨c, d⟩ := q
  have e : PyData.eqv (prD (a, b)) (prD (c, d)) = ((a == c) && (((b : Int) == (d : Int)) && true)) := rfl
  rw [e, Bool.and_true]
  by_cases h1 : a = c
  · by_cases h2 : b = d
    · subst h1 h2
      simp
    · have h3 : ¬ ((b : Int) = (d : Int)) := fun z => h2 (by omega)
      rw [beq_eq_false_iff_ne.mpr h3, Bool.and_false]
      exact (decide_eq_false fun z => h2 (congrArg Prod.snd z)).symm
  · rw [beq_eq_false_iff_ne.mpr h1, Bool.false_and]
    exact (decide_eq_false fun z => h1 (congrArg Prod.fst z)).symm
theorem prLt_irr (p : Pr) : prLt p p = false := PySem.W.dataLt_self _
theorem prLt_tr {p q r : Pr} (h1 : prLt p q = true) (h2 : prLt q r = true) : prLt p r = true := PyProof.Rows.lex_trans _ _ _ h1 h2
theorem prLt_asym {p q : Pr} (h1 : prLt p q = true) : prLt q p = false := by
  cases h : prLt q p with
  | false => rfl
  | true => exact absurd ((prLt_irr p).symm.trans (prLt_tr h1 h)) (by decide)
theorem prLt_tot {p q : Pr} (h : p ≠ q) (h1 : prLt p q = false) : prLt q p = true := by
  obtain ⟨a, b⟩ := p
  obtain ⟨c, d⟩ := q
  have e1 : prLt (a, b) (c, d) = if PyData.eqv (.str a) (.str c) = true then (if PyData.eqv (.int (b : Int)) (.int (d : Int)) = true then false else PySem.W.dataLt (.int (b : Int)) (.int (d : Int))) else PySem.W.dataLt (.str a) (.str c) := PySem.W.dataLt_pair rfl rfl
  have e2 : prLt (c, d) (a, b) = if PyData.eqv (.str c) (.str a) = true then (if PyData.eqv (.int (d : Int)) (.int (b : Int)) = true then false else PySem.W.dataLt (.int (d : Int)) (.int (b : Int))) else PySem.W.dataLt (.str c) (.str a) := PySem.W.dataLt_pair rfl rfl
  have es : ∀ x y : Str, PyData.eqv (.str x) (.str y) = (x == y) := fun x y => by rw [PyData.eqv]
  have ei : ∀ x y : Int, PyData.eqv (.int x) (.int y) = (x == y) := fun x y => by rw [PyData.eqv]
  rw [e1, es, ei, PySem.W.dataLt_int, PySem.W.dataLt_str] at h1
  rw [e2, es, ei, PySem.W.dataLt_int, PySem.W.dataLt_str]
  by_cases g1 : a = c
  · subst g1
    have g2 : b ≠ d := fun z => h (by rw [z])
    have g3 : ¬ ((b : Int) = (d : Int)) := fun z => g2 (by omega)
    have g4 : ¬ ((d : Int) = (b : Int)) := fun z => g2 (by omega)
    rw [if_pos (beq_self_eq_true a), if_neg (by rw [beq_eq_false_iff_ne.mpr g3]; decide)] at h1
    rw [if_pos (beq_self_eq_true a), if_neg (by rw [beq_eq_false_iff_ne.mpr g4]; decide)]
    have h1 := of_decide_eq_false h1
    exact decide_eq_true (by omega)
  · have g2 : ¬ c = a := fun z => g1 z.symm
    rw [if_neg (by rw [beq_eq_false_iff_ne.mpr g1]; decide)] at h1
    rw [if_neg (by rw [beq_eq_false_iff_ne.mpr g2]; decide)]
    have h1 := of_decide_eq_false h1
    by_cases h2 : c.cps.toList < a.cps.toList
    · exact decide_eq_true h2
    · exact absurd (strE (List.le_antisymm h2 h1)) g1
theorem prLt_neg {p q r : Pr} (h1 : prLt q p = false) (h2 : prLt r q = false) : prLt r p = false := by
  cases h : prLt r p with
  | false => rfl
  | true =>
    rcases PyProof.Rows.lex_negTrans _ (PySem.W.keyToks (prD q)) _ h with a | a
    · exact absurd (h2.symm.trans a) (by decide)
    · exact absurd (h1.symm.trans a) (by decide)
theorem _root_.L2.Room.units65 {k : Nat} {A : Around} (r : Room k A) : A.units + 65 < cLine := by have := r.un; omega
abbrev Asc (ps : List Pr) : Prop := ps.Pairwise fun a b => prLt a b = true
theorem asc_eq : ∀ {as bs : List Pr}, Asc as → Asc bs → (∀ x, x ∈ as ↔ x ∈ bs) → as = bs
  | [], [], _, _, _ => rfl
  | [], b :: r, _, _, h => by have := (h b).mpr List.mem_cons_self; cases this
  | a :: r, [], _, _, h => by have := (h a).mp List.mem_cons_self; cases this
  | a :: r, b :: s, h1, h2, h => by
    have k1 := List.pairwise_cons.mp h1
    have k2 := List.pairwise_cons.mp h2
    have e : a = b := by
      rcases List.mem_cons.mp ((h a).mp List.mem_cons_self) with e | m1
      · exact e
      rcases List.mem_cons.mp ((h b).mpr List.mem_cons_self) with e | m2
      · exact e.symm
      exact absurd ((prLt_asym (k1.1 b m2)).symm.trans (k2.1 a m1)) (by decide)
    subst e
    refine congrArg (a :: ·) (asc_eq k1.2 k2.2 fun x => ⟨fun m => ?_, fun m => ?_⟩)
    · rcases List.mem_cons.mp ((h x).mp (List.mem_cons_of_mem _ m)) with e | m'
      · subst e
        exact absurd ((prLt_irr x).symm.trans (k1.1 x m)) (by decide)
      · exact m'
    · rcases List.mem_cons.mp ((h x).mpr (List.mem_cons_of_mem _ m)) with e | m'
      · subst e
        exact absurd ((prLt_irr x).symm.trans (k2.1 x m)) (by decide)
      · exact m'
/-! ### the symbols of a term, and the term with greater variables -/
mutual
def Ter.syms : Ter → List Pr
  | .var _ => []
  | .ap f as => (f, as.length) :: Ter.symss as
def Ter.symss : List Ter → List Pr
  | [] => []
  | a :: r => a.syms ++ Ter.symss r
end
theorem symss_app : ∀ as bs : List Ter, Ter.symss (as ++ bs) = Ter.symss as ++ Ter.symss bs
  | [], _ => rfl
  | a :: r, bs => by
    show a.syms ++ Ter.symss (r ++ bs) = (a.syms ++ Ter.symss r) ++ Ter.symss bs
    rw [symss_app r bs, List.append_assoc]
mutual
def Ter.shift (n : Int) : Ter → Ter
  | .var (.inl i) => .var (.inl (i + n))
  | .var (.inr x) => .var (.inr x)
  | .ap f as => .ap f (Ter.shifts n as)
def Ter.shifts (n : Int) : List Ter → List Ter
  | [] => []
  | a :: r => a.shift n :: Ter.shifts n r
end
theorem shifts_len (n : Int) : ∀ as : List Ter, (Ter.shifts n as).length = as.length
  | [] => rfl
  | _ :: r => congrArg (· + 1) (shifts_len n r)
theorem shifts_app (n : Int) : ∀ as bs : List Ter, Ter.shifts n (as ++ bs) = Ter.shifts n as ++ Ter.shifts n bs
  | [], _ => rfl
  | a :: r, bs => congrArg (a.shift n :: ·) (shifts_app n r bs)
mutual
theorem shift_same (n : Int) : ∀ t : Ter, (t.shift n).size = t.size ∧ (t.shift n).nest = t.nest ∧ (t.shift n).syms = t.syms
  | .var (.inl i) => ⟨rfl, rfl, rfl⟩
  | .var (.inr x) => ⟨rfl, rfl, rfl⟩
  | .ap f as => by
    obtain ⟨h1, h2, h3⟩ := shifts_same n as
    refine ⟨?_, ?_, ?_⟩
    · show Ter.sizes (Ter.shifts n as) + 1 = Ter.sizes as + 1
      rw [h1]
    · show Ter.nests (Ter.shifts n as) + 1 = Ter.nests as + 1
      rw [h2]
    · show (f, (Ter.shifts n as).length) :: Ter.symss (Ter.shifts n as) = (f, as.length) :: Ter.symss as
      rw [h3, shifts_len]
theorem shifts_same (n : Int) : ∀ ts : List Ter, Ter.sizes (Ter.shifts n ts) = Ter.sizes ts ∧ Ter.nests (Ter.shifts n ts) = Ter.nests ts ∧ Ter.symss (Ter.shifts n ts) = Ter.symss ts
  | [] => ⟨rfl, rfl, rfl⟩
  | t :: r => by
    obtain ⟨h1, h2, h3⟩ := shift_same n t
    obtain ⟨k1, k2, k3⟩ := shifts_same n r
    refine ⟨?_, ?_, ?_⟩
    · show (t.shift n).size + Ter.sizes (Ter.shifts n r) = t.size + Ter.sizes r
      rw [h1, k1]
    · show max (t.shift n).nest (Ter.nests (Ter.shifts n r)) = max t.nest (Ter.nests r)
      rw [h2, k2]
    · show (t.shift n).syms ++ Ter.symss (Ter.shifts n r) = t.syms ++ Ter.symss r
      rw [h3, k3]
end
def anyNum (k : Key) : Prop := ∃ i : Int, k = .inl i
mutual
theorem shift_wf {W : Str → Nat → Prop} (n : Int) : ∀ t : Ter, t.wf W anyNum → (t.shift n).wf W anyNum
  | .var (.inl i), _ => ⟨_, rfl⟩
  | .var (.inr x), h => h
  | .ap f as, h => ⟨by rw [shifts_len]; exact h.1, shifts_wf n as h.2⟩
theorem shifts_wf {W : Str → Nat → Prop} (n : Int) : ∀ ts : List Ter, Ter.wfs W anyNum ts → Ter.wfs W anyNum (Ter.shifts n ts)
  | [], _ => trivial
  | t :: r, h => ⟨shift_wf n t h.1, shifts_wf n r h.2⟩
end
/-! ### terms as data are not too long -/
mutual
theorem fits_ter : ∀ (t : Ter) (n : Nat), t.nest < n → t.size ≤ 1000000 → fitsD n t.dat
  | .var (.inl i), n + 1, _, _ => trivial
  | .var (.inr x), n + 1, _, _ => trivial
  | .ap f as, n + 1, h, hz => by
    have h : Ter.nests as + 1 < n + 1 := h
    have hz : Ter.sizes as + 1 ≤ 1000000 := hz
    have l1 := Ter.sizes_len as
    have e : (Ter.dats as).length = as.length := by
      have : ∀ as : List Ter, (Ter.dats as).length = as.length := fun as => by
        induction as with
        | nil => rfl
        | cons a r ih => exact congrArg (· + 1) ih
      exact this as
    show (PyData.str f :: Ter.dats as).length ≤ 1000000 ∧ ∀ d ∈ PyData.str f :: Ter.dats as, fitsD n d
    refine ⟨by rw [List.length_cons, e]; omega, fun d hd => ?_⟩
    rcases List.mem_cons.mp hd with rfl | hd
    · obtain ⟨m, rfl⟩ : ∃ m, n = m + 1 := ⟨n - 1, by omega⟩
      trivial
    · exact fits_ters as n (by omega) (by omega) d hd
theorem fits_ters : ∀ (ts : List Ter) (n : Nat), Ter.nests ts < n → Ter.sizes ts ≤ 1000000 → ∀ d ∈ Ter.dats ts, fitsD n d
  | [], _, _, _, d, hd => by cases hd
  | t :: r, n, h, hz, d, hd => by
    have h : max t.nest (Ter.nests r) < n := h
    have hz : t.size + Ter.sizes r ≤ 1000000 := hz
    rcases List.mem_cons.mp hd with rfl | hd
    · exact fits_ter t n (by omega) (by omega)
    · exact fits_ters r n (by omega) (by omega) d hd
end
theorem fits_prs {ps : List Pr} (n : Nat) (h : ps.length ≤ 1000000) : fitsD (n + 3) (.list (ps.map prD)) := by
  refine ⟨by rw [List.length_map]; exact h, fun d hd => ?_⟩
  obtain ⟨p, _, rfl⟩ := List.mem_map.mp hd
  refine ⟨by show 2 ≤ 1000000; decide, fun d hd => ?_⟩
  rcases List.mem_cons.mp hd with rfl | hd
  · trivial
  · rcases List.mem_cons.mp hd with rfl | hd
    · trivial
    · cases hd
/-- pairs whose symbols can be laid -/
theorem shaped_pr {p : Pr} (h : PyData.strOk p.1 = true) : SeqAt.shaped (prD p) = true := by
  show ((PyData.strOk p.1 && (true && true)) && decide (max 0 (max 0 0) + 1 ≤ 64)) = true
  rw [h]
  rfl
theorem lay_prs : ∀ ps : List Pr, (∀ p ∈ ps, PyData.strOk p.1 = true) → PyData.canLayAll0 (ps.map prD) = true ∧ PyData.depthAll (ps.map prD) ≤ 1
  | [], _ => ⟨rfl, Nat.zero_le _⟩
  | p :: r, h => by
    obtain ⟨h1, h2⟩ := lay_prs r fun k hk => h k (List.mem_cons_of_mem _ hk)
    have hp := h p List.mem_cons_self
    refine ⟨?_, ?_⟩
    · show ((PyData.strOk p.1 && (true && true)) && PyData.canLayAll0 (r.map prD)) = true
      rw [h1, hp]
      rfl
    · show max (max 0 (max 0 0) + 1) (PyData.depthAll (r.map prD)) ≤ 1
      omega
theorem shaped_prs {ps : List Pr} (h : ∀ p ∈ ps, PyData.strOk p.1 = true) : SeqAt.shaped (.list (ps.map prD)) = true := by
  obtain ⟨h1, h2⟩ := lay_prs ps h
  show (PyData.canLayAll0 (ps.map prD) && decide (PyData.depthAll (ps.map prD) + 1 ≤ 64)) = true
  rw [h1, decide_eq_true (by omega)]
  rfl
theorem any_pr (ps : List Pr) (p : Pr) : ((ps.map prD).any fun z => PyData.eqv z (prD p)) = decide (p ∈ ps) := by
  induction ps with
  | nil => rfl
  | cons q r ih =>
    rw [List.map_cons, List.any_cons, ih, eqv_pr]
    by_cases h : q = p
    · subst h
      rw [decide_eq_true rfl, decide_eq_true List.mem_cons_self]
      rfl
    · rw [decide_eq_false h, Bool.false_or]
      by_cases h2 : p ∈ r
      · rw [decide_eq_true h2, decide_eq_true (List.mem_cons_of_mem _ h2)]
      · rw [decide_eq_false h2]
        refine (decide_eq_false fun z => ?_).symm
        rcases List.mem_cons.mp z with z | z
        · exact h z.symm
        · exact h2 z
mutual
theorem syms_wf {W : Str → Nat → Prop} {U : Key → Prop} : ∀ (t : Ter), t.wf W U → ∀ p ∈ t.syms, W p.1 p.2
  | .var _, _, p, hp => by cases hp
  | .ap f as, h, p, hp => by
    rcases List.mem_cons.mp hp with rfl | hp
    · exact h.1
    · exact symss_wf as h.2 p hp
theorem symss_wf {W : Str → Nat → Prop} {U : Key → Prop} : ∀ (ts : List Ter), Ter.wfs W U ts → ∀ p ∈ Ter.symss ts, W p.1 p.2
  | [], _, p, hp => by cases hp
  | t :: r, h, p, hp => by
    rcases List.mem_append.mp hp with hp | hp
    · exact syms_wf t h.1 p hp
    · exact symss_wf r h.2 p hp
end
/-! ### sets of pairs as dicts -/
def addP (acc : List Pr) (p : Pr) : List Pr := if p ∈ acc then acc else acc ++ [p]
def yesT (p : Pr) : List Key × V := (prK p, .bl true)
theorem put_yesT (acc : List Pr) (k : Pr) : putK (acc.map yesT) (prK k) (.bl true) = (addP acc k).map yesT := by
  unfold putK addP
  have e : ((acc.map yesT).any fun kv => decide (kv.1 = prK k)) = decide (k ∈ acc) := by
    rw [List.any_map]
    induction acc with
    | nil => rfl
    | cons x r ih =>
      rw [List.any_cons, ih]
      show (decide (prK x = prK k) || decide (k ∈ r)) = _
      by_cases h : x = k
      · subst h
        rw [decide_eq_true rfl, decide_eq_true List.mem_cons_self]
        rfl
      · rw [decide_eq_false (fun z => h (prK_inj z)), Bool.false_or]
        by_cases h2 : k ∈ r
        · rw [decide_eq_true h2, decide_eq_true (List.mem_cons_of_mem _ h2)]
        · rw [decide_eq_false h2]
          refine (decide_eq_false fun z => ?_).symm
          rcases List.mem_cons.mp z with z | z
          · exact h z.symm
          · exact h2 z
  rw [e]
  by_cases hk : k ∈ acc
  · rw [if_pos (decide_eq_true hk), if_pos hk, List.map_map]
    apply List.map_congr_left
    intro x _
    show (if prK x = prK k then (prK x, V.bl true) else (prK x, V.bl true)) = (prK x, V.bl true)
    split <;> rfl
  · rw [if_neg (by rw [decide_eq_false hk]; decide), if_neg hk, List.map_append]
    rfl
theorem addP_len (acc : List Pr) (k : Pr) : (addP acc k).length ≤ acc.length + 1 := by
  unfold addP
  split
  · omega
  · rw [List.length_append, List.length_singleton]; omega
theorem mem_addP (acc : List Pr) (k x : Pr) : x ∈ addP acc k ↔ x ∈ acc ∨ x = k := by
  unfold addP
  split
  · rename_i h
    exact ⟨.inl, fun z => z.elim id fun e => e ▸ h⟩
  · rw [List.mem_append, List.mem_singleton]
theorem addP_nd {acc : List Pr} (h : acc.Nodup) (k : Pr) : (addP acc k).Nodup := by
  unfold addP
  split
  · exact h
  · rename_i n
    exact List.nodup_append.mpr ⟨h, List.nodup_cons.mpr ⟨by simp, List.nodup_nil⟩, fun a ha b hb e => n (by rw [← List.mem_singleton.mp hb, ← e]; exact ha)⟩
/-- what sorted gives of such a dict -/
theorem sorted_prs {H : Hp} {acc : List Pr} (nd : acc.Nodup) {ps : List (Addr × List Key)} (e : ps.map (·.2) = acc.map prK) (h : ∀ z ∈ ps, H z.1 = some (.tup (z.2.map kV))) :
    ∃ L, PrAll H ((ps.mergeSort keysLe).map fun z => V.ref z.1) L ∧ Asc L ∧ (∀ x, x ∈ L ↔ x ∈ acc) ∧ L.length = acc.length := by
  have hp := List.mergeSort_perm ps keysLe
  have hs : (ps.mergeSort keysLe).Pairwise fun a b => keysLe a b = true := by
    have lle : ∀ a b : Addr × List Key, keysLe a b = !PySem.W.dataLt (keyD b.2) (keyD a.2) := fun a b => rfl
    refine List.pairwise_mergeSort (fun a b c h1 h2 => ?_) (fun a b => ?_) ps
    · rw [lle] at h1 h2 ⊢
      cases h3 : PySem.W.dataLt (keyD c.2) (keyD a.2) with
      | false => rfl
      | true =>
        rcases PyProof.Rows.lex_negTrans _ (PySem.W.keyToks (keyD b.2)) _ h3 with z | z
        · have z : PySem.W.dataLt (keyD c.2) (keyD b.2) = true := z
          rw [z] at h2
          exact h2
        · have z : PySem.W.dataLt (keyD b.2) (keyD a.2) = true := z
          rw [z] at h1
          exact h1
    · rw [lle, lle]
      cases h3 : PySem.W.dataLt (keyD b.2) (keyD a.2) with
      | false => rfl
      | true =>
        cases h4 : PySem.W.dataLt (keyD a.2) (keyD b.2) with
        | false => rfl
        | true => exact absurd (show false = true from (PySem.W.dataLt_self (keyD b.2)).symm.trans (PyProof.Rows.lex_trans _ _ _ h3 h4)) (by decide)
  have n2 : ((ps.mergeSort keysLe).map (·.2)).Nodup := by
    refine (hp.map (·.2)).nodup_iff.mpr ?_
    rw [e]
    exact List.pairwise_map.mpr (nd.imp fun {a b} h z => h (prK_inj z))
  have m2 : ∀ x : List Key, x ∈ (ps.mergeSort keysLe).map (·.2) ↔ x ∈ acc.map prK := fun x => by
    rw [(hp.map (·.2)).mem_iff, e]
  have h2 : ∀ z ∈ ps.mergeSort keysLe, H z.1 = some (.tup (z.2.map kV)) := fun z hz => h z (hp.mem_iff.mp hz)
  have hl : (ps.mergeSort keysLe).length = acc.length := by
    rw [List.length_mergeSort]
    have := congrArg List.length e
    rw [List.length_map, List.length_map] at this
    exact this
  have hq : ∃ L : List Pr, (ps.mergeSort keysLe).map (·.2) = L.map prK := by
    have : ∀ l : List (List Key), (∀ x ∈ l, x ∈ acc.map prK) → ∃ L : List Pr, l = L.map prK := fun l => by
      induction l with
      | nil => exact fun _ => ⟨[], rfl⟩
      | cons x r ih =>
        intro hx
        obtain ⟨L, rfl⟩ := ih fun y hy => hx y (List.mem_cons_of_mem _ hy)
        obtain ⟨p, _, rfl⟩ := List.mem_map.mp (hx x List.mem_cons_self)
        exact ⟨p :: L, rfl⟩
    exact this _ fun x hx => (m2 x).mp hx
  obtain ⟨L, eL⟩ := hq
  refine ⟨L, ?_, ?_, ?_, ?_⟩
  · generalize ps.mergeSort keysLe = qs at eL h2
    clear hl m2 n2 hs hp
    induction qs generalizing L with
    | nil =>
      cases L with
      | nil => exact .nil
      | cons p r => cases eL
    | cons z r ih =>
      cases L with
      | nil => cases eL
      | cons p s =>
        obtain ⟨e1, e2⟩ := List.cons.inj eL
        have e1 : z.2 = prK p := e1
        refine .cons (.mk ?_) (ih s e2 fun y hy => h2 y (List.mem_cons_of_mem _ hy))
        rw [h2 z List.mem_cons_self, e1]
        rfl
  · have h5 : ((ps.mergeSort keysLe).map (·.2)).Pairwise fun a b => a ≠ b ∧ PySem.W.dataLt (keyD b) (keyD a) = false := by
      refine List.Pairwise.and n2 ?_
      refine List.pairwise_map.mpr (hs.imp fun {a b} h => ?_)
      have h : (!PySem.W.dataLt (keyD b.2) (keyD a.2)) = true := h
      cases h6 : PySem.W.dataLt (keyD b.2) (keyD a.2) with
      | false => rfl
      | true => rw [h6] at h; cases h
    rw [eL] at h5
    exact (List.pairwise_map.mp h5).imp fun {a b} h => prLt_tot (fun z => h.1 (by rw [z])) h.2
  · intro x
    constructor
    · intro hx
      have := (m2 (prK x)).mp (by rw [eL]; exact List.mem_map_of_mem hx)
      obtain ⟨y, hy, e9⟩ := List.mem_map.mp this
      rw [← prK_inj e9]
      exact hy
    · intro hx
      have := (m2 (prK x)).mpr (List.mem_map_of_mem hx)
      rw [eL] at this
      obtain ⟨y, hy, e9⟩ := List.mem_map.mp this
      rw [← prK_inj e9]
      exact hy
  · have := congrArg List.length eL
    rw [List.length_map, List.length_map] at this
    omega
theorem alike_keys (acc : List Pr) : PySem.W.AllAlike ((acc.map yesT).map fun p => keyD p.1) := by
  intro d hd d' hd'
  rw [List.map_map] at hd hd'
  obtain ⟨p, _, rfl⟩ := List.mem_map.mp hd
  obtain ⟨q, _, rfl⟩ := List.mem_map.mp hd'
  rfl
end Own
namespace K04
open PySem PySem.Spec PyProof.Rows L2 Own HT
def topS (i : Nat) : Stmt := PySem.Challenge.pw_elenchus_k04_shifted_terms_and_symbols.main.body.getD i (.Pass ⟨0, 0, 0, 0⟩)
abbrev s_is_variable : Stmt := topS 1
abbrev s_shift : Stmt := topS 2
abbrev s_symbols : Stmt := topS 3
abbrev s__law_draws : Stmt := topS 5
abbrev s__law_take : Stmt := topS 6
abbrev s__law_words : Stmt := topS 7
abbrev s__law_variable : Stmt := topS 8
abbrev s__law_term : Stmt := topS 9
abbrev s__law_same : Stmt := topS 10
abbrev s__law_moved : Stmt := topS 11
abbrev s__law_pairs : Stmt := topS 12
abbrev s__law_ascending : Stmt := topS 13
abbrev s_law : Stmt := topS 14
structure Df (K : PySem.W.Frag) (mg : Str → Option Value) (x : Str) (st : Stmt) (ps : List Str) (f : Addr) (fd : FuncData) : Prop where
  F : Fun K x x st f fd
  b : Binds K fd ps []
  m : mg x = some (.ref f)
section
variable {P : Program} {w : World} {K : PySem.W.Frag} {mg : Str → Option Value} {base : Heap}
/-! ### is_variable -/
def spIsVar : Sp := fun vs H Q _ => ∃ v t, vs = [v] ∧ TmAt H v t ∧ Q (.bl t.isVar) H
theorem sc_is_variable : FnScope ["term"] ["term"] (defScope s_is_variable) := ⟨rfl, rfl, rfl, by decide +kernel, rfl, by decide +kernel, by decide +kernel⟩
theorem ok_is_variable {f : Addr} {fd : FuncData} (D : Df K mg "is_variable" s_is_variable ["term"] f fd) (mi : mg "isinstance" = none) (mt : mg "tuple" = none) : FnOk P w K mg base CX0 1 f fd ["term"] spIsVar := by
  refine D.F.ok sc_is_variable (fun vs H Q E h => ?_) (fun cdv A outer s H vs Q E hr h => ?_)
  · obtain ⟨v, t, rfl, _⟩ := h; rfl
  obtain ⟨v, t, rfl, ht, q⟩ := h
  refine ⟨_, pss_one (ps_ret (pe_not (pe_callB call_isiTer (by rfl) mi (by decide +kernel) (pa_cons (pv 0) (pa_cons (pe_bltn (v := .ty "tuple") (by rfl) mt (by decide +kernel) rfl) pa_nil))))), ?_⟩
  refine ⟨v, rfl, v, t, rfl, ht, _, rfl, ?_⟩
  rw [Bool.not_not]
  exact q
end

section
variable {P : Program} {w : World} {K : PySem.W.Frag} {mg : Str → Option Value} {base : Heap}
def spShift (n : Nat) : Sp := fun vs H Q _ => ∃ (v : V) (t : Ter) (m : Int), vs = [v, .int m] ∧ TmAt H v t ∧ t.wf symFine anyNum ∧ t.size ≤ 100000 ∧ t.nest < n ∧
  ∀ v' H', Same H H' → TmAt H' v' (t.shift m) → Q v' H'
/-! ### shift -/
theorem sc_shift : FnScope ["term", "by", "argument"] ["term", "by"] (defScope s_shift) := ⟨rfl, rfl, rfl, by decide +kernel, rfl, by decide +kernel, by decide +kernel⟩
theorem ok_shift1 {f fV : Addr} {fd fdV : FuncData} (D : Df K mg "shift" s_shift ["term", "by"] f fd) (DV : Df K mg "is_variable" s_is_variable ["term"] fV fdV) (GV : FnOk P w K mg base CX0 1 fV fdV ["term"] spIsVar) (mt : mg "tuple" = none) {n : Nat} (G : FnOk P w K mg base CX0 (n + 1) f fd ["term", "by"] (spShift n)) : FnOk P w K mg base CX0 (n + 1 + 1) f fd ["term", "by"] (spShift (n + 1)) := by
  refine D.F.ok sc_shift (fun vs H Q E h => ?_) (fun cdv A outer s H vs Q E hr h => ?_)
  · obtain ⟨v, t, m, rfl, _⟩ := h; rfl
  obtain ⟨v, t, m, rfl, ht, hw, hz, hn, q⟩ := h
  have nd := sc_shift.nd
  have hr1 : Room 1 _ := hr.mono (by omega)
  refine ⟨_, pss_cons (ps_if (pt_val (pe_call GV hr1 (by rfl) DV.m DV.F.kp DV.b .nil pass0 (pa_cons (pv 0) pa_nil)))
      (pss_one (ps_ret (pe_op op_add (pv 0) (pv 1)))) pss_nil)
    (pss_one (ps_ret (pe_op op_catT (pe_tup (pa_cons (pe_ix ix_tup (pv 0) pe_int (fun _ _ => rfl)) pa_nil)) (pe_callTy call_tuple_of (by rfl) mt (by decide +kernel) (pa_cons
      (pe_lc (own := [("argument", 2)]) (g := gName 2) (tt := tYes) (te := tCall (spShift n) [] E0 (tCons (tVar 2) (tCons (tVar 1) tNil))) rfl nd (pi_tup (pe_slice sl_1 (pv 0) (po_some pe_int) po_none)) (blkOk_by (N := ["term", "by", "argument"]) (sc := defScope s_shift) (by decide +kernel))
        (fun _ _ _ _ _ => pg_name (i := 2) nd rfl (Or.inl rfl)) (fun _ _ _ _ _ => pts_nil) (fun _ _ _ _ _ => pe_call G hr (by rfl) D.m D.F.kp D.b .nil pass0 (pa_cons (pv 2) (pa_cons (pv 1) pa_nil)))) pa_nil))))), ?_⟩
  refine ⟨v, rfl, v, t, rfl, ht, _, rfl, ?_⟩
  cases ht with
  | int i =>
    refine iteT ?_
    exact ⟨_, rfl, _, rfl, i, m, rfl, rfl, q (.int (i + m)) H (Same.refl _) (.int _)⟩
  | str x =>
    obtain ⟨r, hr⟩ := hw
    cases hr
  | @ap a g xs as e hs =>
    refine iteF ?_
    have ls := hs.len
    have hn : Ter.nests as + 1 < n + 1 := hn
    have hz : Ter.sizes as + 1 ≤ 100000 := hz
    have la := Ter.sizes_len as
    refine ⟨_, rfl, a, _, 0, .str g, rfl, rfl, .inl (.inl e), head_at, by show 1 ≤ sizeLine; decide, fun p1 np1 => ?_⟩
    have s1 := same_new np1 (.tup [.str g])
    refine ⟨.ref a, rfl, 1, rfl, a, .str g, xs, rfl, rfl, rfl, .inl (.inl (s1 _ _ e)), fun p2 np2 => ?_⟩
    have s2 := same_new np2 (.tup xs)
    refine ⟨p2, rfl, ⟨xs, .inl (.inl upd_same)⟩, fun d nd' => ?_⟩
    have s12 := s1.trans s2
    have nd0 : H d = none := s12.free nd'
    refine walk_t (xs := xs) (fun i H2 => ∃ acc, Same (upd (upd H p1 (.tup [.str g])) p2 (.tup xs)) H2 ∧ H2 d = some (.lst acc) ∧ TmAll H2 acc (Ter.shifts m (as.take i)) ∧ acc.length ≤ i) ⟨[], same_new nd' _, upd_same, .nil, Nat.le_refl _⟩ (fun i H2 _ h => ?_) (fun i x H2 hx h => ?_) (fun H2 h => ?_)
    · obtain ⟨acc, sm, _⟩ := h
      exact .inl (.inl (sm _ _ upd_same))
    · obtain ⟨acc, sm, ed, ha, la2⟩ := h
      obtain ⟨t1, et, hx1⟩ := hs.get hx
      have hx2 := TmAt.mono (s12.trans sm).tups _ _ hx1
      have n1 := nest_le_of et
      have m1 := size_le_of et
      refine ⟨rfl, ?_⟩
      refine ⟨_, rfl, _, rfl, x, t1, m, rfl, hx2, wfs_get hw.2 et, by omega, by omega, fun v' H3 s3 hv' => ?_⟩
      have ed3 := s3 _ _ ed
      have b4 : But d H3 (upd H3 d (.lst (acc ++ [v']))) := But.upd
      have m4 := b4.tups ed3
      have li : i < as.length := (List.getElem?_eq_some_iff.mp et).1
      have etk : as.take (i + 1) = as.take i ++ [t1] := by rw [List.take_add_one, et]; rfl
      refine ⟨acc, ed3, small6' (by omega), acc ++ [v'], But.same nd' (sm.trans s3) b4, upd_same, ?_, by rw [List.length_append, List.length_singleton]; omega⟩
      rw [etk, shifts_app]
      exact (TmAll.mono (s3.tups.trans m4) _ _ ha).app (.cons (TmAt.mono m4 _ _ hv') .nil)
    · obtain ⟨acc, sm, ed, ha, la2⟩ := h
      rw [ls, List.take_length] at ha
      have lx := ha.len
      rw [shifts_len] at lx
      refine ⟨d, acc, rfl, .inl ⟨.inl (.inl ed), fun p3 np3 => ?_⟩⟩
      have s3 := same_new np3 (.tup acc)
      have sa := s12.trans (sm.trans s3)
      refine ⟨p1, p3, [.str g], acc, rfl, rfl, .inl (.inl (s3 _ _ (sm _ _ (s2 _ _ upd_same)))), .inl (.inl upd_same), by simp, small6 (by show 1 + acc.length ≤ _; omega), fun z => ?_, fun _ p4 np4 => ?_⟩
      · subst z
        have t0 : as = [] := List.length_eq_zero_iff.mp lx.symm
        subst t0
        exact q (.ref p1) _ sa (.ap (s3 _ _ (sm _ _ (s2 _ _ upd_same))) .nil)
      · have s4 := same_new np4 (.tup ([.str g] ++ acc))
        exact q (.ref p4) _ (sa.trans s4) (.ap upd_same (TmAll.mono (s3.trans s4).tups _ _ ha))
theorem ok_shift {f fV : Addr} {fd fdV : FuncData} (D : Df K mg "shift" s_shift ["term", "by"] f fd) (DV : Df K mg "is_variable" s_is_variable ["term"] fV fdV) (GV : FnOk P w K mg base CX0 1 fV fdV ["term"] spIsVar) (mt : mg "tuple" = none) : ∀ n : Nat, FnOk P w K mg base CX0 (n + 1) f fd ["term", "by"] (spShift n)
  | 0 => by
    have no : ∀ vs H Q E, ¬ spShift 0 vs H Q E := fun vs H Q E h => by
      obtain ⟨v, t, m, _, _, _, _, hn, _⟩ := h
      omega
    exact ⟨fun vs H Q E h => absurd h (no vs H Q E), fun A outer s H args us vs Q E _ _ _ _ h => absurd h (no vs H Q E)⟩
  | n + 1 => ok_shift1 D DV GV mt (ok_shift D DV GV mt n)
/-! ### _law_moved -/
theorem sc_moved : FnScope ["term", "by", "argument"] ["term", "by"] (defScope s__law_moved) := ⟨rfl, rfl, rfl, by decide +kernel, rfl, by decide +kernel, by decide +kernel⟩
theorem ok_moved1 {f : Addr} {fd : FuncData} (D : Df K mg "_law_moved" s__law_moved ["term", "by"] f fd) (mi : mg "isinstance" = none) (mt : mg "tuple" = none) {n : Nat} (G : FnOk P w K mg base CX0 (n + 1) f fd ["term", "by"] (spShift n)) : FnOk P w K mg base CX0 (n + 1 + 1) f fd ["term", "by"] (spShift (n + 1)) := by
  refine D.F.ok sc_moved (fun vs H Q E h => ?_) (fun cdv A outer s H vs Q E hr h => ?_)
  · obtain ⟨v, t, m, rfl, _⟩ := h; rfl
  obtain ⟨v, t, m, rfl, ht, hw, hz, hn, q⟩ := h
  have nd := sc_moved.nd
  have hr1 : Room 1 _ := hr.mono (by omega)
  refine ⟨_, pss_cons (ps_if (pt_not (pt_val (pe_callB call_isiTer (by rfl) mi (by decide +kernel) (pa_cons (pv 0) (pa_cons (pe_bltn (v := .ty "tuple") (by rfl) mt (by decide +kernel) rfl) pa_nil)))))
      (pss_one (ps_ret (pe_op op_add (pv 0) (pv 1)))) pss_nil)
    (pss_one (ps_ret (pe_op op_catT (pe_tup (pa_cons (pe_ix ix_tup (pv 0) pe_int (fun _ _ => rfl)) pa_nil)) (pe_callTy call_tuple_of (by rfl) mt (by decide +kernel) (pa_cons
      (pe_lc (own := [("argument", 2)]) (g := gName 2) (tt := tYes) (te := tCall (spShift n) [] E0 (tCons (tVar 2) (tCons (tVar 1) tNil))) rfl nd (pi_tup (pe_slice sl_1 (pv 0) (po_some pe_int) po_none)) (blkOk_by (N := ["term", "by", "argument"]) (sc := defScope s__law_moved) (by decide +kernel))
        (fun _ _ _ _ _ => pg_name (i := 2) nd rfl (Or.inl rfl)) (fun _ _ _ _ _ => pts_nil) (fun _ _ _ _ _ => pe_call G hr (by rfl) D.m D.F.kp D.b .nil pass0 (pa_cons (pv 2) (pa_cons (pv 1) pa_nil)))) pa_nil))))), ?_⟩
  refine ⟨v, rfl, v, t, rfl, ht, _, rfl, ?_⟩
  cases ht with
  | int i =>
    refine iteT ?_
    exact ⟨_, rfl, _, rfl, i, m, rfl, rfl, q (.int (i + m)) H (Same.refl _) (.int _)⟩
  | str x =>
    obtain ⟨r, hr⟩ := hw
    cases hr
  | @ap a g xs as e hs =>
    refine iteF ?_
    have ls := hs.len
    have hn : Ter.nests as + 1 < n + 1 := hn
    have hz : Ter.sizes as + 1 ≤ 100000 := hz
    have la := Ter.sizes_len as
    refine ⟨_, rfl, a, _, 0, .str g, rfl, rfl, .inl (.inl e), head_at, by show 1 ≤ sizeLine; decide, fun p1 np1 => ?_⟩
    have s1 := same_new np1 (.tup [.str g])
    refine ⟨.ref a, rfl, 1, rfl, a, .str g, xs, rfl, rfl, rfl, .inl (.inl (s1 _ _ e)), fun p2 np2 => ?_⟩
    have s2 := same_new np2 (.tup xs)
    refine ⟨p2, rfl, ⟨xs, .inl (.inl upd_same)⟩, fun d nd' => ?_⟩
    have s12 := s1.trans s2
    have nd0 : H d = none := s12.free nd'
    refine walk_t (xs := xs) (fun i H2 => ∃ acc, Same (upd (upd H p1 (.tup [.str g])) p2 (.tup xs)) H2 ∧ H2 d = some (.lst acc) ∧ TmAll H2 acc (Ter.shifts m (as.take i)) ∧ acc.length ≤ i) ⟨[], same_new nd' _, upd_same, .nil, Nat.le_refl _⟩ (fun i H2 _ h => ?_) (fun i x H2 hx h => ?_) (fun H2 h => ?_)
    · obtain ⟨acc, sm, _⟩ := h
      exact .inl (.inl (sm _ _ upd_same))
    · obtain ⟨acc, sm, ed, ha, la2⟩ := h
      obtain ⟨t1, et, hx1⟩ := hs.get hx
      have hx2 := TmAt.mono (s12.trans sm).tups _ _ hx1
      have n1 := nest_le_of et
      have m1 := size_le_of et
      refine ⟨rfl, ?_⟩
      refine ⟨_, rfl, _, rfl, x, t1, m, rfl, hx2, wfs_get hw.2 et, by omega, by omega, fun v' H3 s3 hv' => ?_⟩
      have ed3 := s3 _ _ ed
      have b4 : But d H3 (upd H3 d (.lst (acc ++ [v']))) := But.upd
      have m4 := b4.tups ed3
      have li : i < as.length := (List.getElem?_eq_some_iff.mp et).1
      have etk : as.take (i + 1) = as.take i ++ [t1] := by rw [List.take_add_one, et]; rfl
      refine ⟨acc, ed3, small6' (by omega), acc ++ [v'], But.same nd' (sm.trans s3) b4, upd_same, ?_, by rw [List.length_append, List.length_singleton]; omega⟩
      rw [etk, shifts_app]
      exact (TmAll.mono (s3.tups.trans m4) _ _ ha).app (.cons (TmAt.mono m4 _ _ hv') .nil)
    · obtain ⟨acc, sm, ed, ha, la2⟩ := h
      rw [ls, List.take_length] at ha
      have lx := ha.len
      rw [shifts_len] at lx
      refine ⟨d, acc, rfl, .inl ⟨.inl (.inl ed), fun p3 np3 => ?_⟩⟩
      have s3 := same_new np3 (.tup acc)
      have sa := s12.trans (sm.trans s3)
      refine ⟨p1, p3, [.str g], acc, rfl, rfl, .inl (.inl (s3 _ _ (sm _ _ (s2 _ _ upd_same)))), .inl (.inl upd_same), by simp, small6 (by show 1 + acc.length ≤ _; omega), fun z => ?_, fun _ p4 np4 => ?_⟩
      · subst z
        have t0 : as = [] := List.length_eq_zero_iff.mp lx.symm
        subst t0
        exact q (.ref p1) _ sa (.ap (s3 _ _ (sm _ _ (s2 _ _ upd_same))) .nil)
      · have s4 := same_new np4 (.tup ([.str g] ++ acc))
        exact q (.ref p4) _ (sa.trans s4) (.ap upd_same (TmAll.mono (s3.trans s4).tups _ _ ha))
theorem ok_moved {f : Addr} {fd : FuncData} (D : Df K mg "_law_moved" s__law_moved ["term", "by"] f fd) (mi : mg "isinstance" = none) (mt : mg "tuple" = none) : ∀ n : Nat, FnOk P w K mg base CX0 (n + 1) f fd ["term", "by"] (spShift n)
  | 0 => by
    have no : ∀ vs H Q E, ¬ spShift 0 vs H Q E := fun vs H Q E h => by
      obtain ⟨v, t, m, _, _, _, _, hn, _⟩ := h
      omega
    exact ⟨fun vs H Q E h => absurd h (no vs H Q E), fun A outer s H args us vs Q E _ _ _ _ h => absurd h (no vs H Q E)⟩
  | n + 1 => ok_moved1 D mi mt (ok_moved D mi mt n)
end

section
variable {P : Program} {w : World} {K : PySem.W.Frag} {mg : Str → Option Value} {base : Heap}
/-! ### _law_draws -/
def spDraws (K : PySem.W.Frag) : Sp := fun vs H Q _ => ∃ (a : Addr) (ns : List Int), vs = [.ref a] ∧ SqL K H a (ns.map V.int) ∧ ns.length ≤ 63 ∧ ∀ (p : Addr) (H' : Hp), Same H H' → H p = none → Ints H' p → Q (.ref p) H'
theorem sc_law_draws : FnScope ["script", "draws", "cell", "number", "first", "k", "seed"] ["script"] (defScope s__law_draws) := ⟨rfl, rfl, rfl, by decide +kernel, rfl, by decide +kernel, by decide +kernel⟩
theorem ok_law_draws {f : Addr} {fd : FuncData} (D : Df K mg "_law_draws" s__law_draws ["script"] f fd) (mabs : mg "abs" = none) (mint : mg "int" = none) (mr : mg "range" = none) (ml : mg "len" = none) (mli : mg "list" = none) (mrev : mg "reversed" = none) : FnOk P w K mg base CX0 1 f fd ["script"] (spDraws K) := by
  refine D.F.ok sc_law_draws (fun vs H Q E h => ?_) (fun cdv A outer s H vs Q E hr h => ?_)
  · obtain ⟨a, ns, rfl, _⟩ := h; rfl
  obtain ⟨a, ns, rfl, hS, hn, q⟩ := h
  have nd := sc_law_draws.nd
  refine ⟨_, pss_cons (ps_set (i := 1) nd rfl (.inl rfl) (pe_lst pa_nil))
    (pss_cons (ps_for PassesOwn.never rfl (pi_list (pv 0)) (pg_name (i := 2) nd rfl (.inl rfl))
      (pss_cons (ps_set (i := 3) nd rfl (.inl rfl) (pe_callB call_abs (by rfl) mabs (by decide +kernel) (pa_cons (pv 2) pa_nil)))
      (C8.pss_cut (ps_if (pt_cmpR op_lt (pv 3) (pe_op op_pow pe_int pe_int) (nomark _))
        (pss_cons (ps_set (i := 4) nd rfl (.inl rfl) (pe_op op_mod (pe_callTy call_int1 (by rfl) mint (by decide +kernel) (pa_cons (pe_op op_add (pe_op op_mul (pv 3) pe_int) pe_int) pa_nil)) pe_int))
        (pss_cons (ps_expr (pe_bm PySem.F.plainAttrs_list PySem.F.slot_list_append PySem.F.type_list_append mt_append (pv 1) (pa_cons (pe_op op_mod (pe_callTy call_int1 (by rfl) mint (by decide +kernel) (pa_cons (pe_op op_add (pe_op op_mul (pv 4) pe_int) (pv 3)) pa_nil)) pe_int) pa_nil)))
        (pss_cons (ps_expr (pe_bm PySem.F.plainAttrs_list PySem.F.slot_list_append PySem.F.type_list_append mt_append (pv 1) (pa_cons (pe_op op_mod (pe_callTy call_int1 (by rfl) mint (by decide +kernel) (pa_cons (pe_op op_add (pv 4) (pe_op op_fdiv (pv 3) pe_int)) pa_nil)) pe_int) pa_nil)))
        (pss_one (ps_set (i := 3) nd rfl (.inl rfl) pe_int))))) pss_nil)
      (pss_one (ps_for PassesOwn.never rfl (pi_range1 (by rfl) mr (pa_cons pe_int pa_nil)) (pg_name (i := 5) nd rfl (.inl rfl))
        (pss_one (ps_if (pt_cmpR op_gt (pv 3) pe_int (nomark _))
          (pss_cons (ps_expr (pe_bm PySem.F.plainAttrs_list PySem.F.slot_list_append PySem.F.type_list_append mt_append (pv 1) (pa_cons (pe_op op_mod (pe_callTy call_int1 (by rfl) mint (by decide +kernel) (pa_cons (pv 3) pa_nil)) pe_int) pa_nil)))
          (pss_one (ps_set (i := 3) nd rfl (.inl rfl) (pe_op op_fdiv (pv 3) pe_int)))) pss_nil)))))))
    (pss_cons (ps_set (i := 6) nd rfl (.inl rfl) pe_int)
    (C8.pss_cut (ps_if (pt_cmpR op_gt (pe_callB call_len_seq (by rfl) ml PySem.boot_len (pa_cons (pv 0) pa_nil)) pe_int (nomark _))
      (pss_one (ps_set (i := 6) nd rfl (.inl rfl) (pe_op op_add pe_int (pe_callB call_abs (by rfl) mabs (by decide +kernel) (pa_cons (pe_ix ix_list (pv 0) pe_int (fun _ _ => rfl)) pa_nil))))) pss_nil)
    (pss_cons (ps_for PassesOwn.never rfl (pi_range1 (by rfl) mr (pa_cons pe_int pa_nil)) (pg_name (i := 5) nd rfl (.inl rfl))
      (pss_cons (ps_set (i := 6) nd rfl (.inl rfl) (pe_op op_mod (pe_callTy call_int1 (by rfl) mint (by decide +kernel) (pa_cons (pe_op op_add (pe_op op_mul (pv 6) pe_int) pe_int) pa_nil)) pe_int))
      (pss_one (ps_expr (pe_bm PySem.F.plainAttrs_list PySem.F.slot_list_append PySem.F.type_list_append mt_append (pv 1) (pa_cons (pe_op op_fdiv (pv 6) pe_int) pa_nil))))))
    (pss_one (ps_ret (pe_listRev rfl (by rfl) mli (by rfl) mrev (pv 1)))))))), ?_⟩
  refine ⟨Nat.zero_le _, fun d nd' => ?_⟩
  have hz : ∀ {n : Nat}, n ≤ 100000 → n < sizeLine := fun h => Nat.lt_of_le_of_lt h (by decide)
  -- one more int at d
  have app : ∀ {H2 : Hp} {ms : List Int} {m : Int}, Same H H2 → H2 d = some (.lst (ms.map V.int)) → Same H (upd H2 d (.lst ((ms ++ [m]).map V.int))) ∧ (upd H2 d (.lst ((ms ++ [m]).map V.int))) d = some (.lst ((ms ++ [m]).map V.int)) := fun sm e => ⟨But.same nd' sm But.upd, upd_same⟩
  have e1 : ∀ (ms : List Int) (m : Int), (ms.map V.int) ++ [V.int m] = (ms ++ [m]).map V.int := fun ms m => by rw [List.map_append]; rfl
  refine ⟨.ref a, rfl, a, rfl, ⟨_, (same_new nd' _).seq hS⟩, for_list (xs := ns.map V.int) (fun i σ H2 => ∃ (ms : List Int) (y2 y3 y4 y5 : Option V), σ = [some (.ref a), some (.ref d), y2, y3, y4, y5, none] ∧ Same H H2 ∧ H2 d = some (.lst (ms.map V.int)) ∧ ms.length ≤ 62 * i)
    ⟨[], none, none, none, none, rfl, same_new nd' _, upd_same, Nat.zero_le _⟩ (fun i σ H2 _ h => ?_) (fun i x σ H2 hx h => ?_) (fun σ H2 h => ?_)⟩
  · obtain ⟨_, _, _, _, _, _, sm, _⟩ := h
    exact sm.seq hS
  · -- one cell
    obtain ⟨ms, y2, y3, y4, y5, rfl, sm, ed, lm⟩ := h
    have hi : i < 63 := by
      have := (List.getElem?_eq_some_iff.mp hx).1
      rw [List.length_map] at this
      omega
    obtain ⟨n, rfl⟩ : ∃ n, x = V.int n := by
      rw [List.getElem?_map] at hx
      cases e : ns[i]? with
      | none => rw [e] at hx; cases hx
      | some n => rw [e] at hx; exact ⟨n, (Option.some.inj hx).symm⟩
    refine ⟨_, rfl, n, rfl, ?_⟩
    generalize (if n < 0 then -n else n) = m
    refine ⟨fun σ H3 => ∃ (ms : List Int) (m : Int) (y4 : Option V), σ = [some (.ref a), some (.ref d), some (.int n), some (.int m), y4, y5, none] ∧ Same H H3 ∧ H3 d = some (.lst (ms.map V.int)) ∧ ms.length ≤ 62 * i + 2, ?_, fun σ H3 h => ?_⟩
    · refine ⟨_, rfl, _, _, rfl, rfl, ⟨by decide, by decide, by decide⟩, _, _, rfl, rfl, _, rfl, ite2 (fun _ => ?_) (fun _ => ?_)⟩
      · refine ⟨_, rfl, _, _, rfl, rfl, .inr ⟨by decide, by decide⟩, _, _, rfl, rfl, .inl ⟨_, rfl, _, _, rfl, rfl, (by show (0 : Int) < 2147483647; decide), ?_⟩⟩
        refine ⟨.ref d, rfl, tyl ed, _, rfl, _, _, rfl, rfl, .inr ⟨by decide, by decide⟩, _, rfl, _, _, rfl, rfl, .inl ⟨_, rfl, _, _, rfl, rfl, (by show (0 : Int) < 2147483629; decide), ?_⟩⟩
        refine ⟨d, _, _, rfl, rfl, ed, hz (by rw [List.length_map]; omega), ?_⟩
        rw [e1]
        obtain ⟨sm2, ed2⟩ := app (m := ((m * 48271 + 11) % 2147483647 * 69621 + m) % 2147483629) sm ed
        refine ⟨.ref d, rfl, tyl ed2, _, rfl, _, rfl, _, _, rfl, rfl, ⟨by decide, by decide⟩, _, _, rfl, rfl, .inl ⟨_, rfl, _, _, rfl, rfl, (by show (0 : Int) < 1000003; decide), ?_⟩⟩
        refine ⟨d, _, _, rfl, rfl, ed2, hz (by rw [List.length_map, List.length_append, List.length_singleton]; omega), ?_⟩
        rw [e1]
        obtain ⟨sm3, ed3⟩ := app (m := ((m * 48271 + 11) % 2147483647 + m / 7) % 1000003) sm2 ed2
        exact ⟨_, 0, _, rfl, sm3, ed3, by rw [List.length_append, List.length_append, List.length_singleton, List.length_singleton]; omega⟩
      · exact ⟨ms, m, y4, rfl, sm, ed, by omega⟩
    · obtain ⟨ms, m, y4, rfl, sm, ed, lm2⟩ := h
      refine ⟨60, rfl, by decide, by decide, for_range (n := 60) (fun j σ H3 => ∃ (ms : List Int) (m : Int) (y5 : Option V), σ = [some (.ref a), some (.ref d), some (.int n), some (.int m), y4, y5, none] ∧ Same H H3 ∧ H3 d = some (.lst (ms.map V.int)) ∧ ms.length ≤ 62 * i + 2 + j)
        ⟨ms, m, y5, rfl, sm, ed, lm2⟩ (fun j σ H3 hj h => ?_) (fun σ H3 h => ?_)⟩
      · obtain ⟨ms, m, y5, rfl, sm, ed, lm3⟩ := h
        refine ⟨_, rfl, _, _, rfl, rfl, _, rfl, ite2 (fun _ => ?_) (fun _ => ?_)⟩
        · refine ⟨.ref d, rfl, tyl ed, _, rfl, .inl ⟨_, rfl, _, _, rfl, rfl, (by show (0 : Int) < 997; decide), ?_⟩⟩
          refine ⟨d, _, _, rfl, rfl, ed, hz (by rw [List.length_map]; omega), ?_⟩
          rw [e1]
          obtain ⟨sm2, ed2⟩ := app (m := m % 997) sm ed
          refine ⟨_, rfl, _, _, rfl, rfl, ⟨by decide, by decide⟩, ?_⟩
          exact ⟨_, _, _, rfl, sm2, ed2, by rw [List.length_append, List.length_singleton]; omega⟩
        · exact ⟨ms, m, _, rfl, sm, ed, by omega⟩
      · obtain ⟨ms, m, y5, rfl, sm, ed, lm3⟩ := h
        exact ⟨ms, _, _, _, _, rfl, sm, ed, by omega⟩
  · -- behind the cells
    obtain ⟨ms, y2, y3, y4, y5, rfl, sm, ed, lm⟩ := h
    rw [List.length_map] at lm
    refine ⟨fun σ H3 => ∃ (z : Int), σ = [some (.ref a), some (.ref d), y2, y3, y4, y5, some (.int z)] ∧ H3 = H2, ?_, fun σ H3 h => ?_⟩
    · refine ⟨.ref a, rfl, a, _, rfl, .inl (sm.seq hS), _, _, rfl, rfl, _, rfl, ite2 (fun c => ?_) (fun _ => ⟨_, rfl, rfl⟩)⟩
      have c := of_decide_eq_true c
      rw [List.length_map] at c
      obtain ⟨x, r, rfl⟩ : ∃ x r, ns = x :: r := by
        cases ns with
        | nil => exact absurd c (by decide)
        | cons x r => exact ⟨x, r, rfl⟩
      exact ⟨.ref a, rfl, a, _, 0, .int x, rfl, rfl, sm.seq hS, atI_nat (j := 0) rfl, x, rfl, _, _, rfl, rfl, _, rfl, rfl⟩
    · obtain ⟨z, rfl, rfl⟩ := h
      refine ⟨60, rfl, by decide, by decide, for_range (n := 60) (fun j σ H3 => ∃ (ms : List Int) (z : Int) (y5 : Option V), σ = [some (.ref a), some (.ref d), y2, y3, y4, y5, some (.int z)] ∧ Same H H3 ∧ H3 d = some (.lst (ms.map V.int)) ∧ ms.length ≤ 3906 + j)
        ⟨ms, z, y5, rfl, sm, ed, by omega⟩ (fun j σ H3 hj h => ?_) (fun σ H3 h => ?_)⟩
      · obtain ⟨ms, z, y5, rfl, sm, ed, lm3⟩ := h
        refine ⟨_, rfl, _, _, rfl, rfl, .inr ⟨by decide, by decide⟩, _, _, rfl, rfl, .inl ⟨_, rfl, _, _, rfl, rfl, (by show (0 : Int) < 2147483647; decide), ?_⟩⟩
        refine ⟨.ref d, rfl, tyl ed, _, rfl, _, _, rfl, rfl, ⟨by decide, by decide⟩, ?_⟩
        refine ⟨d, _, _, rfl, rfl, ed, hz (by rw [List.length_map]; omega), ?_⟩
        rw [e1]
        obtain ⟨sm2, ed2⟩ := app (m := (z * 48271 + 69621) % 2147483647 / 5) sm ed
        exact ⟨_, _, _, rfl, sm2, ed2, by rw [List.length_append, List.length_singleton]; omega⟩
      · obtain ⟨ms, z, y5, rfl, sm, ed, lm3⟩ := h
        refine ⟨.ref d, rfl, d, _, rfl, .inl (.inl ed), fun p np => ?_⟩
        have s3 := same_new np (.lst (ms.map V.int).reverse)
        exact q p _ (sm.trans s3) (sm.free np) ⟨ms.reverse, by rw [List.length_reverse]; omega, by rw [upd_same, List.map_reverse]⟩
/-! ### _law_take -/
def spTake : Sp := fun vs H Q _ => ∃ (d : Addr) (b : Int), vs = [.ref d, .int b] ∧ Ints H d ∧ 0 < b ∧ ∀ (r : Int) (H' : Hp), 0 ≤ r → r < b → But d H H' → Ints H' d → Q (.int r) H'
theorem sc_law_take : FnScope ["draws", "bound"] ["draws", "bound"] (defScope s__law_take) := ⟨rfl, rfl, rfl, by decide +kernel, rfl, by decide +kernel, by decide +kernel⟩
theorem ok_law_take {f : Addr} {fd : FuncData} (D : Df K mg "_law_take" s__law_take ["draws", "bound"] f fd) (ml : mg "len" = none) (mint : mg "int" = none) : FnOk P w K mg base CX0 1 f fd ["draws", "bound"] spTake := by
  refine D.F.ok sc_law_take (fun vs H Q E h => ?_) (fun cdv A outer s H vs Q E hr h => ?_)
  · obtain ⟨d, b, rfl, _⟩ := h; rfl
  obtain ⟨d, b, rfl, ⟨ms, lm, ed⟩, hb, q⟩ := h
  refine ⟨_, pss_cons (ps_if (pt_cmpR op_eq (pe_callB call_len_seq (by rfl) ml PySem.boot_len (pa_cons (pv 0) pa_nil)) pe_int (nomark _)) (pss_one (ps_ret pe_int)) pss_nil)
    (pss_one (ps_ret (pe_op op_mod (pe_callTy call_int1 (by rfl) mint (by decide +kernel) (pa_cons (pe_bm0 PySem.F.plainAttrs_list PySem.F.slot_list_pop PySem.F.type_list_pop mt_popL (pv 0)) pa_nil)) (pv 1)))), ?_⟩
  refine ⟨.ref d, rfl, d, _, rfl, .inl (.inl (.inl ed)), rfl, _, rfl, ite2 (fun c => ?_) (fun c => ?_)⟩
  · exact q 0 H (Int.le_refl 0) hb (But.refl d H) ⟨ms, lm, ed⟩
  · have hm : ms ≠ [] := fun z => by
      subst z
      exact c (decide_eq_true rfl)
    obtain ⟨ms', m, rfl⟩ : ∃ ms' m, ms = ms' ++ [m] := ⟨_, _, (List.dropLast_concat_getLast hm).symm⟩
    rw [List.map_append] at ed
    refine ⟨.ref d, rfl, tyl ed, d, ms'.map V.int, .int m, rfl, rfl, ed, .inl ⟨m, rfl, .int b, rfl, _, _, rfl, rfl, hb, ?_⟩⟩
    exact q _ _ (Int.emod_nonneg _ (by omega)) (Int.emod_lt_of_pos _ hb) But.upd ⟨ms', by rw [List.length_append] at lm; omega, upd_same⟩
/-! ### _law_words -/
def spWords : Sp := fun vs H Q _ => ∃ (d : Addr) (n : Nat), vs = [.ref d, .int n] ∧ Ints H d ∧ n ≤ 9 ∧ ∀ (p : Addr) (ws : List Str) (H' : Hp), But d H H' → H p = none → Ints H' d → H' p = some (.lst (ws.map V.str)) → ws.length = n → Words ws → Q (.ref p) H'
theorem sc_law_words : FnScope ["draws", "many", "letters", "signs", "words", "k", "word", "j"] ["draws", "many"] (defScope s__law_words) := ⟨rfl, rfl, rfl, by decide +kernel, rfl, by decide +kernel, by decide +kernel⟩
theorem ok_law_words {f fT : Addr} {fd fdT : FuncData} (D : Df K mg "_law_words" s__law_words ["draws", "many"] f fd) (DT : Df K mg "_law_take" s__law_take ["draws", "bound"] fT fdT) (G : FnOk P w K mg base CX0 1 fT fdT ["draws", "bound"] spTake) (mr : mg "range" = none) : FnOk P w K mg base CX0 2 f fd ["draws", "many"] spWords := by
  refine D.F.ok sc_law_words (fun vs H Q E h => ?_) (fun cdv A outer s H vs Q E hr h => ?_)
  · obtain ⟨d, n, rfl, _⟩ := h; rfl
  obtain ⟨d, n, rfl, hI, hn, q⟩ := h
  have nd := sc_law_words.nd
  refine ⟨_, pss_cons (ps_set (i := 2) nd rfl (.inl rfl) pe_str) (pss_cons (ps_set (i := 3) nd rfl (.inl rfl) (pe_op op_add_str (pv 2) pe_str)) (pss_cons (ps_set (i := 4) nd rfl (.inl rfl) (pe_lst pa_nil))
    (pss_cons (ps_for PassesOwn.never rfl (pi_range1 (by rfl) mr (pa_cons (pv 1) pa_nil)) (pg_name (i := 5) nd rfl (.inl rfl))
      (pss_cons (ps_set (i := 6) nd rfl (.inl rfl) (pe_item_str (pv 2) (pe_call G hr (by rfl) DT.m DT.F.kp DT.b .nil pass0 (pa_cons (pv 0) (pa_cons pe_int pa_nil))) (fun _ _ => rfl)))
      (pss_cons (ps_for PassesOwn.never rfl (pi_range1 (by rfl) mr (pa_cons (pe_call G hr (by rfl) DT.m DT.F.kp DT.b .nil pass0 (pa_cons (pv 0) (pa_cons pe_int pa_nil))) pa_nil)) (pg_name (i := 7) nd rfl (.inl rfl))
        (pss_one (ps_set (i := 6) nd rfl (.inl rfl) (pe_op op_add_str (pv 6) (pe_item_str (pv 3) (pe_call G hr (by rfl) DT.m DT.F.kp DT.b .nil pass0 (pa_cons (pv 0) (pa_cons pe_int pa_nil))) (fun _ _ => rfl))))))
      (pss_cons (ps_for PassesOwn.never rfl (pi_range1 (by rfl) mr (pa_cons pe_int pa_nil)) (pg_name (i := 7) nd rfl (.inl rfl))
        (pss_one (ps_if (PW.pt (pw_or (pt_cmpR op_in_seq (pv 6) (pv 4) (by rfl)) (pw_or1 (pt_cmpR op_in_seq (pv 6) (pe_lst (pa_cons pe_str (pa_cons pe_str (pa_cons pe_str (pa_cons pe_str (pa_cons pe_str (pa_cons pe_str pa_nil))))))) (by rfl)))))
          (pss_one (ps_set (i := 6) nd rfl (.inl rfl) (pe_op op_add_str (pv 6) pe_str))) pss_nil)))
      (pss_one (ps_expr (pe_bm PySem.F.plainAttrs_list PySem.F.slot_list_append PySem.F.type_list_append mt_append (pv 4) (pa_cons (pv 6) pa_nil))))))))
    (pss_one (ps_ret (pv 4)))))), ?_⟩
  have hz : ∀ {n : Nat}, n ≤ 100000 → n ≤ sizeLine := fun h => Nat.le_trans h (by decide)
  refine ⟨_, rfl, _, _, rfl, rfl, hz (by decide +kernel), ?_⟩
  refine ⟨Nat.zero_le _, fun p np => ?_⟩
  have hpd : p ≠ d := hI.ne np
  refine ⟨.int n, rfl, (n : Int), rfl, by omega, by omega, for_range (n := (n : Int).toNat) (fun i σ H2 => ∃ (ws : List Str) (y5 y6 y7 : Option V), σ = [some (.ref d), some (.int n), some (.str LET), some (.str SGN), some (.ref p), y5, y6, y7] ∧ But d H H2 ∧ Ints H2 d ∧ H2 p = some (.lst (ws.map V.str)) ∧ ws.length = i ∧ Words ws)
    ⟨[], none, none, none, rfl, (same_new np _).but, hI.same (same_new np _), upd_same, rfl, ⟨(fun _ h => by cases h), List.nodup_nil, (fun _ h => by cases h)⟩⟩ (fun i σ H2 hi h => ?_) (fun σ H2 h => ?_)⟩
  · obtain ⟨ws, y5, y6, y7, rfl, b2, hI2, ep, lw, hw⟩ := h
    have hi9 : i < 9 := by omega
    refine ⟨_, rfl, _, rfl, d, 26, rfl, hI2, by decide, fun r H3 r0 r1 b3 hI3 => ?_⟩
    obtain ⟨c, hc, c1, c2⟩ := let_at (i := r.toNat) (by omega)
    refine ⟨LET, r, c, rfl, rfl, r0, by omega, by rw [let_len]; omega, hc, ?_⟩
    have ep3 := b3 p _ hpd ep
    -- the further signs
    refine ⟨_, rfl, d, 4, rfl, hI3, by decide, fun m H4 m0 m1 b4 hI4 => ?_⟩
    refine ⟨m, rfl, by omega, by omega, for_range (n := m.toNat) (fun j σ H5 => ∃ (x : Str) (y7 : Option V), σ = [some (.ref d), some (.int n), some (.str LET), some (.str SGN), some (.ref p), some (.int (0 + (i : Int))), some (.str x), y7] ∧ But d H2 H5 ∧ Ints H5 d ∧ WordIn x (1 + j))
      ⟨_, y7, rfl, b3.trans b4, hI4, word1 c1 c2⟩ (fun j σ H5 hj h => ?_) (fun σ H5 h => ?_)⟩
    · obtain ⟨x, y7, rfl, b5, hI5, wx⟩ := h
      refine ⟨_, rfl, _, rfl, _, rfl, d, 63, rfl, hI5, by decide, fun r H6 r0 r1 b6 hI6 => ?_⟩
      obtain ⟨c, hc, c1⟩ := sgn_at (i := r.toNat) (by omega)
      refine ⟨SGN, r, c, rfl, rfl, r0, by omega, by rw [sgn_len]; omega, hc, ?_⟩
      have l1 := wx.len
      refine ⟨_, _, rfl, rfl, hz (by show x.length + 1 ≤ 100000; omega), ?_⟩
      exact ⟨_, _, rfl, b5.trans b6, hI6, by rw [← Nat.add_assoc]; exact wx.add (by show (chOk c && true) = true; rw [c1]; rfl) (Nat.le_refl 1)⟩
    · obtain ⟨x, y7, rfl, b5, hI5, wx⟩ := h
      have ep5 := b5 p _ hpd ep
      -- made longer where it is taken
      refine ⟨30, rfl, by decide, by decide, for_range (n := 30) (fun j σ H6 => ∃ (x : Str) (y7 : Option V), σ = [some (.ref d), some (.int n), some (.str LET), some (.str SGN), some (.ref p), some (.int (0 + (i : Int))), some (.str x), y7] ∧ But d H2 H6 ∧ Ints H6 d ∧ WordIn x (4 + j) ∧ ((x ∉ ws ∧ x ∉ RES) ∨ longer (ws ++ RES) x.length + j ≤ (ws ++ RES).length))
        ⟨x, y7, rfl, b5, hI5, ⟨wx.head, wx.all, by have := wx.len; omega⟩, .inr (longer_le _ _)⟩ (fun j σ H6 hj h => ?_) (fun σ H6 h => ?_)⟩
      · obtain ⟨x, y7, rfl, b6, hI6, wx, hx⟩ := h
        have ep6 := b6 p _ hpd ep
        have longerx : ∀ (y : Str) H7 y7, But d H2 H7 → Ints H7 d → y ∈ ws ++ RES → y = x → ∃ (x' : Str) (y7' : Option V), ([some (.ref d), some (.int n), some (.str LET), some (.str SGN), some (.ref p), some (.int (0 + (i : Int))), some (.str (x ++ ("x" : Str))), y7] : L2.St) = [some (.ref d), some (.int n), some (.str LET), some (.str SGN), some (.ref p), some (.int (0 + (i : Int))), some (.str x'), y7'] ∧ But d H2 H7 ∧ Ints H7 d ∧ WordIn x' (4 + (j + 1)) ∧ ((x' ∉ ws ∧ x' ∉ RES) ∨ longer (ws ++ RES) x'.length + (j + 1) ≤ (ws ++ RES).length) := fun y H7 y7 b7 hI7 hy e => by
          subst e
          refine ⟨_, _, rfl, b7, hI7, ?_, .inr ?_⟩
          · rw [← Nat.add_assoc]
            exact wx.add (by decide +kernel) (by decide +kernel)
          · have l1 : (y ++ ("x" : Str)).length = y.length + 1 := by
              rw [app_len]
              have : ("x" : Str).length = 1 := by decide +kernel
              omega
            have l2 := longer_lt hy
            rw [l1]
            rcases hx with ⟨z1, z2⟩ | hx
            · exact absurd hy (fun z => (List.mem_append.mp z).elim z1 z2)
            · omega
        refine ⟨_, rfl, _, rfl, p, _, rfl, .inl (.inl (.inl ep6)), rfl, flat_strs ws, _, rfl, ?_⟩
        refine ite2 (fun c => ?_) (fun c => ?_)
        · have lx := wx.len
          refine iteT ?_
          refine ⟨_, rfl, _, _, rfl, rfl, hz (by have : ("x" : Str).length = 1 := by decide +kernel
                                                 omega), ?_⟩
          exact longerx x H6 _ b6 hI6 (List.mem_append_left _ ((inV_str x ws).mp c)) rfl
        · refine ⟨_, rfl, by show 6 ≤ sizeLine; decide, fun t nt => ?_⟩
          refine ⟨t, RES.map V.str, rfl, .inl (.inl (.inl upd_same)), rfl, flat_strs RES, _, rfl, ?_⟩
          have htd : t ≠ d := hI6.ne nt
          have b7 : But d H2 (upd H6 t (.lst (RES.map V.str))) := b6.trans (same_new nt _).but
          have hI7 := hI6.same (same_new nt (.lst (RES.map V.str)))
          refine ite2 (fun c2 => ?_) (fun c2 => ?_)
          · have lx := wx.len
            refine ⟨_, rfl, _, _, rfl, rfl, hz (by have : ("x" : Str).length = 1 := by decide +kernel
                                                   omega), ?_⟩
            exact longerx x _ _ b7 hI7 (List.mem_append_right _ ((inV_str x RES).mp c2)) rfl
          · refine ⟨x, _, rfl, b7, hI7, ⟨wx.head, wx.all, by have := wx.len; omega⟩, .inl ⟨fun z => c ((inV_str x ws).mpr z), fun z => c2 ((inV_str x RES).mpr z)⟩⟩
      · obtain ⟨x, y7, rfl, b6, hI6, wx, hx⟩ := h
        have ep6 := b6 p _ hpd ep
        have free : x ∉ ws ∧ x ∉ RES := by
          rcases hx with hx | hx
          · exact hx
          · rw [List.length_append] at hx
            have : RES.length = 6 := rfl
            omega
        refine ⟨.ref p, rfl, tyl ep6, _, rfl, p, _, _, rfl, rfl, ep6, Nat.lt_of_le_of_lt (show (ws.map V.str).length ≤ 1000 by rw [List.length_map]; omega) (by decide), ?_⟩
        rw [show ws.map V.str ++ [V.str x] = (ws ++ [x]).map V.str by rw [List.map_append]; rfl]
        refine ⟨ws ++ [x], _, _, _, rfl, ?_, ?_, upd_same, by rw [List.length_append, List.length_singleton, lw], ?_⟩
        · exact fun b o nb e => by
            have hbp : b ≠ p := ne_of_none e np
            rw [upd_ne hbp]
            exact b6 b o nb (b2 b o nb e)
        · exact hI6.of_but But.upd hpd.symm
        · refine ⟨fun y hy => ?_, ?_, fun y hy => ?_⟩
          · rcases List.mem_append.mp hy with hy | hy
            · exact hw.ok y hy
            · rw [List.mem_singleton.mp hy]; exact wx.ok (by omega)
          · exact nd_snoc hw.nd free.1
          · rcases List.mem_append.mp hy with hy | hy
            · exact hw.res y hy
            · rw [List.mem_singleton.mp hy]; exact free.2
  · obtain ⟨ws, y5, y6, y7, rfl, b2, hI2, ep, lw, hw⟩ := h
    exact ⟨.ref p, rfl, q p ws H2 b2 np hI2 ep (by omega) hw⟩
end

section
variable {P : Program} {w : World} {K : PySem.W.Frag} {mg : Str → Option Value} {base : Heap}
/-! ### _law_variable -/
def spLVar : Sp := fun vs H Q _ => ∃ (d : Addr), vs = [.ref d] ∧ Ints H d ∧ ∀ (r : Int) (H' : Hp), 0 ≤ r → r < 900 → But d H H' → Ints H' d → Q (.int r) H'
theorem sc_law_variable : FnScope ["draws"] ["draws"] (defScope s__law_variable) := ⟨rfl, rfl, rfl, by decide +kernel, rfl, by decide +kernel, by decide +kernel⟩
theorem ok_law_variable {f fT : Addr} {fd fdT : FuncData} (D : Df K mg "_law_variable" s__law_variable ["draws"] f fd) (DT : Df K mg "_law_take" s__law_take ["draws", "bound"] fT fdT) (G : FnOk P w K mg base CX0 1 fT fdT ["draws", "bound"] spTake) : FnOk P w K mg base CX0 2 f fd ["draws"] spLVar := by
  refine D.F.ok sc_law_variable (fun vs H Q E h => ?_) (fun cdv A outer s H vs Q E hr h => ?_)
  · obtain ⟨d, rfl, _⟩ := h; rfl
  obtain ⟨d, rfl, hI, q⟩ := h
  refine ⟨_, pss_cons (ps_if (pt_cmpR op_eq (pe_call G hr (by rfl) DT.m DT.F.kp DT.b .nil pass0 (pa_cons (pv 0) (pa_cons pe_int pa_nil))) pe_int (nomark _)) (pss_one (ps_ret (pe_call G hr (by rfl) DT.m DT.F.kp DT.b .nil pass0 (pa_cons (pv 0) (pa_cons pe_int pa_nil))))) pss_nil)
    (pss_one (ps_ret (pe_call G hr (by rfl) DT.m DT.F.kp DT.b .nil pass0 (pa_cons (pv 0) (pa_cons pe_int pa_nil))))), ?_⟩
  refine ⟨_, rfl, d, 8, rfl, hI, by decide, fun r H1 _ _ b1 hI1 => ?_⟩
  refine ⟨rfl, _, rfl, ite2 (fun _ => ?_) (fun _ => ?_)⟩
  · exact ⟨_, rfl, d, 900, rfl, hI1, by decide, fun r H2 h0 h1 b2 hI2 => q r H2 h0 h1 (b1.trans b2) hI2⟩
  · exact ⟨_, rfl, d, 4, rfl, hI1, by decide, fun r H2 h0 h1 b2 hI2 => q r H2 h0 (by omega) (b1.trans b2) hI2⟩
/-! ### _law_term -/
def spTerm (n : Nat) : Sp := fun vs H Q _ => ∃ (d l : Addr) (ws : List Str) (k : Nat), vs = [.ref d, .ref l, .int k] ∧ Ints H d ∧ H l = some (.lst (ws.map V.str)) ∧ l ≠ d ∧ 6 ≤ ws.length ∧ k < n ∧
  ∀ (v : V) (t : Ter) (H' : Hp), But d H H' → Ints H' d → TmAt H' v t → t.wf (symOf ws) numVar → t.size ≤ 4 ^ (k + 1) → t.nest ≤ k + 1 → Q v H'
theorem sc_law_term : FnScope ["draws", "words", "depth", "kind", "arguments", "k"] ["draws", "words", "depth"] (defScope s__law_term) := ⟨rfl, rfl, rfl, by decide +kernel, rfl, by decide +kernel, by decide +kernel⟩
theorem ok_law_term1 {f fT fV : Addr} {fd fdT fdV : FuncData} (D : Df K mg "_law_term" s__law_term ["draws", "words", "depth"] f fd) (DT : Df K mg "_law_take" s__law_take ["draws", "bound"] fT fdT) (GT : FnOk P w K mg base CX0 1 fT fdT ["draws", "bound"] spTake)
    (DV : Df K mg "_law_variable" s__law_variable ["draws"] fV fdV) (GV : FnOk P w K mg base CX0 2 fV fdV ["draws"] spLVar) (mr : mg "range" = none) (mt : mg "tuple" = none) {n : Nat} (G : FnOk P w K mg base CX0 (n + 2) f fd ["draws", "words", "depth"] (spTerm n)) : FnOk P w K mg base CX0 (n + 2 + 1) f fd ["draws", "words", "depth"] (spTerm (n + 1)) := by
  refine D.F.ok sc_law_term (fun vs H Q E h => ?_) (fun cdv A outer s H vs Q E hr h => ?_)
  · obtain ⟨d, l, ws, k, rfl, _⟩ := h; rfl
  obtain ⟨d, l, ws, k, rfl, hI, hW, nl, lw, hk, q⟩ := h
  have nd := sc_law_term.nd
  have hr1 : Room 1 _ := hr.mono (by omega)
  have hr2 : Room 2 _ := hr.mono (by omega)
  refine ⟨_, pss_cons (ps_set (i := 3) nd rfl (.inl rfl) (pe_call GT hr1 (by rfl) DT.m DT.F.kp DT.b .nil pass0 (pa_cons (pv 0) (pa_cons pe_int pa_nil))))
    (C8.pss_cut (ps_if (PW.pt (pw_and (pt_cmpR op_eq (pv 2) pe_int (nomark _)) (pw_and1 (pt_cmpR op_gt (pv 3) pe_int (nomark _))))) (pss_one (ps_set (i := 3) nd rfl (.inl rfl) (pe_op op_sub (pv 3) pe_int))) pss_nil)
    (pss_cons (ps_if (pt_cmpR op_eq (pv 3) pe_int (nomark _)) (pss_one (ps_ret (pe_call GV hr2 (by rfl) DV.m DV.F.kp DV.b .nil pass0 (pa_cons (pv 0) pa_nil)))) pss_nil)
    (pss_cons (ps_if (pt_cmpR op_lt (pv 3) pe_int (nomark _)) (pss_one (ps_ret (pe_tup (pa_cons (pe_ix ix_list (pv 1) (pe_op op_sub (pv 3) pe_int) (fun _ _ => rfl)) pa_nil)))) pss_nil)
    (pss_cons (ps_setLc (i := 4) (own := [("k", 5)]) (g := gName 5) (tt := tYes) (te := tCall (spTerm n) [] E0 (tCons (tVar 0) (tCons (tVar 1) (tCons (tOp (rI0 fun i j => .int (i - j)) (tVar 2) (tC (.int 1))) tNil)))) rfl nd rfl rfl (sw_true rfl rfl rfl (by decide +kernel)) (pi_range1 (by rfl) mr (pa_cons (pe_op op_sub (pv 3) pe_int) pa_nil))
        (blkOk_by (N := ["draws", "words", "depth", "kind", "arguments", "k"]) (sc := defScope s__law_term) (by decide +kernel)) (fun _ _ _ _ _ => pg_name (i := 5) nd rfl (Or.inl rfl)) (fun _ _ _ _ _ => pts_nil)
        (fun _ _ _ _ _ => pe_call G hr (by rfl) D.m D.F.kp D.b .nil pass0 (pa_cons (pv 0) (pa_cons (pv 1) (pa_cons (pe_op op_sub (pv 2) pe_int) pa_nil)))))
    (pss_one (ps_ret (pe_op op_catT (pe_tup (pa_cons (pe_ix ix_list (pv 1) (pe_op op_sub (pv 3) pe_int) (fun _ _ => rfl)) pa_nil)) (pe_callTy call_tuple_of (by rfl) mt (by decide +kernel) (pa_cons (pv 4) pa_nil))))))))), ?_⟩
  refine ⟨_, rfl, d, 7, rfl, hI, by decide, fun r H1 r0 r1 b1 hI1 => ?_⟩
  have hW1 := b1 l _ nl hW
  have p4 := pow4 k
  have p5 : 4 ^ (k + 1) = 4 ^ k * 4 := Nat.pow_succ 4 k
  -- the word at a kind
  have word : ∀ (c : Int), 1 ≤ c → c < 7 → ∃ x, atI (ws.map V.str) (c - 1) = some (.str x) ∧ ws[(c - 1).toNat]? = some x := fun c c1 c7 => by
    have h : (c - 1).toNat < ws.length := by omega
    have g := List.getElem?_eq_getElem h
    generalize ws[(c - 1).toNat] = x at g
    exact ⟨x, at_of (j := (c - 1).toNat) (by omega) (by rw [List.getElem?_map, g]; rfl), g⟩
  refine ⟨fun σ H2 => H2 = H1 ∧ ∃ c : Int, σ = [some (.ref d), some (.ref l), some (.int k), some (.int c), none, none] ∧ 0 ≤ c ∧ c < 7 ∧ (k = 0 → c ≤ 3), ?_, fun σ H2 h => ?_⟩
  · refine ⟨_, rfl, rfl, _, rfl, ?_⟩
    refine ite2 (fun c => ?_) (fun c => ?_)
    · have ck : (k : Int) = 0 := V.int.inj (of_decide_eq_true c)
      refine ⟨_, rfl, _, _, rfl, rfl, _, rfl, ite2 (fun c2 => ?_) (fun c2 => ?_)⟩
      · have c2 := of_decide_eq_true c2
        exact ⟨_, rfl, _, _, rfl, rfl, rfl, r - 4, rfl, by omega, by omega, fun _ => by omega⟩
      · have c2 : ¬ ((3 : Int) < r) := fun z => c2 (decide_eq_true z)
        exact ⟨rfl, r, rfl, r0, r1, fun _ => by omega⟩
    · have ck : ¬ (k : Int) = 0 := fun z => c (decide_eq_true (congrArg V.int z))
      exact ⟨rfl, r, rfl, r0, r1, fun z => absurd (by omega) ck⟩
  obtain ⟨rfl, c, rfl, c0, c7, ck⟩ := h
  refine ⟨_, rfl, rfl, _, rfl, ite2 (fun z => ?_) (fun z => ?_)⟩
  · exact ⟨_, rfl, d, rfl, hI1, fun r H3 h0 h9 b3 hI3 => q (.int r) (.var (.inl r)) H3 (b1.trans b3) hI3 (.int r) ⟨r, rfl, h0, h9⟩ (by show 1 ≤ _; omega) (by show 1 ≤ _; omega)⟩
  have z : ¬ c = 0 := fun y => z (decide_eq_true (congrArg V.int y))
  refine ⟨_, rfl, _, _, rfl, rfl, _, rfl, ite2 (fun y => ?_) (fun y => ?_)⟩
  · have y := of_decide_eq_true y
    obtain ⟨x, hx, hx2⟩ := word c (by omega) (by omega)
    refine ⟨_, rfl, _, rfl, _, _, rfl, rfl, l, _, _, _, rfl, rfl, .inl (.inl hW1), hx, by show 1 ≤ sizeLine; decide, fun p np => ?_⟩
    have s2 := same_new np (.tup [.str x])
    exact q (.ref p) (.ap x []) _ (b1.trans s2.but) (hI1.same s2) (.ap upd_same .nil) ⟨⟨(c - 1).toNat, by omega, hx2, by show 0 = _; omega⟩, trivial⟩ (by show 0 + 1 ≤ _; omega) (by show 0 + 1 ≤ _; omega)
  have y : ¬ c < 4 := fun x => y (decide_eq_true x)
  obtain ⟨m, em⟩ : ∃ m : Nat, c = (m : Int) + 3 := ⟨(c - 3).toNat, by omega⟩
  have hk1 : 1 ≤ k := by
    rcases Nat.eq_zero_or_pos k with e | e
    · exact absurd (ck e) (by omega)
    · exact e
  have p6 : 4 ^ k = 4 ^ (k - 1) * 4 := by rw [← Nat.pow_succ]; congr 1; omega
  refine ⟨_, rfl, _, _, rfl, rfl, c - 3, rfl, by omega, by omega, fun a na => ?_⟩
  have ka : a ≠ d := hI1.ne na
  have etn : (c - 3).toNat = m := by omega
  rw [etn]
  refine lc_range (lo := 0) (n := m) (fun i H3 => ∃ acc ts, But d H2 H3 ∧ Ints H3 d ∧ H3 a = some (.lst acc) ∧ TmAll H3 acc ts ∧ ts.length = i ∧ Ter.wfs (symOf ws) numVar ts ∧ Ter.sizes ts ≤ i * 4 ^ k ∧ Ter.nests ts ≤ k) ⟨[], [], (same_new na _).but, hI1.same (same_new na _), upd_same, .nil, rfl, trivial, Nat.zero_le _, Nat.zero_le _⟩ (fun i H3 hi h => ?_) (fun H3 h => ?_)
  · obtain ⟨acc, ts, b3, hI3, ea, ha, lt, hw, hs, hn⟩ := h
    refine ⟨rfl, ?_⟩
    refine ⟨_, rfl, _, rfl, _, rfl, _, _, rfl, rfl, ?_⟩
    refine ⟨d, l, ws, k - 1, by show [V.ref d, V.ref l, V.int ((k : Int) - 1)] = _; rw [show (k : Int) - 1 = ((k - 1 : Nat) : Int) by omega], hI3, b3 l _ nl hW1, nl, lw, by omega, fun v t H4 b4 hI4 hv hwf hsz hne => ?_⟩
    have ek : k - 1 + 1 = k := by omega
    rw [ek] at hsz hne
    have m4 := b4.tupsI hI3
    have ea4 := b4 a _ ka ea
    have la := ha.len
    have b5 : But a H4 (upd H4 a (.lst (acc ++ [v]))) := But.upd
    have m5 := b5.tups ea4
    refine ⟨acc, ea4, Nat.lt_of_le_of_lt (show acc.length ≤ 100 by omega) (by decide), acc ++ [v], ts ++ [t], ?_, hI4.of_but b5 ka.symm, upd_same, (TmAll.mono (m4.trans m5) _ _ ha).app (.cons (TmAt.mono m5 _ _ hv) .nil), by rw [List.length_append, List.length_singleton, lt], wfs_app hw ⟨hwf, trivial⟩, ?_, ?_⟩
    · exact fun b o nb e => by
        rw [upd_ne (ne_of_none e na)]
        exact b4 b o nb (b3 b o nb e)
    · rw [sizes_snoc, Nat.succ_mul]
      omega
    · rw [nests_snoc]
      omega
  · obtain ⟨acc, ts, b3, hI3, ea, ha, lt, hw, hs, hn⟩ := h
    obtain ⟨x, hx, hx2⟩ := word c (by omega) (by omega)
    have la := ha.len
    have hW3 := b3 l _ nl hW1
    refine ⟨_, rfl, _, rfl, _, _, rfl, rfl, l, _, _, _, rfl, rfl, .inl (.inl hW3), hx, by show 1 ≤ sizeLine; decide, fun p np => ?_⟩
    have s4 := same_new np (.tup [.str x])
    refine ⟨_, rfl, a, acc, rfl, .inl ⟨.inl (.inl (s4 _ _ ea)), fun r nr => ?_⟩⟩
    have s5 := same_new nr (.tup acc)
    refine ⟨p, r, [.str x], acc, rfl, rfl, .inl (.inl (s5 _ _ upd_same)), .inl (.inl upd_same), by simp, Nat.le_trans (show 1 + acc.length ≤ 100 by omega) (by decide), fun z => ?_, fun _ u nu => ?_⟩
    · subst z
      rw [List.length_nil] at la
      omega
    have s6 := same_new nu (.tup ([.str x] ++ acc))
    have sa := (s4.trans s5).trans s6
    have m3 := sa.tups
    refine q (.ref u) (.ap x ts) _ (b1.trans (b3.trans sa.but)) (hI3.same sa) (.ap upd_same (TmAll.mono m3 _ _ ha)) ⟨⟨(c - 1).toNat, by omega, hx2, by omega⟩, hw⟩ ?_ ?_
    · show Ter.sizes ts + 1 ≤ _
      have : m * 4 ^ k ≤ 3 * 4 ^ k := Nat.mul_le_mul_right _ (by omega)
      omega
    · show Ter.nests ts + 1 ≤ _
      omega
theorem ok_law_term {f fT fV : Addr} {fd fdT fdV : FuncData} (D : Df K mg "_law_term" s__law_term ["draws", "words", "depth"] f fd) (DT : Df K mg "_law_take" s__law_take ["draws", "bound"] fT fdT) (GT : FnOk P w K mg base CX0 1 fT fdT ["draws", "bound"] spTake)
    (DV : Df K mg "_law_variable" s__law_variable ["draws"] fV fdV) (GV : FnOk P w K mg base CX0 2 fV fdV ["draws"] spLVar) (mr : mg "range" = none) (mt : mg "tuple" = none) : ∀ n : Nat, FnOk P w K mg base CX0 (n + 2) f fd ["draws", "words", "depth"] (spTerm n)
  | 0 => by
    have no : ∀ vs H Q E, ¬ spTerm 0 vs H Q E := fun vs H Q E h => by
      obtain ⟨d, l, ws, k, _, _, _, _, _, hk, _⟩ := h
      omega
    exact ⟨fun vs H Q E h => absurd h (no vs H Q E), fun A outer s H args us vs Q E _ _ _ _ h => absurd h (no vs H Q E)⟩
  | n + 1 => ok_law_term1 D DT GT DV GV mr mt (ok_law_term D DT GT DV GV mr mt n)
end

section
variable {P : Program} {w : World} {K : PySem.W.Frag} {mg : Str → Option Value} {base : Heap}
/-! ### _law_same: the same data on both sides -/
def spSame (K : PySem.W.Frag) (n : Nat) : Sp := fun vs H Q _ => ∃ (v u : V) (x : PyData), vs = [v, u] ∧ Dp K H v x ∧ Dp K H u x ∧ fitsD n x ∧ Q (.bl true) H
theorem sc_law_same : FnScope ["value", "due", "k"] ["value", "due"] (defScope s__law_same) := ⟨rfl, rfl, rfl, by decide +kernel, rfl, by decide +kernel, by decide +kernel⟩
theorem ok_law_same1 {f : Addr} {fd : FuncData} (D : Df K mg "_law_same" s__law_same ["value", "due"] f fd) (mi : mg "isinstance" = none) (mt : mg "tuple" = none) (mli : mg "list" = none) (ml : mg "len" = none) (mr : mg "range" = none) (mb : mg "bool" = none) (mint : mg "int" = none) (ms : mg "str" = none) {n : Nat}
    (G : FnOk P w K mg base CX0 n f fd ["value", "due"] (spSame K n)) : FnOk P w K mg base CX0 (n + 1) f fd ["value", "due"] (spSame K (n + 1)) := by
  refine D.F.ok sc_law_same (fun vs H Q E h => ?_) (fun cdv A outer s H vs Q E hr h => ?_)
  · obtain ⟨v, u, x, rfl, _⟩ := h; rfl
  obtain ⟨v, u, x, rfl, hv, hu, hd, q⟩ := h
  have nd := sc_law_same.nd
  refine ⟨_, pss_cons (ps_if (PW.pt (pw_or (pt_val (pe_callB call_isiDat (by rfl) mi (by decide +kernel) (pa_cons (pv 1) (pa_cons (pe_bltn (v := .ty "tuple") (by rfl) mt (by decide +kernel) rfl) pa_nil)))) (pw_or1 (pt_val (pe_callB call_isiDat (by rfl) mi (by decide +kernel) (pa_cons (pv 1) (pa_cons (pe_bltn (v := .ty "list") (by rfl) mli (by decide +kernel) rfl) pa_nil)))))))
      (pss_cons (ps_if (PW.pt (pw_or (pt_cmpR op_ne (pe_callB call_isiDat (by rfl) mi (by decide +kernel) (pa_cons (pv 1) (pa_cons (pe_bltn (v := .ty "tuple") (by rfl) mt (by decide +kernel) rfl) pa_nil))) (pe_callB call_isiDat (by rfl) mi (by decide +kernel) (pa_cons (pv 0) (pa_cons (pe_bltn (v := .ty "tuple") (by rfl) mt (by decide +kernel) rfl) pa_nil))) (nomark _))
          (pw_or1 (pt_cmpR op_ne (pe_callB call_isiDat (by rfl) mi (by decide +kernel) (pa_cons (pv 1) (pa_cons (pe_bltn (v := .ty "list") (by rfl) mli (by decide +kernel) rfl) pa_nil))) (pe_callB call_isiDat (by rfl) mi (by decide +kernel) (pa_cons (pv 0) (pa_cons (pe_bltn (v := .ty "list") (by rfl) mli (by decide +kernel) rfl) pa_nil))) (nomark _)))))
        (pss_one (ps_ret pe_bl)) pss_nil)
      (pss_cons (ps_if (pt_cmpR op_ne (pe_callB call_len_seq (by rfl) ml PySem.boot_len (pa_cons (pv 0) pa_nil)) (pe_callB call_len_seq (by rfl) ml PySem.boot_len (pa_cons (pv 1) pa_nil)) (nomark _)) (pss_one (ps_ret pe_bl)) pss_nil)
      (pss_cons (ps_for PassesOwn.never rfl (pi_range1 (by rfl) mr (pa_cons (pe_callB call_len_seq (by rfl) ml PySem.boot_len (pa_cons (pv 1) pa_nil)) pa_nil)) (pg_name (i := 2) nd rfl (.inl rfl))
        (pss_one (ps_if (pt_not (pt_val (pe_call G hr (by rfl) D.m D.F.kp D.b .nil pass0 (pa_cons (pe_ix ix_lt (pv 0) (pv 2) (fun _ _ => rfl)) (pa_cons (pe_ix ix_lt (pv 1) (pv 2) (fun _ _ => rfl)) pa_nil))))) (pss_one (ps_ret pe_bl)) pss_nil)))
      (pss_one (ps_ret pe_bl))))) pss_nil)
    (pss_cons (ps_if (pt_cmpR op_ne (pe_callB call_isiDat (by rfl) mi (by decide +kernel) (pa_cons (pv 1) (pa_cons (pe_bltn (v := .ty "bool") (by rfl) mb (by decide +kernel) rfl) pa_nil))) (pe_callB call_isiDat (by rfl) mi (by decide +kernel) (pa_cons (pv 0) (pa_cons (pe_bltn (v := .ty "bool") (by rfl) mb (by decide +kernel) rfl) pa_nil))) (nomark _)) (pss_one (ps_ret pe_bl)) pss_nil)
    (pss_cons (ps_if (PW.pt (pw_or (pt_cmpR op_ne (pe_callB call_isiDat (by rfl) mi (by decide +kernel) (pa_cons (pv 1) (pa_cons (pe_bltn (v := .ty "int") (by rfl) mint (by decide +kernel) rfl) pa_nil))) (pe_callB call_isiDat (by rfl) mi (by decide +kernel) (pa_cons (pv 0) (pa_cons (pe_bltn (v := .ty "int") (by rfl) mint (by decide +kernel) rfl) pa_nil))) (nomark _))
        (pw_or1 (pt_cmpR op_ne (pe_callB call_isiDat (by rfl) mi (by decide +kernel) (pa_cons (pv 1) (pa_cons (pe_bltn (v := .ty "str") (by rfl) ms (by decide +kernel) rfl) pa_nil))) (pe_callB call_isiDat (by rfl) mi (by decide +kernel) (pa_cons (pv 0) (pa_cons (pe_bltn (v := .ty "str") (by rfl) ms (by decide +kernel) rfl) pa_nil))) (nomark _)))))
      (pss_one (ps_ret pe_bl)) pss_nil)
    (pss_one (ps_ret (pe_cmpR op_eq (pv 0) (pv 1) (nomark _)))))), ?_⟩
  have ns : ∀ b : Bool, (!decide (V.bl b = V.bl b)) = false := fun b => by rw [decide_eq_true rfl]; rfl
  by_cases hs : (isTupD x || isListD x) = true
  · -- a sequence: item by item
    obtain ⟨a, b, xs, ys, ds, rfl, rfl, ha, hb, hxs, hys, hf⟩ : ∃ (a b : Addr) (xs ys : List V) (ds : List PyData), v = .ref a ∧ u = .ref b ∧ (SqL K H a xs ∨ SqT K H a xs) ∧ (SqL K H b ys ∨ SqT K H b ys) ∧ DpAll K H xs ds ∧ DpAll K H ys ds ∧ (ds.length ≤ 1000000 ∧ ∀ d ∈ ds, fitsD n d) := by
      cases hv with
      | lst h1 h2 =>
        cases hu with
        | lst h3 h4 => exact ⟨_, _, _, _, _, rfl, rfl, .inl h1, .inl h3, h2, h4, hd⟩
      | tup h1 h2 =>
        cases hu with
        | tup h3 h4 => exact ⟨_, _, _, _, _, rfl, rfl, .inr h1, .inr h3, h2, h4, hd⟩
      | _ => exact absurd (show false = true from hs) Bool.false_ne_true
    have l1 := Dp.len hxs
    have l2 := Dp.len hys
    have lz := hf.1
    refine ⟨_, rfl, _, x, "tuple", _, rfl, hu, k_tup x, _, rfl, ?_⟩
    refine ite2 (fun _ => ?g1) (fun c => ⟨_, rfl, _, x, "list", _, rfl, hu, k_list x, _, rfl, ?g2⟩)
    case' g2 =>
      rw [show isListD x = true by
        cases h : isTupD x with
        | true => exact absurd h c
        | false => rw [h] at hs; exact hs]
      refine iteT ?_
    all_goals
      refine ⟨_, rfl, _, x, "tuple", _, rfl, hu, k_tup x, _, rfl, _, x, "tuple", _, rfl, hv, k_tup x, rfl, _, rfl, ?_⟩
      rw [ns]
      refine iteF ⟨_, rfl, _, x, "list", _, rfl, hu, k_list x, _, rfl, _, x, "list", _, rfl, hv, k_list x, rfl, _, rfl, ?_⟩
      rw [ns]
      refine iteF ⟨_, rfl, a, xs, rfl, ha, _, rfl, b, ys, rfl, hb, rfl, _, rfl, iteNS (by rw [l1, l2]) ?_⟩
      refine ⟨_, rfl, b, ys, rfl, hb, (ys.length : Nat), rfl, by omega, by omega, for_range (n := ((ys.length : Nat) : Int).toNat) (fun i σ H2 => ∃ y, σ = [some (.ref a), some (.ref b), y] ∧ H2 = H) ⟨none, rfl, rfl⟩ (fun i σ H2 hi h => ?_) (fun σ H2 h => ?_)⟩
      · obtain ⟨y, rfl, rfl⟩ := h
        have hi : i < ys.length := by omega
        have e1 : xs[i]? = some xs[i] := List.getElem?_eq_getElem (by omega)
        have e2 : ys[i]? = some ys[i] := List.getElem?_eq_getElem hi
        obtain ⟨d1, q1, w1⟩ := Dp.get hxs e1
        obtain ⟨d2, q2, w2⟩ := Dp.get hys e2
        have e3 : d1 = d2 := Option.some.inj (q1.symm.trans q2)
        subst e3
        have e4 : (0 : Int) + (i : Nat) = (i : Nat) := Int.zero_add _
        refine ⟨_, rfl, _, rfl, a, xs, _, _, rfl, rfl, ha, at_of e4 e1, _, rfl, _, rfl, b, ys, _, _, rfl, rfl, hb, at_of e4 e2, ?_⟩
        exact ⟨_, _, d1, rfl, w1, w2, hf.2 d1 (List.mem_of_getElem? q1), _, rfl, iteF ⟨_, rfl, rfl⟩⟩
      · obtain ⟨y, rfl, rfl⟩ := h
        exact q
  · have h1 : isTupD x = false := by
      cases h : isTupD x with
      | true => rw [h] at hs; exact absurd rfl hs
      | false => rfl
    have h2 : isListD x = false := by
      cases h : isListD x with
      | true => rw [h, Bool.or_true] at hs; exact absurd rfl hs
      | false => rfl
    refine ⟨_, rfl, _, x, "tuple", _, rfl, hu, k_tup x, _, rfl, ?_⟩
    rw [h1]
    refine iteF ⟨_, rfl, _, x, "list", _, rfl, hu, k_list x, _, rfl, ?_⟩
    rw [h2]
    refine iteF ?_
    refine ⟨_, rfl, _, x, "bool", _, rfl, hu, k_bool x, _, rfl, _, x, "bool", _, rfl, hv, k_bool x, rfl, _, rfl, ?_⟩
    rw [ns]
    refine iteF ⟨_, rfl, _, x, "int", _, rfl, hu, k_int x, _, rfl, _, x, "int", _, rfl, hv, k_int x, rfl, _, rfl, ?_⟩
    rw [ns]
    refine iteF ⟨_, rfl, _, x, "str", _, rfl, hu, k_str x, _, rfl, _, x, "str", _, rfl, hv, k_str x, rfl, _, rfl, ?_⟩
    rw [ns]
    refine iteF ?_
    cases hv with
    | lst _ _ => cases h2
    | tup _ _ => cases h1
    | non =>
      cases hu
      exact ⟨_, rfl, _, rfl, rfl, q⟩
    | bl b =>
      cases hu
      exact ⟨_, rfl, _, rfl, rfl, by rw [decide_eq_true rfl]; exact q⟩
    | int b =>
      cases hu
      exact ⟨_, rfl, _, rfl, rfl, by rw [decide_eq_true rfl]; exact q⟩
    | str b =>
      cases hu
      exact ⟨_, rfl, _, rfl, rfl, by rw [decide_eq_true rfl]; exact q⟩
theorem ok_law_same {f : Addr} {fd : FuncData} (D : Df K mg "_law_same" s__law_same ["value", "due"] f fd) (mi : mg "isinstance" = none) (mt : mg "tuple" = none) (mli : mg "list" = none) (ml : mg "len" = none) (mr : mg "range" = none) (mb : mg "bool" = none) (mint : mg "int" = none) (ms : mg "str" = none) :
    ∀ n : Nat, FnOk P w K mg base CX0 n f fd ["value", "due"] (spSame K n)
  | 0 => by
    have no : ∀ vs H Q E, ¬ spSame K 0 vs H Q E := fun vs H Q E h => by
      obtain ⟨v, u, x, _, _, _, hf, _⟩ := h
      exact hf
    exact ⟨fun vs H Q E h => absurd h (no vs H Q E), fun A outer s H args us vs Q E _ _ _ _ h => absurd h (no vs H Q E)⟩
  | n + 1 => ok_law_same1 D mi mt mli ml mr mb mint ms (ok_law_same D mi mt mli ml mr mb mint ms n)
end

end K04
namespace K04
open PySem PySem.Spec PyProof.Rows L2 Own HT
section
variable {P : Program} {w : World} {K : PySem.W.Frag} {mg : Str → Option Value} {base : Heap}
/-! ### symbols -/
def spSyms : Sp := fun vs H Q _ => ∃ v t, vs = [v] ∧ TmAt H v t ∧ t.size ≤ 100000 ∧
  ∀ (p : Addr) (H' : Hp) (ws : List V) (L : List Pr), Same H H' → H p = none → H' p = some (.lst ws) → PrAll H' ws L → Asc L → (∀ x, x ∈ L ↔ x ∈ t.syms) → L.length ≤ t.size → Q (.ref p) H'
theorem sc_symbols : FnScope ["term", "found", "waiting", "part"] ["term"] (defScope s_symbols) := ⟨rfl, rfl, rfl, by decide +kernel, rfl, by decide +kernel, by decide +kernel⟩
theorem ok_symbols {f fV : Addr} {fd fdV : FuncData} (D : Df K mg "symbols" s_symbols ["term"] f fd) (DV : Df K mg "is_variable" s_is_variable ["term"] fV fdV) (G : FnOk P w K mg base CX0 1 fV fdV ["term"] spIsVar) (ml : mg "len" = none) (ms : mg "sorted" = none) : FnOk P w K mg base CX0 2 f fd ["term"] spSyms := by
  refine D.F.ok sc_symbols (fun vs H Q E h => ?_) (fun cdv A outer s H vs Q E hr h => ?_)
  · obtain ⟨v, t, rfl, _⟩ := h; rfl
  obtain ⟨v, t, rfl, ht, hz, q⟩ := h
  have nd := sc_symbols.nd
  refine ⟨_, pss_cons (ps_set (i := 1) nd rfl (.inl rfl) pe_dnewT) (pss_cons (ps_set (i := 2) nd rfl (.inl rfl) (pe_lst (pa_cons (pv 0) pa_nil)))
    (pss_cons (ps_while PassesOwn.never (pt_truth (pv 2) (by intro _; rfl))
      (pss_cons (ps_set (i := 3) nd rfl (.inl rfl) (pe_bm0 PySem.F.plainAttrs_list PySem.F.slot_list_pop PySem.F.type_list_pop mt_popL (pv 2)))
      (pss_one (ps_if (pt_not (pt_val (pe_call G hr (by rfl) DV.m DV.F.kp DV.b .nil pass0 (pa_cons (pv 3) pa_nil))))
        (pss_cons (ps_dput (hu_of hr) (pv 1) (pe_tup (pa_cons (pe_ix ix_tup (pv 3) pe_int (fun _ _ => rfl)) (pa_cons (pe_op op_sub (pe_callB call_len_seq (by rfl) ml PySem.boot_len (pa_cons (pv 3) pa_nil)) pe_int) pa_nil))) pe_bl rfl)
        (pss_one (ps_expr (pe_bm PySem.F.plainAttrs_list PySem.F.slot_list_extend PySem.F.type_list_extend mt_extendT (pv 2) (pa_cons (pe_slice sl_1 (pv 3) (po_some pe_int) po_none) pa_nil)))))
        pss_nil))))
    (pss_one (ps_ret (pe_callB (cr_sortedDT rfl hr.units) (by rfl) ms (by decide +kernel) (pa_cons (pv 1) pa_nil)))))), ?_⟩
  intro d nd'
  have s0 := same_new nd' (.dT [])
  refine ⟨v, rfl, by show 1 ≤ sizeLine; decide, fun l nl => ?_⟩
  have s1 := s0.trans (same_new nl (.lst [v]))
  have nld : l ≠ d := (ne_of_none (show upd H d (.dT []) d = some _ from upd_same) nl).symm
  have et1 : Ter.symss [t] = t.syms := List.append_nil _
  refine ⟨fun m σ H' => ∃ (acc : List Pr) (vs : List V) (us : List Ter) (y : Option V), σ = [some v, some (.ref d), some (.ref l), y] ∧ Same H H' ∧ H' d = some (.dT (acc.map yesT)) ∧ H' l = some (.lst vs) ∧ TmAll H' vs us ∧ acc.Nodup ∧ (∀ x, (x ∈ acc ∨ x ∈ Ter.symss us) ↔ x ∈ t.syms) ∧ acc.length + Ter.sizes us ≤ t.size ∧ m = Ter.sizes us,
    ⟨_, [], [v], [t], none, rfl, s1, by rw [upd_ne nld.symm]; exact upd_same, upd_same, .cons (TmAt.mono s1.tups _ _ ht) .nil, List.nodup_nil, fun x => by rw [et1]; simp, by show 0 + (t.size + 0) ≤ t.size; omega, rfl⟩, fun m σ H' hW => ?_⟩
  obtain ⟨acc, vs, us, y, rfl, sm, ed, el, hu, en, ei, hl, rfl⟩ := hW
  have nl0 : H l = none := s0.free nl
  refine ⟨.ref l, rfl, _, tru_l el, ?_⟩
  refine ite2 (fun c => ?_) (fun c => ?_)
  · have hv : vs ≠ [] := fun z => by subst z; exact absurd c (by decide)
    obtain ⟨vs', u, us', tu, rfl, rfl, ha', hx⟩ := hu.last hv
    rw [Ter.sizes_app] at hl
    have ez : Ter.sizes [tu] = tu.size := by show tu.size + 0 = tu.size; omega
    rw [ez] at hl
    have su := tu.size_pos
    rw [symss_app, show Ter.symss [tu] = tu.syms from List.append_nil _] at ei
    refine ⟨fun σ' H2 => ∃ (acc : List Pr) (vs : List V) (us : List Ter) (y : Option V), σ' = [some v, some (.ref d), some (.ref l), y] ∧ Same H H2 ∧ H2 d = some (.dT (acc.map yesT)) ∧ H2 l = some (.lst vs) ∧ TmAll H2 vs us ∧ acc.Nodup ∧ (∀ x, (x ∈ acc ∨ x ∈ Ter.symss us) ↔ x ∈ t.syms) ∧ acc.length + Ter.sizes us ≤ t.size ∧ Ter.sizes us < Ter.sizes (us' ++ [tu]),
      fun σ' H2 hN => ?_, ?_⟩
    · obtain ⟨a2, v2, u2, y2, e1, e2, e3, e4, e5, e6, e7, e8, e9⟩ := hN
      exact ⟨_, e9, a2, v2, u2, y2, e1, e2, e3, e4, e5, e6, e7, e8, rfl⟩
    have b1 : But l H' (upd H' l (.lst vs')) := But.upd
    have t1 := b1.tups el
    have hx1 := TmAt.mono t1 _ _ hx
    have ha1 := TmAll.mono t1 _ _ ha'
    have sm1 := But.same nl0 sm b1
    have ed1 := b1 d _ nld.symm ed
    have l1 := ha1.len
    have l3 := Ter.sizes_len us'
    refine ⟨.ref l, rfl, tyl el, l, vs', u, rfl, rfl, el, ?_⟩
    refine ⟨u, rfl, u, tu, rfl, hx1, _, rfl, ?_⟩
    have lt : Ter.sizes us' < Ter.sizes (us' ++ [tu]) := by rw [Ter.sizes_app, ez]; omega
    cases hx1 with
    | int i =>
      refine iteF ⟨acc, vs', us', _, rfl, sm1, ed1, upd_same, ha1, en, fun x => ?_, by have : (Ter.var (.inl i)).size = 1 := rfl; omega, lt⟩
      rw [← ei x]
      show _ ↔ (_ ∨ x ∈ Ter.symss us' ++ [])
      rw [List.append_nil]
    | str z =>
      refine iteF ⟨acc, vs', us', _, rfl, sm1, ed1, upd_same, ha1, en, fun x => ?_, by have : (Ter.var (.inr z)).size = 1 := rfl; omega, lt⟩
      rw [← ei x]
      show _ ↔ (_ ∨ x ∈ Ter.symss us' ++ [])
      rw [List.append_nil]
    | @ap p g zs as e hs =>
      refine iteT ?_
      have l2 := hs.len
      have l4 := Ter.sizes_len as
      have es : (Ter.ap g as).size = Ter.sizes as + 1 := rfl
      rw [es] at hl
      -- the pair is a new tuple
      refine ⟨.ref d, rfl, .ref p, rfl, p, _, 0, .str g, rfl, rfl, .inl (.inl e), head_at, .ref p, rfl, p, _, rfl, .inr (.inl (.inl e)), _, _, rfl, rfl, by show 2 ≤ sizeLine; decide, fun r nr => ?_⟩
      have ez2 : ((zs.length + 1 : Nat) : Int) - 1 = (as.length : Nat) := by rw [← l2]; omega
      have ev : [V.str g, V.int (((V.str g :: zs).length : Nat) - 1)] = prV (g, as.length) := by
        show [V.str g, V.int (((zs.length + 1 : Nat) : Int) - 1)] = _
        rw [ez2]
        rfl
      rw [ev]
      have s2 := same_new nr (.tup (prV (g, as.length)))
      have ed2 := s2 _ _ ed1
      refine ⟨d, _, rfl, DPut.t (k := prK (g, as.length)) ed2 upd_same (by rw [List.length_map]; exact small6' (by omega)), ?_⟩
      rw [put_yesT]
      have b3 : But d (upd (upd H' l (.lst vs')) r (.tup (prV (g, as.length)))) (upd (upd (upd H' l (.lst vs')) r (.tup (prV (g, as.length)))) d (.dT ((addP acc (g, as.length)).map yesT))) := But.upd
      have t3 : Tups _ _ := fun b xs e9 => b3 b _ (fun z => by rw [z, ed2] at e9; cases e9) e9
      have sm3 := But.same nd' (sm1.trans s2) b3
      have el3 := b3 l _ nld (s2 _ _ upd_same)
      have m3 := s2.tups.trans t3
      have e3 := m3 _ _ e
      refine ⟨.ref l, rfl, tyl el3, .ref p, rfl, 1, rfl, p, .str g, zs, rfl, rfl, rfl, .inl (.inl e3), fun r4 nr4 => ?_⟩
      have s4 := same_new nr4 (.tup zs)
      refine ⟨l, r4, vs', zs, rfl, rfl, s4 _ _ el3, .inl (.inl upd_same), small6 (by omega), ?_⟩
      have b5 := But.upd (d := l) (H := upd (upd (upd (upd H' l (.lst vs')) r (.tup (prV (g, as.length)))) d (.dT ((addP acc (g, as.length)).map yesT))) r4 (.tup zs)) (o := .lst (vs' ++ zs))
      have t5 := s4.tups.trans (b5.tups (s4 _ _ el3))
      have al := addP_len acc (g, as.length)
      refine ⟨addP acc (g, as.length), vs' ++ zs, us' ++ as, _, rfl, But.same nl0 (sm3.trans s4) b5, b5 d _ nld.symm (s4 _ _ upd_same), upd_same, (TmAll.mono (m3.trans t5) _ _ ha1).app (TmAll.mono (m3.trans t5) _ _ hs), addP_nd en _, fun x => ?_, by rw [Ter.sizes_app]; omega, by rw [Ter.sizes_app, Ter.sizes_app, ez, es]; omega⟩
      rw [← ei x, mem_addP, symss_app, List.mem_append, List.mem_append, show (Ter.ap g as).syms = (g, as.length) :: Ter.symss as from rfl, List.mem_cons]
      constructor
      · rintro ((h | h) | (h | h))
        · exact .inl h
        · exact .inr (.inr (.inl h))
        · exact .inr (.inl h)
        · exact .inr (.inr (.inr h))
      · rintro (h | (h | (h | h)))
        · exact .inl (.inl h)
        · exact .inr (.inl h)
        · exact .inl (.inr h)
        · exact .inr (.inr h)
  · have hv : vs = [] := by
      cases vs with
      | nil => rfl
      | cons x r => exact absurd rfl c
    subst hv
    cases hu
    refine ⟨.ref d, rfl, d, acc.map yesT, rfl, ed, by rw [List.length_map]; omega, alike_keys acc, fun p hp => ?_, fun p hp => ?_, fun ps p e1 e2 np => ?_⟩
    · obtain ⟨x, _, rfl⟩ := List.mem_map.mp hp
      exact ⟨_, _, rfl⟩
    · obtain ⟨x, _, rfl⟩ := List.mem_map.mp hp
      exact (by show 1 ≤ 60; decide)
    · have e1 : ps.map (·.2) = acc.map prK := by rw [e1, List.map_map]; rfl
      obtain ⟨L, hL, hA, hm, hlen⟩ := sorted_prs en e1 e2
      have s3 := same_new np (.lst ((ps.mergeSort keysLe).map fun z => V.ref z.1))
      refine q p _ _ L (sm.trans s3) (sm.free np) upd_same (hL.mono s3.tups) hA (fun x => ?_) (by omega)
      rw [hm, ← ei x]
      exact ⟨.inl, fun z => z.elim id fun z => by cases z⟩
end

section
variable {P : Program} {w : World} {K : PySem.W.Frag} {mg : Str → Option Value} {base : Heap}
/-! ### _law_pairs -/
def spPairs (n : Nat) : Sp := fun vs H Q _ => ∃ v t, vs = [v] ∧ TmAt H v t ∧ t.wf symFine anyNum ∧ t.nest < n ∧ t.size ≤ 100000 ∧
  ∀ (p : Addr) (H' : Hp) (ws : List V) (L : List Pr), Same H H' → H p = none → H' p = some (.lst ws) → PrAll H' ws L → L.Nodup → (∀ x, x ∈ L ↔ x ∈ t.syms) → L.length ≤ t.size → Q (.ref p) H'
theorem sc_law_pairs : FnScope ["term", "found", "argument", "pair"] ["term"] (defScope s__law_pairs) := ⟨rfl, rfl, rfl, by decide +kernel, rfl, by decide +kernel, by decide +kernel⟩
theorem ok_law_pairs1 {f : Addr} {fd : FuncData} (D : Df K mg "_law_pairs" s__law_pairs ["term"] f fd) (mi : mg "isinstance" = none) (mt : mg "tuple" = none) (ml : mg "len" = none) {n : Nat} (G : FnOk P w K mg base CX0 n f fd ["term"] (spPairs n)) : FnOk P w K mg base CX0 (n + 1) f fd ["term"] (spPairs (n + 1)) := by
  refine D.F.ok sc_law_pairs (fun vs H Q E h => ?_) (fun cdv A outer s H vs Q E hr h => ?_)
  · obtain ⟨v, t, rfl, _⟩ := h; rfl
  obtain ⟨v, t, rfl, ht, hw, hn, hz, q⟩ := h
  have nd := sc_law_pairs.nd
  refine ⟨_, pss_cons (ps_if (pt_not (pt_val (pe_callB call_isiTer (by rfl) mi (by decide +kernel) (pa_cons (pv 0) (pa_cons (pe_bltn (v := .ty "tuple") (by rfl) mt (by decide +kernel) rfl) pa_nil))))) (pss_one (ps_ret (pe_lst pa_nil))) pss_nil)
    (pss_cons (ps_set (i := 1) nd rfl (.inl rfl) (pe_lst (pa_cons (pe_tup (pa_cons (pe_ix ix_tup (pv 0) pe_int (fun _ _ => rfl)) (pa_cons (pe_op op_sub (pe_callB call_len_seq (by rfl) ml PySem.boot_len (pa_cons (pv 0) pa_nil)) pe_int) pa_nil))) pa_nil)))
    (pss_cons (ps_for PassesOwn.never rfl (pi_tup (pe_slice sl_1 (pv 0) (po_some pe_int) po_none)) (pg_name (i := 2) nd rfl (.inl rfl))
      (pss_one (ps_for PassesOwn.never rfl (pi_list (pe_call G hr (by rfl) D.m D.F.kp D.b .nil pass0 (pa_cons (pv 2) pa_nil))) (pg_name (i := 3) nd rfl (.inl rfl))
        (pss_one (ps_if (pt_cmpR (op_notInD hr.units65) (pv 3) (pv 1) (by rfl)) (pss_one (ps_expr (pe_bm PySem.F.plainAttrs_list PySem.F.slot_list_append PySem.F.type_list_append mt_append (pv 1) (pa_cons (pv 3) pa_nil)))) pss_nil)))))
    (pss_one (ps_ret (pv 1))))), ?_⟩
  refine ⟨v, rfl, v, t, rfl, ht, _, rfl, ?_⟩
  cases ht with
  | int i => exact iteT ⟨Nat.zero_le _, fun p np => q p _ _ [] (same_new np _) np upd_same .nil List.nodup_nil (fun x => Iff.rfl) (Nat.zero_le _)⟩
  | str i => exact iteT ⟨Nat.zero_le _, fun p np => q p _ _ [] (same_new np _) np upd_same .nil List.nodup_nil (fun x => Iff.rfl) (Nat.zero_le _)⟩
  | @ap a g xs as e hs =>
    refine iteF ?_
    have ls := hs.len
    have hn : Ter.nests as + 1 < n + 1 := hn
    have hz : Ter.sizes as + 1 ≤ 100000 := hz
    have fine : ∀ x ∈ (Ter.ap g as).syms, PyData.strOk x.1 = true := fun x hx => syms_wf _ hw x hx
    refine ⟨.ref a, rfl, a, _, 0, .str g, rfl, rfl, .inl (.inl e), head_at, .ref a, rfl, a, _, rfl, .inr (.inl (.inl e)), _, _, rfl, rfl, by show 2 ≤ sizeLine; decide, fun r0 nr0 => ?_⟩
    have ev : [V.str g, V.int (((V.str g :: xs).length : Nat) - 1)] = prV (g, as.length) := by
      show [V.str g, V.int (((xs.length + 1 : Nat) : Int) - 1)] = _
      rw [show ((xs.length + 1 : Nat) : Int) - 1 = (as.length : Nat) by rw [← ls]; omega]
      rfl
    rw [ev]
    have s00 := same_new nr0 (.tup (prV (g, as.length)))
    refine ⟨by show 1 ≤ sizeLine; decide, fun d nd' => ?_⟩
    have ndH : H d = none := s00.free nd'
    have s0 := s00.trans (same_new nd' (.lst [.ref r0]))
    refine ⟨.ref a, rfl, 1, rfl, a, .str g, xs, rfl, rfl, rfl, .inl (.inl (s0 _ _ e)), fun r nr => ?_⟩
    have s1 := s0.trans (same_new nr (.tup xs))
    have nrd : r ≠ d := (ne_of_none (show upd (upd H r0 (.tup (prV (g, as.length)))) d (.lst [.ref r0]) d = some _ from upd_same) nr).symm
    have ex0 : upd (upd (upd H r0 (.tup (prV (g, as.length)))) d (.lst [.ref r0])) r (.tup xs) r0 = some (.tup (prV (g, as.length))) := (same_new nr (.tup xs)) _ _ ((same_new nd' (.lst [.ref r0])) _ _ upd_same)
    refine ⟨r, rfl, ⟨xs, .inl (.inl upd_same)⟩, for_tup (xs := xs) (fun i σ H2 => ∃ y2 y3 ws L, σ = [some (.ref a), some (.ref d), y2, y3] ∧ Same H H2 ∧ H2 r = some (.tup xs) ∧ H2 d = some (.lst ws) ∧ PrAll H2 ws L ∧ L.Nodup ∧ (∀ x, x ∈ L ↔ x = (g, as.length) ∨ x ∈ Ter.symss (as.take i)) ∧ L.length ≤ 1 + Ter.sizes (as.take i))
      ⟨none, none, [.ref r0], [(g, as.length)], rfl, s1, upd_same, by rw [upd_ne nrd.symm]; exact upd_same, .cons (.mk ex0) .nil, List.nodup_cons.mpr ⟨by simp, List.nodup_nil⟩, fun x => ?_, by show 1 ≤ 1 + 0; omega⟩ (fun i σ H2 _ h => ?_) (fun i x σ H2 hx h => ?_) (fun σ H2 h => ?_)⟩
    · rw [List.mem_singleton]
      exact ⟨.inl, fun z => z.elim id fun z => by cases z⟩
    · obtain ⟨_, _, _, _, _, _, er, _⟩ := h
      exact .inl (.inl er)
    · obtain ⟨y2, y3, ws, L, rfl, sm, er, ed, hL, nL, mL, lL⟩ := h
      obtain ⟨t1, et, hx1⟩ := hs.get hx
      have hx2 := TmAt.mono sm.tups _ _ hx1
      have n1 := nest_le_of et
      have m1 := size_le_of et
      have etk : as.take (i + 1) = as.take i ++ [t1] := by rw [List.take_add_one, et]; rfl
      have hsum : Ter.sizes (as.take (i + 1)) ≤ Ter.sizes as := by
        have : Ter.sizes as = Ter.sizes (as.take (i + 1)) + Ter.sizes (as.drop (i + 1)) := by rw [← Ter.sizes_app, List.take_append_drop]
        omega
      have esz : Ter.sizes (as.take (i + 1)) = Ter.sizes (as.take i) + t1.size := by rw [etk, sizes_snoc]
      refine ⟨x, rfl, x, t1, rfl, hx2, wfs_get hw.2 et, by omega, by omega, fun p H3 ws1 L1 s3 np ep hL1 nL1 mL1 lL1 => ?_⟩
      have npd : p ≠ d := fun z => by rw [z, ed] at np; cases np
      have npr : p ≠ r := fun z => by rw [z, er] at np; cases np
      have lws := hL1.len
      refine ⟨p, rfl, ⟨_, .inl (.inl ep)⟩, for_list (xs := ws1) (fun j σ H4 => ∃ y3 ws' L', σ = [some (.ref a), some (.ref d), some x, y3] ∧ Same H H4 ∧ H4 r = some (.tup xs) ∧ H4 p = some (.lst ws1) ∧ Tups H3 H4 ∧ H4 d = some (.lst ws') ∧ PrAll H4 ws' L' ∧ L'.Nodup ∧ (∀ z, z ∈ L' ↔ (z = (g, as.length) ∨ z ∈ Ter.symss (as.take i)) ∨ z ∈ L1.take j) ∧ L'.length ≤ 1 + Ter.sizes (as.take i) + j)
        ⟨y3, ws, L, rfl, sm.trans s3, s3 _ _ er, ep, Tups.refl _, s3 _ _ ed, hL.mono s3.tups, nL, fun z => ?_, by omega⟩ (fun j σ H4 _ h => ?_) (fun j y σ H4 hy h => ?_) (fun σ H4 h => ?_)⟩
      · rw [mL]
        exact ⟨.inl, fun z => z.elim id fun z => by cases z⟩
      · obtain ⟨_, _, _, _, _, _, ep4, _⟩ := h
        exact .inl (.inl ep4)
      · obtain ⟨y3, ws', L', rfl, sm4, er4, ep4, t34, ed4, hL4, nL4, mL4, lL4⟩ := h
        obtain ⟨pr, epr, hy3⟩ := hL1.get hy
        have hy4 := hy3.mono t34
        have ejk : L1.take (j + 1) = L1.take j ++ [pr] := by rw [List.take_add_one, epr]; rfl
        have jl : j < L1.length := (List.getElem?_eq_some_iff.mp epr).1
        have fpr : PyData.strOk pr.1 = true := by
          have h1 : pr ∈ t1.syms := (mL1 pr).mp (List.mem_of_getElem? epr)
          exact syms_wf _ (wfs_get hw.2 et) _ h1
        have fL : ∀ z ∈ L', PyData.strOk z.1 = true := fun z hz => by
          rcases (mL4 z).mp hz with (h | h) | h
          · exact fine z (h ▸ List.mem_cons_self)
          · refine fine z (List.mem_cons_of_mem _ ?_)
            have : Ter.symss as = Ter.symss (as.take i) ++ Ter.symss (as.drop i) := by rw [← symss_app, List.take_append_drop]
            rw [this]
            exact List.mem_append_left _ h
          · exact syms_wf _ (wfs_get hw.2 et) _ ((mL1 z).mp (List.mem_of_mem_take h))
        refine ⟨y, rfl, .ref d, rfl, Own.prD pr, L'.map Own.prD, dp_pr hy4, .lst (.inl (.inl ed4)) (dp_prs hL4), shaped_pr fpr, shaped_prs fL, _, rfl, ?_⟩
        rw [any_pr]
        by_cases hm : pr ∈ L'
        · rw [decide_eq_true hm]
          refine iteF ⟨_, ws', L', rfl, sm4, er4, ep4, t34, ed4, hL4, nL4, fun z => ?_, by omega⟩
          rw [ejk, List.mem_append, List.mem_singleton, mL4]
          refine ⟨fun h => h.elim .inl fun h => .inr (.inl h), fun h => ?_⟩
          rcases h with h | (h | h)
          · exact .inl h
          · exact .inr h
          · exact (mL4 z).mp (h ▸ hm)
        · rw [decide_eq_false hm]
          have l4 := hL4.len
          refine iteT ⟨.ref d, rfl, tyl ed4, y, rfl, d, _, _, rfl, rfl, ed4, small6' (by omega), ?_⟩
          have b5 : But d H4 (upd H4 d (.lst (ws' ++ [y]))) := But.upd
          have t5 := b5.tups ed4
          refine ⟨_, _, L' ++ [pr], rfl, But.same ndH sm4 b5, b5 r _ nrd er4, b5 p _ npd ep4, t34.trans t5, upd_same, (hL4.mono t5).app (.cons (hy4.mono t5) .nil), ?_, fun z => ?_, by rw [List.length_append, List.length_singleton]; omega⟩
          · exact List.nodup_append.mpr ⟨nL4, List.nodup_cons.mpr ⟨by simp, List.nodup_nil⟩, fun a ha b hb e => hm (by rw [← List.mem_singleton.mp hb, ← e]; exact ha)⟩
          · rw [List.mem_append, mL4, ejk, List.mem_append, or_assoc]
      · obtain ⟨y3, ws', L', rfl, sm4, er4, ep4, t34, ed4, hL4, nL4, mL4, lL4⟩ := h
        rw [lws, List.take_length] at mL4
        rw [lws] at lL4
        refine ⟨_, _, ws', L', rfl, sm4, er4, ed4, hL4, nL4, fun z => ?_, by omega⟩
        rw [mL4, mL1, etk, symss_app, List.mem_append, show Ter.symss [t1] = t1.syms from List.append_nil _, or_assoc]
    · obtain ⟨y2, y3, ws, L, rfl, sm, er, ed, hL, nL, mL, lL⟩ := h
      rw [ls, List.take_length] at mL lL
      refine ⟨.ref d, rfl, q d H2 ws L sm ndH ed hL nL (fun x => ?_) (by show _ ≤ Ter.sizes as + 1; omega)⟩
      rw [mL]
      exact List.mem_cons.symm
theorem ok_law_pairs {f : Addr} {fd : FuncData} (D : Df K mg "_law_pairs" s__law_pairs ["term"] f fd) (mi : mg "isinstance" = none) (mt : mg "tuple" = none) (ml : mg "len" = none) : ∀ n : Nat, FnOk P w K mg base CX0 n f fd ["term"] (spPairs n)
  | 0 => by
    have no : ∀ vs H Q E, ¬ spPairs 0 vs H Q E := fun vs H Q E h => by
      obtain ⟨v, t, _, _, _, hn, _⟩ := h
      omega
    exact ⟨fun vs H Q E h => absurd h (no vs H Q E), fun A outer s H args us vs Q E _ _ _ _ h => absurd h (no vs H Q E)⟩
  | n + 1 => ok_law_pairs1 D mi mt ml (ok_law_pairs D mi mt ml n)
end

section
variable {P : Program} {w : World} {K : PySem.W.Frag} {mg : Str → Option Value} {base : Heap}
/-! ### _law_ascending -/
def spAsc : Sp := fun vs H Q _ => ∃ (a : Addr) (us : List V) (L : List Pr), vs = [.ref a] ∧ H a = some (.lst us) ∧ PrAll H us L ∧ L.Nodup ∧ L.length ≤ 100000 ∧
  ∀ (p : Addr) (H' : Hp) (ws : List V) (L' : List Pr), Same H H' → H p = none → H' p = some (.lst ws) → PrAll H' ws L' → Asc L' → (∀ x, x ∈ L' ↔ x ∈ L) → L'.length = L.length → Q (.ref p) H'
theorem sc_law_ascending : FnScope ["pairs", "rest", "found", "k", "least", "j"] ["pairs"] (defScope s__law_ascending) := ⟨rfl, rfl, rfl, by decide +kernel, rfl, by decide +kernel, by decide +kernel⟩
theorem ok_law_ascending {f : Addr} {fd : FuncData} (D : Df K mg "_law_ascending" s__law_ascending ["pairs"] f fd) (mli : mg "list" = none) (mr : mg "range" = none) (ml : mg "len" = none) : FnOk P w K mg base CX0 1 f fd ["pairs"] spAsc := by
  refine D.F.ok sc_law_ascending (fun vs H Q E h => ?_) (fun cdv A outer s H vs Q E hr h => ?_)
  · obtain ⟨a, us, L, rfl, _⟩ := h; rfl
  obtain ⟨a, us, L, rfl, ea, hU, nU, lU, q⟩ := h
  have nd := sc_law_ascending.nd
  refine ⟨_, pss_cons (ps_set (i := 1) nd rfl (.inl rfl) (pe_callTy call_list_of (by rfl) mli (by decide +kernel) (pa_cons (pv 0) pa_nil)))
    (pss_cons (ps_set (i := 2) nd rfl (.inl rfl) (pe_lst pa_nil))
    (pss_cons (ps_for PassesOwn.never rfl (pi_range1 (by rfl) mr (pa_cons (pe_callB call_len_seq (by rfl) ml PySem.boot_len (pa_cons (pv 0) pa_nil)) pa_nil)) (pg_name (i := 3) nd rfl (.inl rfl))
      (pss_cons (ps_set (i := 4) nd rfl (.inl rfl) pe_int)
      (pss_cons (ps_for PassesOwn.never rfl (pi_range1 (by rfl) mr (pa_cons (pe_callB call_len_seq (by rfl) ml PySem.boot_len (pa_cons (pv 1) pa_nil)) pa_nil)) (pg_name (i := 5) nd rfl (.inl rfl))
        (pss_one (ps_if (pt_cmpR (op_ltD hr.units) (pe_ix ix_list (pv 1) (pv 5) (fun _ _ => rfl)) (pe_ix ix_list (pv 1) (pv 4) (fun _ _ => rfl)) (nomark _)) (pss_one (ps_set (i := 4) nd rfl (.inl rfl) (pv 5))) pss_nil)))
      (pss_one (ps_expr (pe_bm PySem.F.plainAttrs_list PySem.F.slot_list_append PySem.F.type_list_append mt_append (pv 2) (pa_cons (pe_bm PySem.F.plainAttrs_list PySem.F.slot_list_pop PySem.F.type_list_pop mt_popAt (pv 1) (pa_cons (pv 4) pa_nil)) pa_nil)))))))
    (pss_one (ps_ret (pv 2))))), ?_⟩
  have lu := hU.len
  refine ⟨_, rfl, a, us, rfl, .inl (.inl (.inl ea)), fun r nr => ?_⟩
  have s1 := same_new nr (.lst us)
  refine ⟨Nat.zero_le _, fun d nd' => ?_⟩
  have s2 := s1.trans (same_new nd' (.lst []))
  have ndH : H d = none := s1.free nd'
  have nrd : r ≠ d := ne_of_none (show upd H r (.lst us) r = some _ from upd_same) nd'
  have nra : a ≠ r := ne_of_none ea nr
  have nda : a ≠ d := ne_of_none ea ndH
  refine ⟨_, rfl, a, us, rfl, .inl (.inl (.inl (s2 _ _ ea))), ((us.length : Nat) : Int), rfl, by omega, by omega, ?_⟩
  refine for_range (n := ((us.length : Nat) : Int).toNat) (fun i σ H2 => ∃ y3 y4 y5 vr Lr vf Lf, σ = [some (.ref a), some (.ref r), some (.ref d), y3, y4, y5] ∧ Same H H2 ∧ H2 r = some (.lst vr) ∧ H2 d = some (.lst vf) ∧ PrAll H2 vr Lr ∧ PrAll H2 vf Lf ∧ Asc Lf ∧ Lr.Nodup ∧ (∀ x ∈ Lf, ∀ y ∈ Lr, prLt x y = true) ∧ (∀ x, x ∈ L ↔ x ∈ Lf ∨ x ∈ Lr) ∧ Lf.length = i ∧ Lf.length + Lr.length = L.length)
    ⟨none, none, none, us, L, [], [], rfl, s2, (same_new nd' _) _ _ upd_same, upd_same, hU.mono s2.tups, .nil, List.Pairwise.nil, nU, fun x hx => (by cases hx), fun x => (by simp), rfl, (by simp)⟩ (fun i σ H2 hi h => ?_) (fun σ H2 h => ?_)
  · obtain ⟨y3, y4, y5, vr, Lr, vf, Lf, rfl, sm, er, ed, hR, hF, aF, nR, lt, mm, li, tot⟩ := h
    have hi : i < us.length := by omega
    have lr := hR.len
    have lf := hF.len
    have pos : 0 < vr.length := by omega
    refine ⟨_, rfl, r, vr, rfl, .inl (.inl (.inl er)), ((vr.length : Nat) : Int), rfl, by omega, by omega, ?_⟩
    refine for_range (n := ((vr.length : Nat) : Int).toNat) (fun j σ H3 => H3 = H2 ∧ ∃ y5 m pm, σ = [some (.ref a), some (.ref r), some (.ref d), some (.int ((0 : Int) + (i : Nat))), some (.int ((m : Nat) : Int)), y5] ∧ Lr[m]? = some pm ∧ ∀ k pk, k < j → Lr[k]? = some pk → prLt pk pm = false)
      ⟨rfl, y5, 0, Lr[0]'(by omega), rfl, List.getElem?_eq_getElem (by omega), fun k pk hk _ => absurd hk (by omega)⟩ (fun j σ H3 hj h => ?_) (fun σ H3 h => ?_)
    · obtain ⟨rfl, y5, m, pm, rfl, em, hm⟩ := h
      have hj : j < vr.length := by omega
      have e1 : vr[j]? = some vr[j] := List.getElem?_eq_getElem hj
      obtain ⟨pj, ej, hpj⟩ := hR.get e1
      have ml : m < vr.length := by have := (List.getElem?_eq_some_iff.mp em).1; omega
      have e2 : vr[m]? = some vr[m] := List.getElem?_eq_getElem ml
      obtain ⟨pm', em', hpm⟩ := hR.get e2
      cases em.symm.trans em'
      have e4 : (0 : Int) + (j : Nat) = (j : Nat) := Int.zero_add _
      refine ⟨_, rfl, _, rfl, r, _, _, _, rfl, rfl, .inl (.inl er), at_of e4 e1, _, rfl, _, rfl, r, _, _, _, rfl, rfl, .inl (.inl er), atI_nat e2, ?_⟩
      refine ⟨prD pj, prD pm, dp_pr hpj, dp_pr hpm, rfl, (fun z => by cases z), (by show 1 ≤ 64; decide), _, rfl, ?_⟩
      show if prLt pj pm = true then _ else _
      cases hlt : prLt pj pm with
      | true =>
        refine iteT ⟨_, rfl, rfl, _, j, pj, by rw [e4]; rfl, ej, fun k pk hk ek => ?_⟩
        rcases Nat.lt_succ_iff_lt_or_eq.mp hk with hk | rfl
        · exact prLt_neg (prLt_asym hlt) (hm k pk hk ek)
        · cases ej.symm.trans ek
          exact prLt_irr _
      | false =>
        refine iteF ⟨rfl, _, m, pm, rfl, em, fun k pk hk ek => ?_⟩
        rcases Nat.lt_succ_iff_lt_or_eq.mp hk with hk | rfl
        · exact hm k pk hk ek
        · cases ej.symm.trans ek
          exact hlt
    · obtain ⟨rfl, y5, m, pm, rfl, em, hm⟩ := h
      have ml : m < vr.length := by have := (List.getElem?_eq_some_iff.mp em).1; omega
      have e2 : vr[m]? = some vr[m] := List.getElem?_eq_getElem ml
      obtain ⟨pm', em', hpm⟩ := hR.get e2
      cases em.symm.trans em'
      refine ⟨.ref d, rfl, tyl ed, .ref r, rfl, tyl er, _, rfl, r, vr, (m : Int), m, vr[m], rfl, rfl, er, by omega, by omega, ?_, e2, ?_⟩
      · exact (seqIndex_of (k := (m : Int)) (n := vr.length) (by omega) (by omega)).trans (congrArg some (Int.toNat_natCast m))
      have b3 : But r H3 (upd H3 r (.lst (vr.eraseIdx m))) := But.upd
      have t3 := b3.tups er
      refine ⟨d, _, _, rfl, rfl, b3 d _ nrd.symm ed, small6' (by omega), ?_⟩
      have b4 := But.upd (d := d) (H := upd H3 r (.lst (vr.eraseIdx m))) (o := .lst (vf ++ [vr[m]]))
      have t4 := t3.trans (b4.tups (b3 d _ nrd.symm ed))
      have le := List.length_eraseIdx_of_lt (show m < Lr.length by omega)
      have mpm : pm ∈ Lr := List.mem_of_getElem? em
      have mer : ∀ y, y ∈ Lr.eraseIdx m ↔ y ≠ pm ∧ y ∈ Lr := fun y => by
        rw [List.mem_eraseIdx_iff_getElem?]
        constructor
        · rintro ⟨k, nk, ek⟩
          refine ⟨fun z => nk ?_, List.mem_of_getElem? ek⟩
          subst z
          exact (List.getElem?_inj (List.getElem?_eq_some_iff.mp ek).1 nR).mp (ek.trans em.symm)
        · rintro ⟨ny, hy⟩
          obtain ⟨k, ek⟩ := List.getElem?_of_mem hy
          exact ⟨k, fun z => ny (by subst z; exact Option.some.inj (ek.symm.trans em)), ek⟩
      refine ⟨_, _, _, vr.eraseIdx m, Lr.eraseIdx m, vf ++ [vr[m]], Lf ++ [pm], rfl, But.same ndH (But.same nr sm b3) b4, b4 r _ nrd upd_same, upd_same, (hR.erase m).mono t4, (hF.mono t4).app (.cons (hpm.mono t4) .nil), ?_, nR.eraseIdx m, fun x hx y hy => ?_, fun x => ?_, by rw [List.length_append, List.length_singleton, li], by rw [List.length_append, List.length_singleton]; omega⟩
      · refine List.pairwise_append.mpr ⟨aF, List.pairwise_singleton _ _, fun x hx y hy => ?_⟩
        rw [List.mem_singleton.mp hy]
        exact lt x hx pm mpm
      · obtain ⟨ny, hy⟩ := (mer y).mp hy
        rcases List.mem_append.mp hx with hx | hx
        · exact lt x hx y hy
        · rw [List.mem_singleton.mp hx]
          obtain ⟨k, ek⟩ := List.getElem?_of_mem hy
          have := (List.getElem?_eq_some_iff.mp ek).1
          exact prLt_tot ny (hm k y (by omega) ek)
      · rw [mm, List.mem_append, List.mem_singleton, mer]
        by_cases e : x = pm
        · subst e
          exact ⟨fun _ => .inl (.inr rfl), fun _ => .inr mpm⟩
        · exact ⟨fun h => h.elim (fun h => .inl (.inl h)) fun h => .inr ⟨e, h⟩, fun h => h.elim (fun h => h.elim .inl fun z => absurd z e) fun h => .inr h.2⟩
  · obtain ⟨y3, y4, y5, vr, Lr, vf, Lf, rfl, sm, er, ed, hR, hF, aF, nR, lt, mm, li, tot⟩ := h
    have l0 : Lr = [] := List.length_eq_zero_iff.mp (by omega)
    subst l0
    exact ⟨.ref d, rfl, q d H2 vf Lf sm ndH ed hF aF (fun x => by rw [mm]; simp) (by omega)⟩
end

end K04
namespace K04
open PySem PySem.Spec PyProof.Rows L2 Own HT
section
variable {P : Program} {w : World} {K : PySem.W.Frag} {mg : Str → Option Value} {base : Heap}
/-! ### law -/
def spLaw (K : PySem.W.Frag) : Sp := fun vs H Q _ => ∃ (a : Addr) (ns : List Int), vs = [.ref a] ∧ SqL K H a (ns.map V.int) ∧ ns.length ≤ 63 ∧ ∀ H', Q (.bl true) H'
theorem sc_law : FnScope ["script", "draws", "words", "term", "by", "moved", "due", "told"] ["script"] (defScope s_law) := ⟨rfl, rfl, rfl, by decide +kernel, rfl, by decide +kernel, by decide +kernel⟩
theorem ok_law {f : Addr} {fd : FuncData} (D : Df K mg "law" s_law ["script"] f fd)
    {fD fT fW fTm fS fM fP fA fSy fX : Addr} {dD dT dW dTm dS dM dP dA dSy dX : FuncData}
    (DD : Df K mg "_law_draws" s__law_draws ["script"] fD dD) (GD : FnOk P w K mg base CX0 1 fD dD ["script"] (spDraws K))
    (DT : Df K mg "_law_take" s__law_take ["draws", "bound"] fT dT) (GT : FnOk P w K mg base CX0 1 fT dT ["draws", "bound"] spTake)
    (DW : Df K mg "_law_words" s__law_words ["draws", "many"] fW dW) (GW : FnOk P w K mg base CX0 2 fW dW ["draws", "many"] spWords)
    (DTm : Df K mg "_law_term" s__law_term ["draws", "words", "depth"] fTm dTm) (GTm : FnOk P w K mg base CX0 7 fTm dTm ["draws", "words", "depth"] (spTerm 5))
    (DX : Df K mg "_law_same" s__law_same ["value", "due"] fX dX) (GX : FnOk P w K mg base CX0 8 fX dX ["value", "due"] (spSame K 8))
    (DS : Df K mg "shift" s_shift ["term", "by"] fS dS) (GS : FnOk P w K mg base CX0 8 fS dS ["term", "by"] (spShift 7))
    (DM : Df K mg "_law_moved" s__law_moved ["term", "by"] fM dM) (GM : FnOk P w K mg base CX0 8 fM dM ["term", "by"] (spShift 7))
    (DP : Df K mg "_law_pairs" s__law_pairs ["term"] fP dP) (GP : FnOk P w K mg base CX0 7 fP dP ["term"] (spPairs 7))
    (DA : Df K mg "_law_ascending" s__law_ascending ["pairs"] fA dA) (GA : FnOk P w K mg base CX0 1 fA dA ["pairs"] spAsc)
    (DSy : Df K mg "symbols" s_symbols ["term"] fSy dSy) (GSy : FnOk P w K mg base CX0 2 fSy dSy ["term"] spSyms) : FnOk P w K mg base CX0 9 f fd ["script"] (spLaw K) := by
  refine D.F.ok sc_law (fun vs H Q E h => ?_) (fun cdv A outer s H vs Q E hr h => ?_)
  · obtain ⟨a, ns, rfl, _⟩ := h; rfl
  obtain ⟨a, ns, rfl, hS, hn, q⟩ := h
  have nd := sc_law.nd
  have r1 : Room 1 _ := hr.mono (by decide)
  have r2 : Room 2 _ := hr.mono (by decide)
  have r7 : Room 7 _ := hr.mono (by decide)
  refine ⟨_, pss_cons (ps_set (i := 1) nd rfl (.inl rfl) (pe_call GD r1 (by rfl) DD.m DD.F.kp DD.b .nil pass0 (pa_cons (pv 0) pa_nil)))
    (pss_cons (ps_set (i := 2) nd rfl (.inl rfl) (pe_call GW r2 (by rfl) DW.m DW.F.kp DW.b .nil pass0 (pa_cons (pv 1) (pa_cons pe_int pa_nil))))
    (pss_cons (ps_set (i := 3) nd rfl (.inl rfl) (pe_call GTm r7 (by rfl) DTm.m DTm.F.kp DTm.b .nil pass0 (pa_cons (pv 1) (pa_cons (pv 2) (pa_cons (pe_op op_add pe_int (pe_call GT r1 (by rfl) DT.m DT.F.kp DT.b .nil pass0 (pa_cons (pv 1) (pa_cons pe_int pa_nil)))) pa_nil)))))
    (pss_cons (ps_set (i := 4) nd rfl (.inl rfl) (pe_call GT r1 (by rfl) DT.m DT.F.kp DT.b .nil pass0 (pa_cons (pv 1) (pa_cons pe_int pa_nil))))
    (C8.pss_cut (ps_if (pt_cmpR op_eq (pe_call GT r1 (by rfl) DT.m DT.F.kp DT.b .nil pass0 (pa_cons (pv 1) (pa_cons pe_int pa_nil))) pe_int (nomark _))
      (pss_one (ps_set (i := 4) nd rfl (.inl rfl) pe_int)) pss_nil)
    (pss_cons (ps_set (i := 5) nd rfl (.inl rfl) (pe_call GS hr (by rfl) DS.m DS.F.kp DS.b .nil pass0 (pa_cons (pv 3) (pa_cons (pv 4) pa_nil))))
    (pss_cons (ps_if (pt_not (pt_val (pe_call GX hr (by rfl) DX.m DX.F.kp DX.b .nil pass0 (pa_cons (pv 5) (pa_cons (pe_call GM hr (by rfl) DM.m DM.F.kp DM.b .nil pass0 (pa_cons (pv 3) (pa_cons (pv 4) pa_nil))) pa_nil))))) (pss_one (ps_ret pe_bl)) pss_nil)
    (pss_cons (ps_set (i := 6) nd rfl (.inl rfl) (pe_call GA r1 (by rfl) DA.m DA.F.kp DA.b .nil pass0 (pa_cons (pe_call GP r7 (by rfl) DP.m DP.F.kp DP.b .nil pass0 (pa_cons (pv 3) pa_nil)) pa_nil)))
    (pss_cons (ps_set (i := 7) nd rfl (.inl rfl) (pe_call GSy r2 (by rfl) DSy.m DSy.F.kp DSy.b .nil pass0 (pa_cons (pv 3) pa_nil)))
    (pss_cons (ps_if (pt_not (pt_val (pe_call GX hr (by rfl) DX.m DX.F.kp DX.b .nil pass0 (pa_cons (pv 7) (pa_cons (pv 6) pa_nil))))) (pss_one (ps_ret pe_bl)) pss_nil)
    (pss_cons (ps_expr (pe_bm PySem.F.plainAttrs_list PySem.F.slot_list_append PySem.F.type_list_append mt_append (pv 7) (pa_cons (pe_tup (pa_cons pe_str (pa_cons pe_int pa_nil))) pa_nil)))
    (pss_one (ps_ret (pe_and (pe_call GX hr (by rfl) DX.m DX.F.kp DX.b .nil pass0 (pa_cons (pe_call GSy r2 (by rfl) DSy.m DSy.F.kp DSy.b .nil pass0 (pa_cons (pv 3) pa_nil)) (pa_cons (pv 6) pa_nil)))
      (pe_one (pe_call GX hr (by rfl) DX.m DX.F.kp DX.b .nil pass0 (pa_cons (pe_call GSy r2 (by rfl) DSy.m DSy.F.kp DSy.b .nil pass0 (pa_cons (pv 5) pa_nil)) (pa_cons (pv 6) pa_nil))))))))))))))))), ?_⟩
  refine ⟨_, rfl, a, ns, rfl, hS, hn, fun d H1 s1 nd1 hI1 => ?_⟩
  refine ⟨_, rfl, d, 6, rfl, hI1, by decide, fun l ws H2 b2 nl1 hI2 hW lw okw => ?_⟩
  have nl : l ≠ d := hI1.ne nl1
  refine ⟨_, rfl, _, rfl, _, rfl, d, 4, rfl, hI2, by decide, fun r H3 r0 r5 b3 hI3 => ?_⟩
  refine ⟨_, _, rfl, rfl, d, l, ws, (1 + r).toNat, by show [V.ref d, V.ref l, V.int (1 + r)] = _; rw [show (((1 + r).toNat : Nat) : Int) = 1 + r by omega], hI3, b3 l _ nl hW, nl, by omega, by omega, fun v t H4 b4 hI4 hv hw hz hne => ?_⟩
  have z5 : 4 ^ ((1 + r).toNat + 1) ≤ 4 ^ 5 := Nat.pow_le_pow_right (by decide) (by omega)
  have z6 : 4 ^ 5 = 1024 := by decide
  have hwf : t.wf symFine anyNum := wf_mono (fun f n h => (sym_sh okw f n h).2) (fun k h => by obtain ⟨r, rfl, _⟩ := h; exact ⟨r, rfl⟩) t hw
  refine ⟨_, rfl, d, 1000, rfl, hI4, by decide, fun c H5 c0 c1 b5 hI5 => ?_⟩
  have hv5 := TmAt.mono (b5.tupsI hI4) _ _ hv
  refine ⟨fun σ H6 => ∃ m : Int, σ = [some (.ref a), some (.ref d), some (.ref l), some v, some (.int m), none, none, none] ∧ TmAt H6 v t, ?_, fun σ H6 h => ?_⟩
  · refine ⟨_, rfl, d, 5, rfl, hI5, by decide, fun g H6 _ _ b6 hI6 => ?_⟩
    have hv6 := TmAt.mono (b6.tupsI hI5) _ _ hv5
    exact ⟨rfl, _, rfl, ite2 (fun _ => ⟨0, rfl, hv6⟩) (fun _ => ⟨c, rfl, hv6⟩)⟩
  obtain ⟨m, rfl, hv6⟩ := h
  obtain ⟨k1, k2, k3⟩ := shift_same m t
  refine ⟨_, rfl, _, rfl, v, t, m, rfl, hv6, hwf, by omega, by omega, fun v2 H7 s7 hv2 => ?_⟩
  have hv7 := TmAt.mono s7.tups _ _ hv6
  refine ⟨_, rfl, _, rfl, _, rfl, v, t, m, rfl, hv7, hwf, by omega, by omega, fun v3 H8 s8 hv3 => ?_⟩
  have hv8 := TmAt.mono s8.tups _ _ hv7
  have hv28 := TmAt.mono s8.tups _ _ hv2
  refine ⟨v2, v3, (t.shift m).dat, rfl, dp_ter _ _ hv28, dp_ter _ _ hv3, fits_ter _ 8 (by omega) (by omega), _, rfl, iteF ?_⟩
  refine ⟨_, rfl, v, t, rfl, hv8, hwf, by omega, by omega, fun p H9 vs1 L1 s9 np ep hL1 nL1 mL1 lL1 => ?_⟩
  have hv9 := TmAt.mono s9.tups _ _ hv8
  have hv29 := TmAt.mono s9.tups _ _ hv28
  refine ⟨p, vs1, L1, rfl, ep, hL1, nL1, by omega, fun u H10 vs2 L2 s10 nu eu hL2 aL2 mL2 lL2 => ?_⟩
  have hv10 := TmAt.mono s10.tups _ _ hv9
  have hv210 := TmAt.mono s10.tups _ _ hv29
  refine ⟨_, rfl, v, t, rfl, hv10, by omega, fun o H11 vs3 L3 s11 no eo hL3 aL3 mL3 lL3 => ?_⟩
  have hv11 := TmAt.mono s11.tups _ _ hv10
  have hv211 := TmAt.mono s11.tups _ _ hv210
  have e32 : L3 = L2 := asc_eq aL3 aL2 fun x => by rw [mL3, mL2, mL1]
  subst e32
  have eu11 := s11 _ _ eu
  have hL211 := hL2.mono s11.tups
  have nou : u ≠ o := ne_of_none eu no
  refine ⟨_, rfl, _, rfl, _, _, .list (L3.map Own.prD), rfl, .lst (.inl (.inl eo)) (dp_prs hL3), .lst (.inl (.inl eu11)) (dp_prs hL211), fits_prs 5 (by omega), _, rfl, iteF ?_⟩
  refine ⟨_, rfl, tyl eo, by show 2 ≤ sizeLine; decide, fun y ny => ?_⟩
  have s12 := same_new ny (.tup [.str "z", .int 0])
  have lo := hL3.len
  refine ⟨o, _, _, rfl, rfl, s12 _ _ eo, small6' (by omega), ?_⟩
  have b13 := But.upd (d := o) (H := upd H11 y (.tup [.str "z", .int 0])) (o := .lst (vs3 ++ [.ref y]))
  have t13 := s12.tups.trans (b13.tups (s12 _ _ eo))
  have hv13 := TmAt.mono t13 _ _ hv11
  have hv213 := TmAt.mono t13 _ _ hv211
  have eu13 := b13 u _ nou (s12 _ _ eu11)
  have hL213 := hL211.mono t13
  refine ⟨_, rfl, v, t, rfl, hv13, by omega, fun o2 H14 vs4 L4 s14 no4 eo4 hL4 aL4 mL4 lL4 => ?_⟩
  have e42 : L4 = L3 := asc_eq aL4 aL3 fun x => by rw [mL4, mL3]
  subst e42
  refine ⟨_, rfl, _, _, .list (L4.map Own.prD), rfl, .lst (.inl (.inl eo4)) (dp_prs hL4), .lst (.inl (.inl (s14 _ _ eu13))) (dp_prs (hL213.mono s14.tups)), fits_prs 5 (by omega), true, rfl, ?_⟩
  refine ⟨_, rfl, v2, t.shift m, rfl, TmAt.mono s14.tups _ _ hv213, by omega, fun o3 H15 vs5 L5 s15 no5 eo5 hL5 aL5 mL5 lL5 => ?_⟩
  have e52 : L5 = L4 := asc_eq aL5 aL4 fun x => by rw [mL5, mL4, k3]
  subst e52
  exact ⟨_, rfl, _, _, .list (L5.map Own.prD), rfl, .lst (.inl (.inl eo5)) (dp_prs hL5), .lst (.inl (.inl (s15 _ _ (s14 _ _ eu13)))) (dp_prs ((hL213.mono s14.tups).mono s15.tups)), fits_prs 5 (by omega), q H15⟩
end

end K04
namespace K04
open PySem PySem.Spec PyProof.Rows L2 Own HT
theorem all_mk {l : PySem.W.OpenLaw} {w : World} {K : PySem.W.Frag} {h : Heap} {mg : Str → Option Value} {fa f_is_variable f_shift f_symbols f__law_draws f__law_take f__law_words f__law_variable f__law_term f__law_same f__law_moved f__law_pairs f__law_ascending f_law : Addr} (X : K.In h) (G : h.Ns mainGlobals mg) (hfa : mg "law" = some (.ref fa))
    {od_is_variable an_is_variable od_shift an_shift od_symbols an_symbols od__law_draws an__law_draws od__law_take an__law_take od__law_words an__law_words od__law_variable an__law_variable od__law_term an__law_term od__law_same an__law_same od__law_moved an__law_moved od__law_pairs an__law_pairs od__law_ascending an__law_ascending od_law an_law : Option Addr} {sl_is_variable sl_shift sl_symbols sl__law_draws sl__law_take sl__law_words sl__law_variable sl__law_term sl__law_same sl__law_moved sl__law_pairs sl__law_ascending sl_law : Array (Option Value)} {oc_is_variable kV_is_variable dc_is_variable pm_is_variable cd_is_variable ct_is_variable oc_shift kV_shift dc_shift pm_shift cd_shift ct_shift oc_symbols kV_symbols dc_symbols pm_symbols cd_symbols ct_symbols oc__law_draws kV__law_draws dc__law_draws pm__law_draws cd__law_draws ct__law_draws oc__law_take kV__law_take dc__law_take pm__law_take cd__law_take ct__law_take oc__law_words kV__law_words dc__law_words pm__law_words cd__law_words ct__law_words oc__law_variable kV__law_variable dc__law_variable pm__law_variable cd__law_variable ct__law_variable oc__law_term kV__law_term dc__law_term pm__law_term cd__law_term ct__law_term oc__law_same kV__law_same dc__law_same pm__law_same cd__law_same ct__law_same oc__law_moved kV__law_moved dc__law_moved pm__law_moved cd__law_moved ct__law_moved oc__law_pairs kV__law_pairs dc__law_pairs pm__law_pairs cd__law_pairs ct__law_pairs oc__law_ascending kV__law_ascending dc__law_ascending pm__law_ascending cd__law_ascending ct__law_ascending oc_law kV_law dc_law pm_law cd_law ct_law : Value}
    (a_is_variable : PySem.W.nsIn K mainGlobals "is_variable" = some (some (.ref f_is_variable))) (l_is_variable : K.lookup f_is_variable = some ⟨oc_is_variable, od_is_variable, .func (PySem.W.fnOf "is_variable" "is_variable" (defArgs s_is_variable) (defBody s_is_variable) (defScope s_is_variable) .none kV_is_variable dc_is_variable pm_is_variable an_is_variable cd_is_variable ct_is_variable), sl_is_variable⟩) (c_is_variable : PySem.W.codeIn K cd_is_variable "is_variable" = true) (k_is_variable : PySem.W.keepIn K (.ref f_is_variable) = true)
    (a_shift : PySem.W.nsIn K mainGlobals "shift" = some (some (.ref f_shift))) (l_shift : K.lookup f_shift = some ⟨oc_shift, od_shift, .func (PySem.W.fnOf "shift" "shift" (defArgs s_shift) (defBody s_shift) (defScope s_shift) .none kV_shift dc_shift pm_shift an_shift cd_shift ct_shift), sl_shift⟩) (c_shift : PySem.W.codeIn K cd_shift "shift" = true) (k_shift : PySem.W.keepIn K (.ref f_shift) = true)
    (a_symbols : PySem.W.nsIn K mainGlobals "symbols" = some (some (.ref f_symbols))) (l_symbols : K.lookup f_symbols = some ⟨oc_symbols, od_symbols, .func (PySem.W.fnOf "symbols" "symbols" (defArgs s_symbols) (defBody s_symbols) (defScope s_symbols) .none kV_symbols dc_symbols pm_symbols an_symbols cd_symbols ct_symbols), sl_symbols⟩) (c_symbols : PySem.W.codeIn K cd_symbols "symbols" = true) (k_symbols : PySem.W.keepIn K (.ref f_symbols) = true)
    (a__law_draws : PySem.W.nsIn K mainGlobals "_law_draws" = some (some (.ref f__law_draws))) (l__law_draws : K.lookup f__law_draws = some ⟨oc__law_draws, od__law_draws, .func (PySem.W.fnOf "_law_draws" "_law_draws" (defArgs s__law_draws) (defBody s__law_draws) (defScope s__law_draws) .none kV__law_draws dc__law_draws pm__law_draws an__law_draws cd__law_draws ct__law_draws), sl__law_draws⟩) (c__law_draws : PySem.W.codeIn K cd__law_draws "_law_draws" = true) (k__law_draws : PySem.W.keepIn K (.ref f__law_draws) = true)
    (a__law_take : PySem.W.nsIn K mainGlobals "_law_take" = some (some (.ref f__law_take))) (l__law_take : K.lookup f__law_take = some ⟨oc__law_take, od__law_take, .func (PySem.W.fnOf "_law_take" "_law_take" (defArgs s__law_take) (defBody s__law_take) (defScope s__law_take) .none kV__law_take dc__law_take pm__law_take an__law_take cd__law_take ct__law_take), sl__law_take⟩) (c__law_take : PySem.W.codeIn K cd__law_take "_law_take" = true) (k__law_take : PySem.W.keepIn K (.ref f__law_take) = true)
    (a__law_words : PySem.W.nsIn K mainGlobals "_law_words" = some (some (.ref f__law_words))) (l__law_words : K.lookup f__law_words = some ⟨oc__law_words, od__law_words, .func (PySem.W.fnOf "_law_words" "_law_words" (defArgs s__law_words) (defBody s__law_words) (defScope s__law_words) .none kV__law_words dc__law_words pm__law_words an__law_words cd__law_words ct__law_words), sl__law_words⟩) (c__law_words : PySem.W.codeIn K cd__law_words "_law_words" = true) (k__law_words : PySem.W.keepIn K (.ref f__law_words) = true)
    (a__law_variable : PySem.W.nsIn K mainGlobals "_law_variable" = some (some (.ref f__law_variable))) (l__law_variable : K.lookup f__law_variable = some ⟨oc__law_variable, od__law_variable, .func (PySem.W.fnOf "_law_variable" "_law_variable" (defArgs s__law_variable) (defBody s__law_variable) (defScope s__law_variable) .none kV__law_variable dc__law_variable pm__law_variable an__law_variable cd__law_variable ct__law_variable), sl__law_variable⟩) (c__law_variable : PySem.W.codeIn K cd__law_variable "_law_variable" = true) (k__law_variable : PySem.W.keepIn K (.ref f__law_variable) = true)
    (a__law_term : PySem.W.nsIn K mainGlobals "_law_term" = some (some (.ref f__law_term))) (l__law_term : K.lookup f__law_term = some ⟨oc__law_term, od__law_term, .func (PySem.W.fnOf "_law_term" "_law_term" (defArgs s__law_term) (defBody s__law_term) (defScope s__law_term) .none kV__law_term dc__law_term pm__law_term an__law_term cd__law_term ct__law_term), sl__law_term⟩) (c__law_term : PySem.W.codeIn K cd__law_term "_law_term" = true) (k__law_term : PySem.W.keepIn K (.ref f__law_term) = true)
    (a__law_same : PySem.W.nsIn K mainGlobals "_law_same" = some (some (.ref f__law_same))) (l__law_same : K.lookup f__law_same = some ⟨oc__law_same, od__law_same, .func (PySem.W.fnOf "_law_same" "_law_same" (defArgs s__law_same) (defBody s__law_same) (defScope s__law_same) .none kV__law_same dc__law_same pm__law_same an__law_same cd__law_same ct__law_same), sl__law_same⟩) (c__law_same : PySem.W.codeIn K cd__law_same "_law_same" = true) (k__law_same : PySem.W.keepIn K (.ref f__law_same) = true)
    (a__law_moved : PySem.W.nsIn K mainGlobals "_law_moved" = some (some (.ref f__law_moved))) (l__law_moved : K.lookup f__law_moved = some ⟨oc__law_moved, od__law_moved, .func (PySem.W.fnOf "_law_moved" "_law_moved" (defArgs s__law_moved) (defBody s__law_moved) (defScope s__law_moved) .none kV__law_moved dc__law_moved pm__law_moved an__law_moved cd__law_moved ct__law_moved), sl__law_moved⟩) (c__law_moved : PySem.W.codeIn K cd__law_moved "_law_moved" = true) (k__law_moved : PySem.W.keepIn K (.ref f__law_moved) = true)
    (a__law_pairs : PySem.W.nsIn K mainGlobals "_law_pairs" = some (some (.ref f__law_pairs))) (l__law_pairs : K.lookup f__law_pairs = some ⟨oc__law_pairs, od__law_pairs, .func (PySem.W.fnOf "_law_pairs" "_law_pairs" (defArgs s__law_pairs) (defBody s__law_pairs) (defScope s__law_pairs) .none kV__law_pairs dc__law_pairs pm__law_pairs an__law_pairs cd__law_pairs ct__law_pairs), sl__law_pairs⟩) (c__law_pairs : PySem.W.codeIn K cd__law_pairs "_law_pairs" = true) (k__law_pairs : PySem.W.keepIn K (.ref f__law_pairs) = true)
    (a__law_ascending : PySem.W.nsIn K mainGlobals "_law_ascending" = some (some (.ref f__law_ascending))) (l__law_ascending : K.lookup f__law_ascending = some ⟨oc__law_ascending, od__law_ascending, .func (PySem.W.fnOf "_law_ascending" "_law_ascending" (defArgs s__law_ascending) (defBody s__law_ascending) (defScope s__law_ascending) .none kV__law_ascending dc__law_ascending pm__law_ascending an__law_ascending cd__law_ascending ct__law_ascending), sl__law_ascending⟩) (c__law_ascending : PySem.W.codeIn K cd__law_ascending "_law_ascending" = true) (k__law_ascending : PySem.W.keepIn K (.ref f__law_ascending) = true)
    (a_law : PySem.W.nsIn K mainGlobals "law" = some (some (.ref f_law))) (l_law : K.lookup f_law = some ⟨oc_law, od_law, .func (PySem.W.fnOf "law" "law" (defArgs s_law) (defBody s_law) (defScope s_law) .none kV_law dc_law pm_law an_law cd_law ct_law), sl_law⟩) (c_law : PySem.W.codeIn K cd_law "law" = true) (k_law : PySem.W.keepIn K (.ref f_law) = true)
    (z_len : PySem.W.nsIn K mainGlobals "len" = some none)
    (z_int : PySem.W.nsIn K mainGlobals "int" = some none)
    (z_abs : PySem.W.nsIn K mainGlobals "abs" = some none)
    (z_range : PySem.W.nsIn K mainGlobals "range" = some none)
    (z_list : PySem.W.nsIn K mainGlobals "list" = some none)
    (z_reversed : PySem.W.nsIn K mainGlobals "reversed" = some none)
    (z_tuple : PySem.W.nsIn K mainGlobals "tuple" = some none)
    (z_isinstance : PySem.W.nsIn K mainGlobals "isinstance" = some none)
    (z_bool : PySem.W.nsIn K mainGlobals "bool" = some none)
    (z_str : PySem.W.nsIn K mainGlobals "str" = some none)
    (z_sorted : PySem.W.nsIn K mainGlobals "sorted" = some none)
    : ∃ fd : FuncData, (∀ (s : Shared) (v : Value), BindsTo s fd ⟨[v], []⟩ [("script", v)]) ∧ ∀ base : Heap, K.In base → base.Ns mainGlobals mg → FnOk l.prog w K mg base CX0 9 fa fd ["script"] (spLaw K) := by
  have e := hfa.symm.trans (PySem.W.mg_of X G a_law); cases e
  have F_is_variable := fun_mk (st := s_is_variable) l_is_variable c_is_variable k_is_variable
  have D_is_variable : Df K mg "is_variable" s_is_variable ["term"] _ _ := ⟨F_is_variable, F_is_variable.binds (ps := ["term"]) (fun _ _ _ _ _ _ us hl => match us, hl with | [_], _ => rfl), PySem.W.mg_of X G a_is_variable⟩
  have F_shift := fun_mk (st := s_shift) l_shift c_shift k_shift
  have D_shift : Df K mg "shift" s_shift ["term", "by"] _ _ := ⟨F_shift, F_shift.binds (ps := ["term", "by"]) (fun _ _ _ _ _ _ us hl => match us, hl with | [_, _], _ => rfl), PySem.W.mg_of X G a_shift⟩
  have F_symbols := fun_mk (st := s_symbols) l_symbols c_symbols k_symbols
  have D_symbols : Df K mg "symbols" s_symbols ["term"] _ _ := ⟨F_symbols, F_symbols.binds (ps := ["term"]) (fun _ _ _ _ _ _ us hl => match us, hl with | [_], _ => rfl), PySem.W.mg_of X G a_symbols⟩
  have F__law_draws := fun_mk (st := s__law_draws) l__law_draws c__law_draws k__law_draws
  have D__law_draws : Df K mg "_law_draws" s__law_draws ["script"] _ _ := ⟨F__law_draws, F__law_draws.binds (ps := ["script"]) (fun _ _ _ _ _ _ us hl => match us, hl with | [_], _ => rfl), PySem.W.mg_of X G a__law_draws⟩
  have F__law_take := fun_mk (st := s__law_take) l__law_take c__law_take k__law_take
  have D__law_take : Df K mg "_law_take" s__law_take ["draws", "bound"] _ _ := ⟨F__law_take, F__law_take.binds (ps := ["draws", "bound"]) (fun _ _ _ _ _ _ us hl => match us, hl with | [_, _], _ => rfl), PySem.W.mg_of X G a__law_take⟩
  have F__law_words := fun_mk (st := s__law_words) l__law_words c__law_words k__law_words
  have D__law_words : Df K mg "_law_words" s__law_words ["draws", "many"] _ _ := ⟨F__law_words, F__law_words.binds (ps := ["draws", "many"]) (fun _ _ _ _ _ _ us hl => match us, hl with | [_, _], _ => rfl), PySem.W.mg_of X G a__law_words⟩
  have F__law_variable := fun_mk (st := s__law_variable) l__law_variable c__law_variable k__law_variable
  have D__law_variable : Df K mg "_law_variable" s__law_variable ["draws"] _ _ := ⟨F__law_variable, F__law_variable.binds (ps := ["draws"]) (fun _ _ _ _ _ _ us hl => match us, hl with | [_], _ => rfl), PySem.W.mg_of X G a__law_variable⟩
  have F__law_term := fun_mk (st := s__law_term) l__law_term c__law_term k__law_term
  have D__law_term : Df K mg "_law_term" s__law_term ["draws", "words", "depth"] _ _ := ⟨F__law_term, F__law_term.binds (ps := ["draws", "words", "depth"]) (fun _ _ _ _ _ _ us hl => match us, hl with | [_, _, _], _ => rfl), PySem.W.mg_of X G a__law_term⟩
  have F__law_same := fun_mk (st := s__law_same) l__law_same c__law_same k__law_same
  have D__law_same : Df K mg "_law_same" s__law_same ["value", "due"] _ _ := ⟨F__law_same, F__law_same.binds (ps := ["value", "due"]) (fun _ _ _ _ _ _ us hl => match us, hl with | [_, _], _ => rfl), PySem.W.mg_of X G a__law_same⟩
  have F__law_moved := fun_mk (st := s__law_moved) l__law_moved c__law_moved k__law_moved
  have D__law_moved : Df K mg "_law_moved" s__law_moved ["term", "by"] _ _ := ⟨F__law_moved, F__law_moved.binds (ps := ["term", "by"]) (fun _ _ _ _ _ _ us hl => match us, hl with | [_, _], _ => rfl), PySem.W.mg_of X G a__law_moved⟩
  have F__law_pairs := fun_mk (st := s__law_pairs) l__law_pairs c__law_pairs k__law_pairs
  have D__law_pairs : Df K mg "_law_pairs" s__law_pairs ["term"] _ _ := ⟨F__law_pairs, F__law_pairs.binds (ps := ["term"]) (fun _ _ _ _ _ _ us hl => match us, hl with | [_], _ => rfl), PySem.W.mg_of X G a__law_pairs⟩
  have F__law_ascending := fun_mk (st := s__law_ascending) l__law_ascending c__law_ascending k__law_ascending
  have D__law_ascending : Df K mg "_law_ascending" s__law_ascending ["pairs"] _ _ := ⟨F__law_ascending, F__law_ascending.binds (ps := ["pairs"]) (fun _ _ _ _ _ _ us hl => match us, hl with | [_], _ => rfl), PySem.W.mg_of X G a__law_ascending⟩
  have F_law := fun_mk (st := s_law) l_law c_law k_law
  have D_law : Df K mg "law" s_law ["script"] _ _ := ⟨F_law, F_law.binds (ps := ["script"]) (fun _ _ _ _ _ _ us hl => match us, hl with | [_], _ => rfl), PySem.W.mg_of X G a_law⟩
  have m_len := PySem.W.mg_none_of X G z_len
  have m_int := PySem.W.mg_none_of X G z_int
  have m_abs := PySem.W.mg_none_of X G z_abs
  have m_range := PySem.W.mg_none_of X G z_range
  have m_list := PySem.W.mg_none_of X G z_list
  have m_reversed := PySem.W.mg_none_of X G z_reversed
  have m_tuple := PySem.W.mg_none_of X G z_tuple
  have m_isinstance := PySem.W.mg_none_of X G z_isinstance
  have m_bool := PySem.W.mg_none_of X G z_bool
  have m_str := PySem.W.mg_none_of X G z_str
  have m_sorted := PySem.W.mg_none_of X G z_sorted
  refine ⟨PySem.W.fnOf "law" "law" (defArgs s_law) (defBody s_law) (defScope s_law) .none kV_law dc_law pm_law an_law cd_law ct_law, fun s v => .of_eq rfl, fun base _ _ => ?_⟩
  have G_take := ok_law_take (P := l.prog) (w := w) (base := base) D__law_take m_len m_int
  have G_draws := ok_law_draws (P := l.prog) (w := w) (base := base) D__law_draws m_abs m_int m_range m_len m_list m_reversed
  have G_words := ok_law_words (P := l.prog) (w := w) (base := base) D__law_words D__law_take G_take m_range
  have G_var := ok_law_variable (P := l.prog) (w := w) (base := base) D__law_variable D__law_take G_take
  have G_term := ok_law_term (P := l.prog) (w := w) (base := base) D__law_term D__law_take G_take D__law_variable G_var m_range m_tuple 5
  have G_isv := ok_is_variable (P := l.prog) (w := w) (base := base) D_is_variable m_isinstance m_tuple
  have G_shift := ok_shift (P := l.prog) (w := w) (base := base) D_shift D_is_variable G_isv m_tuple 7
  have G_moved := ok_moved (P := l.prog) (w := w) (base := base) D__law_moved m_isinstance m_tuple 7
  have G_syms := ok_symbols (P := l.prog) (w := w) (base := base) D_symbols D_is_variable G_isv m_len m_sorted
  have G_pairs := ok_law_pairs (P := l.prog) (w := w) (base := base) D__law_pairs m_isinstance m_tuple m_len 7
  have G_asc := ok_law_ascending (P := l.prog) (w := w) (base := base) D__law_ascending m_list m_range m_len
  have G_same := ok_law_same (P := l.prog) (w := w) (base := base) D__law_same m_isinstance m_tuple m_list m_len m_range m_bool m_int m_str 8
  exact ok_law D_law D__law_draws G_draws D__law_take G_take D__law_words G_words D__law_term G_term D__law_same G_same D_shift G_shift D__law_moved G_moved D__law_pairs G_pairs D__law_ascending G_asc D_symbols G_syms
end K04
open PySem PySem.W PyProof.Rows
set_option maxRecDepth 100000 in
set_option maxHeartbeats 0 in
theorem PySem.Challenge.cw_elenchus_k04_shifted_terms_and_symbols_holds : PySem.Challenge.rw_elenchus_k04_shifted_terms_and_symbols.Holds := by
  w_on; o_law; k_head; (case hw => w_witness2)
  k_fill
  refine L2.walk_of (l := PySem.Challenge.rw_elenchus_k04_shifted_terms_and_symbols) (n := 63) (k := 9) (x := "script") (CX := fun _ => L2.CX0) (sp := fun w => K04.spLaw _) rfl (by decide) rfl ⟨rfl, by decide, by decide⟩ (fun w h Y => PySem.W.kIn_of Y) ?F (fun _ _ a ns hl _ hS => ⟨a, ns, rfl, hS, hl, fun _ => rfl⟩) (fun _ _ _ _ _ h => h)
  case F =>
    intro w mg fa h KX G hmg
    refine' K04.all_mk KX G hmg ?a_is_variable ?l_is_variable ?c_is_variable ?k_is_variable ?a_shift ?l_shift ?c_shift ?k_shift ?a_symbols ?l_symbols ?c_symbols ?k_symbols ?a__law_draws ?l__law_draws ?c__law_draws ?k__law_draws ?a__law_take ?l__law_take ?c__law_take ?k__law_take ?a__law_words ?l__law_words ?c__law_words ?k__law_words ?a__law_variable ?l__law_variable ?c__law_variable ?k__law_variable ?a__law_term ?l__law_term ?c__law_term ?k__law_term ?a__law_same ?l__law_same ?c__law_same ?k__law_same ?a__law_moved ?l__law_moved ?c__law_moved ?k__law_moved ?a__law_pairs ?l__law_pairs ?c__law_pairs ?k__law_pairs ?a__law_ascending ?l__law_ascending ?c__law_ascending ?k__law_ascending ?a_law ?l_law ?c_law ?k_law ?z_len ?z_int ?z_abs ?z_range ?z_list ?z_reversed ?z_tuple ?z_isinstance ?z_bool ?z_str ?z_sorted
    (case a_is_variable => k_is)
    (case l_is_variable => k_is)
    (case c_is_variable => k_is)
    (case k_is_variable => k_is)
    (case a_shift => k_is)
    (case l_shift => k_is)
    (case c_shift => k_is)
    (case k_shift => k_is)
    (case a_symbols => k_is)
    (case l_symbols => k_is)
    (case c_symbols => k_is)
    (case k_symbols => k_is)
    (case a__law_draws => k_is)
    (case l__law_draws => k_is)
    (case c__law_draws => k_is)
    (case k__law_draws => k_is)
    (case a__law_take => k_is)
    (case l__law_take => k_is)
    (case c__law_take => k_is)
    (case k__law_take => k_is)
    (case a__law_words => k_is)
    (case l__law_words => k_is)
    (case c__law_words => k_is)
    (case k__law_words => k_is)
    (case a__law_variable => k_is)
    (case l__law_variable => k_is)
    (case c__law_variable => k_is)
    (case k__law_variable => k_is)
    (case a__law_term => k_is)
    (case l__law_term => k_is)
    (case c__law_term => k_is)
    (case k__law_term => k_is)
    (case a__law_same => k_is)
    (case l__law_same => k_is)
    (case c__law_same => k_is)
    (case k__law_same => k_is)
    (case a__law_moved => k_is)
    (case l__law_moved => k_is)
    (case c__law_moved => k_is)
    (case k__law_moved => k_is)
    (case a__law_pairs => k_is)
    (case l__law_pairs => k_is)
    (case c__law_pairs => k_is)
    (case k__law_pairs => k_is)
    (case a__law_ascending => k_is)
    (case l__law_ascending => k_is)
    (case c__law_ascending => k_is)
    (case k__law_ascending => k_is)
    (case a_law => k_is)
    (case l_law => k_is)
    (case c_law => k_is)
    (case k_law => k_is)
    (case z_len => k_is)
    (case z_int => k_is)
    (case z_abs => k_is)
    (case z_range => k_is)
    (case z_list => k_is)
    (case z_reversed => k_is)
    (case z_tuple => k_is)
    (case z_isinstance => k_is)
    (case z_bool => k_is)
    (case z_str => k_is)
    (case z_sorted => k_is)
