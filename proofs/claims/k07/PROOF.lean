import PyProof.Rows.All
import Wide.All
import OpenK.AllK
import Wide.FinOn
import HandS.ForMost
import HandS.Rev
import HandS.RevTup
import HandS.IsInst
import HandS.Style
import HandS.Conv
import HandS.Wide
import HandS.Flow
import HandS.ListEq
import HandS.More
import HandS.Codes
import HandS.FStr
import HandS.Zip
import HandS.Defaults
import HandS.DeepEq
import PySem.Challenge.RW_elenchus_k07_match
set_option Elab.async false
set_option linter.all false
set_option maxRecDepth 100000
namespace Own
open PySem PySem.Spec PyProof.Rows L2 RT

/-! ### xs.extend(t), t a tuple -/
theorem ext_meets (l b : Addr) (xs ys : Array Value) (n m : Nat) (dd : Option Addr) (sl : Array (Option Value)) (long : ¬(!xs.isEmpty && Builtin.List.listTooLong (xs.size + ys.size)) = true) (hx : xs.size ≤ sizeLine) (hxy : xs.size + ys.size ≤ sizeLine + 1) :
    Meets (Builtin.«list.extend» ⟨[.ref l, .ref b], []⟩) (fun _ R s => s.heap.get? l = some { cls := .type "list", dict := none, data := .seq xs n, slots := #[] } ∧
      s.heap.get? b = some { cls := .type "tuple", dict := dd, data := .seq ys m, slots := sl } ∧ R (.ok (.ret Value.none)) { s with heap := s.heap.update l (Obj.mapSeq fun x => x ++ ys), toks := s.toks }) :=
  .of_wp fun prog w A R s h => by
    obtain ⟨hp, g, d, tk, os⟩ := s
    obtain ⟨h1, h2, h3⟩ := h
    have g1 := AutoSeq1.idx_int; have g2 := AutoSeq1.sub_tuple_tuple; have g3 := AutoSeq1.sub_list_list; have g4 := AutoSeq1.sub_tuple_list; have g5 := AutoSeq1.sub_list_tuple
    have fit : (xs ++ ys).size ≤ sizeLine + 1 := Array.size_append ▸ hxy
    wp_walk using (wpAny_updateSeq h1 rfl (hz := hx) (_hz' := fit)), AutoSeq1.wpAny_loadPart' h1, AutoSeq1.wpAny_loadPart' h2
    exact ⟨_, rfl, h3⟩
def rExtendT (K : PySem.W.Frag) : V → List V → Hp → VK → Prop := fun x vs H Q => ∃ l b xs zs, x = .ref l ∧ vs = [.ref b] ∧ H l = some (.lst xs) ∧ SqT K H b zs ∧ xs.length + zs.length ≤ sizeLine ∧ Q .non (upd H l (.lst (xs ++ zs)))
theorem mt_extendT {X : Cx} : MtR X "list.extend" (rExtendT X.K) := by
  intro pins s σ H x vs v us Q I rx rv h
  obtain ⟨l, b, xs, zs, rfl, rfl, hl, hb, fit, q⟩ := h
  cases rx
  obtain ⟨u, rfl, ru⟩ := rv.one
  cases ru
  obtain ⟨z, its, n, r, hlen, e⟩ := I.lstM hl
  obtain ⟨its2, r2, p2, z2⟩ := I.tuple hb
  obtain ⟨⟨c2, d2, dt2, sl2⟩, ho2, hc2, m2, hd2⟩ := id p2
  simp only at hc2 hd2
  subst hc2 hd2
  have e2 := r2.length
  have tot : its.toArray.size + its2.toArray.size ≤ sizeLine := by rw [List.size_toArray, List.size_toArray]; omega
  have notlong : ¬ (!its.toArray.isEmpty && Builtin.List.listTooLong (its.toArray.size + its2.toArray.size)) = true := by rw [notLongL tot, Bool.and_false]; exact Bool.false_ne_true
  refine call_meets PySem.F.slot_list_extend ⟨_, e, rfl⟩ PySem.F.entry_list_extend (PySem.F.args_list_extend_2 _ _) (ext_meets l b its.toArray its2.toArray n m2 d2 sl2 notlong (by rw [List.size_toArray]; omega) (by omega)) ⟨e, ho2, ?_⟩
  exact ⟨.non, _, I.lset (its' := its ++ its2) hl e (by simp) (r.append r2) (by rw [List.length_append]; omega), rfl, q⟩

/-! ### list(reversed(xs)) -/
section
variable {prog : Program} {w : World} {A : Around} {E : Value → Shared → Prop} {s : Shared}
theorem extend_rev {R : Result → Shared → Prop} {it l S : Addr} {items : Array Value} {res : Value} {c0 : Nat} (hh : A.handled = none) (hit : s.heap.IsRevIter it l ((items.size : Int) - 1)) (hl : s.heap.IsList l items) (hne : l ≠ it) (hn : items.size ≤ sizeLine)
    (hS : s.heap.get? S = some { cls := .type "list", data := .seq #[] c0 }) (hSi : S ≠ it) (hSl : S ≠ l)
    (hR : ∀ h' tk acc c', (∀ b o, b ≠ S → b ≠ it → s.heap.get? b = some o → h'.get? b = some o) → h'.get? S = some { cls := .type "list", dict := none, data := .seq acc c', slots := #[] } →
      ItemsOf (fun i v => items[items.size - 1 - i]? = some v) acc items.size → R (.ok (.ret res)) { s with heap := h', toks := tk }) :
    wpAny (model prog w) A.in1 (Builtin.List.listExtendWith (.ref S) (.ref it) res)
      (fun fin s' => match fin with | .done f => R (.ok f) s' | .again c' => c'.quiet = true ∧ codeAny (model prog w) A c' R s') (fun e s' => R (.error e) s') s := by
  have W := (Walks.listRev (prog := prog) (w := w) (A := A.in1) hh it l hne items).toS
  have hSf : S ∉ [it, l] := by simp only [List.mem_cons, List.not_mem_nil, or_false, not_or]; exact ⟨hSi, hSl⟩
  have hT : s.TypeIs (.ref it) "list_reverseiterator" := Heap.IsRevIter.typeIs hit
  have h1 : Builtin.List.listSameRef (.ref S) (.ref it) = false := by simp [Builtin.List.listSameRef, hSi]
  unfold Builtin.List.listExtendWith
  refine wpAny_bind (wpAny_typeOf hT ?_); rw [if_neg (by rw [h1]; decide)]
  refine wpAny_bind (wpAny_pyIter_revIter hit ?_); refine wpAny_bind (wpAny_holding ?_)
  unfold Builtin.List.listLengthHint
  refine wpAny_bind (wpAny_specialOf hT nolen_lri ?_); show wpAny _ A.in1 (specialOf (Value.ref it) (Str.ofString "__length_hint__") >>= _) _ _ s
  refine wpAny_bind (wpAny_specialOf hT hint_lri ?_); generalize hid : ("list_reverseiterator.__length_hint__" : String) = id0
  wp_delta
  rw [show splitId id0 = some ("list_reverseiterator", "__length_hint__") from by subst hid; decide +kernel]; subst hid
  refine wpAny_bind (wpAny_isInstance (b := true) hT (by rw [isSubtype_type]; kernel_rfl) ?_); refine wpAny_pure ?_; rw [if_neg (by decide)]
  have e0 : ((items.size : Nat) : Int) - 1 - ((0 : Nat) : Int) = (items.size : Int) - 1 := by omega
  refine wpAny_pure ⟨plainId_quiet F.plain_extend_loop _, codeAny_extend_loopS W hn S hSf res items.size 0 _ _ _ rfl (Nat.zero_le _) ⟨Nat.zero_le _, by rw [e0]; exact hit, hl⟩ hS (ItemsOf.nil _) fun s' acc' c' hm hS' hacc => ?_⟩
  rw [Moved.eq_with hm]
  refine hR s'.heap s'.toks acc' c' (fun b o hbS hbi e => hm.heap b o (fun hmem => ?_) e) hS' hacc
  rcases List.mem_cons.mp hmem with e' | hmem
  · exact hbS e'
  · exact hbi (List.mem_singleton.mp hmem)
theorem call_list_rev {it l : Addr} {items : Array Value} {Q : Value → Shared → Prop} (hh : A.handled = none) (hit : s.heap.IsRevIter it l ((items.size : Int) - 1)) (hl : s.heap.IsList l items) (hne : l ≠ it) (hn : items.size ≤ sizeLine)
    (hQ : ∀ h' tk acc c', (∀ b o, b ≠ it → s.heap.get? b = some o → h'.get? b = some o) → h'.get? s.heap.objs.size = some { cls := .type "list", dict := none, data := .seq acc c', slots := #[] } →
      ItemsOf (fun i v => items[items.size - 1 - i]? = some v) acc items.size → Q (.ref s.heap.objs.size) { s with heap := h', toks := tk }) :
    wpAny (model prog w) A (call (.type "list") [.ref it]) Q E s := by
  refine callType_codes (Q₁ := fun obj s₁ => obj = .ref s.heap.objs.size ∧ s₁ = { s with heap := s.heap.push { cls := .type "list", data := .seq #[] } }) PySem.F.called_list (PySem.F.typeCall_list_1 _) PySem.F.entry_list_init (code_list_new _ ⟨rfl, rfl⟩) fun obj s₁ h₁ => ?_
  obtain ⟨rfl, rfl⟩ := h₁
  have hS : (s.heap.push { cls := .type "list", data := .seq #[] }).get? s.heap.objs.size = some { cls := .type "list", data := .seq #[] } := Heap.get?_push_size _ rfl
  refine ⟨⟨_, hS, rfl⟩, PySem.F.args_list_init_2 _ _, ?_⟩
  obtain ⟨oi, hoi, _⟩ := id hit
  obtain ⟨ol, hol, _⟩ := id hl
  have nSi : s.heap.objs.size ≠ it := Nat.ne_of_gt (Heap.lt_size hoi)
  have nSl : s.heap.objs.size ≠ l := Nat.ne_of_gt (Heap.lt_size hol)
  have k0 : ∀ b o, s.heap.get? b = some o → ((s.heap.push { cls := .type "list", data := .seq #[] }).update s.heap.objs.size (Obj.mapSeq (fun _ => (#[] : Array Value)))).get? b = some o :=
    fun b o e => (Heap.get?_update_other _ _ (Nat.ne_of_gt (Heap.lt_size e))).trans (Heap.get?_push_of_some _ e)
  show wpAny _ _ (do let old ← Builtin.List.listItems (.ref s.heap.objs.size); Builtin.List.listUpdate (.ref s.heap.objs.size) (fun _ => #[]); letGo old.toList.reverse; Builtin.List.listExtendWith (.ref s.heap.objs.size) (.ref it) .none) _ _ _
  refine wpAny_bind ?_; unfold Builtin.List.listItems
  refine wpAny_bind (wpAny_seqItems hS rfl (wpAny_pure ?_))
  show wpAny _ _ (updateSeq s.heap.objs.size (fun _ => #[]) >>= fun _ => letGo (#[] : Array Value).toList.reverse >>= fun _ => Builtin.List.listExtendWith (.ref s.heap.objs.size) (.ref it) .none) _ _ _
  refine wpAny_bind (wpAny_updateSeq hS rfl ?_)
  refine wpAny_bind (wpAny_letGo ?_)
  refine extend_rev (A := A.in1) (l := l) (items := items) hh (hit.at fun o e => k0 _ _ e) ?_ hne hn (Heap.get?_update_self (Obj.mapSeq (fun _ => (#[] : Array Value))) hS rfl) nSi nSl fun h' tk acc c' hk hS' hacc => ?_
  · obtain ⟨o, ho, hc⟩ := id hl
    exact ⟨o, k0 _ _ ho, hc⟩
  · exact ⟨rfl, hQ h' tk acc c' (fun b o hb e => hk b o (Nat.ne_of_lt (Heap.lt_size e)) hb (k0 _ _ e)) hS' hacc⟩
end
def tListRev (K : PySem.W.Frag) (te : TE) : TE := fun σ H Q => te σ H fun v H1 => ∃ (a : Addr) (xs : List V), v = .ref a ∧ SqL K H1 a xs ∧ ∀ q, H1 q = none → Q (.ref q) (upd H1 q (.lst xs.reverse))
theorem pe_listRev {X : Cx} {e : Expr} {te : TE} {p p2 pos pos2 : Pos} (hc : X.calm = true) (hg : Gl X "list") (hm : X.mg "list" = none) (hg2 : Gl X "reversed") (hm2 : X.mg "reversed" = none) (he : PE X e te)
    (hs : starEach [e] X.env = (false, eval e X.env) :: starEach [] X.env := by rfl)
    (hs2 : starEach [.Call (.Name "reversed" p2) [e] [] pos2] X.env = (false, eval (.Call (.Name "reversed" p2) [e] [] pos2) X.env) :: starEach [] X.env := by rfl) :
    PE X (.Call (.Name "list" p) [.Call (.Name "reversed" p2) [e] [] pos2] [] pos) (tListRev X.K te) := by
  refine ⟨fun pins s σ H Q I h => ?_⟩
  refine Call_ (ld_blt I hg hm boot_list (callWith_type1 (args_cons (Call_ (ld_blt I hg2 hm2 boot_reversed (callWith_type1 (args_cons (thn (he.run pins s σ H _ I h) fun u s1 ⟨v, H1, I1, r1, q1⟩ => args_nil ?_) hs) hs rfl))) hs2) hs2 rfl))
  obtain ⟨a, xs, ev, hq, q⟩ := q1
  subst ev
  obtain rfl : u = Value.ref a := r1
  obtain ⟨its, rv, p', hz⟩ := I1.list hq
  refine call_reversed_list p'.isList (args_nil ?_)
  have k0 : ∀ b o, s1.heap.get? b = some o → (s1.heap.push (revObj a ((its.toArray.size : Int) - 1))).get? b = some o := fun b o e => Heap.get?_push_of_some _ e
  have I2 : Inv X pins σ H1 { s1 with heap := s1.heap.push (revObj a ((its.toArray.size : Int) - 1)) } := I1.kept (t' := s1.toks) k0
  obtain ⟨f0, f1, f2, f3, f4, f5⟩ := I1.fpOk (H' := H1) (b := s1.heap.objs.size) (Nat.le_refl _) (I1.hok.fresh (Nat.le_refl _))
  obtain ⟨ol, hol, _⟩ := id p'.isList
  have hne : a ≠ s1.heap.objs.size := Nat.ne_of_lt (Heap.lt_size hol)
  have hn : its.toArray.size ≤ sizeLine := by rw [List.size_toArray, ← rv.length]; exact hz
  refine call_list_rev (s := { s1 with heap := s1.heap.push (revObj a ((its.toArray.size : Int) - 1)) }) (I1.ok.hd hc) ⟨_, Heap.get?_push_size _ rfl, rfl, rfl⟩ (p'.isList.push _) hne hn fun h' tk acc c' hk hS' hi => ?_
  have kk : ∀ b o, s1.heap.get? b = some o → h'.get? b = some o := fun b o e => hk b o (Nat.ne_of_lt (Heap.lt_size e)) (k0 b o e)
  have hsz : (s1.heap.push (revObj a ((its.toArray.size : Int) - 1))).objs.size = s1.heap.objs.size + 1 := Heap.size_push ..
  have fresh : s1.heap.objs.size ≤ (s1.heap.push (revObj a ((its.toArray.size : Int) - 1))).objs.size := by rw [hsz]; exact Nat.le_succ _
  refine ⟨.ref _, upd H1 _ (.lst xs.reverse), I1.laid (t' := tk) kk fresh (show ObjOk X.prog X.w _ _ _ (.lst xs.reverse) from ⟨by rw [List.length_reverse]; exact hz, acc.toList, c', vals_rev rv hi, ?_⟩), rfl, q _ (I1.hok.fresh fresh)⟩
  rw [Array.toArray_toList]
  exact hS'
end Own
namespace Own
open PySem PySem.Spec PyProof.Rows L2 RT HT

/-! ### t[:0:-1], t a tuple: all but the first item, backwards -/
theorem adjust_back (n : Nat) (h : 0 < n) : Builtin.Slice.sliceAdjust none (some 0) (-1) (n : Int) = ((n : Int) - 1, 0) := by
  unfold Builtin.Slice.sliceAdjust
  have h1 : (-1 : Int) < 0 := by decide
  have h2 : ¬ ((0 : Int) < 0) := by decide
  simp only [h1, h2, if_true, if_false]
  refine Prod.ext rfl ?_
  show min (0 : Int) ((n : Int) - 1) = 0
  omega
theorem places_back (n : Nat) (h : 0 < n) : Builtin.Slice.slicePlaces ((n : Int) - 1) 0 (-1) = n - 1 := by
  unfold Builtin.Slice.slicePlaces
  have h1 : ¬ ((-1 : Int) > 0) := by decide
  simp only [h1, if_false]
  have e : (- -1 : Int) = 1 := by decide
  rw [e, Int.ediv_one]
  split <;> omega
theorem fm_congr {α β : Type} {f g : α → Option β} : ∀ l : List α, (∀ a ∈ l, f a = g a) → l.filterMap f = l.filterMap g
  | [], _ => rfl
  | a :: r, h => by
    rw [List.filterMap_cons, List.filterMap_cons, h a List.mem_cons_self, fm_congr r fun b hb => h b (List.mem_cons_of_mem _ hb)]
theorem pick_back (xs : Array Value) : ((List.range (xs.size - 1)).filterMap fun (m : Nat) => xs[(((xs.size : Int) - 1) + (m : Int) * (-1)).toNat]?).toArray = xs.toList.tail.reverse.toArray := by
  have e1 : (fun (m : Nat) => xs[(((xs.size : Int) - 1) + (m : Int) * (-1)).toNat]?) = fun m => xs[xs.size - 1 - m]? := by
    funext m
    have : (((xs.size : Int) - 1) + (m : Int) * (-1)).toNat = xs.size - 1 - m := by omega
    rw [this]
  rw [e1]
  congr 1
  have e2 : (List.range (xs.size - 1)).filterMap (fun m => xs[xs.size - 1 - m]?) = (List.range (xs.size - 1)).filterMap (fun m => xs.toList.tail.reverse[m]?) := by
    apply fm_congr
    intro m hm
    have hm := List.mem_range.mp hm
    have hl : xs.toList.tail.length = xs.size - 1 := by rw [List.length_tail, Array.length_toList]
    rw [List.getElem?_reverse (by omega), hl, List.getElem?_tail, Array.getElem?_toList]
    try (congr 1; omega)
  rw [e2]
  have hl : xs.toList.tail.reverse.length = xs.size - 1 := by rw [List.length_reverse, List.length_tail, Array.length_toList]
  rw [← hl]
  generalize xs.toList.tail.reverse = ys
  have q := PySem.W.krv_all ys.toArray
  simpa using q
section
variable {prog : Program} {w : World} {A : Around} {E : Value → Shared → Prop} {s : Shared}
theorem sliceApplied_back {sl : Addr} {vl vu vs : Value} {n : Nat} {Q : Int × Int × Nat → Shared → Prop} (hn : 0 < n) (hs : s.heap.IsSliceOf sl vl vu vs) (pl : IsPart vl none) (pu : IsPart vu (some 0)) (ps : IsPart vs (some (-1)))
    (h : Q ((n : Int) - 1, -1, n - 1) s) : wpAny (model prog w) A (Builtin.Slice.sliceApplied (.ref sl) (pure (n : Int))) Q E s := by
  obtain ⟨os, hos, hcs, hds⟩ := id hs
  unfold Builtin.Slice.sliceApplied Builtin.Slice.sliceFields
  refine wpAny_bind (wpAny_bind (wpAny_field hos hds (x := vl) rfl (wpAny_bind (wpAny_field hos hds (x := vu) rfl (wpAny_bind (wpAny_field hos hds (x := vs) rfl (wpAny_pure ?_)))))))
  refine wpAny_bind (slicePart_ ps ?_); show wpAny _ _ (if ((-1 : Int) == 0) = true then _ else _) _ _ s; rw [if_neg (by decide)]
  refine wpAny_bind (slicePart_ pl (wpAny_bind (slicePart_ pu (wpAny_bind (wpAny_pure ?_)))))
  show wpAny _ _ (match Builtin.Slice.sliceAdjust none (some 0) (-1) (n : Int) with | (lo, hi) => pure (lo, (-1 : Int), Builtin.Slice.slicePlaces lo hi (-1))) _ _ s
  rw [adjust_back n hn]
  show wpAny _ _ (pure ((n : Int) - 1, (-1 : Int), Builtin.Slice.slicePlaces ((n : Int) - 1) 0 (-1))) _ _ s
  rw [places_back n hn]
  exact wpAny_pure h
theorem getItem_tuple_back {t sl : Addr} {items : Array Value} {vl vu vs : Value} {Q : Value → Shared → Prop} (ht : IsTup s.heap t items) (hs : s.heap.IsSliceOf sl vl vu vs) (pl : IsPart vl none) (pu : IsPart vu (some 0)) (ps : IsPart vs (some (-1)))
    (hn : 0 < items.size) (h : Q (.ref s.heap.objs.size) { s with heap := s.heap.push { cls := .type "tuple", data := .seq items.toList.tail.reverse.toArray } })
    (hsz : items.size ≤ sizeLine) : wpAny (model prog w) A (getItem (.ref t) (.ref sl)) Q E s := by
  have fit : sizeOk (.seq items.toList.tail.reverse.toArray) := by
    show items.toList.tail.reverse.toArray.size ≤ sizeLine
    rw [List.size_toArray, List.length_reverse, List.length_tail, Array.length_toList]; omega
  obtain ⟨os, hos, hcs, hds⟩ := id hs
  have hTs : s.TypeIs (.ref sl) "slice" := ⟨os, hos, hcs⟩
  unfold getItem
  try with_reducible refine wpAny_holding ?_
  first | refine wpAny_bind (wpAny_pure ?_) | skip
  refine wpAny_bind (wpAny_sequenceKey ht.typeIs (by decide) ?_)
  refine wpAny_bind (wpAny_callSpecial?_slot (name := Str.ofString "__getitem__") ht.typeIs slot_tuple_getitem (wpAny_call_entry slot_tuple_getitem ht.typeIs entry_tuple_getitem ?_ (args_tuple_getitem _ _)))
  show wpAny _ _ (Builtin.Tuple.tupleItemsOf (.ref t) >>= _) _ _ s; refine wpAny_bind (tupleItemsOf_ ht ?_)
  refine wpAny_bind (wpAny_typeOf hTs ?_); rw [if_pos (by decide)]
  refine wpAny_bind (sliceApplied_back hn hs pl pu ps ?_)
  show wpAny _ _ (if (((items.size : Int) - 1) == 0 && (-1 : Int) == 1 && (items.size - 1) == items.size) = true then _ else _) _ _ s
  rw [if_neg (by simp), pick_back]
  first
    | exact wpAny_bind (m := Builtin.Tuple.tupleExact _) (wpAny_newObj_type (wpAny_pure ⟨_, rfl, wpAny_pure h⟩) fit)
    | exact wpAny_bind (m := Builtin.Tuple.tupleExact _) (wpAny_newObj_type (wpAny_bind (wpAny_pure (wpAny_pure ⟨_, rfl, wpAny_pure h⟩))) fit)
    | exact wpAny_bind (wpAny_bind (m := Builtin.Tuple.tupleExact _) (wpAny_newObj_type (wpAny_pure (wpAny_pure ⟨_, rfl, wpAny_pure h⟩)) fit))
    | exact wpAny_bind (wpAny_bind (m := Builtin.Tuple.tupleExact _) (wpAny_newObj_type (wpAny_pure ⟨_, rfl, wpAny_pure h⟩) fit))
end
def tSlBack (K : PySem.W.Frag) (te : TE) : TE := fun σ H Q => te σ H fun x H1 => ∃ a y xs, x = .ref a ∧ SqT K H1 a (y :: xs) ∧ ∀ p, H1 p = none → Q (.ref p) (upd H1 p (.tup xs.reverse))
theorem pe_slBack {X : Cx} {e : Expr} {te : TE} {k0 k1 : Nat} {p0 p1 p2 p3 pos : Pos} (he : PE X e te) :
    PE X (.Subscript e (.Slice none (some (.Constant (.int 0) k0 p0)) (some (.UnaryOp .USub (.Constant (.int 1) k1 p1) p2)) p3) pos) (tSlBack X.K te) := by
  refine ⟨fun pins s σ H Q I h => ?_⟩
  refine Subscript_ (thn (he.run pins s σ H _ I h) fun v s1 ⟨x, H1, I1, r1, q1⟩ => ?_)
  obtain ⟨a, y, xs, ex, hx, q⟩ := q1
  subst ex
  cases r1
  have hhi : PO X (some (.Constant (.int 0) k0 p0)) (tPart (tC (.int 0))) := po_some pe_int
  have hst : PO X (some (.UnaryOp .USub (.Constant (.int 1) k1 p1) p2)) (tPart (tUn (rU fun i => .int (-i)) (tC (.int 1)))) := po_some (pe_un un_neg pe_int)
  refine wpAny_Slice (thn (po_none.run pins s1 σ H1 (fun o H2 => o = none ∧ H2 = H1) I1 ⟨rfl, rfl⟩) fun vl s2 ⟨l, H2, I2, pl, el, e2⟩ => ?_)
  subst el e2
  refine thn (hhi.run pins s2 σ H2 (fun o H3 => o = some 0 ∧ H3 = H2) I2 ⟨0, rfl, rfl, rfl⟩) fun vu s3 ⟨u, H3, I3, pu, eu, e3⟩ => ?_
  subst eu e3
  refine thn (hst.run pins s3 σ H3 (fun o H4 => o = some (-1) ∧ H4 = H3) I3 ⟨1, rfl, -1, rfl, rfl, rfl⟩) fun vs s4 ⟨o, H4, I4, ps, eo, e4⟩ => ?_
  subst eo e4
  have I5 : Inv X pins σ H4 { s4 with heap := s4.heap.push { cls := .type "slice", data := .fields #[vl, vu, vs] } } := I4.kept (t' := s4.toks) fun b ob q => Heap.get?_push_of_some _ q
  obtain ⟨its, r, ht, hz⟩ := I5.tuple hx
  have hlen := r.length
  rw [List.length_cons] at hlen hz
  show wpAny (model X.prog X.w) X.A (subscriptTail e (.Slice none (some (.Constant (.int 0) k0 p0)) (some (.UnaryOp .USub (.Constant (.int 1) k1 p1) p2)) p3) (.ref a) (.ref s4.heap.objs.size)) (EP X pins σ Q) X.xe { s4 with heap := s4.heap.push { cls := .type "slice", data := .fields #[vl, vu, vs] } }
  refine tail_any (ops := [.ref a, .ref s4.heap.objs.size]) ht.typeIs slot_tuple_getitem.lookup ?_ (by with_unfolding_all rfl)
  refine getItem_tuple_back ht (Heap.IsSliceOf.new _ vl vu vs) pl pu ps (by rw [List.size_toArray]; omega) ?_ (by rw [List.size_toArray]; omega)
  have rt : Vals xs its.tail := by
    cases r with
    | cons _ t => exact t
  refine ⟨.ref _, _, I5.laid (t' := s4.toks) (o := .tup xs.reverse) (fun b ob q => Heap.get?_push_of_some _ q) (Nat.le_refl _) ?_, rfl, q _ (I5.hok.fresh (Nat.le_refl _))⟩
  exact ⟨by rw [List.length_reverse]; omega, _, rt.reverse, IsTup.new _ _⟩
end Own
namespace Own
open PySem PySem.Spec PyProof.Rows L2 RT HT

/-! ### heaps: all but one object stays; tuples stay -/
def But (d : Addr) (H H' : Hp) : Prop := ∀ b o, b ≠ d → H b = some o → H' b = some o
theorem But.refl (d : Addr) (H : Hp) : But d H H := fun _ _ _ e => e
theorem But.trans {d : Addr} {H H1 H2 : Hp} (a : But d H H1) (b : But d H1 H2) : But d H H2 := fun c o n e => b c o n (a c o n e)
theorem But.upd {d : Addr} {H : Hp} {o : HO} : But d H (upd H d o) := fun b u n e => by rw [upd_ne n]; exact e
theorem same_new {H : Hp} {p : Addr} (h : H p = none) (o : HO) : Same H (upd H p o) := fun b u e => by rw [upd_ne (ne_of_none e h)]; exact e
theorem _root_.L2.Same.but {d : Addr} {H H' : Hp} (a : Same H H') : But d H H' := fun b o _ e => a b o e
/-- a change of what is new is no change -/
theorem But.same {d : Addr} {H H1 H2 : Hp} (n : H d = none) (a : Same H H1) (b : But d H1 H2) : Same H H2 := fun c o e => b c o (ne_of_none e n) (a c o e)
theorem But.free {d : Addr} {H H' : Hp} (a : But d H H') {p : Addr} (n : p ≠ d) (h : H' p = none) : H p = none := by
  cases e : H p with
  | none => rfl
  | some o => rw [a p o n e] at h; cases h
def Tups (H H' : Hp) : Prop := ∀ b xs, H b = some (.tup xs) → H' b = some (.tup xs)
theorem Tups.trans {H H1 H2 : Hp} (a : Tups H H1) (b : Tups H1 H2) : Tups H H2 := fun c xs e => b c xs (a c xs e)
theorem Tups.refl (H : Hp) : Tups H H := fun _ _ e => e
theorem _root_.L2.Same.tups {H H' : Hp} (a : Same H H') : Tups H H' := fun b xs e => a b _ e
theorem But.tups {d : Addr} {H H' : Hp} {ys : List V} (a : But d H H') (h : H d = some (.lst ys)) : Tups H H' := fun b xs e => a b _ (ne_of e h (by intro z; cases z)) e
theorem tups_upd {H : Hp} {d : Addr} {ys : List V} {o : HO} (h : H d = some (.lst ys)) : Tups H (upd H d o) := But.upd.tups h
theorem tups_updD {H : Hp} {d : Addr} {ys : List (Key × V)} {o : HO} (h : H d = some (.dK ys)) : Tups H (upd H d o) := fun b xs e => by rw [upd_ne (ne_of e h (by intro z; cases z))]; exact e

/-! ### terms -/
inductive Ter where
  | var (k : Key)
  | ap (f : Str) (as : List Ter)
mutual
def Ter.size : Ter → Nat
  | .var _ => 1
  | .ap _ as => Ter.sizes as + 1
def Ter.sizes : List Ter → Nat
  | [] => 0
  | a :: r => a.size + Ter.sizes r
end
mutual
def Ter.nest : Ter → Nat
  | .var _ => 1
  | .ap _ as => Ter.nests as + 1
def Ter.nests : List Ter → Nat
  | [] => 0
  | a :: r => max a.nest (Ter.nests r)
end
mutual
def Ter.ground : Ter → Bool
  | .var _ => false
  | .ap _ as => Ter.grounds as
def Ter.grounds : List Ter → Bool
  | [] => true
  | a :: r => a.ground && Ter.grounds r
end
def Ter.isVar : Ter → Bool
  | .var _ => true
  | .ap _ _ => false
theorem Ter.size_pos : ∀ t : Ter, 1 ≤ t.size
  | .var _ => Nat.le_refl _
  | .ap _ _ => Nat.le_add_left _ _
theorem Ter.sizes_len : ∀ ts : List Ter, ts.length ≤ Ter.sizes ts
  | [] => Nat.zero_le _
  | a :: r => by
    have h1 := a.size_pos
    have h2 := Ter.sizes_len r
    show r.length + 1 ≤ a.size + Ter.sizes r
    omega
theorem Ter.sizes_app : ∀ (as bs : List Ter), Ter.sizes (as ++ bs) = Ter.sizes as + Ter.sizes bs
  | [], bs => by show Ter.sizes bs = 0 + Ter.sizes bs; omega
  | a :: r, bs => by
    show a.size + Ter.sizes (r ++ bs) = a.size + Ter.sizes r + Ter.sizes bs
    rw [Ter.sizes_app r bs]
    omega
mutual
inductive TmAt (H : Hp) : V → Ter → Prop
  | int (i : Int) : TmAt H (.int i) (.var (.inl i))
  | str (x : Str) : TmAt H (.str x) (.var (.inr x))
  | ap {p : Addr} {f : Str} {xs : List V} {as : List Ter} : H p = some (.tup (.str f :: xs)) → TmAll H xs as → TmAt H (.ref p) (.ap f as)
inductive TmAll (H : Hp) : List V → List Ter → Prop
  | nil : TmAll H [] []
  | cons {v : V} {vs : List V} {t : Ter} {ts : List Ter} : TmAt H v t → TmAll H vs ts → TmAll H (v :: vs) (t :: ts)
end
mutual
theorem TmAt.mono {H H' : Hp} (m : Tups H H') : ∀ (t : Ter) (v : V), TmAt H v t → TmAt H' v t
  | .var _, _, h => by
    cases h with
    | int i => exact .int i
    | str x => exact .str x
  | .ap f as, _, h => by
    cases h with
    | ap e hs => exact .ap (m _ _ e) (TmAll.mono m as _ hs)
theorem TmAll.mono {H H' : Hp} (m : Tups H H') : ∀ (ts : List Ter) (vs : List V), TmAll H vs ts → TmAll H' vs ts
  | [], _, h => by cases h; exact .nil
  | t :: ts, _, h => by
    cases h with
    | cons h1 h2 => exact .cons (TmAt.mono m t _ h1) (TmAll.mono m ts _ h2)
end
theorem TmAll.len {H : Hp} : ∀ {vs : List V} {ts : List Ter}, TmAll H vs ts → vs.length = ts.length
  | _, _, .nil => rfl
  | _, _, .cons _ t => congrArg (· + 1) t.len
theorem TmAll.app {H : Hp} : ∀ {vs ws : List V} {ts us : List Ter}, TmAll H vs ts → TmAll H ws us → TmAll H (vs ++ ws) (ts ++ us)
  | _, _, _, _, .nil, h => h
  | _, _, _, _, .cons a r, h => .cons a (r.app h)
theorem TmAll.rev {H : Hp} : ∀ {vs : List V} {ts : List Ter}, TmAll H vs ts → TmAll H vs.reverse ts.reverse
  | _, _, .nil => .nil
  | _, _, .cons a r => by
    rw [List.reverse_cons, List.reverse_cons]
    exact r.rev.app (.cons a .nil)
theorem TmAll.get {H : Hp} : ∀ {vs : List V} {ts : List Ter} {i : Nat} {v : V}, TmAll H vs ts → vs[i]? = some v → ∃ t, ts[i]? = some t ∧ TmAt H v t
  | _, _, _, _, .nil, e => by simp at e
  | _, _, 0, _, .cons a r, e => by
    simp at e
    subst e
    exact ⟨_, rfl, a⟩
  | _, _, i + 1, v, .cons a r, e => by
    obtain ⟨t, h1, h2⟩ := TmAll.get (i := i) (v := v) r (by simpa using e)
    exact ⟨t, by simpa using h1, h2⟩
/-- the last one -/
theorem TmAll.last {H : Hp} {vs : List V} {ts : List Ter} (h : TmAll H vs ts) (hv : vs ≠ []) : ∃ vs' v ts' t, vs = vs' ++ [v] ∧ ts = ts' ++ [t] ∧ TmAll H vs' ts' ∧ TmAt H v t := by
  have r := h.rev
  cases e1 : vs.reverse with
  | nil => exact absurd (List.reverse_eq_nil_iff.mp e1) hv
  | cons v vr =>
    cases e2 : ts.reverse with
    | nil => rw [e1, e2] at r; cases r
    | cons t tr =>
      rw [e1, e2] at r
      cases r with
      | cons a q =>
        refine ⟨vr.reverse, v, tr.reverse, t, ?_, ?_, q.rev, a⟩
        · rw [← List.reverse_reverse (as := vs), e1, List.reverse_cons]
        · rw [← List.reverse_reverse (as := ts), e2, List.reverse_cons]

/-! ### readings that come often -/
/-- isinstance(v, tuple), v a term -/
def rIsiTer : List V → Hp → VK → Prop := fun xs H Q => ∃ (v : V) (t : Ter), xs = [v, .ty "tuple"] ∧ TmAt H v t ∧ Q (.bl (!t.isVar)) H
theorem call_isiTer {X : Cx} : CallR X (.builtin "isinstance") rIsiTer := by
  intro pins s σ H xs us Q I r h
  obtain ⟨v, t, rfl, h, q⟩ := h
  refine call_isi pins s σ H _ us Q I r ?_
  cases h with
  | int i => exact ⟨_, _, _, _, false, rfl, .ty _, .base (.int i), kit_ty (by decide +kernel), q⟩
  | str x => exact ⟨_, _, _, _, false, rfl, .ty _, .base (.str x), kit_ty (by decide +kernel), q⟩
  | ap e _ => exact ⟨_, _, _, _, true, rfl, .ty _, .base (.tup e), kit_ty (by decide +kernel), q⟩
theorem cut_1 (y : V) (ys : List V) : cutV (y :: ys) (some 1) none = ys := by
  unfold cutV
  rw [show HT.sIx (y :: ys).length 0 (some 1) = min 1 (y :: ys).length from HT.sIx_nat (y :: ys).length 0 1, HT.sIx_none, List.length_cons, show min 1 (ys.length + 1) = 1 by omega]
  show List.take (ys.length + 1 - 1) ys = ys
  rw [Nat.add_sub_cancel]
  exact List.take_length
/-- t[1:] of a tuple that is not empty -/
def rSl1 (K : PySem.W.Frag) : V → Option Int → Option Int → Hp → VK → Prop := fun x lo hi H Q => ∃ a y ys, x = .ref a ∧ lo = some 1 ∧ hi = none ∧ SqT K H a (y :: ys) ∧ ∀ p, H p = none → Q (.ref p) (upd H p (.tup ys))
theorem sl_1 {X : Cx} : SlR X (rSl1 X.K) := by
  intro pins s σ H x v vl vu lo hi sl Q I rx hs pl pu h
  obtain ⟨a, y, ys, rfl, rfl, rfl, e, q⟩ := h
  refine sl_tup pins s σ H _ v vl vu _ _ sl Q I rx hs pl pu ⟨a, _, rfl, e, fun ⟨z, _⟩ => ?_, fun p hp => ?_⟩
  · rw [show HT.sIx (y :: ys).length 0 (some 1) = min 1 (y :: ys).length from HT.sIx_nat (y :: ys).length 0 1, List.length_cons] at z
    omega
  · rw [cut_1]
    exact q p hp
/-- xs.pop(), the last item told -/
def rPopL : V → List V → Hp → VK → Prop := fun x xs H Q => ∃ (l : Addr) (vs : List V) (v : V), x = .ref l ∧ xs = [] ∧ H l = some (.lst (vs ++ [v])) ∧ Q v (upd H l (.lst vs))
theorem mt_popL {X : Cx} : MtR X "list.pop" rPopL := by
  intro pins s σ H x xs v us Q I rx rxs h
  obtain ⟨l, vs, y, rfl, rfl, e, q⟩ := h
  refine mt_pop pins s σ H _ _ v us Q I rx rxs ⟨l, _, y, rfl, rfl, e, ?_, ?_⟩
  · rw [List.length_append, List.length_singleton, Nat.add_sub_cancel]
    exact List.getElem?_concat_length
  · rw [List.dropLast_concat]
    exact q
theorem tyl {K : PySem.W.Frag} {H : Hp} {l : Addr} {vs : List V} (h : H l = some (.lst vs)) : tyV K "list" (.ref l) H := .inl ⟨rfl, _, .inl (.inl h)⟩
theorem tru_l {K : PySem.W.Frag} {H : Hp} {l : Addr} {vs : List V} (h : H l = some (.lst vs)) : TruV K (.ref l) H (!vs.isEmpty) := .inl ⟨vs, .inl (.inl h), rfl⟩
theorem small6 {n : Nat} (h : n ≤ 1000000) : n ≤ sizeLine := Nat.le_trans h (by decide)
theorem small6' {n : Nat} (h : n ≤ 1000000) : n < sizeLine := Nat.lt_of_le_of_lt h (by decide)
end Own
namespace Own
open PySem PySem.Spec PyProof.Rows L2 RT HT

/-! ### walks within a comprehension, the turn's body any -/
theorem walk_l {K : PySem.W.Frag} {a : Addr} {xs : List V} {H0 : Hp} {Qd : Hp → Prop} {body : (Hp → Prop) → V → Hp → Prop} (Pv : Nat → Hp → Prop) (h0 : Pv 0 H0) (hl : ∀ i H, i ≤ xs.length → Pv i H → SqL K H a xs)
    (hs : ∀ i x H, xs[i]? = some x → Pv i H → body (Pv (i + 1)) x H) (hd : ∀ H, Pv xs.length H → Qd H) :
    ∃ W : Nat → Nat → Hp → Prop, (∃ m, W 0 m H0) ∧ ∀ i m H, W i m H → ((Itl K a).stop i H ∧ Qd H) ∨ ((Itl K a).go i H ∧ ∃ Nx : Hp → Prop, (∀ H', Nx H' → ∃ m', m' < m ∧ W (i + 1) m' H') ∧ ∀ x H', (Itl K a).yld i H x H' → body Nx x H') := by
  refine ⟨fun i m H => m = xs.length - i ∧ i ≤ xs.length ∧ Pv i H, ⟨xs.length, by simp, Nat.zero_le _, h0⟩, ?_⟩
  rintro i m H ⟨rfl, hi, p⟩
  have q := hl i H hi p
  by_cases hlt : i < xs.length
  · refine .inr ⟨⟨xs, xs[i], q, by simp [hlt]⟩, Pv (i + 1), fun H' p' => ⟨xs.length - (i + 1), by omega, rfl, hlt, p'⟩, fun x H' y => ?_⟩
    obtain ⟨e, y⟩ := y
    subst e
    exact hs i x _ (y xs q) p
  · have e : i = xs.length := by omega
    subst e
    exact .inl ⟨⟨xs, q, Nat.le_refl _⟩, hd H p⟩
theorem walk_t {K : PySem.W.Frag} {a : Addr} {xs : List V} {H0 : Hp} {Qd : Hp → Prop} {body : (Hp → Prop) → V → Hp → Prop} (Pv : Nat → Hp → Prop) (h0 : Pv 0 H0) (hl : ∀ i H, i ≤ xs.length → Pv i H → SqT K H a xs)
    (hs : ∀ i x H, xs[i]? = some x → Pv i H → body (Pv (i + 1)) x H) (hd : ∀ H, Pv xs.length H → Qd H) :
    ∃ W : Nat → Nat → Hp → Prop, (∃ m, W 0 m H0) ∧ ∀ i m H, W i m H → ((Itt K a).stop i H ∧ Qd H) ∨ ((Itt K a).go i H ∧ ∃ Nx : Hp → Prop, (∀ H', Nx H' → ∃ m', m' < m ∧ W (i + 1) m' H') ∧ ∀ x H', (Itt K a).yld i H x H' → body Nx x H') := by
  refine ⟨fun i m H => m = xs.length - i ∧ i ≤ xs.length ∧ Pv i H, ⟨xs.length, by simp, Nat.zero_le _, h0⟩, ?_⟩
  rintro i m H ⟨rfl, hi, p⟩
  have q := hl i H hi p
  by_cases hlt : i < xs.length
  · refine .inr ⟨⟨xs, xs[i], q, by simp [hlt]⟩, Pv (i + 1), fun H' p' => ⟨xs.length - (i + 1), by omega, rfl, hlt, p'⟩, fun x H' y => ?_⟩
    obtain ⟨e, y⟩ := y
    subst e
    exact hs i x _ (y xs q) p
  · have e : i = xs.length := by omega
    subst e
    exact .inl ⟨⟨xs, q, Nat.le_refl _⟩, hd H p⟩

/-! ### what the functions of terms compute -/
def Ter.args : Ter → List Ter
  | .var _ => []
  | .ap _ as => as
def argsOf (ts : List Ter) : List Ter := ts.flatMap Ter.args
theorem argsOf_app (as bs : List Ter) : argsOf (as ++ bs) = argsOf as ++ argsOf bs := List.flatMap_append
theorem argsOf_take {ts : List Ter} {i : Nat} {t : Ter} (h : ts[i]? = some t) : argsOf (ts.take (i + 1)) = argsOf (ts.take i) ++ t.args := by
  rw [List.take_add_one, h, argsOf_app]
  show _ ++ ([t].flatMap Ter.args) = _
  rw [List.flatMap_cons, List.flatMap_nil, List.append_nil]
theorem sizes_argsOf : ∀ ts : List Ter, Ter.sizes (argsOf ts) + ts.length = Ter.sizes ts
  | [] => rfl
  | .var k :: r => by
    have ih := sizes_argsOf r
    show Ter.sizes (argsOf r) + (r.length + 1) = 1 + Ter.sizes r
    omega
  | .ap f as :: r => by
    have ih := sizes_argsOf r
    show Ter.sizes (as ++ argsOf r) + (r.length + 1) = Ter.sizes as + 1 + Ter.sizes r
    rw [Ter.sizes_app]
    omega
theorem nests_app : ∀ (as bs : List Ter), Ter.nests (as ++ bs) = max (Ter.nests as) (Ter.nests bs)
  | [], bs => by show Ter.nests bs = max 0 _; omega
  | a :: r, bs => by
    show max a.nest (Ter.nests (r ++ bs)) = max (max a.nest (Ter.nests r)) (Ter.nests bs)
    rw [nests_app r bs]
    omega
theorem Ter.nest_pos : ∀ t : Ter, 1 ≤ t.nest
  | .var _ => Nat.le_refl _
  | .ap _ _ => Nat.le_add_left _ _
theorem nests_argsOf : ∀ ts : List Ter, ts ≠ [] → Ter.nests (argsOf ts) + 1 = Ter.nests ts
  | [], h => absurd rfl h
  | [.var k], _ => rfl
  | [.ap f as], _ => by
    show Ter.nests (as ++ []) + 1 = max (Ter.nests as + 1) 0
    rw [List.append_nil]
    omega
  | .var k :: b :: r, _ => by
    have ih := nests_argsOf (b :: r) (by simp)
    have p := b.nest_pos
    have e : Ter.nests (b :: r) = max b.nest (Ter.nests r) := rfl
    show Ter.nests (argsOf (b :: r)) + 1 = max 1 (Ter.nests (b :: r))
    omega
  | .ap f as :: b :: r, _ => by
    have ih := nests_argsOf (b :: r) (by simp)
    show Ter.nests (as ++ argsOf (b :: r)) + 1 = max (Ter.nests as + 1) (Ter.nests (b :: r))
    rw [nests_app]
    omega
def hasK (acc : List Key) (k : Key) : Bool := acc.any fun x => decide (x = k)
theorem hasK_iff {acc : List Key} {k : Key} : hasK acc k = true ↔ k ∈ acc := by
  unfold hasK
  rw [List.any_eq_true]
  constructor
  · rintro ⟨x, hx, h⟩
    have h : x = k := of_decide_eq_true h
    exact h ▸ hx
  · intro h
    exact ⟨k, h, decide_eq_true rfl⟩
def addK (acc : List Key) (k : Key) : List Key := if hasK acc k = true then acc else acc ++ [k]
mutual
def Ter.into (acc : List Key) : Ter → List Key
  | .var k => addK acc k
  | .ap _ as => Ter.intos acc as
def Ter.intos (acc : List Key) : List Ter → List Key
  | [] => acc
  | a :: r => Ter.intos (Ter.into acc a) r
end
theorem intos_app : ∀ (as bs : List Ter) (acc : List Key), Ter.intos acc (as ++ bs) = Ter.intos (Ter.intos acc as) bs
  | [], _, _ => rfl
  | a :: r, bs, acc => intos_app r bs (Ter.into acc a)
def Ter.vars (t : Ter) : List Key := Ter.into [] t
def yes (k : Key) : Key × V := (k, .bl true)
theorem put_yes (acc : List Key) (k : Key) : putK (acc.map yes) k (.bl true) = (addK acc k).map yes := by
  unfold putK addK
  have e : ((acc.map yes).any fun kv => decide (kv.1 = k)) = hasK acc k := by
    rw [List.any_map]
    rfl
  rw [e]
  by_cases hk : hasK acc k = true
  · rw [if_pos hk, if_pos hk, List.map_map]
    apply List.map_congr_left
    intro x _
    show (if x = k then (x, V.bl true) else (x, V.bl true)) = (x, V.bl true)
    split <;> rfl
  · rw [if_neg hk, if_neg hk, List.map_append]
    rfl
theorem addK_len (acc : List Key) (k : Key) : (addK acc k).length ≤ acc.length + 1 := by
  unfold addK
  split
  · omega
  · rw [List.length_append, List.length_singleton]; omega
theorem yes_keys (acc : List Key) : (acc.map yes).map (fun kv => kV kv.1) = acc.map kV := by
  rw [List.map_map]
  rfl
theorem addK_ne (acc : List Key) (k : Key) : addK acc k ≠ [] := by
  unfold addK
  split
  · rename_i h
    intro z
    rw [z] at h
    exact absurd (show false = true from h) Bool.false_ne_true
  · simp
mutual
theorem into_ne : ∀ (t : Ter) (acc : List Key), acc ≠ [] ∨ t.ground = false → Ter.into acc t ≠ []
  | .var k, acc, _ => addK_ne acc k
  | .ap f as, acc, h => intos_ne as acc h
theorem intos_ne : ∀ (ts : List Ter) (acc : List Key), acc ≠ [] ∨ Ter.grounds ts = false → Ter.intos acc ts ≠ []
  | [], acc, h => h.resolve_right (by intro z; cases z)
  | a :: r, acc, h => by
    refine intos_ne r _ ?_
    rcases h with h | h
    · exact .inl (into_ne a acc (.inl h))
    · have h : (a.ground && Ter.grounds r) = false := h
      cases ha : a.ground with
      | false => exact .inl (into_ne a acc (.inr ha))
      | true =>
        rw [ha] at h
        exact .inr h
end
mutual
theorem into_ground : ∀ (t : Ter) (acc : List Key), t.ground = true → Ter.into acc t = acc
  | .var k, _, h => by cases h
  | .ap f as, acc, h => intos_ground as acc h
theorem intos_ground : ∀ (ts : List Ter) (acc : List Key), Ter.grounds ts = true → Ter.intos acc ts = acc
  | [], _, _ => rfl
  | a :: r, acc, h => by
    have h : (a.ground && Ter.grounds r) = true := h
    rw [Bool.and_eq_true] at h
    show Ter.intos (Ter.into acc a) r = acc
    rw [into_ground a acc h.1, intos_ground r acc h.2]
end
theorem vars_nil (t : Ter) : decide (t.vars = []) = t.ground := by
  cases h : t.ground with
  | true => exact decide_eq_true (into_ground t [] h)
  | false => exact decide_eq_false (into_ne t [] (.inr h))
end Own
namespace Own
open PySem PySem.Spec PyProof.Rows L2 RT HT

/-! ### a list of ints at d, whatever they are -/
def Ints (H : Hp) (d : Addr) : Prop := ∃ ms : List Int, ms.length ≤ 100000 ∧ H d = some (.lst (ms.map V.int))
theorem Ints.lst {H : Hp} {d : Addr} (h : Ints H d) : ∃ vs, H d = some (.lst vs) := by
  obtain ⟨ms, _, e⟩ := h
  exact ⟨_, e⟩
theorem But.tupsI {d : Addr} {H H' : Hp} (a : But d H H') (h : Ints H d) : Tups H H' := by
  obtain ⟨ms, _, e⟩ := h
  exact a.tups e
theorem Ints.ne {H : Hp} {d p : Addr} (h : Ints H d) (n : H p = none) : p ≠ d := by
  obtain ⟨ms, _, e⟩ := h
  exact (ne_of_none e n).symm
theorem Ints.of_but {H H' : Hp} {d p : Addr} (h : Ints H d) (b : But p H H') (n : d ≠ p) : Ints H' d := by
  obtain ⟨ms, l, e⟩ := h
  exact ⟨ms, l, b d _ n e⟩
theorem Ints.same {H H' : Hp} {d : Addr} (h : Ints H d) (b : Same H H') : Ints H' d := by
  obtain ⟨ms, l, e⟩ := h
  exact ⟨ms, l, b d _ e⟩

/-! ### words -/
abbrev LET : Str := "abcdefghijklmnopqrstuvwxyz"
abbrev SGN : Str := LET ++ ("ABCDEFGHIJKLMNOPQRSTUVWXYZ0123456789_" : Str)
abbrev RES : List Str := ["true", "false", "all", "some", "goal", "axiom"]
def chOk (c : Nat) : Bool := (decide (97 ≤ c) && decide (c ≤ 122)) || (decide (65 ≤ c) && decide (c ≤ 90)) || (decide (48 ≤ c) && decide (c ≤ 57)) || decide (c = 95)
def isLow (c : Nat) : Bool := decide (97 ≤ c) && decide (c ≤ 122)
/-- a word: a small letter, then signs -/
structure WordOk (x : Str) : Prop where
  head : ∃ c r, x.cps.toList = c :: r ∧ isLow c = true
  all : x.cps.toList.all chOk = true
  len : x.length ≤ 40
theorem let_len : LET.length = 26 := by decide +kernel
theorem sgn_len : SGN.length = 63 := by decide +kernel
theorem let_at {i : Nat} (h : i < 26) : ∃ c, LET.cps[i]? = some c ∧ isLow c = true ∧ chOk c = true := by
  have a : LET.cps.toList.all (fun c => isLow c && chOk c) = true := by decide +kernel
  have l : LET.cps.toList.length = 26 := by decide +kernel
  have hi : i < LET.cps.toList.length := by omega
  have b := List.all_eq_true.mp a _ (List.getElem_mem hi)
  rw [Bool.and_eq_true] at b
  exact ⟨_, by rw [← Array.getElem?_toList, List.getElem?_eq_getElem hi], b.1, b.2⟩
theorem sgn_at {i : Nat} (h : i < 63) : ∃ c, SGN.cps[i]? = some c ∧ chOk c = true := by
  have a : SGN.cps.toList.all chOk = true := by decide +kernel
  have l : SGN.cps.toList.length = 63 := by decide +kernel
  have hi : i < SGN.cps.toList.length := by omega
  exact ⟨_, by rw [← Array.getElem?_toList, List.getElem?_eq_getElem hi], List.all_eq_true.mp a _ (List.getElem_mem hi)⟩
theorem app_cps (x y : Str) : (x ++ y).cps.toList = x.cps.toList ++ y.cps.toList := by
  show (x.cps ++ y.cps).toList = _
  rw [Array.toList_append]
theorem app_len (x y : Str) : (x ++ y).length = x.length + y.length := by
  show (x.cps ++ y.cps).size = x.cps.size + y.cps.size
  rw [Array.size_append]
/-- part of a word: all but the length -/
structure WordIn (x : Str) (n : Nat) : Prop where
  head : ∃ c r, x.cps.toList = c :: r ∧ isLow c = true
  all : x.cps.toList.all chOk = true
  len : x.length ≤ n
theorem word1 {c : Nat} (h1 : isLow c = true) (h2 : chOk c = true) : WordIn ⟨#[c]⟩ 1 := ⟨⟨c, [], rfl, h1⟩, by show (chOk c && true) = true; rw [h2]; rfl, Nat.le_refl _⟩
theorem WordIn.add {x y : Str} {n m : Nat} (h : WordIn x n) (a : y.cps.toList.all chOk = true) (l : y.length ≤ m) : WordIn (x ++ y) (n + m) := by
  obtain ⟨c, r, e, hc⟩ := h.head
  refine ⟨⟨c, r ++ y.cps.toList, by rw [app_cps, e]; rfl, hc⟩, by rw [app_cps, List.all_append, h.all, a]; rfl, by rw [app_len]; have := h.len; omega⟩
theorem WordIn.ok {x : Str} {n : Nat} (h : WordIn x n) (l : n ≤ 40) : WordOk x := ⟨h.head, h.all, Nat.le_trans h.len l⟩
/-- words of a law: all right, no two alike, none reserved -/
structure Words (ws : List Str) : Prop where
  ok : ∀ x ∈ ws, WordOk x
  nd : ws.Nodup
  res : ∀ x ∈ ws, x ∉ RES
/-- how many of the blocked ones are as long as n or longer -/
def longer (B : List Str) (n : Nat) : Nat := (B.filter fun y => decide (n ≤ y.length)).length
theorem longer_le (B : List Str) (n : Nat) : longer B n ≤ B.length := List.length_filter_le _ _
theorem longer_lt : ∀ {B : List Str} {x : Str}, x ∈ B → longer B (x.length + 1) < longer B x.length := by
  intro B
  have mono : ∀ (B : List Str) (n : Nat), longer B (n + 1) ≤ longer B n := fun B n => by
    induction B with
    | nil => exact Nat.le_refl _
    | cons y r ih =>
      unfold longer at ih ⊢
      rw [List.filter_cons, List.filter_cons]
      by_cases h1 : n + 1 ≤ y.length
      · rw [if_pos (decide_eq_true h1), if_pos (decide_eq_true (by omega)), List.length_cons, List.length_cons]; omega
      · rw [if_neg (by rw [decide_eq_false h1]; decide)]
        split
        · rw [List.length_cons]; omega
        · exact ih
  induction B with
  | nil => intro x h; cases h
  | cons y r ih =>
    intro x h
    unfold longer at ih ⊢
    rw [List.filter_cons, List.filter_cons]
    rcases List.mem_cons.mp h with e | h
    · subst e
      rw [if_neg (by rw [decide_eq_false (by omega)]; decide), if_pos (decide_eq_true (Nat.le_refl _)), List.length_cons]
      have := mono r x.length
      unfold longer at this
      omega
    · have q := ih h
      by_cases h1 : x.length + 1 ≤ y.length
      · rw [if_pos (decide_eq_true h1), if_pos (decide_eq_true (by omega)), List.length_cons, List.length_cons]; omega
      · rw [if_neg (by rw [decide_eq_false h1]; decide)]
        split
        · rw [List.length_cons]; omega
        · exact q
theorem inV_str (x : Str) (ws : List Str) : inV (.str x) (ws.map V.str) = true ↔ x ∈ ws := by
  unfold inV
  rw [List.any_map, List.any_eq_true]
  constructor
  · rintro ⟨y, hy, h⟩
    have h : (y == x) = true := h
    exact eq_of_beq h ▸ hy
  · intro h
    exact ⟨x, h, show (x == x) = true from beq_self_eq_true x⟩
theorem flat_strs (ws : List Str) : (ws.map V.str).all flatV = true := by
  rw [List.all_map, List.all_eq_true]
  intro x _
  rfl
end Own
namespace Own
open PySem PySem.Spec PyProof.Rows L2 RT HT

/-! ### terms over words -/
mutual
def Ter.wf (W : Str → Nat → Prop) (U : Key → Prop) : Ter → Prop
  | .var k => U k
  | .ap f as => W f as.length ∧ Ter.wfs W U as
def Ter.wfs (W : Str → Nat → Prop) (U : Key → Prop) : List Ter → Prop
  | [] => True
  | a :: r => a.wf W U ∧ Ter.wfs W U r
end
theorem wfs_app {W : Str → Nat → Prop} {U : Key → Prop} : ∀ {as bs : List Ter}, Ter.wfs W U as → Ter.wfs W U bs → Ter.wfs W U (as ++ bs)
  | [], _, _, h => h
  | _ :: _, _, h, h2 => ⟨h.1, wfs_app h.2 h2⟩
theorem wfs_get {W : Str → Nat → Prop} {U : Key → Prop} : ∀ {as : List Ter} {i : Nat} {t : Ter}, Ter.wfs W U as → as[i]? = some t → t.wf W U
  | [], _, _, _, e => by simp at e
  | a :: r, 0, t, h, e => by
    simp at e
    exact e ▸ h.1
  | a :: r, i + 1, t, h, e => wfs_get (as := r) (i := i) h.2 (by simpa using e)
/-- the i-th word has i - 2 arguments -/
def symOf (ws : List Str) (f : Str) (n : Nat) : Prop := ∃ i : Nat, i < 6 ∧ ws[i]? = some f ∧ n = i - 2
def numVar (k : Key) : Prop := ∃ r : Int, k = .inl r ∧ 0 ≤ r ∧ r < 900
theorem sizes_snoc (as : List Ter) (t : Ter) : Ter.sizes (as ++ [t]) = Ter.sizes as + t.size := by
  rw [Ter.sizes_app]
  show _ + (t.size + 0) = _
  omega
theorem nests_snoc (as : List Ter) (t : Ter) : Ter.nests (as ++ [t]) = max (Ter.nests as) t.nest := by
  rw [nests_app]
  show max _ (max t.nest 0) = _
  omega
theorem grounds_app : ∀ (as bs : List Ter), Ter.grounds (as ++ bs) = (Ter.grounds as && Ter.grounds bs)
  | [], _ => rfl
  | a :: r, bs => by
    show (a.ground && Ter.grounds (r ++ bs)) = _
    rw [grounds_app r bs, ← Bool.and_assoc]
    rfl
theorem grounds_snoc (as : List Ter) (t : Ter) : Ter.grounds (as ++ [t]) = (Ter.grounds as && t.ground) := by
  rw [grounds_app]
  show (_ && (t.ground && true)) = _
  rw [Bool.and_true]
theorem pow4 (n : Nat) : 1 ≤ 4 ^ n := Nat.one_le_pow _ _ (by decide)
mutual
theorem nest_size : ∀ t : Ter, t.nest ≤ t.size
  | .var _ => Nat.le_refl _
  | .ap _ as => Nat.succ_le_succ (nests_sizes as)
theorem nests_sizes : ∀ ts : List Ter, Ter.nests ts ≤ Ter.sizes ts
  | [] => Nat.le_refl _
  | a :: r => by
    have h1 := nest_size a
    have h2 := nests_sizes r
    show max a.nest (Ter.nests r) ≤ a.size + Ter.sizes r
    omega
end
theorem nest_le_of : ∀ {ts : List Ter} {i : Nat} {t : Ter}, ts[i]? = some t → t.nest ≤ Ter.nests ts
  | [], _, _, e => by simp at e
  | a :: r, 0, t, e => by
    simp at e
    subst e
    exact Nat.le_max_left _ _
  | a :: r, i + 1, t, e => Nat.le_trans (nest_le_of (ts := r) (i := i) (by simpa using e)) (Nat.le_max_right _ _)
theorem size_le_of : ∀ {ts : List Ter} {i : Nat} {t : Ter}, ts[i]? = some t → t.size ≤ Ter.sizes ts
  | [], _, _, e => by simp at e
  | a :: r, 0, t, e => by
    simp at e
    subst e
    exact Nat.le_add_right _ _
  | a :: r, i + 1, t, e => Nat.le_trans (size_le_of (ts := r) (i := i) (by simpa using e)) (Nat.le_add_left _ _)

/-! ### data: the kind of a value -/
def kindOf : PyData → String
  | .none => "NoneType"
  | .bool _ => "bool"
  | .int _ => "int"
  | .str _ => "str"
  | .list _ => "list"
  | .tuple _ => "tuple"
  | .dict _ => "dict"
theorem tyx_dp {K : PySem.W.Frag} {H : Hp} {v : V} {x : PyData} (h : Dp K H v x) : TyX K H v (.type (kindOf x)) := by
  cases h with
  | non => exact .base .non
  | bl b => exact .base (.bl b)
  | int i => exact .base (.int i)
  | str y => exact .base (.str y)
  | lst h _ =>
    rcases h with (h | ⟨o, h⟩) | ⟨o, its, n, h, c, _⟩
    · exact .base (.lst h)
    · exact .base (.frz h)
    · exact .kList h c
  | tup h _ =>
    rcases h with (h | ⟨o, h⟩) | ⟨o, its, n, h, c, _⟩
    · exact .base (.tup h)
    · exact .fTuple h
    · exact .kTuple h c
def rIsiDat (K : PySem.W.Frag) : List V → Hp → VK → Prop := fun xs H Q => ∃ (v : V) (x : PyData) (c : String) (b : Bool), xs = [v, .ty c] ∧ Dp K H v x ∧ kitB (kindOf x) c = some b ∧ Q (.bl b) H
theorem call_isiDat {X : Cx} : CallR X (.builtin "isinstance") (rIsiDat X.K) := by
  intro pins s σ H xs us Q I r h
  obtain ⟨v, x, c, b, rfl, h, e, q⟩ := h
  exact call_isi pins s σ H _ us Q I r ⟨v, .ty c, _, _, b, rfl, .ty c, tyx_dp h, kit_ty e, q⟩
theorem Dp.len {K : PySem.W.Frag} {H : Hp} : ∀ {vs : List V} {xs : List PyData}, DpAll K H vs xs → vs.length = xs.length
  | _, _, .nil => rfl
  | _, _, .cons _ t => congrArg (· + 1) (Dp.len t)
theorem Dp.get {K : PySem.W.Frag} {H : Hp} : ∀ {vs : List V} {xs : List PyData} {i : Nat} {v : V}, DpAll K H vs xs → vs[i]? = some v → ∃ x, xs[i]? = some x ∧ Dp K H v x
  | _, _, _, _, .nil, e => by simp at e
  | _, _, 0, _, .cons a r, e => by
    simp at e
    subst e
    exact ⟨_, rfl, a⟩
  | _, _, i + 1, v, .cons a r, e => by
    obtain ⟨t, h1, h2⟩ := Dp.get (i := i) (v := v) r (by simpa using e)
    exact ⟨t, by simpa using h1, h2⟩
theorem depth_le_of : ∀ {xs : List PyData} {i : Nat} {x : PyData}, xs[i]? = some x → x.depth ≤ PyData.depthAll xs
  | [], _, _, e => by simp at e
  | a :: r, 0, t, e => by
    simp at e
    subst e
    exact Nat.le_max_left _ _
  | a :: r, i + 1, t, e => Nat.le_trans (depth_le_of (xs := r) (i := i) (by simpa using e)) (Nat.le_max_right _ _)
mutual
theorem Dp.same {K : PySem.W.Frag} {H H' : Hp} (m : Same H H') : ∀ (x : PyData) (v : V), Dp K H v x → Dp K H' v x
  | .none, _, h => by cases h; exact .non
  | .bool b, _, h => by cases h; exact .bl b
  | .int i, _, h => by cases h; exact .int i
  | .str x, _, h => by cases h; exact .str x
  | .list ds, _, h => by
    cases h with
    | lst e hs => exact .lst (m.seq e) (Dp.sameA m ds _ hs)
  | .tuple ds, _, h => by
    cases h with
    | tup e hs =>
      refine .tup ?_ (Dp.sameA m ds _ hs)
      rcases e with (e | ⟨o, e⟩) | e
      · exact .inl (.inl (m _ _ e))
      · exact .inl (.inr ⟨o, m _ _ e⟩)
      · exact .inr e
  | .dict _, _, h => by cases h
theorem Dp.sameA {K : PySem.W.Frag} {H H' : Hp} (m : Same H H') : ∀ (xs : List PyData) (vs : List V), DpAll K H vs xs → DpAll K H' vs xs
  | [], _, h => by cases h; exact .nil
  | x :: xs, _, h => by
    cases h with
    | cons a r => exact .cons (Dp.same m x _ a) (Dp.sameA m xs _ r)
end
def isTupD : PyData → Bool
  | .tuple _ => true
  | _ => false
def isListD : PyData → Bool
  | .list _ => true
  | _ => false
def isBoolD : PyData → Bool
  | .bool _ => true
  | _ => false
def isIntD : PyData → Bool
  | .bool _ => true
  | .int _ => true
  | _ => false
def isStrD : PyData → Bool
  | .str _ => true
  | _ => false
theorem k_tup (x : PyData) : kitB (kindOf x) "tuple" = some (isTupD x) := by
  cases x <;> (unfold kindOf isTupD; dsimp only; decide +kernel)
theorem k_list (x : PyData) : kitB (kindOf x) "list" = some (isListD x) := by
  cases x <;> (unfold kindOf isListD; dsimp only; decide +kernel)
theorem k_bool (x : PyData) : kitB (kindOf x) "bool" = some (isBoolD x) := by
  cases x <;> (unfold kindOf isBoolD; dsimp only; decide +kernel)
theorem k_int (x : PyData) : kitB (kindOf x) "int" = some (isIntD x) := by
  cases x <;> (unfold kindOf isIntD; dsimp only; decide +kernel)
theorem k_str (x : PyData) : kitB (kindOf x) "str" = some (isStrD x) := by
  cases x <;> (unfold kindOf isStrD; dsimp only; decide +kernel)
/-- nested less than n deep, no dict, no item too long -/
def fitsD : Nat → PyData → Prop
  | 0, _ => False
  | n + 1, .list ds => ds.length ≤ 1000000 ∧ ∀ d ∈ ds, fitsD n d
  | n + 1, .tuple ds => ds.length ≤ 1000000 ∧ ∀ d ∈ ds, fitsD n d
  | _ + 1, .dict _ => False
  | _ + 1, _ => True
/-- a[i], a a list or a tuple -/
def rIxLT (K : PySem.W.Frag) : R2 := fun x y H Q => ∃ (p : Addr) (xs : List V) (i : Int) (v : V), x = .ref p ∧ y = .int i ∧ (SqL K H p xs ∨ SqT K H p xs) ∧ atI xs i = some v ∧ Q v H
theorem ix_lt {X : Cx} : IxR X (rIxLT X.K) := by
  intro value slice pins s σ H x y v u Q I rx ry h hs
  obtain ⟨p, xs, i, z, ex, ey, h, e, q⟩ := h
  rcases h with h | h
  · exact ix_list value slice pins s σ H x y v u Q I rx ry ⟨p, xs, i, z, ex, ey, h, e, q⟩ hs
  · exact ix_tup value slice pins s σ H x y v u Q I rx ry ⟨p, xs, i, z, ex, ey, h, e, q⟩ hs
theorem dp_ints {K : PySem.W.Frag} {H : Hp} : ∀ ns : List Int, DpAll K H (ns.map V.int) (ns.map PyData.int)
  | [] => .nil
  | n :: r => .cons (.int n) (dp_ints r)
end Own
namespace Own
open PySem PySem.Spec PyProof.Rows L2 RT HT

def isNum : Key → Prop
  | .inl _ => True
  | .inr _ => False
theorem addK_all {R : Key → Prop} {acc : List Key} {k : Key} (h : ∀ x ∈ acc, R x) (hk : R k) : ∀ x ∈ addK acc k, R x := by
  unfold addK
  split
  · exact h
  · intro x hx
    rcases List.mem_append.mp hx with hx | hx
    · exact h x hx
    · rw [List.mem_singleton.mp hx]; exact hk
mutual
theorem into_all {W : Str → Nat → Prop} {U R : Key → Prop} (ur : ∀ k, U k → R k) : ∀ (t : Ter) (acc : List Key), t.wf W U → (∀ x ∈ acc, R x) → ∀ x ∈ Ter.into acc t, R x
  | .var k, acc, h, a => addK_all a (ur k h)
  | .ap f as, acc, h, a => intos_all ur as acc h.2 a
theorem intos_all {W : Str → Nat → Prop} {U R : Key → Prop} (ur : ∀ k, U k → R k) : ∀ (ts : List Ter) (acc : List Key), Ter.wfs W U ts → (∀ x ∈ acc, R x) → ∀ x ∈ Ter.intos acc ts, R x
  | [], _, _, a => a
  | t :: r, acc, h, a => intos_all ur r _ h.2 (into_all ur t acc h.1 a)
end
/-- a key as data -/
def kD : Key → PyData
  | .inl i => .int i
  | .inr x => .str x
def keyFine : Key → Prop
  | .inl _ => True
  | .inr x => PyData.strOk x = true
theorem dp_keys {K : PySem.W.Frag} {H : Hp} : ∀ ks : List Key, DpAll K H (ks.map kV) (ks.map kD)
  | [] => .nil
  | .inl i :: r => .cons (.int i) (dp_keys r)
  | .inr x :: r => .cons (.str x) (dp_keys r)
theorem lay_keys : ∀ ks : List Key, (∀ k ∈ ks, keyFine k) → PyData.canLayAll0 (ks.map kD) = true ∧ PyData.depthAll (ks.map kD) = 0
  | [], _ => ⟨rfl, rfl⟩
  | .inl i :: r, h => by
    obtain ⟨h1, h2⟩ := lay_keys r fun k hk => h k (List.mem_cons_of_mem _ hk)
    exact ⟨by show (true && PyData.canLayAll0 (r.map kD)) = true; rw [h1]; rfl, by show max 0 (PyData.depthAll (r.map kD)) = 0; rw [h2]; rfl⟩
  | .inr x :: r, h => by
    obtain ⟨h1, h2⟩ := lay_keys r fun k hk => h k (List.mem_cons_of_mem _ hk)
    have hx : PyData.strOk x = true := h (.inr x) List.mem_cons_self
    exact ⟨by show (PyData.strOk x && PyData.canLayAll0 (r.map kD)) = true; rw [h1, hx]; rfl, by show max 0 (PyData.depthAll (r.map kD)) = 0; rw [h2]; rfl⟩
theorem shaped_keys {ks : List Key} (h : ∀ k ∈ ks, keyFine k) : SeqAt.shaped (.list (ks.map kD)) = true := by
  obtain ⟨h1, h2⟩ := lay_keys ks h
  show (PyData.canLayAll0 (ks.map kD) && decide (PyData.depthAll (ks.map kD) + 1 ≤ 64)) = true
  rw [h1, h2]
  rfl
theorem eqv_nil (ks : List Key) : PyData.eqv (.list (ks.map kD)) (.list []) = decide (ks = []) := by
  cases ks with
  | nil => rfl
  | cons a r => exact (decide_eq_false (by simp)).symm
theorem num_fine (k : Key) (h : numVar k) : keyFine k := by
  obtain ⟨r, rfl, _⟩ := h
  exact trivial
end Own
namespace Own
open PySem PySem.Spec PyProof.Rows L2 RT HT

theorem kV_inj {a b : Key} (h : kV a = kV b) : a = b := by
  cases a <;> cases b <;> simp [kV] at h <;> simp [h]
theorem flat_keys (ks : List Key) : (ks.map kV).all flatV = true := by
  rw [List.all_map, List.all_eq_true]
  intro k _
  cases k <;> rfl
theorem eqV_key (a b : Key) : eqV (kV a) (kV b) = decide (a = b) := by
  cases a with
  | inl i =>
    cases b with
    | inl j =>
      rw [key_ll]
      rfl
    | inr y => rw [key_lr]; rfl
  | inr x =>
    cases b with
    | inl j => rw [key_rl]; rfl
    | inr y =>
      rw [key_rr]
      show (x == y) = decide (x = y)
      rfl
theorem inV_key (k : Key) (ks : List Key) : inV (kV k) (ks.map kV) = hasK ks k := by
  unfold inV hasK
  rw [List.any_map]
  congr 1
  funext x
  exact eqV_key x k
theorem flat_key (k : Key) : flatV (kV k) = true := by cases k <;> rfl
/-- keys put in one by one -/
def addKs (acc : List Key) (ks : List Key) : List Key := ks.foldl addK acc
theorem hasK_addK (acc : List Key) (k x : Key) : hasK (addK acc k) x = (hasK acc x || decide (k = x)) := by
  unfold addK
  by_cases h : hasK acc k = true
  · rw [if_pos h]
    by_cases e : k = x
    · subst e
      rw [h, Bool.true_or]
    · rw [decide_eq_false e, Bool.or_false]
  · rw [if_neg h]
    unfold hasK
    rw [List.any_append]
    simp
theorem hasK_addKs : ∀ (ks acc : List Key) (x : Key), hasK (addKs acc ks) x = (hasK acc x || hasK ks x)
  | [], acc, x => by show hasK acc x = (hasK acc x || false); rw [Bool.or_false]
  | k :: r, acc, x => by
    show hasK (addKs (addK acc k) r) x = _
    rw [hasK_addKs r, hasK_addK, Bool.or_assoc]
    rfl
theorem addKs_addK (acc b : List Key) (k : Key) : addKs acc (addK b k) = addK (addKs acc b) k := by
  by_cases h : hasK b k = true
  · have e : addK b k = b := by unfold addK; rw [if_pos h]
    have h2 : hasK (addKs acc b) k = true := by rw [hasK_addKs, h, Bool.or_true]
    rw [e]
    unfold addK
    rw [if_pos h2]
  · have e : addK b k = b ++ [k] := by unfold addK; rw [if_neg h]
    rw [e]
    unfold addKs
    rw [List.foldl_append]
    rfl
mutual
theorem addKs_into (acc : List Key) : ∀ (t : Ter) (b : List Key), addKs acc (Ter.into b t) = Ter.into (addKs acc b) t
  | .var k, b => addKs_addK acc b k
  | .ap _ as, b => addKs_intos acc as b
theorem addKs_intos (acc : List Key) : ∀ (ts : List Ter) (b : List Key), addKs acc (Ter.intos b ts) = Ter.intos (addKs acc b) ts
  | [], _ => rfl
  | t :: r, b => by
    show addKs acc (Ter.intos (Ter.into b t) r) = _
    rw [addKs_intos acc r, addKs_into acc t]
    rfl
end
theorem into_met (acc : List Key) (t : Ter) : addKs acc t.vars = Ter.into acc t := addKs_into acc t []
theorem intos_snoc (acc : List Key) (as : List Ter) (t : Ter) : Ter.intos acc (as ++ [t]) = Ter.into (Ter.intos acc as) t := by
  rw [intos_app]
  rfl
mutual
theorem into_len : ∀ (t : Ter) (acc : List Key), (Ter.into acc t).length ≤ acc.length + t.size
  | .var k, acc => addK_len acc k
  | .ap _ as, acc => Nat.le_trans (intos_len as acc) (by show _ ≤ acc.length + (Ter.sizes as + 1); omega)
theorem intos_len : ∀ (ts : List Ter) (acc : List Key), (Ter.intos acc ts).length ≤ acc.length + Ter.sizes ts
  | [], acc => by show acc.length ≤ acc.length + 0; omega
  | t :: r, acc => by
    have h1 := into_len t acc
    have h2 := intos_len r (Ter.into acc t)
    show (Ter.intos (Ter.into acc t) r).length ≤ acc.length + (t.size + Ter.sizes r)
    omega
end
theorem fits_keys {ks : List Key} (n : Nat) (h : ks.length ≤ 1000000) : fitsD (n + 2) (.list (ks.map kD)) := by
  refine ⟨by rw [List.length_map]; exact h, fun d hd => ?_⟩
  obtain ⟨k, _, rfl⟩ := List.mem_map.mp hd
  cases k <;> exact trivial
/-- xs.pop(i) etc. read the list at its place; t[0] of an application -/
theorem head_at {f : V} {xs : List V} : atI (f :: xs) 0 = some f := atI_nat (j := 0) rfl
end Own
namespace Own
open PySem PySem.Spec PyProof.Rows L2 RT HT

/-! ### texts -/
theorem strE {a b : Str} (h : a.cps.toList = b.cps.toList) : a = b := by
  cases a with
  | mk x =>
    cases b with
    | mk y => exact congrArg Str.mk (Array.toList_inj.mp h)
theorem sApp (a b c : Str) : (a ++ b) ++ c = a ++ (b ++ c) := strE (by simp only [app_cps, List.append_assoc])
theorem sEmp (a : Str) : Str.empty ++ a = a := strE (by rw [app_cps]; rfl)
theorem eqS {a b : Str} {A B : Prop} (h : (a == b) = true) (k : A) : if decide (V.str a = V.str b) = true then A else B := by
  rw [dec_str, h]
  exact iteT k
theorem neS {a b : Str} {A B : Prop} (h : (a == b) = false) (k : B) : if decide (V.str a = V.str b) = true then A else B := by
  rw [dec_str, h]
  exact iteF k

/-! ### terms as data -/
mutual
def Ter.dat : Ter → PyData
  | .var k => kD k
  | .ap f as => .tuple (.str f :: Ter.dats as)
def Ter.dats : List Ter → List PyData
  | [] => []
  | a :: r => a.dat :: Ter.dats r
end
mutual
theorem dp_ter {K : PySem.W.Frag} {H : Hp} : ∀ (t : Ter) (v : V), TmAt H v t → Dp K H v t.dat
  | .var k, _, h => by
    cases h with
    | int i => exact .int i
    | str x => exact .str x
  | .ap f as, _, h => by
    cases h with
    | ap e hs => exact .tup (.inl (.inl e)) (.cons (.str f) (dp_ters as _ hs))
theorem dp_ters {K : PySem.W.Frag} {H : Hp} : ∀ (ts : List Ter) (vs : List V), TmAll H vs ts → DpAll K H vs (Ter.dats ts)
  | [], _, h => by cases h; exact .nil
  | t :: r, _, h => by
    cases h with
    | cons a b => exact .cons (dp_ter t _ a) (dp_ters r _ b)
end
def symFine (f : Str) (_ : Nat) : Prop := PyData.strOk f = true
mutual
theorem lay_ter : ∀ t : Ter, t.wf symFine keyFine → PyData.canLay0 t.dat = true ∧ PyData.depth t.dat ≤ t.nest
  | .var (.inl _), _ => ⟨rfl, Nat.zero_le _⟩
  | .var (.inr x), h => ⟨h, Nat.zero_le _⟩
  | .ap f as, h => by
    obtain ⟨h1, h2⟩ := lay_ters as h.2
    refine ⟨?_, ?_⟩
    · show (PyData.strOk f && PyData.canLayAll0 (Ter.dats as)) = true
      rw [show PyData.strOk f = true from h.1, h1]
      rfl
    · show max 0 (PyData.depthAll (Ter.dats as)) + 1 ≤ Ter.nests as + 1
      omega
theorem lay_ters : ∀ ts : List Ter, Ter.wfs symFine keyFine ts → PyData.canLayAll0 (Ter.dats ts) = true ∧ PyData.depthAll (Ter.dats ts) ≤ Ter.nests ts
  | [], _ => ⟨rfl, Nat.le_refl _⟩
  | t :: r, h => by
    obtain ⟨h1, h2⟩ := lay_ter t h.1
    obtain ⟨h3, h4⟩ := lay_ters r h.2
    refine ⟨?_, ?_⟩
    · show (PyData.canLay0 t.dat && PyData.canLayAll0 (Ter.dats r)) = true
      rw [h1, h3]
      rfl
    · show max t.dat.depth (PyData.depthAll (Ter.dats r)) ≤ max t.nest (Ter.nests r)
      omega
end
theorem shaped_ter {t : Ter} (h : t.wf symFine keyFine) (n : t.nest ≤ 64) : SeqAt.shaped t.dat = true := by
  obtain ⟨h1, h2⟩ := lay_ter t h
  unfold SeqAt.shaped
  rw [h1, decide_eq_true (Nat.le_trans h2 n)]
  rfl
mutual
theorem wf_mono {W W' : Str → Nat → Prop} {U U' : Key → Prop} (w : ∀ f n, W f n → W' f n) (u : ∀ k, U k → U' k) : ∀ t : Ter, t.wf W U → t.wf W' U'
  | .var k, h => u k h
  | .ap f as, h => ⟨w f _ h.1, wfs_mono w u as h.2⟩
theorem wfs_mono {W W' : Str → Nat → Prop} {U U' : Key → Prop} (w : ∀ f n, W f n → W' f n) (u : ∀ k, U k → U' k) : ∀ ts : List Ter, Ter.wfs W U ts → Ter.wfs W' U' ts
  | [], _ => trivial
  | t :: r, h => ⟨wf_mono w u t h.1, wfs_mono w u r h.2⟩
end
theorem wordok_str {x : Str} (h : WordOk x) : PyData.strOk x = true := by
  have a := h.all
  unfold PyData.strOk
  rw [← Array.all_toList, List.all_eq_true]
  intro c hc
  have q := List.all_eq_true.mp a c hc
  unfold chOk at q
  simp only [Bool.or_eq_true, Bool.and_eq_true, decide_eq_true_eq] at q
  exact decide_eq_true (by omega)
def trueT : Ter := .ap "true" []
def isTrueT (t : Ter) : Bool := PyData.eqv t.dat trueT.dat

/-! ### the written form of terms -/
/-- what may be written: short words, small numbers -/
def shSym (f : Str) (_ : Nat) : Prop := f.length ≤ 40 ∧ PyData.strOk f = true
def shKey : Key → Prop
  | .inl r => 0 ≤ r ∧ r < 900
  | .inr x => x.length ≤ 40 ∧ PyData.strOk x = true
theorem sh_fine : ∀ t : Ter, t.wf shSym shKey → t.wf symFine keyFine := wf_mono (fun _ _ h => h.2) (fun k h => by
  cases k with
  | inl r => trivial
  | inr x => exact h.2)
mutual
def showT : Ter → Str
  | .var (.inl i) => ("X" : Str) ++ (toString i : String)
  | .var (.inr x) => x
  | .ap f [] => f
  | .ap f (a :: r) => f ++ (("(" : Str) ++ (Txt.join "," (showTs (a :: r)) ++ (")" : Str)))
def showTs : List Ter → List Str
  | [] => []
  | a :: r => showT a :: showTs r
end
theorem showTs_len : ∀ ts : List Ter, (showTs ts).length = ts.length
  | [] => rfl
  | _ :: r => congrArg (· + 1) (showTs_len r)
theorem showTs_app : ∀ as bs : List Ter, showTs (as ++ bs) = showTs as ++ showTs bs
  | [], _ => rfl
  | a :: r, bs => congrArg (showT a :: ·) (showTs_app r bs)
theorem num_len (r : Int) (h0 : 0 ≤ r) (h1 : r < 900) : ((toString r : String) : Str).length ≤ 4 := by
  have a : ∀ r : Fin 900, (((toString ((r.val : Nat) : Int)) : String) : Str).length ≤ 4 := by decide +kernel
  have e : r = ((r.toNat : Nat) : Int) := by omega
  rw [e]
  exact a ⟨r.toNat, by omega⟩
end Own
namespace Own
open PySem PySem.Spec PyProof.Rows L2 RT HT

def tlen (ys : List Str) : Nat := (ys.map (·.length)).sum
theorem tlen_cons (y : Str) (ys : List Str) : tlen (y :: ys) = y.length + tlen ys := by
  unfold tlen
  rw [List.map_cons, List.sum_cons]
theorem join_len (sep : Str) : ∀ ys : List Str, (Txt.join sep ys).length ≤ tlen ys + ys.length * sep.length
  | [] => by rw [TL.join_eq]; exact Nat.zero_le _
  | [x] => by
    rw [TL.join_eq, tlen_cons]
    show x.length ≤ _
    omega
  | x :: y :: r => by
    have ih := join_len sep (y :: r)
    rw [TL.join_eq] at ih ⊢
    show (x ++ sep ++ Str.join sep (y :: r)).length ≤ _
    rw [app_len, app_len, tlen_cons, List.length_cons, Nat.succ_mul]
    omega
theorem len1 : ("X" : Str).length = 1 ∧ ("(" : Str).length = 1 ∧ (")" : Str).length = 1 ∧ ("," : Str).length = 1 := by decide +kernel
mutual
theorem showT_len : ∀ t : Ter, t.wf shSym shKey → (showT t).length + 1 ≤ 60 * t.size
  | .var (.inl i), h => by
    have q := num_len i h.1 h.2
    show (("X" : Str) ++ (toString i : String)).length + 1 ≤ 60
    rw [app_len, len1.1]
    omega
  | .var (.inr x), h => by
    have q : x.length ≤ 40 := h.1
    show x.length + 1 ≤ 60
    omega
  | .ap f [], h => by
    have q : f.length ≤ 40 := h.1.1
    show f.length + 1 ≤ 60
    omega
  | .ap f (a :: r), h => by
    have q : f.length ≤ 40 := h.1.1
    have q2 := showTs_len2 (a :: r) h.2
    have q3 := join_len "," (showTs (a :: r))
    rw [showTs_len, len1.2.2.2] at q3
    show (f ++ (("(" : Str) ++ (Txt.join "," (showTs (a :: r)) ++ (")" : Str)))).length + 1 ≤ 60 * (Ter.sizes (a :: r) + 1)
    rw [app_len, app_len, app_len, len1.2.1, len1.2.2.1]
    omega
theorem showTs_len2 : ∀ ts : List Ter, Ter.wfs shSym shKey ts → tlen (showTs ts) + ts.length ≤ 60 * Ter.sizes ts
  | [], _ => Nat.le_refl _
  | t :: r, h => by
    have q1 := showT_len t h.1
    have q2 := showTs_len2 r h.2
    show tlen (showT t :: showTs r) + (r.length + 1) ≤ 60 * (t.size + Ter.sizes r)
    rw [tlen_cons]
    omega
end
/-! ### literals -/
def showL (b : Bool) (l r : Ter) : Str :=
  if isTrueT r = true then (if b = true then showT l else ("~" : Str) ++ showT l) else showT l ++ ((if b = true then (" = " : Str) else (" != " : Str)) ++ showT r)
def Lit := Bool × Ter × Ter
def Lit.ok (x : Lit) : Prop := x.2.1.wf shSym shKey ∧ x.2.2.wf shSym shKey ∧ x.2.1.nest ≤ 60 ∧ x.2.2.nest ≤ 60 ∧ x.2.1.size ≤ 1000 ∧ x.2.2.size ≤ 1000
inductive LitAt (H : Hp) : V → Lit → Prop
  | mk {p : Addr} {b : Bool} {x y : V} {l r : Ter} : H p = some (.tup [.bl b, x, y]) → TmAt H x l → TmAt H y r → LitAt H (.ref p) (b, l, r)
theorem LitAt.mono {H H' : Hp} (m : Tups H H') {v : V} {x : Lit} (h : LitAt H v x) : LitAt H' v x := by
  cases h with
  | mk e a b => exact .mk (m _ _ e) (TmAt.mono m _ _ a) (TmAt.mono m _ _ b)
inductive LitAll (H : Hp) : List V → List Lit → Prop
  | nil : LitAll H [] []
  | cons {v : V} {vs : List V} {x : Lit} {xs : List Lit} : LitAt H v x → LitAll H vs xs → LitAll H (v :: vs) (x :: xs)
theorem LitAll.mono {H H' : Hp} (m : Tups H H') : ∀ {vs : List V} {xs : List Lit}, LitAll H vs xs → LitAll H' vs xs
  | _, _, .nil => .nil
  | _, _, .cons a r => .cons (a.mono m) (r.mono m)
theorem LitAll.app {H : Hp} : ∀ {vs ws : List V} {xs ys : List Lit}, LitAll H vs xs → LitAll H ws ys → LitAll H (vs ++ ws) (xs ++ ys)
  | _, _, _, _, .nil, h => h
  | _, _, _, _, .cons a r, h => .cons a (r.app h)
theorem LitAll.len {H : Hp} : ∀ {vs : List V} {xs : List Lit}, LitAll H vs xs → vs.length = xs.length
  | _, _, .nil => rfl
  | _, _, .cons _ t => congrArg (· + 1) t.len
theorem LitAll.get {H : Hp} : ∀ {vs : List V} {xs : List Lit} {i : Nat} {v : V}, LitAll H vs xs → vs[i]? = some v → ∃ x, xs[i]? = some x ∧ LitAt H v x
  | _, _, _, _, .nil, e => by simp at e
  | _, _, 0, _, .cons a r, e => by
    simp at e
    subst e
    exact ⟨_, rfl, a⟩
  | _, _, i + 1, v, .cons a r, e => by
    obtain ⟨t, h1, h2⟩ := LitAll.get (i := i) (v := v) r (by simpa using e)
    exact ⟨t, by simpa using h1, h2⟩
def showC (c : List Lit) : List Str := c.map fun x => showL x.1 x.2.1 x.2.2
theorem showL_len {b : Bool} {l r : Ter} (h1 : l.wf shSym shKey) (h2 : r.wf shSym shKey) (s1 : l.size ≤ 1000) (s2 : r.size ≤ 1000) : (showL b l r).length ≤ 200000 := by
  have q1 := showT_len l h1
  have q2 := showT_len r h2
  have z1 : ("~" : Str).length = 1 := by decide +kernel
  have z2 : (" = " : Str).length = 3 := by decide +kernel
  have z3 : (" != " : Str).length = 4 := by decide +kernel
  unfold showL
  split
  · split
    · omega
    · rw [app_len, z1]; omega
  · rw [app_len, app_len]
    split
    · rw [z2]; omega
    · rw [z3]; omega
/-! ### formulas -/
inductive Op | and | or | imp | iff
def Op.word : Op → Str
  | .and => "and"
  | .or => "or"
  | .imp => "implies"
  | .iff => "iff"
def Op.sign : Op → Str
  | .and => "&"
  | .or => "|"
  | .imp => "->"
  | .iff => "<->"
def qWord (a : Bool) : Str := if a = true then "all" else "some"
inductive Fm where
  | tt (b : Bool)
  | eq (l r : Ter)
  | neg (f : Fm)
  | bin (o : Op) (f g : Fm)
  | qu (a : Bool) (x : Str) (f : Fm)
def Fm.ter : Fm → Ter
  | .tt b => .ap (if b = true then "true" else "false") []
  | .eq l r => .ap "equal" [l, r]
  | .neg f => .ap "not" [f.ter]
  | .bin o f g => .ap o.word [f.ter, g.ter]
  | .qu a x f => .ap (qWord a) [.var (.inr x), f.ter]
def Fm.high : Fm → Nat
  | .tt _ => 1
  | .eq _ _ => 1
  | .neg f => f.high + 1
  | .bin _ f g => max f.high g.high + 1
  | .qu _ _ f => f.high + 1
def Fm.all (R : Ter → Prop) (S : Str → Prop) : Fm → Prop
  | .tt _ => True
  | .eq l r => R l ∧ R r
  | .neg f => f.all R S
  | .bin _ f g => f.all R S ∧ g.all R S
  | .qu _ x f => S x ∧ f.all R S
def showF : Fm → Str
  | .tt b => if b = true then "true" else "false"
  | .eq l r => showL true l r
  | .neg (.eq l r) => showL false l r
  | .neg f => ("~" : Str) ++ showF f
  | .bin o f g => ("(" : Str) ++ (showF f ++ ((" " : Str) ++ (o.sign ++ ((" " : Str) ++ (showF g ++ (")" : Str))))))
  | .qu a x f => ("(" : Str) ++ (qWord a ++ ((" " : Str) ++ (x ++ ((": " : Str) ++ (showF f ++ (")" : Str))))))
end Own
namespace Own
open PySem PySem.Spec PyProof.Rows L2 RT HT

def fmTer (t : Ter) : Prop := t.wf shSym shKey ∧ t.nest ≤ 60 ∧ t.size ≤ 200
def fmStr (x : Str) : Prop := x.length ≤ 40
theorem showL_len2 {b : Bool} {l r : Ter} (h1 : l.wf shSym shKey) (h2 : r.wf shSym shKey) (s1 : l.size ≤ 200) (s2 : r.size ≤ 200) : (showL b l r).length ≤ 25000 := by
  have q1 := showT_len l h1
  have q2 := showT_len r h2
  have z1 : ("~" : Str).length = 1 := by decide +kernel
  have z2 : (" = " : Str).length = 3 := by decide +kernel
  have z3 : (" != " : Str).length = 4 := by decide +kernel
  unfold showL
  split
  · split
    · omega
    · rw [app_len, z1]; omega
  · rw [app_len, app_len]
    split
    · rw [z2]; omega
    · rw [z3]; omega
theorem lens : ("(" : Str).length = 1 ∧ (")" : Str).length = 1 ∧ (" " : Str).length = 1 ∧ (": " : Str).length = 2 ∧ ("~" : Str).length = 1 := by decide +kernel
theorem sign_len (o : Op) : o.sign.length ≤ 3 := by cases o <;> decide +kernel
theorem q_len (a : Bool) : (qWord a).length ≤ 4 := by cases a <;> decide +kernel
theorem two_max (a b : Nat) : 2 ^ a ≤ 2 ^ max a b ∧ 2 ^ b ≤ 2 ^ max a b := ⟨Nat.pow_le_pow_right (by decide) (Nat.le_max_left _ _), Nat.pow_le_pow_right (by decide) (Nat.le_max_right _ _)⟩
theorem showF_len : ∀ f : Fm, f.all fmTer fmStr → (showF f).length + 60 ≤ 25100 * 2 ^ f.high
  | .tt b, _ => by
    show (if b = true then ("true" : Str) else "false").length + 60 ≤ 25100 * 2 ^ 1
    have z1 : ("true" : Str).length = 4 := by decide +kernel
    have z2 : ("false" : Str).length = 5 := by decide +kernel
    split <;> omega
  | .eq l r, h => by
    have q := showL_len2 (b := true) h.1.1 h.2.1 h.1.2.2 h.2.2.2
    show (showL true l r).length + 60 ≤ 25100 * 2 ^ 1
    omega
  | .neg (.eq l r), h => by
    have q := showL_len2 (b := false) h.1.1 h.2.1 h.1.2.2 h.2.2.2
    show (showL false l r).length + 60 ≤ 25100 * 2 ^ 2
    omega
  | .neg (.tt b), h => neg_len (.tt b) (showF_len (.tt b) h)
  | .neg (.neg f), h => neg_len (.neg f) (showF_len (.neg f) h)
  | .neg (.bin o f g), h => neg_len (.bin o f g) (showF_len (.bin o f g) h)
  | .neg (.qu a x f), h => neg_len (.qu a x f) (showF_len (.qu a x f) h)
  | .bin o f g, h => by
    have q1 := showF_len f h.1
    have q2 := showF_len g h.2
    obtain ⟨z1, z2, z3, z4, z5⟩ := lens
    have z6 := sign_len o
    obtain ⟨m1, m2⟩ := two_max f.high g.high
    show (("(" : Str) ++ (showF f ++ ((" " : Str) ++ (o.sign ++ ((" " : Str) ++ (showF g ++ (")" : Str))))))).length + 60 ≤ 25100 * 2 ^ (max f.high g.high + 1)
    rw [app_len, app_len, app_len, app_len, app_len, app_len, Nat.pow_succ]
    omega
  | .qu a x f, h => by
    have q1 := showF_len f h.2
    have q2 : x.length ≤ 40 := h.1
    obtain ⟨z1, z2, z3, z4, z5⟩ := lens
    have z6 := q_len a
    have p : 1 ≤ 2 ^ f.high := Nat.one_le_two_pow
    show (("(" : Str) ++ (qWord a ++ ((" " : Str) ++ (x ++ ((": " : Str) ++ (showF f ++ (")" : Str))))))).length + 60 ≤ 25100 * 2 ^ (f.high + 1)
    rw [app_len, app_len, app_len, app_len, app_len, app_len, Nat.pow_succ]
    omega
where
  neg_len (f : Fm) (h : (showF f).length + 60 ≤ 25100 * 2 ^ f.high) : (("~" : Str) ++ showF f).length + 60 ≤ 25100 * 2 ^ (f.high + 1) := by
    obtain ⟨z1, z2, z3, z4, z5⟩ := lens
    have p : 1 ≤ 2 ^ f.high := Nat.one_le_two_pow
    rw [app_len, Nat.pow_succ]
    omega
def Fm.isEq : Fm → Bool
  | .eq _ _ => true
  | _ => false
theorem showF_neg {f : Fm} (h : f.isEq = false) : showF (.neg f) = ("~" : Str) ++ showF f := by
  cases f with
  | eq l r => cases h
  | _ => rfl
theorem zB {n : Nat} (h : n ≤ 16000000) : n ≤ sizeLine := Nat.le_trans h (by decide)
def Fm.head : Fm → Str
  | .tt b => if b = true then "true" else "false"
  | .eq _ _ => "equal"
  | .neg _ => "not"
  | .bin o _ _ => o.word
  | .qu a _ _ => qWord a
def Fm.tail : Fm → List Ter
  | .tt _ => []
  | .eq l r => [l, r]
  | .neg f => [f.ter]
  | .bin _ f g => [f.ter, g.ter]
  | .qu _ x f => [.var (.inr x), f.ter]
theorem fm_ter (f : Fm) : f.ter = .ap f.head f.tail := by cases f <;> rfl
theorem fm_at {H : Hp} {v : V} {f : Fm} (h : TmAt H v f.ter) : ∃ a xs, v = .ref a ∧ H a = some (.tup (.str f.head :: xs)) ∧ TmAll H xs f.tail := by
  rw [fm_ter] at h
  cases h with
  | ap e hs => exact ⟨_, _, rfl, e, hs⟩
theorem headN {f : Fm} {s : Str} {b : Bool} (w : Str) (h : f.head = w) (d : (w == s) = b) : (f.head == s) = b := by
  rw [h]
  exact d
theorem head_eq (f : Fm) : (f.head == ("equal" : Str)) = f.isEq := by
  cases f with
  | tt b => cases b <;> decide +kernel
  | eq l r => exact headN (b := true) "equal" rfl (by decide +kernel)
  | neg f => exact headN (b := false) "not" rfl (by decide +kernel)
  | bin o f g => exact headN (b := false) o.word rfl (by cases o <;> decide +kernel)
  | qu a x f => exact headN (b := false) (qWord a) rfl (by cases a <;> decide +kernel)
theorem all_two {H : Hp} {xs : List V} {a b : Ter} (h : TmAll H xs [a, b]) : ∃ x y, xs = [x, y] ∧ TmAt H x a ∧ TmAt H y b := by
  cases h with
  | cons h1 h2 =>
    cases h2 with
    | cons h3 h4 =>
      cases h4
      exact ⟨_, _, rfl, h1, h3⟩
theorem all_one {H : Hp} {xs : List V} {a : Ter} (h : TmAll H xs [a]) : ∃ x, xs = [x] ∧ TmAt H x a := by
  cases h with
  | cons h1 h2 =>
    cases h2
    exact ⟨_, rfl, h1⟩
theorem all_nil {H : Hp} {xs : List V} (h : TmAll H xs []) : xs = [] := by cases h; rfl
theorem at_1 {x y : V} {zs : List V} : atI (x :: y :: zs) 1 = some y := atI_nat (j := 1) rfl
theorem at_2 {x y z : V} {zs : List V} : atI (x :: y :: z :: zs) 2 = some z := atI_nat (j := 2) rfl
end Own
namespace Own
open PySem PySem.Spec PyProof.Rows L2 RT HT

abbrev NAMES5 : List Str := ["X", "Y", "Zeta", "X1", "W_0"]
def nameVar (k : Key) : Prop := ∃ x, k = .inr x ∧ x ∈ NAMES5
theorem name_sh (k : Key) (h : nameVar k) : shKey k := by
  obtain ⟨x, rfl, hx⟩ := h
  have a : ∀ x ∈ NAMES5, x.length ≤ 40 ∧ PyData.strOk x = true := by decide +kernel
  exact a x hx
theorem num_sh (k : Key) (h : numVar k) : shKey k := by
  obtain ⟨r, rfl, h0, h1⟩ := h
  exact ⟨h0, h1⟩
theorem sym_sh {ws : List Str} (hw : Words ws) (f : Str) (n : Nat) (h : symOf ws f n) : shSym f n := by
  obtain ⟨i, _, e, _⟩ := h
  have o := hw.ok f (List.mem_of_getElem? e)
  exact ⟨o.len, wordok_str o⟩
theorem word_sh {ws : List Str} (hw : Words ws) {f : Str} {n : Nat} (h : f ∈ ws) : shSym f n := ⟨(hw.ok f h).len, wordok_str (hw.ok f h)⟩
theorem true_sh : trueT.wf shSym shKey := ⟨⟨by decide +kernel, by decide +kernel⟩, trivial⟩
/-- the law's own joining of a literal -/
theorem joinC (c : List Lit) : showC c = c.map fun x => showL x.1 x.2.1 x.2.2 := rfl
theorem showC_snoc (c : List Lit) (x : Lit) : showC (c ++ [x]) = showC c ++ [showL x.1 x.2.1 x.2.2] := by
  unfold showC
  rw [List.map_append]
  rfl
end Own
namespace Own
open PySem PySem.Spec PyProof.Rows L2 HT
/-! ### terms with the places where they stand, and what a match binds -/
inductive DTer where
  | var (k : Key)
  | ap (p : Addr) (f : Str) (as : List DTer)
def DTer.val : DTer → V
  | .var k => kV k
  | .ap p _ _ => .ref p
mutual
def DTer.ter : DTer → Ter
  | .var k => .var k
  | .ap _ f as => .ap f (DTer.ters as)
def DTer.ters : List DTer → List Ter
  | [] => []
  | a :: r => a.ter :: DTer.ters r
end
mutual
def DAt (H : Hp) : DTer → Prop
  | .var _ => True
  | .ap p f as => H p = some (.tup (.str f :: as.map DTer.val)) ∧ DAts H as
def DAts (H : Hp) : List DTer → Prop
  | [] => True
  | a :: r => DAt H a ∧ DAts H r
end
mutual
theorem DAt.mono {H H' : Hp} (m : Tups H H') : ∀ d : DTer, DAt H d → DAt H' d
  | .var _, _ => trivial
  | .ap p f as, h => ⟨m _ _ h.1, DAts.mono m as h.2⟩
theorem DAts.mono {H H' : Hp} (m : Tups H H') : ∀ ds : List DTer, DAts H ds → DAts H' ds
  | [], _ => trivial
  | a :: r, h => ⟨DAt.mono m a h.1, DAts.mono m r h.2⟩
end
mutual
theorem DAt.tm {H : Hp} : ∀ d : DTer, DAt H d → TmAt H d.val d.ter
  | .var (.inl i), _ => .int i
  | .var (.inr x), _ => .str x
  | .ap p f as, h => .ap h.1 (DAts.tm as h.2)
theorem DAts.tm {H : Hp} : ∀ ds : List DTer, DAts H ds → TmAll H (ds.map DTer.val) (DTer.ters ds)
  | [], _ => .nil
  | a :: r, h => .cons (DAt.tm a h.1) (DAts.tm r h.2)
end
mutual
theorem TmAt.deco {H : Hp} : ∀ (t : Ter) (v : V), TmAt H v t → ∃ d : DTer, d.val = v ∧ d.ter = t ∧ DAt H d
  | .var k, v, h => by
    cases h with
    | int i => exact ⟨.var (.inl i), rfl, rfl, trivial⟩
    | str x => exact ⟨.var (.inr x), rfl, rfl, trivial⟩
  | .ap f as, v, h => by
    cases h with
    | @ap p _ xs _ e hs =>
      obtain ⟨ds, e1, e2, h2⟩ := TmAll.deco as xs hs
      subst e1
      subst e2
      exact ⟨.ap p f ds, rfl, rfl, e, h2⟩
theorem TmAll.deco {H : Hp} : ∀ (ts : List Ter) (vs : List V), TmAll H vs ts → ∃ ds : List DTer, ds.map DTer.val = vs ∧ DTer.ters ds = ts ∧ DAts H ds
  | [], vs, h => by
    cases h
    exact ⟨[], rfl, rfl, trivial⟩
  | t :: ts, vs, h => by
    cases h with
    | cons a r =>
      obtain ⟨d, e1, e2, h1⟩ := TmAt.deco t _ a
      obtain ⟨ds, e3, e4, h2⟩ := TmAll.deco ts _ r
      subst e1
      subst e2
      subst e3
      subst e4
      exact ⟨d :: ds, rfl, rfl, h1, h2⟩
end
theorem ters_len : ∀ ds : List DTer, (DTer.ters ds).length = ds.length
  | [] => rfl
  | _ :: r => congrArg (· + 1) (ters_len r)
theorem ters_get : ∀ (ds : List DTer) (i : Nat), (DTer.ters ds)[i]? = (ds[i]?).map DTer.ter
  | [], i => by simp [DTer.ters]
  | a :: r, 0 => by simp [DTer.ters]
  | a :: r, i + 1 => by simp [DTer.ters, ters_get r i]
theorem DAts.get {H : Hp} : ∀ {ds : List DTer} {i : Nat} {d : DTer}, DAts H ds → ds[i]? = some d → DAt H d
  | [], _, _, _, e => by simp at e
  | a :: r, 0, d, h, e => by simp at e; exact e ▸ h.1
  | a :: r, i + 1, d, h, e => DAts.get (ds := r) (i := i) h.2 (by simpa using e)
abbrev Bd := List (Key × DTer)
def bKvs (B : Bd) : List (Key × V) := B.map fun e => (e.1, e.2.val)
def look (B : Bd) (k : Key) : Option DTer := (B.find? fun e => decide (e.1 = k)).map (·.2)
theorem look_val : ∀ (B : Bd) (k : Key), valV (bKvs B) k = (look B k).map DTer.val
  | [], k => rfl
  | e :: r, k => by
    by_cases h : e.1 = k
    · rw [show bKvs (e :: r) = (e.1, e.2.val) :: bKvs r from rfl, valV_pos (p := (e.1, e.2.val)) h]
      unfold look
      rw [List.find?_cons, decide_eq_true h]
      rfl
    · rw [show bKvs (e :: r) = (e.1, e.2.val) :: bKvs r from rfl, valV_neg (p := (e.1, e.2.val)) h, look_val r k]
      unfold look
      rw [List.find?_cons, decide_eq_false h]
theorem look_mem {B : Bd} {k : Key} {u : DTer} (h : look B k = some u) : (k, u) ∈ B := by
  unfold look at h
  cases e : B.find? fun e => decide (e.1 = k) with
  | none => rw [e] at h; cases h
  | some p =>
    rw [e] at h
    have h1 := List.find?_some e
    have h2 := List.mem_of_find?_eq_some e
    have h3 : p.1 = k := of_decide_eq_true h1
    have h4 : p.2 = u := Option.some.inj h
    rw [← h3, ← h4]
    exact h2
mutual
def mtch : Ter → DTer → Bd → Bool × Bd
  | .var k, u, B => match look B k with
    | some s => (PyData.eqv s.ter.dat u.ter.dat, B)
    | none => (true, B ++ [(k, u)])
  | .ap g as, u, B => match u with
    | .var _ => (false, B)
    | .ap _ h bs => if g = h ∧ as.length = bs.length then mtchs as bs B else (false, B)
def mtchs : List Ter → List DTer → Bd → Bool × Bd
  | [], _, B => (true, B)
  | a :: as, us, B => match us with
    | [] => (true, B)
    | b :: bs => if (mtch a b B).1 = true then mtchs as bs (mtch a b B).2 else (false, (mtch a b B).2)
end
theorem val_of_mem : ∀ {kvs : List (Key × V)} {e : Key × V}, (kvs.map (·.1)).Nodup → e ∈ kvs → valV kvs e.1 = some e.2
  | [], _, _, h => by cases h
  | p :: r, e, hn, h => by
    have hn : p.1 ∉ r.map (·.1) ∧ (r.map (·.1)).Nodup := List.nodup_cons.mp hn
    rcases List.mem_cons.mp h with rfl | h
    · exact valV_pos rfl
    · have n : ¬ p.1 = e.1 := fun z => hn.1 (z ▸ List.mem_map_of_mem h)
      rw [valV_neg n]
      exact val_of_mem hn.2 h
/-- small symbols of at most two arguments -/
def s7 (f : Str) (n : Nat) : Prop := shSym f n ∧ n ≤ 2
theorem s7_sh : ∀ t : Ter, t.wf s7 numVar → t.wf shSym shKey := wf_mono (fun _ _ h => h.1) (fun k h => by
  obtain ⟨r, rfl, h1, h2⟩ := h
  exact ⟨h1, h2⟩)
structure Gd (H : Hp) (u : DTer) (N : Nat) : Prop where
  at_ : DAt H u
  wf : u.ter.wf s7 numVar
  ne : u.ter.nest ≤ N
theorem Gd.mono {H H' : Hp} {u : DTer} {N : Nat} (g : Gd H u N) (m : Tups H H') : Gd H' u N := ⟨DAt.mono m _ g.at_, g.wf, g.ne⟩
structure BOk (H : Hp) (B : Bd) (N : Nat) : Prop where
  nd : (B.map (·.1)).Nodup
  al : ∀ e ∈ B, (∃ i, e.1 = .inl i ∧ 0 ≤ i) ∧ Gd H e.2 N
theorem BOk.mono {H H' : Hp} {B : Bd} {N : Nat} (g : BOk H B N) (m : Tups H H') : BOk H' B N := ⟨g.nd, fun e h => ⟨(g.al e h).1, (g.al e h).2.mono m⟩⟩
theorem look_none {B : Bd} {k : Key} (h : look B k = none) : k ∉ B.map (·.1) := by
  intro z
  obtain ⟨e, he, h2⟩ := List.mem_map.mp z
  unfold look at h
  cases q : B.find? fun e => decide (e.1 = k) with
  | none =>
    have := List.find?_eq_none.mp q e he
    exact this (decide_eq_true h2)
  | some p => rw [q] at h; cases h
theorem BOk.snoc {H : Hp} {B : Bd} {N : Nat} (g : BOk H B N) {i : Int} (hi : 0 ≤ i) {u : DTer} (hu : Gd H u N) (h : look B (.inl i) = none) : BOk H (B ++ [(.inl i, u)]) N := by
  refine ⟨?_, fun e he => ?_⟩
  · rw [List.map_append]
    exact nd_snoc g.nd (look_none h)
  · rcases List.mem_append.mp he with he | he
    · exact g.al e he
    · rcases List.mem_cons.mp he with rfl | he
      · exact ⟨⟨i, rfl, hi⟩, hu⟩
      · cases he
mutual
theorem mtch_ok {H : Hp} {N : Nat} : ∀ (p : Ter) (u : DTer) (B : Bd), p.wf s7 numVar → Gd H u N → BOk H B N → BOk H (mtch p u B).2 N ∧ (mtch p u B).2.length ≤ B.length + p.size
  | .var k, u, B, hp, hu, hB => by
    obtain ⟨r, rfl, h1, h2⟩ := hp
    unfold mtch
    cases e : look B (.inl r) with
    | some s => exact ⟨hB, Nat.le_add_right _ _⟩
    | none => exact ⟨hB.snoc h1 hu e, by rw [List.length_append]; exact Nat.le_refl _⟩
  | .ap g as, u, B, hp, hu, hB => by
    unfold mtch
    cases u with
    | var k => exact ⟨hB, Nat.le_add_right _ _⟩
    | ap q h bs =>
      show BOk H (if g = h ∧ as.length = bs.length then mtchs as bs B else (false, B)).2 N ∧ (if g = h ∧ as.length = bs.length then mtchs as bs B else (false, B)).2.length ≤ _
      by_cases c : g = h ∧ as.length = bs.length
      · rw [if_pos c]
        have hn : Ter.nests (DTer.ters bs) + 1 ≤ N := hu.ne
        obtain ⟨a, b⟩ := mtchs_ok as bs B hp.2 hu.at_.2 hu.wf.2 (by omega) hB
        exact ⟨a, Nat.le_trans b (Nat.add_le_add_left (Nat.le_succ _) _)⟩
      · rw [if_neg c]
        exact ⟨hB, Nat.le_add_right _ _⟩
theorem mtchs_ok {H : Hp} {N : Nat} : ∀ (ps : List Ter) (us : List DTer) (B : Bd), Ter.wfs s7 numVar ps → DAts H us → Ter.wfs s7 numVar (DTer.ters us) → Ter.nests (DTer.ters us) ≤ N → BOk H B N → BOk H (mtchs ps us B).2 N ∧ (mtchs ps us B).2.length ≤ B.length + Ter.sizes ps
  | [], _, B, _, _, _, _, hB => ⟨hB, Nat.le_add_right _ _⟩
  | a :: as, [], B, _, _, _, _, hB => ⟨hB, Nat.le_add_right _ _⟩
  | a :: as, b :: bs, B, hp, hu, hw, hn, hB => by
    have hn : max b.ter.nest (Ter.nests (DTer.ters bs)) ≤ N := hn
    have z : Ter.sizes (a :: as) = a.size + Ter.sizes as := rfl
    obtain ⟨x, y⟩ := mtch_ok a b B hp.1 ⟨hu.1, hw.1, by omega⟩ hB
    show BOk H (if (mtch a b B).1 = true then mtchs as bs (mtch a b B).2 else (false, (mtch a b B).2)).2 N ∧ (if (mtch a b B).1 = true then mtchs as bs (mtch a b B).2 else (false, (mtch a b B).2)).2.length ≤ _
    by_cases c : (mtch a b B).1 = true
    · rw [if_pos c]
      obtain ⟨x2, y2⟩ := mtchs_ok as bs _ hp.2 hu.2 hw.2 (by omega) x
      exact ⟨x2, by omega⟩
    · rw [if_neg c]
      exact ⟨x, by show (mtch a b B).2.length ≤ _; omega⟩
end
mutual
theorem ter_refl : ∀ t : Ter, PyData.eqv t.dat t.dat = true
  | .var (.inl i) => by show PyData.eqv (.int i) (.int i) = true; simp [PyData.eqv]
  | .var (.inr x) => by show PyData.eqv (.str x) (.str x) = true; simp [PyData.eqv]
  | .ap f as => by
    show PyData.eqv (.tuple (.str f :: Ter.dats as)) (.tuple (.str f :: Ter.dats as)) = true
    rw [PyData.eqv, PyData.eqvAll, ters_refl as]
    simp [PyData.eqv]
theorem ters_refl : ∀ ts : List Ter, PyData.eqvAll (Ter.dats ts) (Ter.dats ts) = true
  | [] => rfl
  | t :: r => by
    show PyData.eqvAll (t.dat :: Ter.dats r) (t.dat :: Ter.dats r) = true
    rw [PyData.eqvAll, ter_refl t, ters_refl r]
    rfl
end
theorem Gd.fine {H : Hp} {u : DTer} (g : Gd H u 40) : SeqAt.shaped u.ter.dat = true := shaped_ter (sh_fine _ (s7_sh _ g.wf)) (by have := g.ne; omega)
theorem But.tupsK {d : Addr} {H H' : Hp} {kvs : List (Key × V)} (a : But d H H') (h : H d = some (.dK kvs)) : Tups H H' := fun b xs e => a b _ (ne_of e h (by intro z; cases z)) e
end Own
namespace K07
open PySem PySem.Spec PyProof.Rows L2 Own HT
def topS (i : Nat) : Stmt := PySem.Challenge.pw_elenchus_k07_match.main.body.getD i (.Pass ⟨0, 0, 0, 0⟩)
abbrev s_is_variable : Stmt := topS 1
abbrev s_match : Stmt := topS 3
abbrev s_match_all : Stmt := topS 4
abbrev s_matches : Stmt := topS 5
abbrev s__law_state : Stmt := topS 7
abbrev s__law_draw : Stmt := topS 8
abbrev s__law_term : Stmt := topS 9
abbrev s__law_is_integer : Stmt := topS 10
abbrev s__law_is_term : Stmt := topS 11
abbrev s__law_is_substitution : Stmt := topS 12
abbrev s__law_replaced : Stmt := topS 13
abbrev s__law_matches : Stmt := topS 14
abbrev s__law_substitution : Stmt := topS 15
abbrev s__law_due : Stmt := topS 16
abbrev s__law_right : Stmt := topS 17
abbrev s__law_pairs : Stmt := topS 18
abbrev s_law : Stmt := topS 19
structure Df (K : PySem.W.Frag) (mg : Str → Option Value) (x : Str) (st : Stmt) (ps : List Str) (f : Addr) (fd : FuncData) : Prop where
  F : Fun K x x st f fd
  b : Binds K fd ps []
  m : mg x = some (.ref f)
section
variable {P : Program} {w : World} {K : PySem.W.Frag} {mg : Str → Option Value} {base : Heap}
/-! ### is_variable -/
def spIsVar : Sp := fun vs H Q _ => ∃ v t, vs = [v] ∧ TmAt H v t ∧ Q (.bl t.isVar) H
theorem sc_is_variable : FnScope ["term"] ["term"] (defScope s_is_variable) := ⟨rfl, rfl, rfl, by decide +kernel, rfl, by decide +kernel, by decide +kernel⟩
theorem ok_is_variable {f : Addr} {fd : FuncData} (D : Df K mg "is_variable" s_is_variable ["term"] f fd) (mi : mg "isinstance" = none) (mt : mg "tuple" = none) : FnOk P w K mg base CX0 1 f fd ["term"] spIsVar := by
  refine D.F.ok sc_is_variable (fun vs H Q E h => ?_) (fun cdv A outer s H vs Q E hr h => ?_)
  · obtain ⟨v, t, rfl, _⟩ := h; rfl
  obtain ⟨v, t, rfl, ht, q⟩ := h
  refine ⟨_, pss_one (ps_ret (pe_not (pe_callB call_isiTer (by rfl) mi (by decide +kernel) (pa_cons (pv 0) (pa_cons (pe_bltn (v := .ty "tuple") (by rfl) mt (by decide +kernel) rfl) pa_nil))))), ?_⟩
  refine ⟨v, rfl, v, t, rfl, ht, _, rfl, ?_⟩
  rw [Bool.not_not]
  exact q
end

/-! ### the state of the draws: a list with the script's copy in it -/
structure Sta (H : Hp) (d c : Addr) : Prop where
  ex : ∃ (ns : List Int) (i : Nat) (r s k : Int), H d = some (.lst [.ref c, .int (i : Nat), .int r, .int s, .int k]) ∧ H c = some (.lst (ns.map V.int)) ∧ c ≠ d
theorem Sta.same {H H' : Hp} {d c : Addr} (h : Sta H d c) (m : Same H H') : Sta H' d c := by
  obtain ⟨ns, i, r, s, k, e, e2, n⟩ := h.ex
  exact ⟨ns, i, r, s, k, m _ _ e, m _ _ e2, n⟩
theorem Sta.lst {H : Hp} {d c : Addr} (h : Sta H d c) : ∃ xs, H d = some (.lst xs) := by
  obtain ⟨ns, i, r, s, k, e, e2, n⟩ := h.ex
  exact ⟨_, e⟩
theorem Sta.ne {H : Hp} {d c p : Addr} (h : Sta H d c) (n : H p = none) : p ≠ d := by
  obtain ⟨xs, e⟩ := h.lst
  exact fun z => by rw [z, e] at n; cases n
theorem Sta.nec {H : Hp} {d c p : Addr} (h : Sta H d c) (n : H p = none) : p ≠ c := by
  obtain ⟨ns, i, r, s, k, e, e2, _⟩ := h.ex
  exact fun z => by rw [z, e2] at n; cases n
theorem Sta.tups {H H' : Hp} {d c : Addr} (h : Sta H d c) (b : But d H H') : Tups H H' := by
  obtain ⟨xs, e⟩ := h.lst
  exact b.tups e
/-- another place changes -/
theorem Sta.upd {H : Hp} {d c p : Addr} {o : HO} (h : Sta H d c) (n1 : p ≠ d) (n2 : p ≠ c) : Sta (upd H p o) d c := by
  obtain ⟨ns, i, r, s, k, e1, e2, n⟩ := h.ex
  refine ⟨ns, i, r, s, k, ?_, ?_, n⟩
  · rw [upd_ne n1.symm]; exact e1
  · rw [upd_ne n2.symm]; exact e2
/-- a dict changes -/
theorem Sta.updD {H : Hp} {d c p : Addr} {o : HO} {kvs : List (Key × V)} (h : Sta H d c) (e : H p = some (.dK kvs)) : Sta (L2.upd H p o) d c := by
  obtain ⟨ns, i, r, s, k, e1, e2, n⟩ := h.ex
  exact h.upd (fun z => by rw [z, e1] at e; cases e) (fun z => by rw [z, e2] at e; cases e)
section
variable {P : Program} {w : World} {K : PySem.W.Frag} {mg : Str → Option Value} {base : Heap}
def spState (K : PySem.W.Frag) : Sp := fun vs H Q _ => ∃ (a : Addr) (ns : List Int), vs = [.ref a] ∧ SqL K H a (ns.map V.int) ∧ ns.length ≤ 63 ∧ ∀ (p c : Addr) (H' : Hp), Same H H' → H p = none → H c = none → Sta H' p c → Q (.ref p) H'
theorem sc_law_state : FnScope ["script"] ["script"] (defScope s__law_state) := ⟨rfl, rfl, rfl, by decide +kernel, rfl, by decide +kernel, by decide +kernel⟩
theorem ok_law_state {f : Addr} {fd : FuncData} (D : Df K mg "_law_state" s__law_state ["script"] f fd) (mli : mg "list" = none) : FnOk P w K mg base CX0 1 f fd ["script"] (spState K) := by
  refine D.F.ok sc_law_state (fun vs H Q E h => ?_) (fun cdv A outer s H vs Q E hr h => ?_)
  · obtain ⟨a, ns, rfl, _⟩ := h; rfl
  obtain ⟨a, ns, rfl, hS, hn, q⟩ := h
  refine ⟨_, pss_one (ps_ret (pe_lst (pa_cons (pe_callTy call_list_of (by rfl) mli (by decide +kernel) (pa_cons (pv 0) pa_nil)) (pa_cons pe_int (pa_cons pe_int (pa_cons pe_int (pa_cons pe_int pa_nil))))))), ?_⟩
  refine ⟨_, rfl, a, _, rfl, .inl hS, fun c nc => ?_⟩
  refine ⟨by show 5 ≤ sizeLine; decide, fun p np => ?_⟩
  have s1 := same_new nc (.lst (ns.map V.int))
  have s2 := same_new np (.lst [.ref c, .int 0, .int 0, .int 1, .int 0])
  have ncp : c ≠ p := fun z => by rw [← z, upd_same] at np; cases np
  have np0 : H p = none := by
    rw [upd_ne ncp.symm] at np
    exact np
  exact q p c _ (s1.trans s2) np0 nc ⟨ns, 0, 0, 1, 0, upd_same, s2 _ _ upd_same, ncp⟩
def spDraw : Sp := fun vs H Q _ => ∃ (d : Addr) (b : Int), vs = [.ref d, .int b] ∧ ∃ c, Sta H d c ∧ 0 < b ∧ b < 1073741824 ∧ ∀ (r : Int) (H' : Hp), 0 ≤ r → r < b → But d H H' → Sta H' d c → Q (.int r) H'
theorem sc_law_draw : FnScope ["state", "many", "value", "cell", "first"] ["state", "many"] (defScope s__law_draw) := ⟨rfl, rfl, rfl, by decide +kernel, rfl, by decide +kernel, by decide +kernel⟩
theorem ok_law_draw {f : Addr} {fd : FuncData} (D : Df K mg "_law_draw" s__law_draw ["state", "many"] f fd) (ml : mg "len" = none) (mint : mg "int" = none) : FnOk P w K mg base CX0 1 f fd ["state", "many"] spDraw := by
  refine D.F.ok sc_law_draw (fun vs H Q E h => ?_) (fun cdv A outer s H vs Q E hr h => ?_)
  · obtain ⟨a, b, rfl, _⟩ := h; rfl
  obtain ⟨d, b, rfl, c, hS, hb, hb2, q⟩ := h
  have nd := sc_law_draw.nd
  refine ⟨_, C8.pss_cut (ps_if (PW.pt (pw_and (pt_cmpR op_gt (pe_ix ix_list (pv 0) pe_int (fun _ _ => rfl)) pe_int (nomark _)) (pw_and1 (pt_cmpR op_gt (pe_ix ix_list (pv 0) pe_int (fun _ _ => rfl)) pe_int (nomark _)))))
      (pss_cons (ps_set (i := 2) nd rfl (.inl rfl) (pe_op op_mod (pe_callTy call_int1 (by rfl) mint (by decide +kernel) (pa_cons (pe_ix ix_list (pv 0) pe_int (fun _ _ => rfl)) pa_nil)) (pv 1)))
      (pss_cons (ps_asg (pe_op op_fdiv (pe_ix ix_list (pv 0) pe_int (fun _ _ => rfl)) (pv 1)) (pg_sub (pv 0) pe_int set_list))
      (pss_cons (ps_asg (pe_op op_sub (pe_ix ix_list (pv 0) pe_int (fun _ _ => rfl)) pe_int) (pg_sub (pv 0) pe_int set_list))
      (pss_one (ps_ret (pv 2)))))) pss_nil)
    (pss_cons (ps_set (i := 3) nd rfl (.inl rfl) (pe_op op_add (pe_ix ix_list (pv 0) pe_int (fun _ _ => rfl)) (pe_op op_mul pe_int (pe_ix ix_list (pv 0) pe_int (fun _ _ => rfl)))))
    (C8.pss_cut (ps_if (pt_cmpR op_lt (pe_ix ix_list (pv 0) pe_int (fun _ _ => rfl)) (pe_callB call_len_seq (by rfl) ml PySem.boot_len (pa_cons (pe_ix ix_list (pv 0) pe_int (fun _ _ => rfl)) pa_nil)) (nomark _))
      (pss_one (ps_set (i := 3) nd rfl (.inl rfl) (pe_ix ix_list (pe_ix ix_list (pv 0) pe_int (fun _ _ => rfl)) (pe_ix ix_list (pv 0) pe_int (fun _ _ => rfl)) (fun _ _ => rfl)))) pss_nil)
    (pss_cons (ps_asg (pe_op op_add (pe_ix ix_list (pv 0) pe_int (fun _ _ => rfl)) pe_int) (pg_sub (pv 0) pe_int set_list))
    (pss_cons (ps_if (pt_cmpR op_ge (pv 3) (pe_op op_pow pe_int pe_int) (nomark _))
      (pss_cons (ps_asg (pe_op op_fdiv (pv 3) (pv 1)) (pg_sub (pv 0) pe_int set_list))
      (pss_cons (ps_asg pe_int (pg_sub (pv 0) pe_int set_list))
      (pss_one (ps_ret (pe_op op_mod (pe_callTy call_int1 (by rfl) mint (by decide +kernel) (pa_cons (pv 3) pa_nil)) (pv 1)))))) pss_nil)
    (pss_cons (ps_set (i := 4) nd rfl (.inl rfl) (pe_op op_mod (pe_callTy call_int1 (by rfl) mint (by decide +kernel) (pa_cons (pe_op op_add (pe_op op_add (pe_op op_mul (pv 3) pe_int) (pe_op op_mul (pe_ix ix_list (pv 0) pe_int (fun _ _ => rfl)) pe_int)) (pe_ix ix_list (pv 0) pe_int (fun _ _ => rfl))) pa_nil)) pe_int))
    (pss_cons (ps_asg (pe_op op_mod (pe_callTy call_int1 (by rfl) mint (by decide +kernel) (pa_cons (pe_op op_add (pe_op op_add (pe_op op_mul (pv 4) pe_int) (pe_op op_mul (pv 4) (pv 4))) pe_int) pa_nil)) pe_int) (pg_sub (pv 0) pe_int set_list))
    (pss_one (ps_ret (pe_op op_mod (pe_callTy call_int1 (by rfl) mint (by decide +kernel) (pa_cons (pe_op op_fdiv (pe_ix ix_list (pv 0) pe_int (fun _ _ => rfl)) pe_int) pa_nil)) (pv 1)))))))))), ?_⟩
  obtain ⟨ns, i, r, z, k, e, ec, ncd⟩ := hS.ex
  have L : ∀ {H' : Hp} {xs : List V}, H' d = some (.lst xs) → SqL K H' d xs := fun e => .inl (.inl e)
  have i0 : ∀ {a0 a1 a2 a3 a4 : V}, atI [a0, a1, a2, a3, a4] 0 = some a0 := atI_nat (j := 0) rfl
  have i1 : ∀ {a0 a1 a2 a3 a4 : V}, atI [a0, a1, a2, a3, a4] 1 = some a1 := atI_nat (j := 1) rfl
  have i2 : ∀ {a0 a1 a2 a3 a4 : V}, atI [a0, a1, a2, a3, a4] 2 = some a2 := atI_nat (j := 2) rfl
  have i3 : ∀ {a0 a1 a2 a3 a4 : V}, atI [a0, a1, a2, a3, a4] 3 = some a3 := atI_nat (j := 3) rfl
  have i4 : ∀ {a0 a1 a2 a3 a4 : V}, atI [a0, a1, a2, a3, a4] 4 = some a4 := atI_nat (j := 4) rfl
  have up : ∀ {H' : Hp} {xs : List V}, H' c = some (.lst (ns.map V.int)) → (upd H' d (.lst xs)) c = some (.lst (ns.map V.int)) := fun h => by rw [upd_ne ncd]; exact h
  have fin : ∀ (H' : Hp) (i' : Nat) (r' s' k' : Int) (x : Int), But d H H' → H' d = some (.lst [.ref c, .int (i' : Nat), .int r', .int s', .int k']) → Q (.int (x % b)) H' := fun H' i' r' s' k' x b1 e1 => q _ _ (Int.emod_nonneg _ (by omega)) (Int.emod_lt_of_pos _ hb) b1 ⟨ns, i', r', s', k', e1, b1 _ _ ncd ec, ncd⟩
  have dv : CDiv 0 b := ⟨hb, hb2⟩
  refine ⟨fun σ H1 => σ = [some (.ref d), some (.int b), none, none, none] ∧ H1 = H, ?_, fun σ H1 h => ?_⟩
  · refine ⟨_, rfl, d, _, 4, _, rfl, rfl, L e, i4, _, _, rfl, rfl, _, rfl, ?_⟩
    refine ite2 (fun _ => ?_) (fun _ => ite2 (fun z => absurd z (by decide)) (fun _ => ⟨rfl, rfl⟩))
    refine ⟨_, rfl, d, _, 2, _, rfl, rfl, L e, i2, _, _, rfl, rfl, _, rfl, ite2 (fun _ => ?_) (fun _ => ⟨rfl, rfl⟩)⟩
    refine ⟨_, rfl, d, _, 2, _, rfl, rfl, L e, i2, .inl ⟨_, rfl, _, rfl, _, _, rfl, rfl, hb, ?_⟩⟩
    refine ⟨_, rfl, d, _, 2, _, rfl, rfl, L e, i2, _, rfl, _, _, rfl, rfl, dv, _, rfl, d, _, 2, 2, rfl, rfl, e, rfl, ?_⟩
    refine ⟨_, rfl, d, _, 4, _, rfl, rfl, L upd_same, i4, _, _, rfl, rfl, _, rfl, d, _, 4, 4, rfl, rfl, upd_same, rfl, ?_⟩
    exact ⟨_, rfl, fin _ i _ z _ _ (But.upd.trans But.upd) upd_same⟩
  obtain ⟨rfl, rfl⟩ := h
  refine ⟨_, rfl, d, _, 3, _, rfl, rfl, L e, i3, _, rfl, d, _, 1, _, rfl, rfl, L e, i1, _, _, rfl, rfl, .inl ⟨by decide, by decide⟩, _, _, rfl, rfl, ?_⟩
  refine ⟨fun σ H2 => ∃ x : Int, σ = [some (.ref d), some (.int b), none, some (.int x), none] ∧ H2 = H1, ?_, fun σ H2 h => ?_⟩
  · refine ⟨_, rfl, d, _, 1, _, rfl, rfl, L e, i1, _, rfl, d, _, 0, _, rfl, rfl, L e, i0, c, _, rfl, .inl (.inl (.inl ec)), _, _, rfl, rfl, _, rfl, ite2 (fun lt => ?_) (fun _ => ⟨_, rfl, rfl⟩)⟩
    have lt : i < ns.length := by
      have := of_decide_eq_true lt
      rw [List.length_map] at this
      omega
    refine ⟨_, rfl, d, _, 0, _, rfl, rfl, L e, i0, _, rfl, d, _, 1, _, rfl, rfl, L e, i1, c, _, _, .int ns[i], rfl, rfl, .inl (.inl ec), atI_nat (j := i) (by rw [List.getElem?_map, List.getElem?_eq_getElem lt]; rfl), _, rfl, rfl⟩
  obtain ⟨x, rfl, rfl⟩ := h
  refine ⟨_, rfl, d, _, 1, _, rfl, rfl, L e, i1, _, _, rfl, rfl, _, rfl, d, _, 1, 1, rfl, rfl, e, rfl, ?_⟩
  have u1 : ∀ {xs : List V}, (upd H2 d (.lst xs)) d = some (.lst xs) := upd_same
  refine ⟨_, rfl, _, _, rfl, rfl, ⟨by decide, by decide, by decide⟩, _, _, rfl, rfl, _, rfl, ite2 (fun _ => ?_) (fun _ => ?_)⟩
  · refine ⟨_, rfl, _, rfl, _, _, rfl, rfl, dv, _, rfl, d, _, 2, 2, rfl, rfl, u1, rfl, ?_⟩
    refine ⟨_, rfl, d, _, 4, 4, rfl, rfl, upd_same, rfl, ?_⟩
    exact ⟨_, rfl, .inl ⟨_, rfl, _, rfl, _, _, rfl, rfl, hb, fin _ (i + 1) _ _ _ _ (But.upd.trans (But.upd.trans But.upd)) upd_same⟩⟩
  · refine ⟨_, rfl, _, _, rfl, rfl, .inr ⟨by decide, by decide⟩, _, rfl, d, _, 1, _, rfl, rfl, L u1, i1, _, _, rfl, rfl, .inr ⟨by decide, by decide⟩, _, _, rfl, rfl, _, rfl, d, _, 3, _, rfl, rfl, L u1, i3, _, _, rfl, rfl, .inl ⟨_, rfl, _, _, rfl, rfl, (by show (0 : Int) < 2147483647; decide), ?_⟩⟩
    have y1 : -(2 ^ 64) < (x * 48271 + ((i : Int) + 1) * 69621 + z) % 2147483647 ∧ (x * 48271 + ((i : Int) + 1) * 69621 + z) % 2147483647 < 2 ^ 64 := by
      have q1 := Int.emod_nonneg (x * 48271 + ((i : Int) + 1) * 69621 + z) (show (2147483647 : Int) ≠ 0 by decide)
      have q2 := Int.emod_lt_of_pos (x * 48271 + ((i : Int) + 1) * 69621 + z) (show (0 : Int) < 2147483647 by decide)
      omega
    refine ⟨_, rfl, _, _, rfl, rfl, .inr ⟨by decide, by decide⟩, _, rfl, _, rfl, _, _, rfl, rfl, .inl y1, _, _, rfl, rfl, _, _, rfl, rfl, .inl ⟨_, rfl, _, _, rfl, rfl, (by show (0 : Int) < 2147483629; decide), ?_⟩⟩
    refine ⟨_, rfl, d, _, 3, 3, rfl, rfl, u1, rfl, ?_⟩
    refine ⟨_, rfl, d, _, 3, _, rfl, rfl, L upd_same, i3, _, _, rfl, rfl, ⟨by decide, by decide⟩, .inl ⟨_, rfl, _, rfl, _, _, rfl, rfl, hb, fin _ (i + 1) _ _ _ _ (But.upd.trans But.upd) upd_same⟩⟩
end

section
variable {P : Program} {w : World} {K : PySem.W.Frag} {mg : Str → Option Value} {base : Heap}
/-! ### _law_term over the state -/
theorem sh1 (x : Str) (h : x.length ≤ 40 := by decide +kernel) (o : PyData.strOk x = true := by decide +kernel) : s7 x 0 ∧ s7 x 1 ∧ s7 x 2 := ⟨⟨⟨h, o⟩, by decide⟩, ⟨⟨h, o⟩, by decide⟩, ⟨⟨h, o⟩, by decide⟩⟩
def spTerm7 (n : Nat) : Sp := fun vs H Q _ => ∃ (d : Addr) (k m : Nat), vs = [.ref d, .int k, .int m] ∧ ∃ c, Sta H d c ∧ k < n ∧ m ≤ 900 ∧
  ∀ v t H', But d H H' → Sta H' d c → TmAt H' v t → t.wf s7 numVar → t.nest ≤ k + 1 → t.size < 2 ^ (k + 1) → Q v H'
theorem sc_law_term : FnScope ["state", "depth", "names", "pick", "leaf", "left"] ["state", "depth", "names"] (defScope s__law_term) := ⟨rfl, rfl, rfl, by decide +kernel, rfl, by decide +kernel, by decide +kernel⟩
theorem ok_law_term1 {f fD : Addr} {fd dD : FuncData} (D : Df K mg "_law_term" s__law_term ["state", "depth", "names"] f fd) (DD : Df K mg "_law_draw" s__law_draw ["state", "many"] fD dD) (GD : FnOk P w K mg base CX0 1 fD dD ["state", "many"] spDraw)
    {n : Nat} (G : FnOk P w K mg base CX0 (n + 1) f fd ["state", "depth", "names"] (spTerm7 n)) : FnOk P w K mg base CX0 (n + 1 + 1) f fd ["state", "depth", "names"] (spTerm7 (n + 1)) := by
  refine D.F.ok sc_law_term (fun vs H Q E h => ?_) (fun cdv A outer s H vs Q E hr h => ?_)
  · obtain ⟨d, k, m, rfl, _⟩ := h; rfl
  obtain ⟨d, k, m, rfl, c, hI, hk, hm, q⟩ := h
  have nd := sc_law_term.nd
  have hr1 : Room 1 _ := hr.mono (by omega)
  refine ⟨_, pss_cons (ps_set (i := 3) nd rfl (.inl rfl) (pe_call GD hr1 (by rfl) DD.m DD.F.kp DD.b .nil pass0 (pa_cons (pv 0) (pa_cons pe_int pa_nil))))
    (pss_cons (ps_if (PW.pt (pw_or (pt_cmpR op_eq (pv 1) pe_int (nomark _)) (pw_or1 (pt_cmpR op_lt (pv 3) pe_int (nomark _)))))
      (pss_cons (ps_set (i := 4) nd rfl (.inl rfl) (pe_call GD hr1 (by rfl) DD.m DD.F.kp DD.b .nil pass0 (pa_cons (pv 0) (pa_cons (pe_op op_add (pv 2) pe_int) pa_nil))))
      (pss_cons (ps_if (pt_cmpR op_lt (pv 4) (pv 2) (nomark _)) (pss_one (ps_ret (pv 4))) pss_nil)
      (pss_one (ps_ret (pe_tup (pa_cons (pe_ix ix_list (pe_lst (pa_cons pe_str (pa_cons pe_str (pa_cons pe_str pa_nil)))) (pe_op op_sub (pv 4) (pv 2)) (fun _ _ => rfl)) pa_nil)))))) pss_nil)
    (pss_cons (ps_if (pt_cmpR op_lt (pv 3) pe_int (nomark _)) (pss_one (ps_ret (pe_tup (pa_cons pe_str (pa_cons (pe_call G hr (by rfl) D.m D.F.kp D.b .nil pass0 (pa_cons (pv 0) (pa_cons (pe_op op_sub (pv 1) pe_int) (pa_cons (pv 2) pa_nil)))) pa_nil))))) pss_nil)
    (pss_cons (ps_set (i := 5) nd rfl (.inl rfl) (pe_call G hr (by rfl) D.m D.F.kp D.b .nil pass0 (pa_cons (pv 0) (pa_cons (pe_op op_sub (pv 1) pe_int) (pa_cons (pv 2) pa_nil)))))
    (pss_one (ps_ret (pe_tup (pa_cons pe_str (pa_cons (pv 5) (pa_cons (pe_call G hr (by rfl) D.m D.F.kp D.b .nil pass0 (pa_cons (pv 0) (pa_cons (pe_op op_sub (pv 1) pe_int) (pa_cons (pv 2) pa_nil)))) pa_nil))))))))), ?_⟩
  refine ⟨_, rfl, d, 7, rfl, _, hI, by decide, by decide, fun r H1 r0 r1 b1 hI1 => ?_⟩
  have p1 : 2 ≤ 2 ^ (k + 1) := by
    have := Nat.pow_le_pow_right (n := 2) (by decide) (show 1 ≤ k + 1 by omega)
    omega
  -- one less deep
  have sub : ∀ {H2 : Hp} {Q2 : VK}, 1 ≤ k → Sta H2 d c → (∀ v t H', But d H2 H' → Sta H' d c → TmAt H' v t → t.wf s7 numVar → t.nest ≤ k → t.size < 2 ^ k → Q2 v H') → spTerm7 n [.ref d, .int ((k : Int) - 1), .int (m : Int)] H2 Q2 E0 := fun {H2 Q2} k1 hI2 h => by
    have e : k - 1 + 1 = k := by omega
    refine ⟨d, k - 1, m, ?_, c, hI2, by omega, hm, fun v t H' b hI' hv hw hn hs => h v t H' b hI' hv hw (by omega) (by rw [e] at hs; exact hs)⟩
    rw [show ((k - 1 : Nat) : Int) = (k : Int) - 1 by omega]
  refine ⟨_, rfl, rfl, _, rfl, ?_⟩
  refine (fun (leaf : _) (rest : 1 ≤ k → _) => ite2 (fun _ => leaf) (fun z => ⟨_, rfl, _, _, rfl, rfl, _, rfl, ite2 (fun _ => leaf) (fun z2 => rest (Nat.pos_of_ne_zero fun e => z (decide_eq_true (congrArg (fun j : Nat => V.int j) e))))⟩)) ?_ ?_
  · refine ⟨_, rfl, _, rfl, _, _, rfl, rfl, d, _, rfl, _, hI1, by omega, by omega, fun r2 H2 q0 q1 b2 hI2 => ?_⟩
    refine ⟨_, rfl, _, rfl, _, _, rfl, rfl, _, rfl, ite2 (fun z => ?_) (fun z => ?_)⟩
    · have z := of_decide_eq_true z
      exact ⟨_, rfl, q _ (.var (.inl r2)) _ (b1.trans b2) hI2 (.int r2) ⟨r2, rfl, q0, by omega⟩ (by show 1 ≤ _; omega) (by show 1 < _; omega)⟩
    · have z : ¬ r2 < (m : Int) := fun x => z (decide_eq_true x)
      refine ⟨by show 3 ≤ sizeLine; decide, fun l nl => ?_⟩
      have s1 := same_new nl (.lst [.str "a", .str "b", .str "c"])
      obtain ⟨x, hx, hw⟩ : ∃ x : Str, atI [V.str "a", V.str "b", V.str "c"] (r2 - (m : Int)) = some (.str x) ∧ s7 x 0 := by
        rcases (show r2 - (m : Int) = 0 ∨ r2 - (m : Int) = 1 ∨ r2 - (m : Int) = 2 by omega) with e | e | e <;> rw [e]
        · exact ⟨"a", rfl, (sh1 "a").1⟩
        · exact ⟨"b", rfl, (sh1 "b").1⟩
        · exact ⟨"c", rfl, (sh1 "c").1⟩
      refine ⟨_, rfl, _, rfl, _, _, rfl, rfl, l, _, _, _, rfl, rfl, .inl (.inl upd_same), hx, by show 1 ≤ sizeLine; decide, fun p np => ?_⟩
      have s2 := same_new np (.tup [.str x])
      exact q (.ref p) (.ap x []) _ (b1.trans (b2.trans (s1.trans s2).but)) (hI2.same (s1.trans s2)) (.ap upd_same .nil) ⟨hw, trivial⟩ (by show 0 + 1 ≤ _; omega) (by show 0 + 1 < _; omega)
  intro k1
  have pk : 2 ^ (k + 1) = 2 ^ k * 2 := Nat.pow_succ 2 k
  have pk1 : 2 ≤ 2 ^ k := by
    have := Nat.pow_le_pow_right (n := 2) (by decide) k1
    omega
  refine ⟨_, rfl, _, _, rfl, rfl, _, rfl, ite2 (fun z => ?_) (fun z => ?_)⟩
  · refine ⟨_, rfl, _, rfl, _, _, rfl, rfl, _, rfl, sub k1 hI1 fun v t H2 b2 hI2 hv hw hn hs => ?_⟩
    refine ⟨by show 2 ≤ sizeLine; decide, fun p np => ?_⟩
    have s2 := same_new np (.tup [.str "f", v])
    exact q (.ref p) (.ap "f" [t]) _ (b1.trans (b2.trans s2.but)) (hI2.same s2) (.ap upd_same (.cons (TmAt.mono s2.tups _ _ hv) .nil)) ⟨(sh1 "f").2.1, hw, trivial⟩ (by show max t.nest 0 + 1 ≤ _; omega) (by show (t.size + 0) + 1 < _; omega)
  · refine ⟨_, rfl, _, rfl, _, _, rfl, rfl, _, rfl, sub k1 hI1 fun v t H2 b2 hI2 hv hw hn hs => ?_⟩
    refine ⟨_, rfl, _, rfl, _, rfl, _, _, rfl, rfl, _, rfl, sub k1 hI2 fun v2 t2 H3 b3 hI3 hv2 hw2 hn2 hs2 => ?_⟩
    refine ⟨by show 3 ≤ sizeLine; decide, fun p np => ?_⟩
    have s2 := same_new np (.tup [.str "g", v, v2])
    exact q (.ref p) (.ap "g" [t, t2]) _ (b1.trans (b2.trans (b3.trans s2.but))) (hI3.same s2) (.ap upd_same (.cons (TmAt.mono ((hI2.tups b3).trans s2.tups) _ _ hv) (.cons (TmAt.mono s2.tups _ _ hv2) .nil))) ⟨(sh1 "g").2.2, hw, hw2, trivial⟩ (by show max t.nest (max t2.nest 0) + 1 ≤ _; omega) (by show (t.size + (t2.size + 0)) + 1 < _; omega)
theorem ok_law_term {f fD : Addr} {fd dD : FuncData} (D : Df K mg "_law_term" s__law_term ["state", "depth", "names"] f fd) (DD : Df K mg "_law_draw" s__law_draw ["state", "many"] fD dD) (GD : FnOk P w K mg base CX0 1 fD dD ["state", "many"] spDraw) :
    ∀ n : Nat, FnOk P w K mg base CX0 (n + 1) f fd ["state", "depth", "names"] (spTerm7 n)
  | 0 => by
    have no : ∀ vs H Q E, ¬ spTerm7 0 vs H Q E := fun vs H Q E h => by
      obtain ⟨d, k, m, _, _, hk, _⟩ := h
      omega
    exact ⟨fun vs H Q E h => absurd h (no vs H Q E), fun A outer s H args us vs Q E _ _ _ _ h => absurd h (no vs H Q E)⟩
  | n + 1 => ok_law_term1 D DD GD (ok_law_term D DD GD n)
end

end K07
namespace K07
open PySem PySem.Spec PyProof.Rows L2 Own HT
section
variable {X : Cx}
def rIsiDct : List V → Hp → VK → Prop := fun xs H Q => ∃ (a : Addr) (kvs : List (Key × V)), xs = [.ref a, .ty "dict"] ∧ H a = some (.dK kvs) ∧ Q (.bl true) H
theorem call_isiDct : CallR X (.builtin "isinstance") rIsiDct := by
  intro pins s σ H xs us Q I r h
  obtain ⟨a, kvs, rfl, e, q⟩ := h
  exact call_isi pins s σ H _ us Q I r ⟨.ref a, .ty "dict", .type "dict", .type "dict", true, rfl, .ty "dict", .base (.dK e), kit_ty (by decide +kernel), q⟩
end
section
variable {P : Program} {w : World} {K : PySem.W.Frag} {mg : Str → Option Value} {base : Heap}
/-! ### _law_is_integer, _law_is_term, _law_is_substitution -/
def spIsInt : Sp := fun vs H Q _ => ∃ i : Int, vs = [.int i] ∧ Q (.bl true) H
theorem sc_law_is_integer : FnScope ["value"] ["value"] (defScope s__law_is_integer) := ⟨rfl, rfl, rfl, by decide +kernel, rfl, by decide +kernel, by decide +kernel⟩
theorem ok_law_is_integer {f : Addr} {fd : FuncData} (D : Df K mg "_law_is_integer" s__law_is_integer ["value"] f fd) (mi : mg "isinstance" = none) (mint : mg "int" = none) (mb : mg "bool" = none) : FnOk P w K mg base CX0 1 f fd ["value"] spIsInt := by
  refine D.F.ok sc_law_is_integer (fun vs H Q E h => ?_) (fun cdv A outer s H vs Q E hr h => ?_)
  · obtain ⟨x, rfl, _⟩ := h; rfl
  obtain ⟨x, rfl, q⟩ := h
  have nd := sc_law_is_integer.nd
  refine ⟨_, pss_one (ps_ret (pe_and (pe_callB call_isiDat (by rfl) mi (by decide +kernel) (pa_cons (pv 0) (pa_cons (pe_bltn (v := .ty "int") (by rfl) mint (by decide +kernel) rfl) pa_nil)))
    (pe_one (pe_not (pe_callB call_isiDat (by rfl) mi (by decide +kernel) (pa_cons (pv 0) (pa_cons (pe_bltn (v := .ty "bool") (by rfl) mb (by decide +kernel) rfl) pa_nil))))))), ?_⟩
  exact ⟨_, rfl, _, .int x, "int", _, rfl, .int x, k_int _, true, rfl, _, rfl, _, .int x, "bool", _, rfl, .int x, k_bool _, _, rfl, q⟩
def spIsTm (n : Nat) : Sp := fun vs H Q _ => ∃ (v : V) (t : Ter), vs = [v] ∧ TmAt H v t ∧ t.wf s7 numVar ∧ t.nest < n ∧ ∀ H', Same H H' → Q (.bl true) H'
theorem sc_law_is_term : FnScope ["value", "part"] ["value"] (defScope s__law_is_term) := ⟨rfl, rfl, rfl, by decide +kernel, rfl, by decide +kernel, by decide +kernel⟩
theorem ok_law_is_term1 {f fI : Addr} {fd dI : FuncData} (D : Df K mg "_law_is_term" s__law_is_term ["value"] f fd) (DI : Df K mg "_law_is_integer" s__law_is_integer ["value"] fI dI) (GI : FnOk P w K mg base CX0 1 fI dI ["value"] spIsInt)
    (mi : mg "isinstance" = none) (mt : mg "tuple" = none) (ms : mg "str" = none) (ml : mg "len" = none) {n : Nat} (G : FnOk P w K mg base CX0 (n + 1) f fd ["value"] (spIsTm n)) : FnOk P w K mg base CX0 (n + 1 + 1) f fd ["value"] (spIsTm (n + 1)) := by
  refine D.F.ok sc_law_is_term (fun vs H Q E h => ?_) (fun cdv A outer s H vs Q E hr h => ?_)
  · obtain ⟨x, t, rfl, _⟩ := h; rfl
  obtain ⟨v, t, rfl, ht, hw, hn, q⟩ := h
  have nd := sc_law_is_term.nd
  have r1 : Room 1 _ := hr.mono (by omega)
  refine ⟨_, pss_cons (ps_if (pt_not (pt_val (pe_callB call_isiTer (by rfl) mi (by decide +kernel) (pa_cons (pv 0) (pa_cons (pe_bltn (v := .ty "tuple") (by rfl) mt (by decide +kernel) rfl) pa_nil)))))
      (pss_one (ps_ret (pe_and (pe_call GI r1 (by rfl) DI.m DI.F.kp DI.b .nil pass0 (pa_cons (pv 0) pa_nil)) (pe_one (pe_cmpR op_ge (pv 0) pe_int (nomark _)))))) pss_nil)
    (pss_cons (ps_if (PW.pt (pw_or (pt_cmpR op_eq (pe_callB call_len_seq (by rfl) ml PySem.boot_len (pa_cons (pv 0) pa_nil)) pe_int (nomark _)) (pw_or1 (pt_not (pt_val (pe_callB call_isiDat (by rfl) mi (by decide +kernel) (pa_cons (pe_ix ix_tup (pv 0) pe_int (fun _ _ => rfl)) (pa_cons (pe_bltn (v := .ty "str") (by rfl) ms (by decide +kernel) rfl) pa_nil))))))))
      (pss_one (ps_ret pe_bl)) pss_nil)
    (pss_cons (ps_for PassesOwn.never rfl (pi_tup (pe_slice sl_1 (pv 0) (po_some pe_int) po_none)) (pg_name (i := 1) nd rfl (.inl rfl))
      (pss_one (ps_if (pt_not (pt_val (pe_call G hr (by rfl) D.m D.F.kp D.b .nil pass0 (pa_cons (pv 1) pa_nil)))) (pss_one (ps_ret pe_bl)) pss_nil)))
    (pss_one (ps_ret pe_bl)))), ?_⟩
  refine ⟨v, rfl, v, t, rfl, ht, _, rfl, ?_⟩
  cases ht with
  | int i =>
    obtain ⟨r, e, h0, h1⟩ := hw
    cases e
    refine iteT ⟨_, rfl, _, rfl, true, rfl, _, rfl, _, _, rfl, rfl, ?_⟩
    show Q (.bl (decide ((0 : Int) ≤ i))) H
    rw [decide_eq_true h0]
    exact q H (Same.refl _)
  | str x =>
    obtain ⟨r, e, h0, h1⟩ := hw
    cases e
  | @ap a g xs as e hs =>
    have hn : Ter.nests as + 1 < n + 1 := hn
    refine iteF ⟨_, rfl, a, _, rfl, .inr (.inl (.inl e)), rfl, _, rfl, ite2 (fun z => ?_) (fun _ => ?_)⟩
    · have z : ((xs.length + 1 : Nat) : Int) = 0 := V.int.inj (of_decide_eq_true z)
      exact absurd z (by omega)
    refine ⟨_, rfl, a, _, 0, .str g, rfl, rfl, .inl (.inl e), head_at, _, .str g, "str", _, rfl, .str g, k_str _, _, rfl, iteF ?_⟩
    refine ⟨.ref a, rfl, 1, rfl, a, .str g, xs, rfl, rfl, rfl, .inl (.inl e), fun p2 np2 => ?_⟩
    have s2 := same_new np2 (.tup xs)
    refine ⟨p2, rfl, ⟨xs, .inl (.inl upd_same)⟩, for_tup (xs := xs) (fun i σ H2 => ∃ y, σ = [some (.ref a), y] ∧ Same (upd H p2 (.tup xs)) H2) ⟨none, rfl, Same.refl _⟩ (fun i σ H2 _ h => ?_) (fun i x σ H2 hx h => ?_) (fun σ H2 h => ?_)⟩
    · obtain ⟨_, _, sm⟩ := h
      exact .inl (.inl (sm _ _ upd_same))
    · obtain ⟨y, rfl, sm⟩ := h
      obtain ⟨t1, et, hx1⟩ := hs.get hx
      have n1 := nest_le_of et
      exact ⟨x, rfl, x, t1, rfl, TmAt.mono (s2.trans sm).tups _ _ hx1, wfs_get hw.2 et, by omega, fun H3 s3 => ⟨_, rfl, iteF ⟨_, rfl, sm.trans s3⟩⟩⟩
    · obtain ⟨y, rfl, sm⟩ := h
      exact q H2 (s2.trans sm)
theorem ok_law_is_term {f fI : Addr} {fd dI : FuncData} (D : Df K mg "_law_is_term" s__law_is_term ["value"] f fd) (DI : Df K mg "_law_is_integer" s__law_is_integer ["value"] fI dI) (GI : FnOk P w K mg base CX0 1 fI dI ["value"] spIsInt)
    (mi : mg "isinstance" = none) (mt : mg "tuple" = none) (ms : mg "str" = none) (ml : mg "len" = none) : ∀ n : Nat, FnOk P w K mg base CX0 (n + 1) f fd ["value"] (spIsTm n)
  | 0 => by
    have no : ∀ vs H Q E, ¬ spIsTm 0 vs H Q E := fun vs H Q E h => by
      obtain ⟨v, t, _, _, _, hk, _⟩ := h
      omega
    exact ⟨fun vs H Q E h => absurd h (no vs H Q E), fun A outer s H args us vs Q E _ _ _ _ h => absurd h (no vs H Q E)⟩
  | n + 1 => ok_law_is_term1 D DI GI mi mt ms ml (ok_law_is_term D DI GI mi mt ms ml n)
/-- a dict of terms for variables -/
structure SubAt (H : Hp) (kvs : List (Key × V)) (N : Nat) : Prop where
  nd : (kvs.map (·.1)).Nodup
  al : ∀ e ∈ kvs, (∃ i, e.1 = .inl i ∧ 0 ≤ i) ∧ ∃ t, TmAt H e.2 t ∧ t.wf s7 numVar ∧ t.nest ≤ N
theorem SubAt.mono {H H' : Hp} {kvs : List (Key × V)} {N : Nat} (h : SubAt H kvs N) (m : Tups H H') : SubAt H' kvs N := ⟨h.nd, fun e he => by
  obtain ⟨a, t, ht, b⟩ := h.al e he
  exact ⟨a, t, TmAt.mono m _ _ ht, b⟩⟩
def spIsSub : Sp := fun vs H Q _ => ∃ (a : Addr) (kvs : List (Key × V)) , vs = [.ref a] ∧ H a = some (.dK kvs) ∧ SubAt H kvs 60 ∧ ∀ H', Same H H' → Q (.bl true) H'
theorem sc_law_is_substitution : FnScope ["value", "variable"] ["value"] (defScope s__law_is_substitution) := ⟨rfl, rfl, rfl, by decide +kernel, rfl, by decide +kernel, by decide +kernel⟩
theorem ok_law_is_substitution {f fI fT : Addr} {fd dI dT : FuncData} (D : Df K mg "_law_is_substitution" s__law_is_substitution ["value"] f fd) (DI : Df K mg "_law_is_integer" s__law_is_integer ["value"] fI dI) (GI : FnOk P w K mg base CX0 1 fI dI ["value"] spIsInt)
    (DT : Df K mg "_law_is_term" s__law_is_term ["value"] fT dT) (GT : FnOk P w K mg base CX0 62 fT dT ["value"] (spIsTm 61)) (mi : mg "isinstance" = none) (md : mg "dict" = none) (mli : mg "list" = none) : FnOk P w K mg base CX0 63 f fd ["value"] spIsSub := by
  refine D.F.ok sc_law_is_substitution (fun vs H Q E h => ?_) (fun cdv A outer s H vs Q E hr h => ?_)
  · obtain ⟨x, t, rfl, _⟩ := h; rfl
  obtain ⟨a, kvs, rfl, ea, hS, q⟩ := h
  have nd := sc_law_is_substitution.nd
  have r1 : Room 1 _ := hr.mono (by omega)
  refine ⟨_, pss_cons (ps_if (pt_not (pt_val (pe_callB call_isiDct (by rfl) mi (by decide +kernel) (pa_cons (pv 0) (pa_cons (pe_bltn (v := .ty "dict") (by rfl) md (by decide +kernel) rfl) pa_nil))))) (pss_one (ps_ret pe_bl)) pss_nil)
    (pss_cons (ps_for PassesOwn.never rfl (pi_list (pe_callTy (call_listD rfl) (by rfl) mli (by decide +kernel) (pa_cons (pv 0) pa_nil))) (pg_name (i := 1) nd rfl (.inl rfl))
      (pss_one (ps_if (PW.pt (pw_or (pt_not (pt_val (pe_call GI r1 (by rfl) DI.m DI.F.kp DI.b .nil pass0 (pa_cons (pv 1) pa_nil)))) (pw_or1 (pt_not (pt_val (pe_call GT hr (by rfl) DT.m DT.F.kp DT.b .nil pass0 (pa_cons (pe_dget (hu_of hr) (pv 0) (pv 1) (fun _ _ => rfl)) pa_nil))))))) (pss_one (ps_ret pe_bl)) pss_nil)))
    (pss_one (ps_ret pe_bl))), ?_⟩
  refine ⟨_, rfl, a, kvs, rfl, ea, _, rfl, iteF ?_⟩
  refine ⟨_, rfl, a, kvs, rfl, .inl ea, fun p np => ?_⟩
  have s1 := same_new np (.lst (kvs.map fun kv => kV kv.1))
  refine ⟨p, rfl, ⟨_, .inl (.inl upd_same)⟩, for_list (xs := kvs.map fun kv => kV kv.1) (fun i σ H2 => ∃ y, σ = [some (.ref a), y] ∧ Same (upd H p (.lst (kvs.map fun kv => kV kv.1))) H2) ⟨none, rfl, Same.refl _⟩ (fun i σ H2 _ h => ?_) (fun i x σ H2 hx h => ?_) (fun σ H2 h => ?_)⟩
  · obtain ⟨_, _, sm⟩ := h
    exact .inl (.inl (sm _ _ upd_same))
  · obtain ⟨y, rfl, sm⟩ := h
    rw [List.getElem?_map] at hx
    cases ek : kvs[i]? with
    | none => rw [ek] at hx; cases hx
    | some kv =>
      rw [ek] at hx
      cases hx
      have hm := List.mem_of_getElem? ek
      obtain ⟨⟨j, hj, j0⟩, t, ht, hw, hn⟩ := hS.al kv hm
      have sa := s1.trans sm
      obtain ⟨kk, kw⟩ := kv
      have hj : kk = .inl j := hj
      subst hj
      refine ⟨_, rfl, j, rfl, _, rfl, iteF ?_⟩
      have ev : valV kvs (.inl j) = some kw := val_of_mem hS.nd hm
      refine ⟨_, rfl, _, rfl, a, kw, rfl, (by rw [← ev]; exact DGet.k (k := .inl j) (sa _ _ ea)), kw, t, rfl, TmAt.mono sa.tups _ _ ht, hw, by omega, fun H3 s3 => ?_⟩
      exact ⟨_, rfl, iteF ⟨_, rfl, sm.trans s3⟩⟩
  · obtain ⟨y, rfl, sm⟩ := h
    exact q H2 (s1.trans sm)
end

end K07
namespace K07
open PySem PySem.Spec PyProof.Rows L2 Own HT
/-! ### dicts of terms -/
theorem mem_put {kvs : List (Key × V)} {k : Key} {v : V} {e : Key × V} (h : e ∈ putK kvs k v) : (e.1 = k ∧ e.2 = v) ∨ e ∈ kvs := by
  unfold putK at h
  split at h
  · obtain ⟨q, hq, rfl⟩ := List.mem_map.mp h
    by_cases c : q.1 = k
    · rw [if_pos c]; exact .inl ⟨c, rfl⟩
    · rw [if_neg c]; exact .inr hq
  · rcases List.mem_append.mp h with h | h
    · exact .inr h
    · rcases List.mem_cons.mp h with rfl | h
      · exact .inl ⟨rfl, rfl⟩
      · cases h
theorem len_put (kvs : List (Key × V)) (k : Key) (v : V) : (putK kvs k v).length ≤ kvs.length + 1 := by
  unfold putK
  split
  · rw [List.length_map]; omega
  · rw [List.length_append]; exact Nat.le_refl _
theorem nd_put {kvs : List (Key × V)} {k : Key} (v : V) (hn : (kvs.map (·.1)).Nodup) : ((putK kvs k v).map (·.1)).Nodup := by
  cases e : valV kvs k with
  | none => exact nd_putK v hn e
  | some u =>
    unfold putK
    rw [valV_any, e]
    show ((kvs.map fun kv => if kv.1 = k then (kv.1, v) else kv).map (·.1)).Nodup
    rw [List.map_map]
    have : ((fun x : Key × V => x.1) ∘ fun kv : Key × V => if kv.1 = k then (kv.1, v) else kv) = (·.1) := funext fun kv => by
      show (if kv.1 = k then (kv.1, v) else kv).1 = kv.1
      split <;> rfl
    rw [this]
    exact hn
theorem SubAt.put {H : Hp} {kvs : List (Key × V)} {N : Nat} (h : SubAt H kvs N) {i : Int} (hi : 0 ≤ i) {v : V} {t : Ter} (ht : TmAt H v t) (hw : t.wf s7 numVar) (hn : t.nest ≤ N) : SubAt H (putK kvs (.inl i) v) N :=
  ⟨nd_put v h.nd, fun e he => by
    rcases mem_put he with ⟨e1, e2⟩ | he
    · exact ⟨⟨i, e1, hi⟩, t, e2 ▸ ht, hw, hn⟩
    · exact h.al e he⟩
theorem SubAt.nil {H : Hp} {N : Nat} : SubAt H [] N := ⟨List.nodup_nil, fun e h => by cases h⟩
theorem SubAt.get {H : Hp} {kvs : List (Key × V)} {N : Nat} (h : SubAt H kvs N) {k : Key} {v : V} (e : valV kvs k = some v) : ∃ t, TmAt H v t ∧ t.wf s7 numVar ∧ t.nest ≤ N := by
  unfold valV at e
  cases q : kvs.find? fun kv => decide (kv.1 = k) with
  | none => rw [q] at e; cases e
  | some p =>
    rw [q] at e
    have h4 : p.2 = v := Option.some.inj e
    obtain ⟨_, t, ht⟩ := h.al p (List.mem_of_find?_eq_some q)
    exact ⟨t, h4 ▸ ht⟩
theorem SubAt.le {H : Hp} {kvs : List (Key × V)} {N M : Nat} (h : SubAt H kvs N) (l : N ≤ M) : SubAt H kvs M := ⟨h.nd, fun e he => by
  obtain ⟨a, t, x, y, z⟩ := h.al e he
  exact ⟨a, t, x, y, by omega⟩⟩
section
variable {P : Program} {w : World} {K : PySem.W.Frag} {mg : Str → Option Value} {base : Heap}
/-! ### _law_replaced -/
def spRepl (N n : Nat) : Sp := fun vs H Q _ => ∃ (a : Addr) (v : V) (t : Ter) (kvs : List (Key × V)), vs = [.ref a, v] ∧ H a = some (.dK kvs) ∧ SubAt H kvs N ∧ TmAt H v t ∧ t.wf s7 numVar ∧ t.nest < n ∧
  ∀ v' t' H', Same H H' → TmAt H' v' t' → t'.wf s7 numVar → t'.nest ≤ t.nest + N → Q v' H'
theorem sc_law_replaced : FnScope ["substitution", "term", "parts", "part"] ["substitution", "term"] (defScope s__law_replaced) := ⟨rfl, rfl, rfl, by decide +kernel, rfl, by decide +kernel, by decide +kernel⟩
theorem ok_law_replaced1 {f : Addr} {fd : FuncData} (D : Df K mg "_law_replaced" s__law_replaced ["substitution", "term"] f fd) (mi : mg "isinstance" = none) (mt : mg "tuple" = none)
    {N n : Nat} (G : FnOk P w K mg base CX0 n f fd ["substitution", "term"] (spRepl N n)) : FnOk P w K mg base CX0 (n + 1) f fd ["substitution", "term"] (spRepl N (n + 1)) := by
  refine D.F.ok sc_law_replaced (fun vs H Q E h => ?_) (fun cdv A outer s H vs Q E hr h => ?_)
  · obtain ⟨a, v, t, kvs, rfl, _⟩ := h; rfl
  obtain ⟨a, v, t, kvs, rfl, ea, hS, ht, hw, hn, q⟩ := h
  have nd := sc_law_replaced.nd
  refine ⟨_, pss_cons (ps_if (pt_not (pt_val (pe_callB call_isiTer (by rfl) mi (by decide +kernel) (pa_cons (pv 1) (pa_cons (pe_bltn (v := .ty "tuple") (by rfl) mt (by decide +kernel) rfl) pa_nil)))))
      (pss_one (ps_ret (pe_dget2 (hu_of hr) (pv 0) (pv 1) (pv 1) ⟨rfl, rfl, rfl, rfl⟩))) pss_nil)
    (pss_cons (ps_set (i := 2) nd rfl (.inl rfl) (pe_lst (pa_cons (pe_ix ix_tup (pv 1) pe_int (fun _ _ => rfl)) pa_nil)))
    (pss_cons (ps_for PassesOwn.never rfl (pi_tup (pe_slice sl_1 (pv 1) (po_some pe_int) po_none)) (pg_name (i := 3) nd rfl (.inl rfl))
      (pss_one (ps_expr (pe_bm PySem.F.plainAttrs_list PySem.F.slot_list_append PySem.F.type_list_append mt_append (pv 2) (pa_cons (pe_call G hr (by rfl) D.m D.F.kp D.b .nil pass0 (pa_cons (pv 0) (pa_cons (pv 3) pa_nil))) pa_nil)))))
    (pss_one (ps_ret (pe_callTy call_tuple_of (by rfl) mt (by decide +kernel) (pa_cons (pv 2) pa_nil)))))), ?_⟩
  refine ⟨v, rfl, v, t, rfl, ht, _, rfl, ?_⟩
  cases ht with
  | int i =>
    refine iteT ⟨_, rfl, a, rfl, .inl ⟨kvs, .inl ea⟩, _, rfl, _, rfl, valV kvs (.inl i), DGet.k (k := .inl i) ea, ?_⟩
    cases e : valV kvs (.inl i) with
    | none => exact q _ _ H (Same.refl _) (.int i) hw (Nat.le_add_right _ _)
    | some u =>
      obtain ⟨t', h1, h2, h3⟩ := hS.get e
      exact q u t' H (Same.refl _) h1 h2 (by omega)
  | str x =>
    obtain ⟨r, e, h0, h1⟩ := hw
    cases e
  | @ap p g xs as e hs =>
    have hn : Ter.nests as + 1 < n + 1 := hn
    have ls := hs.len
    have l2 : as.length ≤ 2 := hw.1.2
    refine iteF ⟨_, rfl, p, _, 0, .str g, rfl, rfl, .inl (.inl e), head_at, by show 1 ≤ sizeLine; decide, fun d nd' => ?_⟩
    have s1 := same_new nd' (.lst [.str g])
    refine ⟨.ref p, rfl, 1, rfl, p, .str g, xs, rfl, rfl, rfl, .inl (.inl (s1 _ _ e)), fun p2 np2 => ?_⟩
    have s2 := same_new np2 (.tup xs)
    have dp : p2 ≠ d := fun z => by rw [z, upd_same] at np2; cases np2
    refine ⟨p2, rfl, ⟨xs, .inl (.inl upd_same)⟩, for_tup (xs := xs) (fun i σ H2 => ∃ acc ts y, σ = [some (.ref a), some (.ref p), some (.ref d), y] ∧ Same H H2 ∧ H2 p2 = some (.tup xs) ∧ H2 d = some (.lst (.str g :: acc)) ∧ TmAll H2 acc ts ∧ ts.length = i ∧ Ter.wfs s7 numVar ts ∧ Ter.nests ts ≤ Ter.nests as + N) ⟨[], [], none, rfl, s1.trans s2, upd_same, s2 _ _ upd_same, .nil, rfl, trivial, Nat.zero_le _⟩ (fun i σ H2 _ h => ?_) (fun i x σ H2 hx h => ?_) (fun σ H2 h => ?_)⟩
    · obtain ⟨_, _, _, _, _, ep2, _⟩ := h
      exact .inl (.inl ep2)
    · obtain ⟨acc, ts, y, rfl, sm, ep2, ed, hacc, lt, hws, hns⟩ := h
      obtain ⟨t1, et, hx1⟩ := hs.get hx
      have n1 := nest_le_of et
      have li := (List.getElem?_eq_some_iff.mp et).1
      have la := hacc.len
      refine ⟨.ref d, rfl, tyl ed, _, rfl, _, rfl, a, x, t1, kvs, rfl, sm _ _ ea, hS.mono sm.tups, TmAt.mono sm.tups _ _ hx1, wfs_get hw.2 et, by omega, fun v' t' H3 s3 hv' hw' hn' => ?_⟩
      have ed3 := s3 _ _ ed
      refine ⟨d, _, _, rfl, rfl, ed3, small6' (by show acc.length + 1 ≤ _; omega), ?_⟩
      have b4 : But d H3 (upd H3 d (.lst (.str g :: acc ++ [v']))) := But.upd
      have m4 := b4.tups ed3
      exact ⟨acc ++ [v'], ts ++ [t'], _, rfl, But.same nd' (sm.trans s3) b4, b4 _ _ dp (s3 _ _ ep2), upd_same, (TmAll.mono (s3.tups.trans m4) _ _ hacc).app (.cons (TmAt.mono m4 _ _ hv') .nil), by rw [List.length_append, List.length_singleton, lt], wfs_app hws ⟨hw', trivial⟩, by rw [nests_snoc]; omega⟩
    · obtain ⟨acc, ts, y, rfl, sm, ep2, ed, hacc, lt, hws, hns⟩ := h
      refine ⟨_, rfl, d, _, rfl, .inl ⟨.inl (.inl ed), fun p3 np3 => ?_⟩⟩
      have s3 := same_new np3 (.tup (.str g :: acc))
      have e2 : ts.length = as.length := by omega
      exact q (.ref p3) (.ap g ts) _ (sm.trans s3) (.ap upd_same (TmAll.mono s3.tups _ _ hacc)) ⟨by rw [e2]; exact hw.1, hws⟩ (by show Ter.nests ts + 1 ≤ (Ter.nests as + 1) + N; omega)
theorem ok_law_replaced {f : Addr} {fd : FuncData} (D : Df K mg "_law_replaced" s__law_replaced ["substitution", "term"] f fd) (mi : mg "isinstance" = none) (mt : mg "tuple" = none) (N : Nat) :
    ∀ n : Nat, FnOk P w K mg base CX0 n f fd ["substitution", "term"] (spRepl N n)
  | 0 => by
    have no : ∀ vs H Q E, ¬ spRepl N 0 vs H Q E := fun vs H Q E h => by
      obtain ⟨_, _, _, _, _, _, _, _, _, hk, _⟩ := h
      omega
    exact ⟨fun vs H Q E h => absurd h (no vs H Q E), fun A outer s H args us vs Q E _ _ _ _ h => absurd h (no vs H Q E)⟩
  | n + 1 => ok_law_replaced1 D mi mt (ok_law_replaced D mi mt N n)
/-! ### _law_substitution -/
def spSubst : Sp := fun vs H Q _ => ∃ (d : Addr) (m k : Nat), vs = [.ref d, .int m, .int k] ∧ ∃ c, Sta H d c ∧ m ≤ 5 ∧ k < 4 ∧
  ∀ (p : Addr) (kvs : List (Key × V)) (H' : Hp), But d H H' → H p = none → Sta H' d c → H' p = some (.dK kvs) → SubAt H' kvs (k + 1) → kvs.length ≤ m → Q (.ref p) H'
theorem sc_law_substitution : FnScope ["state", "names", "depth", "substitution", "name"] ["state", "names", "depth"] (defScope s__law_substitution) := ⟨rfl, rfl, rfl, by decide +kernel, rfl, by decide +kernel, by decide +kernel⟩
theorem ok_law_substitution {f fD fT : Addr} {fd dD dT : FuncData} (D : Df K mg "_law_substitution" s__law_substitution ["state", "names", "depth"] f fd) (DD : Df K mg "_law_draw" s__law_draw ["state", "many"] fD dD) (GD : FnOk P w K mg base CX0 1 fD dD ["state", "many"] spDraw)
    (DT : Df K mg "_law_term" s__law_term ["state", "depth", "names"] fT dT) (GT : FnOk P w K mg base CX0 5 fT dT ["state", "depth", "names"] (spTerm7 4)) (mr : mg "range" = none) : FnOk P w K mg base CX0 6 f fd ["state", "names", "depth"] spSubst := by
  refine D.F.ok sc_law_substitution (fun vs H Q E h => ?_) (fun cdv A outer s H vs Q E hr h => ?_)
  · obtain ⟨a, v, t, rfl, _⟩ := h; rfl
  obtain ⟨d, m, k, rfl, c, hI, hm, hk, q⟩ := h
  have nd := sc_law_substitution.nd
  have r1 : Room 1 _ := hr.mono (by omega)
  refine ⟨_, pss_cons (ps_set (i := 3) nd rfl (.inl rfl) pe_dnewK)
    (pss_cons (ps_for PassesOwn.never rfl (pi_range1 (by rfl) mr (pa_cons (pv 1) pa_nil)) (pg_name (i := 4) nd rfl (.inl rfl))
      (pss_one (ps_if (pt_cmpR op_gt (pe_call GD r1 (by rfl) DD.m DD.F.kp DD.b .nil pass0 (pa_cons (pv 0) (pa_cons pe_int pa_nil))) pe_int (nomark _))
        (pss_one (ps_dput (hu_of hr) (pv 3) (pv 4) (pe_call GT hr (by rfl) DT.m DT.F.kp DT.b .nil pass0 (pa_cons (pv 0) (pa_cons (pv 2) (pa_cons (pv 1) pa_nil)))) rfl)) pss_nil)))
    (pss_one (ps_ret (pv 3)))), ?_⟩
  refine fun p np => ?_
  have s1 := same_new np (.dK [])
  have npd := hI.ne np
  refine ⟨_, rfl, _, rfl, by omega, by omega, for_range (lo := 0) (n := m) (fun i σ H2 => ∃ kvs y, σ = [some (.ref d), some (.int m), some (.int k), some (.ref p), y] ∧ But d H H2 ∧ Sta H2 d c ∧ H2 p = some (.dK kvs) ∧ SubAt H2 kvs (k + 1) ∧ kvs.length ≤ i) ⟨[], none, rfl, s1.but, hI.same s1, upd_same, .nil, Nat.le_refl _⟩ (fun i σ H2 hi h => ?_) (fun σ H2 h => ?_)⟩
  · obtain ⟨kvs, y, rfl, b2, hI2, ep, hS, hl⟩ := h
    refine ⟨_, rfl, d, 3, rfl, _, hI2, by decide, by decide, fun r H3 r0 r3 b3 hI3 => ?_⟩
    have ep3 := b3 _ _ npd ep
    have m3 := hI2.tups b3
    refine ⟨_, _, rfl, rfl, _, rfl, ite2 (fun _ => ?_) (fun _ => ⟨kvs, _, rfl, b2.trans b3, hI3, ep3, hS.mono m3, by omega⟩)⟩
    refine ⟨_, rfl, _, rfl, _, rfl, d, k, m, rfl, _, hI3, hk, by omega, fun v t H4 b4 hI4 hv hw hn _ => ?_⟩
    have ep4 := b4 _ _ npd ep3
    have m4 := hI3.tups b4
    refine ⟨_, rfl, _, rfl, p, _, rfl, DPut.k (k := .inl _) ep4 (small6' (by omega)), ?_⟩
    have mU : Tups H4 (upd H4 p (.dK (putK kvs (.inl (0 + (i : Int))) v))) := tups_updD ep4
    have b5 := b2.trans (b3.trans b4)
    refine ⟨_, _, rfl, fun c o n e => ?_, ?_, upd_same, ((hS.mono (m3.trans m4)).mono mU).put (by omega) (TmAt.mono mU _ _ hv) hw (by omega), Nat.le_trans (len_put _ _ _) (by omega)⟩
    · rw [upd_ne (ne_of_none e np)]
      exact b5 c o n e
    · exact hI4.updD ep4
  · obtain ⟨kvs, y, rfl, b2, hI2, ep, hS, hl⟩ := h
    exact ⟨_, rfl, q p kvs H2 b2 np hI2 ep hS hl⟩
end

end K07
namespace K07
open PySem PySem.Spec PyProof.Rows L2 Own HT
section
variable {P : Program} {w : World} {K : PySem.W.Frag} {mg : Str → Option Value} {base : Heap}
/-! ### matches, twice -/
theorem mtch_int {i : Int} {u : DTer} {B : Bd} {s : DTer} (e : look B (.inl i) = some s) : mtch (.var (.inl i)) u B = (PyData.eqv s.ter.dat u.ter.dat, B) := by
  show (match look B (Sum.inl i) with | some s => (PyData.eqv s.ter.dat u.ter.dat, B) | none => (true, B ++ [(Sum.inl i, u)])) = _
  rw [e]
theorem mtch_new {i : Int} {u : DTer} {B : Bd} (e : look B (.inl i) = none) : mtch (.var (.inl i)) u B = (true, B ++ [(.inl i, u)]) := by
  show (match look B (Sum.inl i) with | some s => (PyData.eqv s.ter.dat u.ter.dat, B) | none => (true, B ++ [(Sum.inl i, u)])) = _
  rw [e]
theorem mtch_ap {g h : Str} {as : List Ter} {bs : List DTer} {q : Addr} {B : Bd} : mtch (.ap g as) (.ap q h bs) B = if g = h ∧ as.length = bs.length then mtchs as bs B else (false, B) := rfl
theorem mtch_no {g : Str} {as : List Ter} {k : Key} {B : Bd} : mtch (.ap g as) (.var k) B = (false, B) := rfl
/-- one step of many -/
theorem mtchs_at {as : List Ter} {bs : List DTer} {B0 B : Bd} {i : Nat} {t : Ter} {u : DTer} (h : mtchs as bs B0 = mtchs (as.drop i) (bs.drop i) B) (ea : as[i]? = some t) (eb : bs[i]? = some u) :
    mtchs as bs B0 = if (mtch t u B).1 = true then mtchs (as.drop (i + 1)) (bs.drop (i + 1)) (mtch t u B).2 else (false, (mtch t u B).2) := by
  obtain ⟨la, ea⟩ := List.getElem?_eq_some_iff.mp ea
  obtain ⟨lb, eb⟩ := List.getElem?_eq_some_iff.mp eb
  rw [h, List.drop_eq_getElem_cons la, List.drop_eq_getElem_cons lb, ea, eb]
  rfl
theorem kvs_snoc (B : Bd) (k : Key) (u : DTer) : bKvs (B ++ [(k, u)]) = bKvs B ++ [(k, u.val)] := by
  unfold bKvs
  rw [List.map_append]
  rfl
theorem kvs_put {B : Bd} {k : Key} {u : DTer} (e : look B k = none) : putK (bKvs B) k u.val = bKvs (B ++ [(k, u)]) := by
  rw [putK_new _ (by rw [look_val, e]; rfl), kvs_snoc]
theorem look_snoc {B : Bd} {k : Key} {u : DTer} (e : look B k = none) : look (B ++ [(k, u)]) k = some u := by
  unfold look at *
  rw [List.find?_append]
  cases q : B.find? fun e => decide (e.1 = k) with
  | some p => rw [q] at e; cases e
  | none =>
    simp
def spM (n : Nat) : Sp := fun vs H Q _ => ∃ (v : V) (p : Ter) (u : DTer) (d : Addr) (B : Bd), vs = [v, u.val, .ref d] ∧ TmAt H v p ∧ p.wf s7 numVar ∧ p.nest < n ∧ Gd H u 40 ∧ H d = some (.dK (bKvs B)) ∧ BOk H B 40 ∧ B.length + p.size ≤ 100000 ∧
  ∀ H', But d H H' → H' d = some (.dK (bKvs (mtch p u B).2)) → Q (.bl (mtch p u B).1) H'
theorem sc_matches : FnScope ["pattern", "term", "bound", "inner", "other"] ["pattern", "term", "bound"] (defScope s_matches) := ⟨rfl, rfl, rfl, by decide +kernel, rfl, by decide +kernel, by decide +kernel⟩
theorem ok_matches1 {f fV : Addr} {fd dV : FuncData} (D : Df K mg "matches" s_matches ["pattern", "term", "bound"] f fd) (DV : Df K mg "is_variable" s_is_variable ["term"] fV dV) (GV : FnOk P w K mg base CX0 1 fV dV ["term"] spIsVar) (ml : mg "len" = none) (mz : mg "zip" = none)
    {n : Nat} (G : FnOk P w K mg base CX0 (n + 1) f fd ["pattern", "term", "bound"] (spM n)) : FnOk P w K mg base CX0 (n + 1 + 1) f fd ["pattern", "term", "bound"] (spM (n + 1)) := by
  refine D.F.ok sc_matches (fun vs H Q E h => ?_) (fun cdv A outer s H vs Q E hr h => ?_)
  · obtain ⟨v, p, u, d, B, rfl, _⟩ := h; rfl
  obtain ⟨v, p, u, d, B, rfl, ht, hw, hn, hu, ed, hB, hl, q⟩ := h
  have nd := sc_matches.nd
  have r1 : Room 1 _ := hr.mono (by omega)
  refine ⟨_, pss_cons (ps_if (pt_val (pe_call GV r1 (by rfl) DV.m DV.F.kp DV.b .nil pass0 (pa_cons (pv 0) pa_nil)))
      (C8.pss_cut (ps_if (pt_cmp (pc_dnotin (hu_of hr) (pv 0) (pv 2))) (pss_one (ps_dput (hu_of hr) (pv 2) (pv 0) (pv 1) rfl)) pss_nil)
      (pss_one (ps_ret (pe_cmpR (op_eqD hr.units) (pe_dget (hu_of hr) (pv 2) (pv 0) (fun _ _ => rfl)) (pv 1) (nomark _))))) pss_nil)
    (pss_cons (ps_if (PW.pt (pw_or (pt_val (pe_call GV r1 (by rfl) DV.m DV.F.kp DV.b .nil pass0 (pa_cons (pv 1) pa_nil)))
        (pw_or (pt_cmpR op_ne (pe_ix ix_tup (pv 0) pe_int (fun _ _ => rfl)) (pe_ix ix_tup (pv 1) pe_int (fun _ _ => rfl)) (nomark _))
          (pw_or1 (pt_cmpR op_ne (pe_callB call_len_seq (by rfl) ml PySem.boot_len (pa_cons (pv 0) pa_nil)) (pe_callB call_len_seq (by rfl) ml PySem.boot_len (pa_cons (pv 1) pa_nil)) (nomark _)))))) (pss_one (ps_ret pe_bl)) pss_nil)
    (pss_cons (ps_for PassesOwn.never rfl (RZ.pi_zipA (by rfl) mz (pa_cons (pe_slice sl_1 (pv 0) (po_some pe_int) po_none) (pa_cons (pe_slice sl_1 (pv 1) (po_some pe_int) po_none) pa_nil))) (pg_tup rfl (pgs_cons (pg_name (i := 3) nd rfl (.inl rfl)) (pgs_cons (pg_name (i := 4) nd rfl (.inl rfl)) pgs_nil)))
      (pss_one (ps_if (pt_not (pt_val (pe_call G hr (by rfl) D.m D.F.kp D.b .nil pass0 (pa_cons (pv 3) (pa_cons (pv 4) (pa_cons (pv 2) pa_nil)))))) (pss_one (ps_ret pe_bl)) pss_nil)))
    (pss_one (ps_ret pe_bl)))), ?_⟩
  refine ⟨v, rfl, v, p, rfl, ht, _, rfl, ?_⟩
  cases ht with
  | int i =>
    refine iteT ?_
    obtain ⟨r, e, h0, h1⟩ := hw
    cases e
    refine ⟨fun σ H1 => σ = [some (.int i), some u.val, some (.ref d), none, none] ∧ ∃ B' s, But d H H1 ∧ H1 d = some (.dK (bKvs B')) ∧ look B' (.inl i) = some s ∧ Gd H1 s 40 ∧ Gd H1 u 40 ∧ (PyData.eqv s.ter.dat u.ter.dat, B') = mtch (.var (.inl i)) u B, ?_, fun σ H1 h => ?_⟩
    · refine ⟨_, rfl, _, rfl, d, _, rfl, DGet.k (k := .inl i) ed, _, rfl, ?_⟩
      rw [look_val]
      cases e : look B (.inl i) with
      | some s => exact iteF ⟨rfl, B, s, But.refl _ _, ed, e, (hB.al _ (look_mem e)).2, hu, (mtch_int e).symm⟩
      | none =>
        refine iteT ⟨_, rfl, _, rfl, _, rfl, d, _, rfl, DPut.k (k := .inl i) ed (small6' (by unfold bKvs; rw [List.length_map]; omega)), ?_⟩
        rw [kvs_put e]
        have m := tups_updD (o := .dK (bKvs (B ++ [(.inl i, u)]))) ed
        exact ⟨rfl, _, u, But.upd, upd_same, look_snoc e, hu.mono m, hu.mono m, by rw [mtch_new e, ter_refl]⟩
    · obtain ⟨rfl, B', s, b1, e1, lk, gs, gu, em⟩ := h
      refine ⟨_, rfl, _, rfl, d, s.val, rfl, ?_, _, rfl, s.ter.dat, u.ter.dat, dp_ter _ _ (DAt.tm _ gs.at_), dp_ter _ _ (DAt.tm _ gu.at_), gs.fine, gu.fine, ?_⟩
      · have := DGet.k (k := .inl i) e1
        rw [look_val, lk] at this
        exact this
      · have e2 := congrArg Prod.snd em
        have e3 := congrArg Prod.fst em
        have q := q H1 b1 (by rw [← e2]; exact e1)
        rw [← e3] at q
        exact q
  | str x =>
    obtain ⟨r, e, h0, h1⟩ := hw
    cases e
  | @ap a g xs as e hs =>
    have hn : Ter.nests as + 1 < n + 1 := hn
    have ls := hs.len
    refine iteF ⟨_, rfl, u.val, u.ter, rfl, DAt.tm _ hu.at_, _, rfl, ?_⟩
    cases u with
    | var k => exact iteT (iteT (q H (But.refl _ _) ed))
    | ap b h bs =>
      have eb : H b = some (.tup (.str h :: bs.map DTer.val)) := hu.at_.1
      have qn : ∀ (c : ¬ (g = h ∧ as.length = bs.length)), Q (.bl false) H := fun c => by
        have := q H (But.refl _ _) (by rw [mtch_ap, if_neg c]; exact ed)
        rw [mtch_ap, if_neg c] at this
        exact this
      refine iteF ⟨_, rfl, a, _, 0, .str g, rfl, rfl, .inl (.inl e), head_at, _, rfl, b, _, 0, .str h, rfl, rfl, .inl (.inl eb), head_at, rfl, _, rfl, ite2 (fun z => iteT (qn fun c => ?_)) (fun z => ?_)⟩
      · rw [c.1] at z
        rw [decide_eq_true (rfl : V.str h = V.str h)] at z
        cases z
      have gh : g = h := by
        by_cases c : g = h
        · exact c
        · rw [decide_eq_false (fun y : V.str g = V.str h => c (V.str.inj y))] at z
          exact absurd rfl z
      refine ⟨_, rfl, a, _, rfl, .inr (.inl (.inl e)), _, rfl, b, _, rfl, .inr (.inl (.inl eb)), rfl, _, rfl, ite2 (fun z => qn fun c => ?_) (fun z => ?_)⟩
      · have l1 : (V.str g :: xs).length = (V.str h :: bs.map DTer.val).length := by rw [List.length_cons, List.length_cons, List.length_map, ls, c.2]
        rw [l1, decide_eq_true rfl] at z
        cases z
      have hl1 : as.length = bs.length := by
        by_cases c : as.length = bs.length
        · exact c
        · have : ¬ V.int (((V.str g :: xs).length : Nat) : Int) = V.int (((V.str h :: bs.map DTer.val).length : Nat) : Int) := fun y => by
            have y := V.int.inj y
            rw [List.length_cons, List.length_cons, List.length_map, ls] at y
            omega
          rw [decide_eq_false this] at z
          exact absurd rfl z
      have em : mtch (.ap g as) (.ap b h bs) B = mtchs as bs B := by rw [mtch_ap, if_pos ⟨gh, hl1⟩]
      rw [em] at q
      have hl : B.length + (Ter.sizes as + 1) ≤ 100000 := hl
      have hub : Ter.nests (DTer.ters bs) + 1 ≤ 40 := hu.ne
      refine ⟨.ref a, rfl, 1, rfl, a, .str g, xs, rfl, rfl, rfl, .inl (.inl e), fun p1 np1 => ?_⟩
      have s1 := same_new np1 (.tup xs)
      refine ⟨.ref b, rfl, 1, rfl, b, .str h, bs.map DTer.val, rfl, rfl, rfl, .inl (.inl (s1 _ _ eb)), fun p2 np2 => ?_⟩
      have s2 := same_new np2 (.tup (bs.map DTer.val))
      refine ⟨p1, p2, xs, bs.map DTer.val, rfl, .inr ⟨.inl (.inl (s2 _ _ upd_same)), .inl (.inl upd_same), RZ.for_zipT (xs := xs) (ys := bs.map DTer.val) (by rw [List.length_map]; omega) (fun i σ H3 => ∃ B' y3 y4, σ = [some (.ref a), some (.ref b), some (.ref d), y3, y4] ∧ H3 p1 = some (.tup xs) ∧ H3 p2 = some (.tup (bs.map DTer.val)) ∧ But d H H3 ∧ H3 d = some (.dK (bKvs B')) ∧ mtchs as bs B = mtchs (as.drop i) (bs.drop i) B' ∧ BOk H3 B' 40 ∧ B'.length + Ter.sizes (as.drop i) ≤ 100000) ⟨B, none, none, rfl, s2 _ _ upd_same, upd_same, (s1.trans s2).but, (s1.trans s2) _ _ ed, rfl, hB.mono (s1.trans s2).tups, by show B.length + Ter.sizes as ≤ _; omega⟩ (fun i σ H3 h => ?_) (fun i x y T σ H3 hx hy h nT => ?_) (fun σ H3 h => ?_)⟩⟩
      · obtain ⟨_, _, _, _, e1, e2, _⟩ := h
        exact ⟨.inl (.inl e1), .inl (.inl e2)⟩
      · obtain ⟨B', y3, y4, rfl, e1, e2, b3, ed3, eM, hB3, hl3⟩ := h
        obtain ⟨t1, et, hx1⟩ := hs.get hx
        rw [List.getElem?_map] at hy
        obtain ⟨u1, eu, rfl⟩ : ∃ u1, bs[i]? = some u1 ∧ u1.val = y := by
          cases q1 : bs[i]? with
          | none => rw [q1] at hy; cases hy
          | some u1 => rw [q1] at hy; exact ⟨u1, rfl, Option.some.inj hy⟩
        have n1 := nest_le_of et
        have eut : (DTer.ters bs)[i]? = some u1.ter := by rw [ters_get, eu]; rfl
        have n2 := nest_le_of eut
        have wu := wfs_get hu.wf.2 eut
        have m3 := b3.tupsK ed
        have sT := same_new nT (.tup [x, u1.val])
        have gu : Gd (upd H3 T (.tup [x, u1.val])) u1 40 := ⟨DAt.mono (m3.trans sT.tups) _ (DAts.get hu.at_.2 eu), wu, by omega⟩
        have li := (List.getElem?_eq_some_iff.mp et).1
        have lb := (List.getElem?_eq_some_iff.mp eu).1
        have zz : Ter.sizes (as.drop i) = t1.size + Ter.sizes (as.drop (i + 1)) := by
          rw [List.drop_eq_getElem_cons li, (List.getElem?_eq_some_iff.mp et).2]
          rfl
        refine ⟨T, [x, u1.val], rfl, .inl (.inl upd_same), rfl, x, [u1.val], rfl, u1.val, [], rfl, rfl, ?_⟩
        refine ⟨_, rfl, _, rfl, _, rfl, x, t1, u1, d, B', rfl, TmAt.mono (m3.trans sT.tups) _ _ hx1, wfs_get hw.2 et, by omega, gu, sT _ _ ed3, hB3.mono sT.tups, by omega, fun H5 b5 e5 => ?_⟩
        have b6 := b3.trans (sT.but.trans b5)
        have st := mtchs_at eM et eu
        cases hr1 : (mtch t1 u1 B').1 with
        | false =>
          refine ⟨_, rfl, iteT ?_⟩
          rw [hr1, if_neg Bool.false_ne_true] at st
          rw [st] at q
          exact q H5 b6 e5
        | true =>
          rw [hr1, if_pos rfl] at st
          have m5 := b5.tupsK (sT _ _ ed3)
          obtain ⟨k1, k2⟩ := mtch_ok t1 u1 B' (wfs_get hw.2 et) gu (hB3.mono sT.tups)
          have p1d : p1 ≠ d := fun z => by rw [z, ed3] at e1; cases e1
          have p2d : p2 ≠ d := fun z => by rw [z, ed3] at e2; cases e2
          exact ⟨_, rfl, iteF ⟨_, _, _, rfl, b5 _ _ p1d (sT _ _ e1), b5 _ _ p2d (sT _ _ e2), b6, e5, st, k1.mono m5, by omega⟩⟩
      · obtain ⟨B', y3, y4, rfl, e1, e2, b3, ed3, eM, hB3, hl3⟩ := h
        rw [ls, List.drop_length] at eM
        have eM : mtchs as bs B = (true, B') := eM
        rw [eM] at q
        exact q H3 b3 ed3
theorem ok_matches {f fV : Addr} {fd dV : FuncData} (D : Df K mg "matches" s_matches ["pattern", "term", "bound"] f fd) (DV : Df K mg "is_variable" s_is_variable ["term"] fV dV) (GV : FnOk P w K mg base CX0 1 fV dV ["term"] spIsVar) (ml : mg "len" = none) (mz : mg "zip" = none) :
    ∀ n : Nat, FnOk P w K mg base CX0 (n + 1) f fd ["pattern", "term", "bound"] (spM n)
  | 0 => by
    have no : ∀ vs H Q E, ¬ spM 0 vs H Q E := fun vs H Q E h => by
      obtain ⟨_, _, _, _, _, _, _, _, hk, _⟩ := h
      omega
    exact ⟨fun vs H Q E h => absurd h (no vs H Q E), fun A outer s H args us vs Q E _ _ _ _ h => absurd h (no vs H Q E)⟩
  | n + 1 => ok_matches1 D DV GV ml mz (ok_matches D DV GV ml mz n)
end

end K07
namespace K07
open PySem PySem.Spec PyProof.Rows L2 Own HT
section
variable {P : Program} {w : World} {K : PySem.W.Frag} {mg : Str → Option Value} {base : Heap}
theorem sc_law_matches : FnScope ["pattern", "term", "found", "at"] ["pattern", "term", "found"] (defScope s__law_matches) := ⟨rfl, rfl, rfl, by decide +kernel, rfl, by decide +kernel, by decide +kernel⟩
theorem ok_law_matches1 {f : Addr} {fd : FuncData} (D : Df K mg "_law_matches" s__law_matches ["pattern", "term", "found"] f fd) (mi : mg "isinstance" = none) (mt : mg "tuple" = none) (ml : mg "len" = none) (mr : mg "range" = none)
    {n : Nat} (G : FnOk P w K mg base CX0 n f fd ["pattern", "term", "found"] (spM n)) : FnOk P w K mg base CX0 (n + 1) f fd ["pattern", "term", "found"] (spM (n + 1)) := by
  refine D.F.ok sc_law_matches (fun vs H Q E h => ?_) (fun cdv A outer s H vs Q E hr h => ?_)
  · obtain ⟨v, p, u, d, B, rfl, _⟩ := h; rfl
  obtain ⟨v, p, u, d, B, rfl, ht, hw, hn, hu, ed, hB, hl, q⟩ := h
  have nd := sc_law_matches.nd
  refine ⟨_, pss_cons (ps_if (pt_not (pt_val (pe_callB call_isiTer (by rfl) mi (by decide +kernel) (pa_cons (pv 0) (pa_cons (pe_bltn (v := .ty "tuple") (by rfl) mt (by decide +kernel) rfl) pa_nil)))))
      (pss_cons (ps_if (pt_cmp (pc_din (hu_of hr) (pv 0) (pv 2))) (pss_one (ps_ret (pe_cmpR (op_eqD hr.units) (pe_dget (hu_of hr) (pv 2) (pv 0) (fun _ _ => rfl)) (pv 1) (nomark _)))) pss_nil)
      (pss_cons (ps_dput (hu_of hr) (pv 2) (pv 0) (pv 1) rfl)
      (pss_one (ps_ret pe_bl)))) pss_nil)
    (pss_cons (ps_if (PW.pt (pw_or (pt_not (pt_val (pe_callB call_isiTer (by rfl) mi (by decide +kernel) (pa_cons (pv 1) (pa_cons (pe_bltn (v := .ty "tuple") (by rfl) mt (by decide +kernel) rfl) pa_nil)))))
        (pw_or (pt_cmpR op_ne (pe_ix ix_tup (pv 0) pe_int (fun _ _ => rfl)) (pe_ix ix_tup (pv 1) pe_int (fun _ _ => rfl)) (nomark _))
          (pw_or1 (pt_cmpR op_ne (pe_callB call_len_seq (by rfl) ml PySem.boot_len (pa_cons (pv 0) pa_nil)) (pe_callB call_len_seq (by rfl) ml PySem.boot_len (pa_cons (pv 1) pa_nil)) (nomark _)))))) (pss_one (ps_ret pe_bl)) pss_nil)
    (pss_cons (ps_for PassesOwn.never rfl (pi_range2 (by rfl) mr (pa_cons pe_int (pa_cons (pe_callB call_len_seq (by rfl) ml PySem.boot_len (pa_cons (pv 0) pa_nil)) pa_nil))) (pg_name (i := 3) nd rfl (.inl rfl))
      (pss_one (ps_if (pt_not (pt_val (pe_call G hr (by rfl) D.m D.F.kp D.b .nil pass0 (pa_cons (pe_ix ix_tup (pv 0) (pv 3) (fun _ _ => rfl)) (pa_cons (pe_ix ix_tup (pv 1) (pv 3) (fun _ _ => rfl)) (pa_cons (pv 2) pa_nil)))))) (pss_one (ps_ret pe_bl)) pss_nil)))
    (pss_one (ps_ret pe_bl)))), ?_⟩
  refine ⟨v, rfl, v, p, rfl, ht, _, rfl, ?_⟩
  cases ht with
  | int i =>
    refine iteT ?_
    obtain ⟨r, e, h0, h1⟩ := hw
    cases e
    refine ⟨_, rfl, _, rfl, d, _, rfl, DGet.k (k := .inl i) ed, _, rfl, ?_⟩
    rw [look_val]
    cases e : look B (.inl i) with
    | some s =>
      have gs := (hB.al _ (look_mem e)).2
      refine iteT ⟨_, rfl, _, rfl, d, s.val, rfl, ?_, _, rfl, s.ter.dat, u.ter.dat, dp_ter _ _ (DAt.tm _ gs.at_), dp_ter _ _ (DAt.tm _ hu.at_), gs.fine, hu.fine, ?_⟩
      · have := DGet.k (k := .inl i) ed
        rw [look_val, e] at this
        exact this
      · have em := mtch_int (u := u) e
        rw [em] at q
        exact q H (But.refl _ _) ed
    | none =>
      refine iteF ⟨_, rfl, _, rfl, _, rfl, d, _, rfl, DPut.k (k := .inl i) ed (small6' (by unfold bKvs; rw [List.length_map]; omega)), ?_⟩
      rw [kvs_put e]
      have em := mtch_new (u := u) e
      rw [em] at q
      exact q _ But.upd upd_same
  | str x =>
    obtain ⟨r, e, h0, h1⟩ := hw
    cases e
  | @ap a g xs as e hs =>
    have hn : Ter.nests as + 1 < n + 1 := hn
    have ls := hs.len
    refine iteF ⟨_, rfl, u.val, u.ter, rfl, DAt.tm _ hu.at_, _, rfl, ?_⟩
    cases u with
    | var k => exact iteT (iteT (q H (But.refl _ _) ed))
    | ap b h bs =>
      have eb : H b = some (.tup (.str h :: bs.map DTer.val)) := hu.at_.1
      have qn : ∀ (c : ¬ (g = h ∧ as.length = bs.length)), Q (.bl false) H := fun c => by
        have := q H (But.refl _ _) (by rw [mtch_ap, if_neg c]; exact ed)
        rw [mtch_ap, if_neg c] at this
        exact this
      refine iteF ⟨_, rfl, a, _, 0, .str g, rfl, rfl, .inl (.inl e), head_at, _, rfl, b, _, 0, .str h, rfl, rfl, .inl (.inl eb), head_at, rfl, _, rfl, ite2 (fun z => iteT (qn fun c => ?_)) (fun z => ?_)⟩
      · rw [c.1] at z
        rw [decide_eq_true (rfl : V.str h = V.str h)] at z
        cases z
      have gh : g = h := by
        by_cases c : g = h
        · exact c
        · rw [decide_eq_false (fun y : V.str g = V.str h => c (V.str.inj y))] at z
          exact absurd rfl z
      refine ⟨_, rfl, a, _, rfl, .inr (.inl (.inl e)), _, rfl, b, _, rfl, .inr (.inl (.inl eb)), rfl, _, rfl, ite2 (fun z => qn fun c => ?_) (fun z => ?_)⟩
      · have l1 : (V.str g :: xs).length = (V.str h :: bs.map DTer.val).length := by rw [List.length_cons, List.length_cons, List.length_map, ls, c.2]
        rw [l1, decide_eq_true rfl] at z
        cases z
      have hl1 : as.length = bs.length := by
        by_cases c : as.length = bs.length
        · exact c
        · have : ¬ V.int (((V.str g :: xs).length : Nat) : Int) = V.int (((V.str h :: bs.map DTer.val).length : Nat) : Int) := fun y => by
            have y := V.int.inj y
            rw [List.length_cons, List.length_cons, List.length_map, ls] at y
            omega
          rw [decide_eq_false this] at z
          exact absurd rfl z
      have em : mtch (.ap g as) (.ap b h bs) B = mtchs as bs B := by rw [mtch_ap, if_pos ⟨gh, hl1⟩]
      rw [em] at q
      have hl : B.length + (Ter.sizes as + 1) ≤ 100000 := hl
      have hub : Ter.nests (DTer.ters bs) + 1 ≤ 40 := hu.ne
      have l2 := hw.1.2
      have en : ((((V.str g :: xs).length : Nat) : Int) - 1).toNat = as.length := by rw [List.length_cons, ls]; omega
      have e5 : (((V.str g :: xs).length : Nat) : Int) = (as.length : Int) + 1 := by rw [List.length_cons, ls]; omega
      refine ⟨_, rfl, a, _, rfl, .inr (.inl (.inl e)), 1, _, rfl, ⟨by decide, by decide, by rw [e5]; omega, by rw [e5]; omega⟩, ?_⟩
      rw [en]
      refine for_range (lo := 1) (n := as.length) (fun i σ H3 => ∃ B' y3, σ = [some (.ref a), some (.ref b), some (.ref d), y3] ∧ But d H H3 ∧ H3 d = some (.dK (bKvs B')) ∧ mtchs as bs B = mtchs (as.drop i) (bs.drop i) B' ∧ BOk H3 B' 40 ∧ B'.length + Ter.sizes (as.drop i) ≤ 100000) ⟨B, none, rfl, But.refl _ _, ed, rfl, hB, by show B.length + Ter.sizes as ≤ _; omega⟩ (fun i σ H3 hi h => ?_) (fun σ H3 h => ?_)
      · obtain ⟨B', y3, rfl, b3, ed3, eM, hB3, hl3⟩ := h
        have ix : i < xs.length := by omega
        have ib : i < bs.length := by omega
        have hx : xs[i]? = some xs[i] := List.getElem?_eq_getElem ix
        have eu : bs[i]? = some bs[i] := List.getElem?_eq_getElem ib
        generalize xs[i] = x at hx
        generalize bs[i] = u1 at eu
        obtain ⟨t1, et, hx1⟩ := hs.get hx
        have n1 := nest_le_of et
        have eut : (DTer.ters bs)[i]? = some u1.ter := by rw [ters_get, eu]; rfl
        have n2 := nest_le_of eut
        have wu := wfs_get hu.wf.2 eut
        have m3 := b3.tupsK ed
        have gu : Gd H3 u1 40 := ⟨DAt.mono m3 _ (DAts.get hu.at_.2 eu), wu, by omega⟩
        have li := (List.getElem?_eq_some_iff.mp et).1
        have zz : Ter.sizes (as.drop i) = t1.size + Ter.sizes (as.drop (i + 1)) := by
          rw [List.drop_eq_getElem_cons li, (List.getElem?_eq_some_iff.mp et).2]
          rfl
        have ci : (1 : Int) + (i : Nat) = ((i + 1 : Nat) : Int) := by omega
        rw [ci]
        refine ⟨_, rfl, _, rfl, a, _, _, x, rfl, rfl, .inl (.inl (m3 _ _ e)), atI_nat (j := i + 1) hx, _, rfl, _, rfl, b, _, _, u1.val, rfl, rfl, .inl (.inl (m3 _ _ eb)), atI_nat (j := i + 1) (by rw [List.getElem?_cons_succ, List.getElem?_map, eu]; rfl), _, rfl, ?_⟩
        refine ⟨x, t1, u1, d, B', rfl, TmAt.mono m3 _ _ hx1, wfs_get hw.2 et, by omega, gu, ed3, hB3, by omega, fun H5 b5 e5 => ?_⟩
        have b6 := b3.trans b5
        have st := mtchs_at eM et eu
        cases hr1 : (mtch t1 u1 B').1 with
        | false =>
          refine ⟨_, rfl, iteT ?_⟩
          rw [hr1, if_neg Bool.false_ne_true] at st
          rw [st] at q
          exact q H5 b6 e5
        | true =>
          rw [hr1, if_pos rfl] at st
          have m5 := b5.tupsK ed3
          obtain ⟨k1, k2⟩ := mtch_ok t1 u1 B' (wfs_get hw.2 et) gu hB3
          exact ⟨_, rfl, iteF ⟨_, _, rfl, b6, e5, st, k1.mono m5, by omega⟩⟩
      · obtain ⟨B', y3, rfl, b3, ed3, eM, hB3, hl3⟩ := h
        rw [List.drop_length] at eM
        have eM : mtchs as bs B = (true, B') := eM
        rw [eM] at q
        exact q H3 b3 ed3
theorem ok_law_matches {f : Addr} {fd : FuncData} (D : Df K mg "_law_matches" s__law_matches ["pattern", "term", "found"] f fd) (mi : mg "isinstance" = none) (mt : mg "tuple" = none) (ml : mg "len" = none) (mr : mg "range" = none) :
    ∀ n : Nat, FnOk P w K mg base CX0 n f fd ["pattern", "term", "found"] (spM n)
  | 0 => by
    have no : ∀ vs H Q E, ¬ spM 0 vs H Q E := fun vs H Q E h => by
      obtain ⟨_, _, _, _, _, _, _, _, hk, _⟩ := h
      omega
    exact ⟨fun vs H Q E h => absurd h (no vs H Q E), fun A outer s H args us vs Q E _ _ _ _ h => absurd h (no vs H Q E)⟩
  | n + 1 => ok_law_matches1 D mi mt ml mr (ok_law_matches D mi mt ml mr n)
end

end K07
namespace K07
open PySem PySem.Spec PyProof.Rows L2 Own HT
/-! ### match_all, _law_due: one after another -/
def mall : List (Addr × DTer × DTer) → Bd → Option Bd
  | [], B => some B
  | e :: r, B => if (mtch e.2.1.ter e.2.2 B).1 = true then mall r (mtch e.2.1.ter e.2.2 B).2 else none
structure PrOk (H : Hp) (e : Addr × DTer × DTer) : Prop where
  at_ : H e.1 = some (.tup [e.2.1.val, e.2.2.val])
  gp : Gd H e.2.1 40
  gu : Gd H e.2.2 40
  sz : e.2.1.ter.size ≤ 1000
theorem PrOk.mono {H H' : Hp} {e : Addr × DTer × DTer} (h : PrOk H e) (m : Tups H H') : PrOk H' e := ⟨m _ _ h.at_, h.gp.mono m, h.gu.mono m, h.sz⟩
def prs (L : List (Addr × DTer × DTer)) : List V := L.map fun e => .ref e.1
theorem mall_at {L : List (Addr × DTer × DTer)} {B0 B : Bd} {i : Nat} {e : Addr × DTer × DTer} (h : mall L B0 = mall (L.drop i) B) (he : L[i]? = some e) :
    mall L B0 = if (mtch e.2.1.ter e.2.2 B).1 = true then mall (L.drop (i + 1)) (mtch e.2.1.ter e.2.2 B).2 else none := by
  obtain ⟨la, ea⟩ := List.getElem?_eq_some_iff.mp he
  rw [h, List.drop_eq_getElem_cons la, ea]
  rfl
structure Dk (K : PySem.W.Frag) (mg : Str → Option Value) (x : Str) (st : Stmt) (ps : List Str) (n : Nat) (f : Addr) (fd : FuncData) : Prop where
  F : Fun K x x st f fd
  b : ∃ ds, Vals [V.non] ds ∧ Binds K fd ps ds
  kb : KBn K fd ps n ["known"] (fun us ws => us ++ ws) (fun vs zs => vs ++ zs)
  m : mg x = some (.ref f)
section
variable {P : Program} {w : World} {K : PySem.W.Frag} {mg : Str → Option Value} {base : Heap}
def spAll (wn : Bool) : Sp := fun vs H Q _ => ∃ (a : Addr) (L : List (Addr × DTer × DTer)) (kv : V) (B : Bd), vs = [.ref a, kv] ∧ H a = some (.lst (prs L)) ∧ L.length ≤ 10 ∧ (∀ e ∈ L, PrOk H e) ∧ ((kv = .non ∧ B = [] ∧ wn = true) ∨ ∃ k, kv = .ref k ∧ H k = some (.dK (bKvs B))) ∧ BOk H B 40 ∧ B.length ≤ 1000 ∧
  (mall L B = none → ∀ H', Same H H' → Q .non H') ∧ ∀ B', mall L B = some B' → ∀ (p : Addr) (H' : Hp), Same H H' → H p = none → H' p = some (.dK (bKvs B')) → BOk H' B' 40 → Q (.ref p) H'
theorem sc_law_due : FnScope ["pairs", "start", "found", "pattern", "term"] ["pairs", "start"] (defScope s__law_due) := ⟨rfl, rfl, rfl, by decide +kernel, rfl, by decide +kernel, by decide +kernel⟩
theorem ok_law_due {f fM : Addr} {fd dM : FuncData} (D : Df K mg "_law_due" s__law_due ["pairs", "start"] f fd) (DM : Df K mg "_law_matches" s__law_matches ["pattern", "term", "found"] fM dM) (GM : FnOk P w K mg base CX0 42 fM dM ["pattern", "term", "found"] (spM 42)) (md : mg "dict" = none) : FnOk P w K mg base CX0 43 f fd ["pairs", "start"] (spAll false) := by
  refine D.F.ok sc_law_due (fun vs H Q E h => ?_) (fun cdv A outer s H vs Q E hr h => ?_)
  · obtain ⟨a, L, kv, B, rfl, _⟩ := h; rfl
  obtain ⟨a, L, kv, B, rfl, ea, hL, hP, hk, hB, hl, q0, q1⟩ := h
  have nd := sc_law_due.nd
  refine ⟨_, pss_cons (ps_set (i := 2) nd rfl (.inl rfl) (pe_callTy call_dictD (by rfl) md (by decide +kernel) (pa_cons (pv 1) pa_nil)))
    (pss_cons (ps_for PassesOwn.never rfl (pi_list (pv 0)) (pg_tup rfl (pgs_cons (pg_name (i := 3) nd rfl (.inl rfl)) (pgs_cons (pg_name (i := 4) nd rfl (.inl rfl)) pgs_nil)))
      (pss_one (ps_if (pt_not (pt_val (pe_call GM hr (by rfl) DM.m DM.F.kp DM.b .nil pass0 (pa_cons (pv 3) (pa_cons (pv 4) (pa_cons (pv 2) pa_nil)))))) (pss_one (ps_ret pe_non)) pss_nil)))
    (pss_one (ps_ret (pv 2)))), ?_⟩
  rcases hk with ⟨_, _, z⟩ | ⟨k, rfl, ek⟩
  · cases z
  refine ⟨_, rfl, k, _, rfl, .inl ek, fun p np => ?_⟩
  have s1 := same_new np (.dK (bKvs B))
  refine ⟨.ref a, rfl, a, rfl, ⟨_, .inl (.inl (s1 _ _ ea))⟩, for_list (xs := prs L) (fun i σ H2 => ∃ B' y3 y4, σ = [some (.ref a), some (.ref k), some (.ref p), y3, y4] ∧ Same H H2 ∧ H2 p = some (.dK (bKvs B')) ∧ mall L B = mall (L.drop i) B' ∧ BOk H2 B' 40 ∧ B'.length ≤ 1000 + i * 1000) ⟨B, none, none, rfl, s1, upd_same, rfl, hB.mono s1.tups, by omega⟩ (fun i σ H2 _ h => ?_) (fun i x σ H2 hx h => ?_) (fun σ H2 h => ?_)⟩
  · obtain ⟨_, _, _, _, sm, _⟩ := h
    exact .inl (.inl (sm _ _ ea))
  · obtain ⟨B', y3, y4, rfl, sm, ep, eM, hB2, hl2⟩ := h
    unfold prs at hx
    rw [List.getElem?_map] at hx
    obtain ⟨e, he, rfl⟩ : ∃ e, L[i]? = some e ∧ V.ref e.1 = x := by
      cases q1 : L[i]? with
      | none => rw [q1] at hx; cases hx
      | some u1 => rw [q1] at hx; exact ⟨u1, rfl, Option.some.inj hx⟩
    have li := (List.getElem?_eq_some_iff.mp he).1
    have pe := (hP e (List.mem_of_getElem? he)).mono sm.tups
    refine ⟨e.1, [e.2.1.val, e.2.2.val], rfl, .inl (.inl pe.at_), rfl, _, _, rfl, _, _, rfl, rfl, ?_⟩
    refine ⟨_, rfl, _, rfl, _, rfl, e.2.1.val, e.2.1.ter, e.2.2, p, B', rfl, DAt.tm _ pe.gp.at_, pe.gp.wf, Nat.lt_of_le_of_lt pe.gp.ne (by decide), pe.gu, ep, hB2, by have := pe.sz; omega, fun H5 b5 e5 => ?_⟩
    have sm5 := But.same np sm b5
    have st := mall_at eM he
    have m5 := b5.tupsK ep
    cases hr1 : (mtch e.2.1.ter e.2.2 B').1 with
    | false =>
      refine ⟨_, rfl, iteT ?_⟩
      rw [hr1, if_neg Bool.false_ne_true] at st
      exact q0 st H5 sm5
    | true =>
      rw [hr1, if_pos rfl] at st
      obtain ⟨k1, k2⟩ := mtch_ok e.2.1.ter e.2.2 B' pe.gp.wf pe.gu hB2
      have := pe.sz
      exact ⟨_, rfl, iteF ⟨_, _, _, rfl, sm5, e5, st, k1.mono m5, by omega⟩⟩
  · obtain ⟨B', y3, y4, rfl, sm, ep, eM, hB2, hl2⟩ := h
    have ll : (prs L).length = L.length := List.length_map _
    rw [ll, List.drop_length] at eM
    exact ⟨_, rfl, q1 B' eM p H2 sm np ep hB2⟩
theorem sc_match_all : FnScope ["pairs", "known", "bound", "pattern", "term"] ["pairs", "known"] (defScope s_match_all) := ⟨rfl, rfl, rfl, by decide +kernel, rfl, by decide +kernel, by decide +kernel⟩
theorem ok_match_all {f fM : Addr} {fd dM : FuncData} (D : Dk K mg "match_all" s_match_all ["pairs", "known"] 1 f fd) (DM : Df K mg "matches" s_matches ["pattern", "term", "bound"] fM dM) (GM : FnOk P w K mg base CX0 42 fM dM ["pattern", "term", "bound"] (spM 41)) (md : mg "dict" = none) : FnOk P w K mg base CX0 43 f fd ["pairs", "known"] (spAll true) := by
  refine D.F.ok sc_match_all (fun vs H Q E h => ?_) (fun cdv A outer s H vs Q E hr h => ?_)
  · obtain ⟨a, L, kv, B, rfl, _⟩ := h; rfl
  obtain ⟨a, L, kv, B, rfl, ea, hL, hP, hk, hB, hl, q0, q1⟩ := h
  have nd := sc_match_all.nd
  refine ⟨_, C8.pss_cut (ps_set (i := 2) nd rfl (.inl rfl) (pe_ifExp (pt_cmpR op_isN (pv 1) pe_non (nomark _)) pe_dnewK (pe_callTy call_dictD (by rfl) md (by decide +kernel) (pa_cons (pv 1) pa_nil))))
    (pss_cons (ps_for PassesOwn.never rfl (pi_list (pv 0)) (pg_tup rfl (pgs_cons (pg_name (i := 3) nd rfl (.inl rfl)) (pgs_cons (pg_name (i := 4) nd rfl (.inl rfl)) pgs_nil)))
      (pss_one (ps_if (pt_not (pt_val (pe_call GM hr (by rfl) DM.m DM.F.kp DM.b .nil pass0 (pa_cons (pv 3) (pa_cons (pv 4) (pa_cons (pv 2) pa_nil)))))) (pss_one (ps_ret pe_non)) pss_nil)))
    (pss_one (ps_ret (pv 2)))), ?_⟩
  refine ⟨fun σ H1 => ∃ p, H p = none ∧ σ = [some (.ref a), some kv, some (.ref p), none, none] ∧ H1 = upd H p (.dK (bKvs B)), ?_, fun σ H1 h => ?_⟩
  · rcases hk with ⟨rfl, rfl, _⟩ | ⟨k, rfl, ek⟩
    · exact ⟨_, rfl, rfl, _, rfl, iteT fun p np => ⟨p, np, rfl, rfl⟩⟩
    · refine ⟨_, rfl, rfl, _, rfl, iteF ?_⟩
      exact ⟨_, rfl, k, _, rfl, .inl ek, fun p np => ⟨p, np, rfl, rfl⟩⟩
  obtain ⟨p, np, rfl, rfl⟩ := h
  have s1 := same_new np (.dK (bKvs B))
  refine ⟨.ref a, rfl, a, rfl, ⟨_, .inl (.inl (s1 _ _ ea))⟩, for_list (xs := prs L) (fun i σ H2 => ∃ B' y3 y4, σ = [some (.ref a), some kv, some (.ref p), y3, y4] ∧ Same H H2 ∧ H2 p = some (.dK (bKvs B')) ∧ mall L B = mall (L.drop i) B' ∧ BOk H2 B' 40 ∧ B'.length ≤ 1000 + i * 1000) ⟨B, none, none, rfl, s1, upd_same, rfl, hB.mono s1.tups, by omega⟩ (fun i σ H2 _ h => ?_) (fun i x σ H2 hx h => ?_) (fun σ H2 h => ?_)⟩
  · obtain ⟨_, _, _, _, sm, _⟩ := h
    exact .inl (.inl (sm _ _ ea))
  · obtain ⟨B', y3, y4, rfl, sm, ep, eM, hB2, hl2⟩ := h
    unfold prs at hx
    rw [List.getElem?_map] at hx
    obtain ⟨e, he, rfl⟩ : ∃ e, L[i]? = some e ∧ V.ref e.1 = x := by
      cases q1 : L[i]? with
      | none => rw [q1] at hx; cases hx
      | some u1 => rw [q1] at hx; exact ⟨u1, rfl, Option.some.inj hx⟩
    have li := (List.getElem?_eq_some_iff.mp he).1
    have pe := (hP e (List.mem_of_getElem? he)).mono sm.tups
    refine ⟨e.1, [e.2.1.val, e.2.2.val], rfl, .inl (.inl pe.at_), rfl, _, _, rfl, _, _, rfl, rfl, ?_⟩
    refine ⟨_, rfl, _, rfl, _, rfl, e.2.1.val, e.2.1.ter, e.2.2, p, B', rfl, DAt.tm _ pe.gp.at_, pe.gp.wf, Nat.lt_of_le_of_lt pe.gp.ne (by decide), pe.gu, ep, hB2, by have := pe.sz; omega, fun H5 b5 e5 => ?_⟩
    have sm5 := But.same np sm b5
    have st := mall_at eM he
    have m5 := b5.tupsK ep
    cases hr1 : (mtch e.2.1.ter e.2.2 B').1 with
    | false =>
      refine ⟨_, rfl, iteT ?_⟩
      rw [hr1, if_neg Bool.false_ne_true] at st
      exact q0 st H5 sm5
    | true =>
      rw [hr1, if_pos rfl] at st
      obtain ⟨k1, k2⟩ := mtch_ok e.2.1.ter e.2.2 B' pe.gp.wf pe.gu hB2
      have := pe.sz
      exact ⟨_, rfl, iteF ⟨_, _, _, rfl, sm5, e5, st, k1.mono m5, by omega⟩⟩
  · obtain ⟨B', y3, y4, rfl, sm, ep, eM, hB2, hl2⟩ := h
    have ll : (prs L).length = L.length := List.length_map _
    rw [ll, List.drop_length] at eM
    exact ⟨_, rfl, q1 B' eM p H2 sm np ep hB2⟩
/-! ### match -/
def spMat : Sp := fun vs H Q _ => ∃ (pd u : DTer) (kv : V) (B : Bd), vs = [pd.val, u.val, kv] ∧ Gd H pd 40 ∧ Gd H u 40 ∧ pd.ter.size ≤ 1000 ∧ ((kv = .non ∧ B = []) ∨ ∃ k, kv = .ref k ∧ H k = some (.dK (bKvs B))) ∧ BOk H B 40 ∧ B.length ≤ 1000 ∧
  (∀ q, mall [(q, pd, u)] B = none → ∀ H', Same H H' → Q .non H') ∧ ∀ q B', mall [(q, pd, u)] B = some B' → ∀ (p : Addr) (H' : Hp), Same H H' → H p = none → H' p = some (.dK (bKvs B')) → BOk H' B' 40 → Q (.ref p) H'
theorem sc_match : FnScope ["pattern", "term", "known"] ["pattern", "term", "known"] (defScope s_match) := ⟨rfl, rfl, rfl, by decide +kernel, rfl, by decide +kernel, by decide +kernel⟩
theorem ok_match {f fA : Addr} {fd dA : FuncData} (D : Dk K mg "match" s_match ["pattern", "term", "known"] 2 f fd) (DA : Dk K mg "match_all" s_match_all ["pairs", "known"] 1 fA dA) (GA : FnOk P w K mg base CX0 43 fA dA ["pairs", "known"] (spAll true)) : FnOk P w K mg base CX0 44 f fd ["pattern", "term", "known"] spMat := by
  refine D.F.ok sc_match (fun vs H Q E h => ?_) (fun cdv A outer s H vs Q E hr h => ?_)
  · obtain ⟨a, L, kv, B, rfl, _⟩ := h; rfl
  obtain ⟨pd, u, kv, B, rfl, gp, gu, sz, hk, hB, hl, q0, q1⟩ := h
  have nd := sc_match.nd
  refine ⟨_, pss_one (ps_ret (pe_callN GA hr (by rfl) DA.m DA.F.kp DA.kb pass0 (pa_cons (pe_lst (pa_cons (pe_tup (pa_cons (pv 0) (pa_cons (pv 1) pa_nil))) pa_nil)) pa_nil) (pk_cons (pv 2) pk_nil))), ?_⟩
  refine ⟨_, rfl, _, rfl, by show 2 ≤ sizeLine; decide, fun t nt => ?_⟩
  have s1 := same_new nt (.tup [pd.val, u.val])
  refine ⟨by show 1 ≤ sizeLine; decide, fun a na => ?_⟩
  have s2 := same_new na (.lst [.ref t])
  have sm := s1.trans s2
  refine ⟨_, rfl, rfl, rfl, a, [(t, pd, u)], kv, B, rfl, upd_same, by show 1 ≤ 10; decide, fun e he => ?_, ?_, hB.mono sm.tups, hl, fun e H' s' => q0 t e H' (sm.trans s'), fun B' e p H' s' np => ?_⟩
  · rcases List.mem_cons.mp he with rfl | he
    · exact ⟨s2 _ _ upd_same, gp.mono sm.tups, gu.mono sm.tups, sz⟩
    · cases he
  · rcases hk with ⟨x, y⟩ | ⟨k, x, y⟩
    · exact .inl ⟨x, y, rfl⟩
    · exact .inr ⟨k, x, sm _ _ y⟩
  · refine q1 t B' e p H' (sm.trans s') ?_
    cases hp : H p with
    | none => rfl
    | some o => rw [sm _ _ hp] at np; cases np
/-! ### _law_right -/
def spRight : Sp := fun vs H Q _ => ((vs = [.non, .non]) ∨ ∃ (p r : Addr) (B : Bd), vs = [.ref p, .ref r] ∧ H p = some (.dK (bKvs B)) ∧ H r = some (.dK (bKvs B)) ∧ BOk H B 40) ∧ ∀ H', Same H H' → Q (.bl true) H'
theorem sc_law_right : FnScope ["actual", "due"] ["actual", "due"] (defScope s__law_right) := ⟨rfl, rfl, rfl, by decide +kernel, rfl, by decide +kernel, by decide +kernel⟩
theorem BOk_sub {H : Hp} {B : Bd} (h : BOk H B 40) : SubAt H (bKvs B) 60 := by
  refine ⟨?_, fun e he => ?_⟩
  · unfold bKvs
    rw [List.map_map]
    exact h.nd
  · obtain ⟨b, hb, rfl⟩ := List.mem_map.mp he
    obtain ⟨a, g⟩ := h.al b hb
    exact ⟨a, b.2.ter, DAt.tm _ g.at_, g.wf, Nat.le_trans g.ne (by decide)⟩
theorem kvs_eq {H : Hp} {K : PySem.W.Frag} {p r : Addr} {B : Bd} (hp : H p = some (.dK (bKvs B))) (hr : H r = some (.dK (bKvs B))) (h : BOk H B 40) : EqR K H (EqV K H 1) (.ref p) (.ref r) := by
  refine .inr ⟨p, r, _, _, rfl, rfl, hp, hr, rfl, fun e he => ⟨e.2, val_of_mem (BOk_sub h).nd he, ?_⟩⟩
  obtain ⟨b, hb, rfl⟩ := List.mem_map.mp he
  obtain ⟨a, g⟩ := h.al b hb
  cases e : b.2 with
  | ap q f as => exact .inr (.inl ⟨q, rfl, rfl⟩)
  | var k =>
    cases k with
    | inl i => exact .inl ⟨rfl, rfl⟩
    | inr x => exact .inl ⟨rfl, rfl⟩
theorem ok_law_right {f fS : Addr} {fd dS : FuncData} (D : Df K mg "_law_right" s__law_right ["actual", "due"] f fd) (DS : Df K mg "_law_is_substitution" s__law_is_substitution ["value"] fS dS) (GS : FnOk P w K mg base CX0 63 fS dS ["value"] spIsSub) : FnOk P w K mg base CX0 64 f fd ["actual", "due"] spRight := by
  refine D.F.ok sc_law_right (fun vs H Q E h => ?_) (fun cdv A outer s H vs Q E hr h => ?_)
  · rcases h.1 with e | ⟨p, r, B, e, _⟩ <;> rw [e] <;> rfl
  obtain ⟨h, q⟩ := h
  have nd := sc_law_right.nd
  refine ⟨_, pss_cons (ps_if (pt_cmpR op_isN (pv 1) pe_non (nomark _)) (pss_one (ps_ret (pe_cmpR op_isN (pv 0) pe_non (nomark _)))) pss_nil)
    (pss_one (ps_ret (pe_and (pe_call GS hr (by rfl) DS.m DS.F.kp DS.b .nil pass0 (pa_cons (pv 0) pa_nil)) (pe_one (pe_cmpR (op_eqV hr.units) (pv 0) (pv 1) (nomark _)))))), ?_⟩
  rcases h with rfl | ⟨p, r, B, rfl, hp, hr2, hB⟩
  · exact ⟨_, rfl, rfl, _, rfl, iteT ⟨_, rfl, rfl, q H (Same.refl _)⟩⟩
  · refine ⟨_, rfl, rfl, _, rfl, iteF ⟨_, rfl, p, _, rfl, hp, BOk_sub hB, fun H1 s1 => ⟨_, rfl, ?_⟩⟩⟩
    exact ⟨_, rfl, _, rfl, 1, by decide, kvs_eq (s1 _ _ hp) (s1 _ _ hr2) (hB.mono s1.tups), q H1 s1⟩
end

end K07
namespace K07
open PySem PySem.Spec PyProof.Rows L2 Own HT
/-! ### what a match gave -/
def Res (H : Hp) (v : V) : Option Bd → Prop
  | none => v = .non
  | some B => ∃ p, v = .ref p ∧ H p = some (.dK (bKvs B)) ∧ BOk H B 40
theorem Res.same {H H' : Hp} {v : V} {o : Option Bd} (h : Res H v o) (s : Same H H') : Res H' v o := by
  cases o with
  | none => exact h
  | some B =>
    obtain ⟨p, e, hp, hB⟩ := h
    exact ⟨p, e, s _ _ hp, hB.mono s.tups⟩
theorem all_of {wn : Bool} {H : Hp} {Q : VK} {a : Addr} {L : List (Addr × DTer × DTer)} {kv : V} {B : Bd} {E : XK} (ea : H a = some (.lst (prs L))) (hL : L.length ≤ 10) (hP : ∀ e ∈ L, PrOk H e) (hk : (kv = .non ∧ B = [] ∧ wn = true) ∨ ∃ k, kv = .ref k ∧ H k = some (.dK (bKvs B))) (hB : BOk H B 40) (hl : B.length ≤ 1000)
    (q : ∀ v H', Same H H' → Res H' v (mall L B) → Q v H') : spAll wn [.ref a, kv] H Q E :=
  ⟨a, L, kv, B, rfl, ea, hL, hP, hk, hB, hl, fun e H' s => q .non H' s (by rw [e]; rfl), fun B' e p H' s _ hp hB' => q (.ref p) H' s (by rw [e]; exact ⟨p, rfl, hp, hB'⟩)⟩
theorem mat_of {H : Hp} {Q : VK} {pd u : DTer} {kv : V} {B : Bd} {E : XK} (gp : Gd H pd 40) (gu : Gd H u 40) (sz : pd.ter.size ≤ 1000) (hk : (kv = .non ∧ B = []) ∨ ∃ k, kv = .ref k ∧ H k = some (.dK (bKvs B))) (hB : BOk H B 40) (hl : B.length ≤ 1000)
    (q : ∀ v H', Same H H' → (∀ t, Res H' v (mall [(t, pd, u)] B)) → Q v H') : spMat [pd.val, u.val, kv] H Q E :=
  ⟨pd, u, kv, B, rfl, gp, gu, sz, hk, hB, hl, fun t e H' s => q .non H' s (fun t' => by rw [show mall [(t', pd, u)] B = mall [(t, pd, u)] B from rfl, e]; rfl), fun t B' e p H' s _ hp hB' => q (.ref p) H' s (fun t' => by rw [show mall [(t', pd, u)] B = mall [(t, pd, u)] B from rfl, e]; exact ⟨p, rfl, hp, hB'⟩)⟩
theorem right_of {H : Hp} {Q : VK} {v x : V} {o : Option Bd} {E : XK} (h1 : Res H v o) (h2 : Res H x o) (q : ∀ H', Same H H' → Q (.bl true) H') : spRight [v, x] H Q E := by
  cases o with
  | none =>
    have h1 : v = .non := h1
    have h2 : x = .non := h2
    subst h1
    subst h2
    exact ⟨.inl rfl, q⟩
  | some B =>
    obtain ⟨p, rfl, hp, hB⟩ := h1
    obtain ⟨r, rfl, hr, _⟩ := h2
    exact ⟨.inr ⟨p, r, B, rfl, hp, hr, hB⟩, q⟩
theorem bnil {H : Hp} : BOk H [] 40 := ⟨List.nodup_nil, fun e h => by cases h⟩
theorem sub_deco {H : Hp} {kvs : List (Key × V)} {N : Nat} (h : SubAt H kvs N) (hN : N ≤ 40) : ∃ B : Bd, bKvs B = kvs ∧ BOk H B 40 := by
  have : ∀ kvs : List (Key × V), (∀ e ∈ kvs, (∃ i, e.1 = .inl i ∧ 0 ≤ i) ∧ ∃ t, TmAt H e.2 t ∧ t.wf s7 numVar ∧ t.nest ≤ N) → ∃ B : Bd, bKvs B = kvs ∧ ∀ e ∈ B, (∃ i, e.1 = .inl i ∧ 0 ≤ i) ∧ Gd H e.2 40 := fun kvs => by
    induction kvs with
    | nil => exact fun _ => ⟨[], rfl, fun e h => by cases h⟩
    | cons e r ih =>
      intro al
      obtain ⟨B, eB, hB⟩ := ih fun x hx => al x (List.mem_cons_of_mem _ hx)
      obtain ⟨hi, t, ht, hw, hn⟩ := al e List.mem_cons_self
      obtain ⟨u, e1, e2, hu⟩ := TmAt.deco t _ ht
      obtain ⟨ek, ev⟩ := e
      refine ⟨(ek, u) :: B, ?_, fun x hx => ?_⟩
      · show (ek, u.val) :: bKvs B = _
        rw [e1, eB]
      · rcases List.mem_cons.mp hx with rfl | hx
        · exact ⟨hi, hu, e2 ▸ hw, by rw [e2]; omega⟩
        · exact hB x hx
  obtain ⟨B, eB, hB⟩ := this kvs h.al
  refine ⟨B, eB, ?_, hB⟩
  have := h.nd
  rw [← eB] at this
  unfold bKvs at this
  rw [List.map_map] at this
  exact this
section
variable {P : Program} {w : World} {K : PySem.W.Frag} {mg : Str → Option Value} {base : Heap}
/-! ### _law_pairs -/
def spPairs : Sp := fun vs H Q _ => ∃ (d b : Addr) (kvs : List (Key × V)), vs = [.ref d, .ref b] ∧ ∃ c, Sta H d c ∧ H b = some (.dK kvs) ∧ SubAt H kvs 3 ∧
  ∀ (p : Addr) (L : List (Addr × DTer × DTer)) (H' : Hp), But d H H' → H p = none → Sta H' d c → H' p = some (.lst (prs L)) → L.length ≤ 4 → (∀ e ∈ L, PrOk H' e) → Q (.ref p) H'
theorem sc_law_pairs : FnScope ["state", "substitution", "pairs", "_law_turn", "pattern", "term"] ["state", "substitution"] (defScope s__law_pairs) := ⟨rfl, rfl, rfl, by decide +kernel, rfl, by decide +kernel, by decide +kernel⟩
theorem ok_law_pairs {f fD fT fR : Addr} {fd dD dT dR : FuncData} (D : Df K mg "_law_pairs" s__law_pairs ["state", "substitution"] f fd) (DD : Df K mg "_law_draw" s__law_draw ["state", "many"] fD dD) (GD : FnOk P w K mg base CX0 1 fD dD ["state", "many"] spDraw)
    (DT : Df K mg "_law_term" s__law_term ["state", "depth", "names"] fT dT) (GT : FnOk P w K mg base CX0 5 fT dT ["state", "depth", "names"] (spTerm7 4)) (DR : Df K mg "_law_replaced" s__law_replaced ["substitution", "term"] fR dR) (GR : FnOk P w K mg base CX0 5 fR dR ["substitution", "term"] (spRepl 3 5)) (mr : mg "range" = none) : FnOk P w K mg base CX0 6 f fd ["state", "substitution"] spPairs := by
  refine D.F.ok sc_law_pairs (fun vs H Q E h => ?_) (fun cdv A outer s H vs Q E hr h => ?_)
  · obtain ⟨a, v, t, rfl, _⟩ := h; rfl
  obtain ⟨d, b, kvs, rfl, c, hI, eb, hS, q⟩ := h
  have nd := sc_law_pairs.nd
  have r1 : Room 1 _ := hr.mono (by omega)
  refine ⟨_, pss_cons (ps_set (i := 2) nd rfl (.inl rfl) (pe_lst pa_nil))
    (pss_cons (ps_for PassesOwn.never rfl (pi_range1 (by rfl) mr (pa_cons (pe_call GD r1 (by rfl) DD.m DD.F.kp DD.b .nil pass0 (pa_cons (pv 0) (pa_cons pe_int pa_nil))) pa_nil)) (pg_name (i := 3) nd rfl (.inl rfl))
      (pss_cons (ps_set (i := 4) nd rfl (.inl rfl) (pe_call GT hr (by rfl) DT.m DT.F.kp DT.b .nil pass0 (pa_cons (pv 0) (pa_cons pe_int (pa_cons pe_int pa_nil)))))
      (pss_cons (ps_set (i := 5) nd rfl (.inl rfl) (pe_call GR hr (by rfl) DR.m DR.F.kp DR.b .nil pass0 (pa_cons (pv 1) (pa_cons (pv 4) pa_nil))))
      (C8.pss_cut (ps_if (pt_cmpR op_eq (pe_call GD r1 (by rfl) DD.m DD.F.kp DD.b .nil pass0 (pa_cons (pv 0) (pa_cons pe_int pa_nil))) pe_int (nomark _)) (pss_one (ps_set (i := 5) nd rfl (.inl rfl) (pe_call GT hr (by rfl) DT.m DT.F.kp DT.b .nil pass0 (pa_cons (pv 0) (pa_cons pe_int (pa_cons pe_int pa_nil)))))) pss_nil)
      (pss_one (ps_expr (pe_bm PySem.F.plainAttrs_list PySem.F.slot_list_append PySem.F.type_list_append mt_append (pv 2) (pa_cons (pe_tup (pa_cons (pv 4) (pa_cons (pv 5) pa_nil))) pa_nil))))))))
    (pss_one (ps_ret (pv 2)))), ?_⟩
  refine ⟨Nat.zero_le _, fun p np => ?_⟩
  have s1 := same_new np (.lst [])
  have npd := hI.ne np
  have nbd : b ≠ d := by
    obtain ⟨ys, e⟩ := hI.lst
    exact fun z => by rw [z, e] at eb; cases eb
  have nbp : b ≠ p := fun z => by rw [z, np] at eb; cases eb
  have two : ∀ {H2 H3 : Hp}, But d H H2 → But d H2 H3 → But d H H3 := fun a b => a.trans b
  refine ⟨_, rfl, d, 5, rfl, _, hI.same s1, by decide, by decide, fun r H1 r0 r5 b1 hI1 => ?_⟩
  have ep1 := b1 _ _ npd upd_same
  refine ⟨r, rfl, by omega, by omega, for_range (lo := 0) (n := r.toNat) (fun i σ H2 => ∃ L y3 y4 y5, σ = [some (.ref d), some (.ref b), some (.ref p), y3, y4, y5] ∧ But d H H2 ∧ Sta H2 d c ∧ H2 p = some (.lst (prs L)) ∧ L.length = i ∧ ∀ e ∈ L, PrOk H2 e) ⟨[], none, none, none, rfl, s1.but.trans b1, hI1, ep1, rfl, fun e h => by cases h⟩ (fun i σ H2 hi h => ?_) (fun σ H2 h => ?_)⟩
  · obtain ⟨L, y3, y4, y5, rfl, b2, hI2, ep, lL, hP⟩ := h
    refine ⟨_, rfl, d, 2, 4, rfl, _, hI2, by decide, by decide, fun v t H3 b3 hI3 hv hw hn hs => ?_⟩
    have m3 := hI2.tups b3
    have ba := b2.trans b3
    have mS : Tups H H3 := hI.tups ba
    refine ⟨_, rfl, _, rfl, b, v, t, kvs, rfl, ba _ _ nbd eb, hS.mono mS, hv, hw, by omega, fun v2 t2 H4 s4 hv2 hw2 hn2 => ?_⟩
    refine ⟨fun σ H5 => ∃ v5 t5, σ = [some (.ref d), some (.ref b), some (.ref p), some (.int (0 + (i : Int))), some v, some v5] ∧ But d H3 H5 ∧ Sta H5 d c ∧ TmAt H5 v5 t5 ∧ t5.wf s7 numVar ∧ t5.nest ≤ 40, ?_, fun σ H5 h => ?_⟩
    · refine ⟨_, rfl, d, 5, rfl, _, hI3.same s4, by decide, by decide, fun c5' H5 c0 c5 b5 hI5 => ?_⟩
      have m5 := (hI3.same s4).tups b5
      refine ⟨rfl, _, rfl, ite2 (fun _ => ?_) (fun _ => ⟨v2, t2, rfl, s4.but.trans b5, hI5, TmAt.mono m5 _ _ hv2, hw2, by omega⟩)⟩
      exact ⟨_, rfl, d, 2, 5, rfl, _, hI5, by decide, by decide, fun v6 t6 H6 b6 hI6 hv6 hw6 hn6 hs6 => ⟨v6, t6, rfl, s4.but.trans (b5.trans b6), hI6, hv6, hw6, by omega⟩⟩
    obtain ⟨v5, t5, rfl, b5, hI5, hv5, hw5, hn5⟩ := h
    have bz := ba.trans b5
    have m5 := hI3.tups b5
    have ep5 := b5 _ _ npd (b3 _ _ npd ep)
    obtain ⟨pd, e1, e2, hpd⟩ := TmAt.deco t v (TmAt.mono m5 _ _ hv)
    obtain ⟨u, e3, e4, hu⟩ := TmAt.deco t5 v5 hv5
    refine ⟨.ref p, rfl, tyl ep5, _, rfl, _, rfl, by show 2 ≤ sizeLine; decide, fun z nz => ?_⟩
    have s6 := same_new nz (.tup [v, v5])
    refine ⟨p, _, _, rfl, rfl, s6 _ _ ep5, small6' (by unfold prs; rw [List.length_map]; omega), ?_⟩
    have b7 : But p (upd H5 z (.tup [v, v5])) (upd (upd H5 z (.tup [v, v5])) p (.lst (prs L ++ [.ref z]))) := But.upd
    have m7 := s6.tups.trans (b7.tups (s6 _ _ ep5))
    have nzp : z ≠ p := fun y => by rw [y, ep5] at nz; cases nz
    have bf : But d H (upd (upd H5 z (.tup [v, v5])) p (.lst (prs L ++ [.ref z]))) := fun c' o n e => by
      rw [upd_ne (ne_of_none e np)]
      exact s6 _ _ (bz c' o n e)
    refine ⟨L ++ [(z, pd, u)], _, _, _, rfl, bf, ?_, by rw [upd_same]; unfold prs; rw [List.map_append]; rfl, by rw [List.length_append, List.length_singleton, lL], fun e he => ?_⟩
    · exact (hI5.same s6).upd npd (hI.nec np)
    · rcases List.mem_append.mp he with he | he
      · exact ((hP e he).mono ((hI2.tups b3).trans m5)).mono m7
      · rcases List.mem_cons.mp he with rfl | he
        · refine ⟨?_, ⟨DAt.mono m7 _ hpd, by rw [e2]; exact hw, by show pd.ter.nest ≤ 40; rw [e2]; omega⟩, ⟨DAt.mono m7 _ hu, by rw [e4]; exact hw5, by show u.ter.nest ≤ 40; rw [e4]; omega⟩, by show pd.ter.size ≤ 1000; rw [e2]; have : 2 ^ (2 + 1) = 8 := rfl; omega⟩
          show (upd _ p _) z = some (.tup [pd.val, u.val])
          rw [upd_ne nzp, upd_same, e1, e3]
        · cases he
  · obtain ⟨L, y3, y4, y5, rfl, b2, hI2, ep, lL, hP⟩ := h
    exact ⟨_, rfl, q p L H2 b2 np hI2 ep (by omega) hP⟩
end

end K07
namespace K07
open PySem PySem.Spec PyProof.Rows L2 Own HT
section
variable {P : Program} {w : World} {K : PySem.W.Frag} {mg : Str → Option Value} {base : Heap}
/-! ### law -/
def spLaw (K : PySem.W.Frag) : Sp := fun vs H Q _ => ∃ (a : Addr) (ns : List Int), vs = [.ref a] ∧ SqL K H a (ns.map V.int) ∧ ns.length ≤ 63 ∧ ∀ H', Q (.bl true) H'
theorem sc_law : FnScope ["script", "state", "substitution", "pairs", "start", "name", "pick", "given", "given_start", "pattern", "term", "due", "same"] ["script"] (defScope s_law) := ⟨rfl, rfl, rfl, by decide +kernel, rfl, by decide +kernel, by decide +kernel⟩
theorem ok_law {f : Addr} {fd : FuncData} (D : Df K mg "law" s_law ["script"] f fd)
    {fS fD fT fR fU fP fE fG fA fM : Addr} {dS dD dT dR dU dP dE dG dA dM : FuncData}
    (DS : Df K mg "_law_state" s__law_state ["script"] fS dS) (GS : FnOk P w K mg base CX0 1 fS dS ["script"] (spState K))
    (DD : Df K mg "_law_draw" s__law_draw ["state", "many"] fD dD) (GD : FnOk P w K mg base CX0 1 fD dD ["state", "many"] spDraw)
    (DT : Df K mg "_law_term" s__law_term ["state", "depth", "names"] fT dT) (GT : FnOk P w K mg base CX0 5 fT dT ["state", "depth", "names"] (spTerm7 4))
    (DR : Df K mg "_law_replaced" s__law_replaced ["substitution", "term"] fR dR) (GR : FnOk P w K mg base CX0 5 fR dR ["substitution", "term"] (spRepl 3 5))
    (DU : Df K mg "_law_substitution" s__law_substitution ["state", "names", "depth"] fU dU) (GU : FnOk P w K mg base CX0 6 fU dU ["state", "names", "depth"] spSubst)
    (DP : Df K mg "_law_pairs" s__law_pairs ["state", "substitution"] fP dP) (GP : FnOk P w K mg base CX0 6 fP dP ["state", "substitution"] spPairs)
    (DE : Df K mg "_law_due" s__law_due ["pairs", "start"] fE dE) (GE : FnOk P w K mg base CX0 43 fE dE ["pairs", "start"] (spAll false))
    (DG : Df K mg "_law_right" s__law_right ["actual", "due"] fG dG) (GG : FnOk P w K mg base CX0 64 fG dG ["actual", "due"] spRight)
    (DA : Dk K mg "match_all" s_match_all ["pairs", "known"] 1 fA dA) (GA : FnOk P w K mg base CX0 43 fA dA ["pairs", "known"] (spAll true))
    (DM : Dk K mg "match" s_match ["pattern", "term", "known"] 2 fM dM) (GM : FnOk P w K mg base CX0 44 fM dM ["pattern", "term", "known"] spMat)
    (mr : mg "range" = none) (mli : mg "list" = none) (md : mg "dict" = none) : FnOk P w K mg base CX0 65 f fd ["script"] (spLaw K) := by
  refine D.F.ok sc_law (fun vs H Q E h => ?_) (fun cdv A outer s H vs Q E hr h => ?_)
  · obtain ⟨a, ns, rfl, _⟩ := h; rfl
  obtain ⟨a, ns, rfl, hS, hn, q⟩ := h
  have nd := sc_law.nd
  have r1 : Room 1 _ := hr.mono (by decide)
  have r5 : Room 5 _ := hr.mono (by decide)
  have r6 : Room 6 _ := hr.mono (by decide)
  have r43 : Room 43 _ := hr.mono (by decide)
  have r44 : Room 44 _ := hr.mono (by decide)
  obtain ⟨dsA, rdA, bdA⟩ := DA.b
  obtain ⟨dsM, rdM, bdM⟩ := DM.b
  refine ⟨_, pss_cons (ps_set (i := 1) nd rfl (.inl rfl) (pe_call GS r1 (by rfl) DS.m DS.F.kp DS.b .nil pass0 (pa_cons (pv 0) pa_nil)))
    (pss_cons (ps_set (i := 2) nd rfl (.inl rfl) (pe_call GU r6 (by rfl) DU.m DU.F.kp DU.b .nil pass0 (pa_cons (pv 1) (pa_cons pe_int (pa_cons pe_int pa_nil)))))
    (pss_cons (ps_set (i := 3) nd rfl (.inl rfl) (pe_call GP r6 (by rfl) DP.m DP.F.kp DP.b .nil pass0 (pa_cons (pv 1) (pa_cons (pv 2) pa_nil))))
    (pss_cons (ps_set (i := 4) nd rfl (.inl rfl) pe_dnewK)
    (pss_cons (ps_for PassesOwn.never rfl (pi_range1 (by rfl) mr (pa_cons pe_int pa_nil)) (pg_name (i := 5) nd rfl (.inl rfl))
      (pss_cons (ps_set (i := 6) nd rfl (.inl rfl) (pe_call GD r1 (by rfl) DD.m DD.F.kp DD.b .nil pass0 (pa_cons (pv 1) (pa_cons pe_int pa_nil))))
      (C8.pss_cut (ps_if (pt_cmpR op_lt (pv 6) pe_int (nomark _)) (pss_one (ps_dput (hu_of hr) (pv 4) (pv 5) (pe_dget2 (hu_of hr) (pv 2) (pv 5) (pv 5) ⟨rfl, rfl, rfl, rfl⟩) rfl)) pss_nil)
      (pss_one (ps_if (PW.pt (pw_and (pt_cmpR op_eq (pv 6) pe_int (nomark _)) (pw_and1 (pt_cmpR op_eq (pe_call GD r1 (by rfl) DD.m DD.F.kp DD.b .nil pass0 (pa_cons (pv 1) (pa_cons pe_int pa_nil))) pe_int (nomark _)))))
        (pss_one (ps_dput (hu_of hr) (pv 4) (pv 5) (pe_call GT r5 (by rfl) DT.m DT.F.kp DT.b .nil pass0 (pa_cons (pv 1) (pa_cons pe_int (pa_cons pe_int pa_nil)))) rfl)) pss_nil)))))
    (pss_cons (ps_set (i := 7) nd rfl (.inl rfl) (pe_callTy call_list_of (by rfl) mli (by decide +kernel) (pa_cons (pv 3) pa_nil)))
    (pss_cons (ps_set (i := 8) nd rfl (.inl rfl) (pe_callTy call_dictD (by rfl) md (by decide +kernel) (pa_cons (pv 4) pa_nil)))
    (pss_cons (ps_if (pt_not (pt_val (pe_call GG hr (by rfl) DG.m DG.F.kp DG.b .nil pass0 (pa_cons (pe_callN GA r43 (by rfl) DA.m DA.F.kp DA.kb pass0 (pa_cons (pv 7) pa_nil) (pk_cons (pv 8) pk_nil)) (pa_cons (pe_call GE r43 (by rfl) DE.m DE.F.kp DE.b .nil pass0 (pa_cons (pv 3) (pa_cons (pv 4) pa_nil))) pa_nil))))) (pss_one (ps_ret pe_bl)) pss_nil)
    (pss_cons (ps_if (pt_not (pt_val (pe_call GG hr (by rfl) DG.m DG.F.kp DG.b .nil pass0 (pa_cons (pe_call GA r43 (by rfl) DA.m DA.F.kp bdA rdA pass0 (pa_cons (pv 7) pa_nil)) (pa_cons (pe_call GE r43 (by rfl) DE.m DE.F.kp DE.b .nil pass0 (pa_cons (pv 3) (pa_cons pe_dnewK pa_nil))) pa_nil))))) (pss_one (ps_ret pe_bl)) pss_nil)
    (pss_cons (ps_set (i := 9) nd rfl (.inl rfl) (pe_call GT r5 (by rfl) DT.m DT.F.kp DT.b .nil pass0 (pa_cons (pv 1) (pa_cons pe_int (pa_cons pe_int pa_nil)))))
    (pss_cons (ps_set (i := 10) nd rfl (.inl rfl) (pe_call GR r5 (by rfl) DR.m DR.F.kp DR.b .nil pass0 (pa_cons (pv 2) (pa_cons (pv 9) pa_nil))))
    (C8.pss_cut (ps_if (pt_cmpR op_eq (pe_call GD r1 (by rfl) DD.m DD.F.kp DD.b .nil pass0 (pa_cons (pv 1) (pa_cons pe_int pa_nil))) pe_int (nomark _)) (pss_one (ps_set (i := 10) nd rfl (.inl rfl) (pe_call GT r5 (by rfl) DT.m DT.F.kp DT.b .nil pass0 (pa_cons (pv 1) (pa_cons pe_int (pa_cons pe_int pa_nil)))))) pss_nil)
    (pss_cons (ps_set (i := 11) nd rfl (.inl rfl) (pe_call GE r43 (by rfl) DE.m DE.F.kp DE.b .nil pass0 (pa_cons (pe_lst (pa_cons (pe_tup (pa_cons (pv 9) (pa_cons (pv 10) pa_nil))) pa_nil)) (pa_cons pe_dnewK pa_nil))))
    (pss_cons (ps_if (pt_not (pt_val (pe_call GG hr (by rfl) DG.m DG.F.kp DG.b .nil pass0 (pa_cons (pe_call GM r44 (by rfl) DM.m DM.F.kp bdM rdM pass0 (pa_cons (pv 9) (pa_cons (pv 10) pa_nil))) (pa_cons (pv 11) pa_nil))))) (pss_one (ps_ret pe_bl)) pss_nil)
    (pss_cons (ps_if (pt_not (pt_val (pe_call GG hr (by rfl) DG.m DG.F.kp DG.b .nil pass0 (pa_cons (pe_callN GM r44 (by rfl) DM.m DM.F.kp DM.kb pass0 (pa_cons (pv 9) (pa_cons (pv 10) pa_nil)) (pk_cons (pv 8) pk_nil)) (pa_cons (pe_call GE r43 (by rfl) DE.m DE.F.kp DE.b .nil pass0 (pa_cons (pe_lst (pa_cons (pe_tup (pa_cons (pv 9) (pa_cons (pv 10) pa_nil))) pa_nil)) (pa_cons (pv 4) pa_nil))) pa_nil))))) (pss_one (ps_ret pe_bl)) pss_nil)
    (pss_cons (ps_set (i := 12) nd rfl (.inl rfl) (pe_callN GM r44 (by rfl) DM.m DM.F.kp DM.kb pass0 (pa_cons (pv 9) (pa_cons (pv 9) pa_nil)) (pk_cons pe_non pk_nil)))
    (pss_cons (ps_if (pt_not (pt_val (pe_call GG hr (by rfl) DG.m DG.F.kp DG.b .nil pass0 (pa_cons (pv 12) (pa_cons (pe_call GE r43 (by rfl) DE.m DE.F.kp DE.b .nil pass0 (pa_cons (pe_lst (pa_cons (pe_tup (pa_cons (pv 9) (pa_cons (pv 9) pa_nil))) pa_nil)) (pa_cons pe_dnewK pa_nil))) pa_nil))))) (pss_one (ps_ret pe_bl)) pss_nil)
    (pss_one (ps_ret (pe_and (pe_cmpR (op_eqV hr.units) (pv 7) (pv 3) (nomark _)) (pe_one (pe_cmpR (op_eqV hr.units) (pv 8) (pv 4) (nomark _)))))))))))))))))))))), ?_⟩
  refine ⟨_, rfl, a, ns, rfl, hS, hn, fun d c H1 s1 nd1 nc1 hI1 => ?_⟩
  refine ⟨_, rfl, d, 4, 2, rfl, c, hI1, by decide, by decide, fun b kvs H2 b2 nb hI2 eb hSb _ => ?_⟩
  have nbd := hI1.ne nb
  refine ⟨_, rfl, _, rfl, d, b, kvs, rfl, c, hI2, eb, hSb, fun p L H3 b3 np hI3 ep lL hP => ?_⟩
  have npd := hI2.ne np
  have eb3 := b3 _ _ nbd eb
  have hSb3 := hSb.mono (hI2.tups b3)
  intro t nt
  have s4 := same_new nt (.dK [])
  have ntd := hI3.ne nt
  have tb : t ≠ b := fun z => by rw [z, eb3] at nt; cases nt
  have tp : t ≠ p := fun z => by rw [z, ep] at nt; cases nt
  refine ⟨5, rfl, by decide, by decide, for_range (lo := 0) (n := 5) (fun i σ H5 => ∃ ks y5 y6, σ = [some (.ref a), some (.ref d), some (.ref b), some (.ref p), some (.ref t), y5, y6, none, none, none, none, none, none] ∧ But d H3 H5 ∧ Sta H5 d c ∧ H5 t = some (.dK ks) ∧ SubAt H5 ks 3 ∧ ks.length ≤ 2 * i) ⟨[], none, none, rfl, s4.but, hI3.same s4, upd_same, .nil, by decide⟩ (fun i σ H5 hi h => ?_) (fun σ H5 h => ?_)⟩
  · obtain ⟨ks, y5, y6, rfl, b5, hI5, et, hK, lk⟩ := h
    refine ⟨_, rfl, d, 6, rfl, c, hI5, by decide, by decide, fun r H6 r0 r6 b6 hI6 => ?_⟩
    have et6 := b6 _ _ ntd et
    have hK6 := hK.mono (hI5.tups b6)
    have b36 := b5.trans b6
    -- one more entry at t
    have put : ∀ {H7 : Hp} {ks : List (Key × V)} {v : V} {u : Ter}, But d H3 H7 → Sta H7 d c → H7 t = some (.dK ks) → SubAt H7 ks 3 → TmAt H7 v u → u.wf s7 numVar → u.nest ≤ 3 →
        But d H3 (upd H7 t (.dK (putK ks (.inl (0 + (i : Int))) v))) ∧ Sta (upd H7 t (.dK (putK ks (.inl (0 + (i : Int))) v))) d c ∧ SubAt (upd H7 t (.dK (putK ks (.inl (0 + (i : Int))) v))) (putK ks (.inl (0 + (i : Int))) v) 3 := fun {H7 ks v u} b7 hI7 et7 hK7 hv hw hn => by
      have m : Tups H7 (upd H7 t (.dK (putK ks (.inl (0 + (i : Int))) v))) := tups_updD et7
      refine ⟨fun c' o n e => ?_, hI7.updD et7, (hK7.mono m).put (by omega) (TmAt.mono m _ _ hv) hw hn⟩
      rw [upd_ne (ne_of_none e nt)]
      exact b7 c' o n e
    refine ⟨fun σ H7 => ∃ ks', σ = [some (.ref a), some (.ref d), some (.ref b), some (.ref p), some (.ref t), some (.int (0 + (i : Int))), some (.int r), none, none, none, none, none, none] ∧ But d H3 H7 ∧ Sta H7 d c ∧ H7 t = some (.dK ks') ∧ SubAt H7 ks' 3 ∧ ks'.length ≤ 2 * i + 1, ?_, fun σ H7 h => ?_⟩
    · refine ⟨_, rfl, _, _, rfl, rfl, _, rfl, ite2 (fun _ => ?_) (fun _ => ⟨ks, rfl, b36, hI6, et6, hK6, by omega⟩)⟩
      have eb6 := b36 _ _ nbd eb3
      have hS6 := hSb3.mono (hI3.tups b36)
      refine ⟨_, rfl, b, rfl, .inl ⟨kvs, .inl eb6⟩, _, rfl, _, rfl, valV kvs (.inl (0 + (i : Int))), DGet.k (k := .inl _) eb6, _, rfl, _, rfl, t, _, rfl, DPut.k (k := .inl _) et6 (small6' (by omega)), ?_⟩
      obtain ⟨u, hv, hw, hn⟩ : ∃ u, TmAt H6 ((valV kvs (.inl (0 + (i : Int)))).getD (.int (0 + (i : Int)))) u ∧ u.wf s7 numVar ∧ u.nest ≤ 3 := by
        cases e : valV kvs (.inl (0 + (i : Int))) with
        | none => exact ⟨.var (.inl (0 + (i : Int))), .int _, ⟨_, rfl, by omega, by omega⟩, by show 1 ≤ 3; decide⟩
        | some v => exact hS6.get e
      obtain ⟨q1, q2, q3⟩ := put b36 hI6 et6 hK6 hv hw hn
      exact ⟨_, rfl, q1, q2, upd_same, q3, Nat.le_trans (len_put _ _ _) (by omega)⟩
    obtain ⟨ks', rfl, b7, hI7, et7, hK7, lk7⟩ := h
    refine ⟨_, rfl, rfl, _, rfl, ite2 (fun _ => ?_) (fun _ => iteF ⟨ks', _, _, rfl, b7, hI7, et7, hK7, by omega⟩)⟩
    refine ⟨_, rfl, d, 2, rfl, c, hI7, by decide, by decide, fun r2 H8 q0 q2 b8 hI8 => ?_⟩
    have et8 := b8 _ _ ntd et7
    have hK8 := hK7.mono (hI7.tups b8)
    refine ⟨rfl, _, rfl, ite2 (fun _ => ?_) (fun _ => ⟨ks', _, _, rfl, b7.trans b8, hI8, et8, hK8, by omega⟩)⟩
    refine ⟨_, rfl, d, 1, 5, rfl, c, hI8, by decide, by decide, fun v u H9 b9 hI9 hv hw hn hs => ?_⟩
    have et9 := b9 _ _ ntd et8
    have hK9 := hK8.mono (hI8.tups b9)
    refine ⟨_, rfl, _, rfl, t, _, rfl, DPut.k (k := .inl _) et9 (small6' (by omega)), ?_⟩
    obtain ⟨q1, q2, q3⟩ := put (b7.trans (b8.trans b9)) hI9 et9 hK9 hv hw (by omega)
    exact ⟨_, _, _, rfl, q1, q2, upd_same, q3, Nat.le_trans (len_put _ _ _) (by omega)⟩
  obtain ⟨ks, y5, y6, rfl, b5, hI5, et, hK, lk⟩ := h
  obtain ⟨B, eB, hB⟩ := sub_deco hK (by decide)
  subst eB
  have lB : B.length ≤ 1000 := by
    have : (bKvs B).length = B.length := List.length_map _
    omega
  have hL10 : L.length ≤ 10 := by omega
  refine ⟨_, rfl, p, _, rfl, .inl (.inl (.inl (b5 _ _ npd ep))), fun g ng => ?_⟩
  have s6 := same_new ng (.lst (prs L))
  refine ⟨_, rfl, t, _, rfl, .inl (s6 _ _ et), fun k nk => ?_⟩
  have s7' := same_new nk (.dK (bKvs B))
  have sA := s6.trans s7'
  have nkg : g ≠ k := fun z => by rw [← z, upd_same] at nk; cases nk
  let F : Hp → Prop := fun H => H p = some (.lst (prs L)) ∧ H g = some (.lst (prs L)) ∧ H t = some (.dK (bKvs B)) ∧ H k = some (.dK (bKvs B)) ∧ BOk H B 40 ∧ (∀ e ∈ L, PrOk H e) ∧ H b = some (.dK kvs) ∧ SubAt H kvs 3 ∧ Sta H d c
  have FS : ∀ {H H' : Hp}, F H → Same H H' → F H' := fun ⟨f1, f2, f3, f4, f5, f6, f7, f8, f9⟩ s => ⟨s _ _ f1, s _ _ f2, s _ _ f3, s _ _ f4, f5.mono s.tups, fun e he => (f6 e he).mono s.tups, s _ _ f7, f8.mono s.tups, f9.same s⟩
  have m35 := hI3.tups b5
  have F7 : F (upd (upd H5 g (.lst (prs L))) k (.dK (bKvs B))) := ⟨sA _ _ (b5 _ _ npd ep), s7' _ _ upd_same, sA _ _ et, upd_same, hB.mono sA.tups, fun e he => ((hP e he).mono m35).mono sA.tups, sA _ _ (b5 _ _ nbd eb3), (hSb3.mono m35).mono sA.tups, hI5.same sA⟩
  generalize (upd (upd H5 g (.lst (prs L))) k (.dK (bKvs B))) = J at F7
  -- the first
  obtain ⟨f1, f2, f3, f4, f5, f6, f7, f8, f9⟩ := id F7
  refine ⟨_, rfl, _, rfl, rfl, rfl, all_of f2 hL10 f6 (.inr ⟨k, rfl, f4⟩) f5 lB fun v J1 z1 R1 => ?_⟩
  have F8 := FS F7 z1
  obtain ⟨f1, f2, f3, f4, f5, f6, f7, f8, f9⟩ := id F8
  refine ⟨_, rfl, _, rfl, ?_⟩
  try dsimp only [tNil]
  refine all_of f1 hL10 f6 (.inr ⟨t, rfl, f3⟩) f5 lB fun v2 J2 z2 R2 => ?_
  try dsimp only [tNil]
  refine right_of (R1.same z2) R2 fun J3 z3 => ⟨_, rfl, iteF ?_⟩
  have F9 := FS (FS F8 z2) z3
  -- the second
  obtain ⟨f1, f2, f3, f4, f5, f6, f7, f8, f9⟩ := id F9
  refine ⟨_, rfl, ?_⟩
  try dsimp only [tNil]
  refine all_of (kv := .non) f2 hL10 f6 (.inl ⟨rfl, rfl, rfl⟩) bnil (Nat.zero_le _) fun v J4 z4 R1 => ?_
  have F10 := FS F9 z4
  refine ⟨_, rfl, fun x nx => ?_⟩
  have z5 := same_new nx (.dK [])
  have F11 := FS F10 z5
  obtain ⟨f1, f2, f3, f4, f5, f6, f7, f8, f9⟩ := id F11
  try dsimp only [tNil]
  refine all_of f1 hL10 f6 (.inr ⟨x, rfl, upd_same⟩) bnil (Nat.zero_le _) fun v2 J6 z6 R2 => ?_
  try dsimp only [tNil]
  refine right_of ((R1.same z5).same z6) R2 fun J7 z7 => ⟨_, rfl, iteF ?_⟩
  have F12 := FS (FS F11 z6) z7
  obtain ⟨f1, f2, f3, f4, f5, f6, f7, f8, f9⟩ := id F12
  -- a pattern and a term
  refine ⟨_, rfl, d, 3, 3, rfl, c, f9, by decide, by decide, fun v1 t1 J8 b8 hI8 hv1 hw1 hn1 hs1 => ?_⟩
  have m8 := f9.tups b8
  have npd' := npd
  have gd : g ≠ d := fun y => by
    obtain ⟨ns', i', r', s', k', e1, _⟩ := f9.ex
    rw [y, e1] at f2
    cases L with
    | nil => cases f2
    | cons e0 L0 => cases L0 <;> cases f2
  have kd : k ≠ d := fun y => by
    obtain ⟨ys, e1⟩ := f9.lst
    rw [y, e1] at f4
    cases f4
  have FB : ∀ {H H' : Hp}, F H → But d H H' → Sta H' d c → F H' := fun ⟨f1, f2, f3, f4, f5, f6, f7, f8, f9⟩ b h => ⟨b _ _ npd f1, b _ _ gd f2, b _ _ ntd f3, b _ _ kd f4, f5.mono (f9.tups b), fun e he => (f6 e he).mono (f9.tups b), b _ _ nbd f7, f8.mono (f9.tups b), h⟩
  have F13 := FB F12 b8 hI8
  obtain ⟨f1, f2, f3, f4, f5, f6, f7, f8, f9⟩ := id F13
  refine ⟨_, rfl, _, rfl, b, v1, t1, kvs, rfl, f7, f8, hv1, hw1, by omega, fun v2 t2 J9 z9 hv2 hw2 hn2 => ?_⟩
  have F14 := FS F13 z9
  have hv1 := TmAt.mono z9.tups _ _ hv1
  refine ⟨fun σ H7 => ∃ v5 t5, σ = [some (.ref a), some (.ref d), some (.ref b), some (.ref p), some (.ref t), y5, y6, some (.ref g), some (.ref k), some v1, some v5, none, none] ∧ F H7 ∧ TmAt H7 v1 t1 ∧ TmAt H7 v5 t5 ∧ t5.wf s7 numVar ∧ t5.nest ≤ 40, ?_, fun σ H7 h => ?_⟩
  · refine ⟨_, rfl, d, 3, rfl, c, F14.2.2.2.2.2.2.2.2, by decide, by decide, fun r J10 r0 r3 b10 hI10 => ?_⟩
    have m10 := F14.2.2.2.2.2.2.2.2.tups b10
    have F15 := FB F14 b10 hI10
    refine ⟨rfl, _, rfl, ite2 (fun _ => ?_) (fun _ => ⟨v2, t2, rfl, F15, TmAt.mono m10 _ _ hv1, TmAt.mono m10 _ _ hv2, hw2, by omega⟩)⟩
    exact ⟨_, rfl, d, 3, 3, rfl, c, hI10, by decide, by decide, fun v6 t6 J11 b11 hI11 hv6 hw6 hn6 hs6 => ⟨v6, t6, rfl, FB F15 b11 hI11, TmAt.mono (hI10.tups b11) _ _ (TmAt.mono m10 _ _ hv1), hv6, hw6, by omega⟩⟩
  obtain ⟨v5, t5, rfl, F15, hv1, hv5, hw5, hn5⟩ := h
  obtain ⟨pd, e1, e2, hpd⟩ := TmAt.deco t1 v1 hv1
  obtain ⟨u, e3, e4, hu⟩ := TmAt.deco t5 v5 hv5
  subst e1
  subst e3
  subst e2
  subst e4
  have gp : Gd H7 pd 40 := ⟨hpd, hw1, by omega⟩
  have gu : Gd H7 u 40 := ⟨hu, hw5, hn5⟩
  have sz : pd.ter.size ≤ 1000 := by
    have : 2 ^ (3 + 1) = 16 := rfl
    omega
  -- a list of one pair
  have one : ∀ {H : Hp} {q l : Addr} {x y : DTer}, H q = none → (L2.upd H q (.tup [x.val, y.val])) l = none → Gd H x 40 → Gd H y 40 → x.ter.size ≤ 1000 →
      Same H (upd (upd H q (.tup [x.val, y.val])) l (.lst [.ref q])) ∧ (∀ e ∈ [(q, x, y)], PrOk (upd (upd H q (.tup [x.val, y.val])) l (.lst [.ref q])) e) := fun {H q l x y} nq nl gx gy sx => by
    have y1 := same_new nq (.tup [x.val, y.val])
    have y2 := same_new nl (.lst [.ref q])
    have yy := y1.trans y2
    refine ⟨yy, fun e he => ?_⟩
    rcases List.mem_cons.mp he with rfl | he
    · exact ⟨y2 _ _ upd_same, gx.mono yy.tups, gy.mono yy.tups, sx⟩
    · cases he
  refine ⟨_, rfl, _, rfl, by show 2 ≤ sizeLine; decide, fun q1 nq1 => ⟨by show 1 ≤ sizeLine; decide, fun l1 nl1 => fun x1 nx1 => ?_⟩⟩
  obtain ⟨w1, P1⟩ := one nq1 nl1 gp gu sz
  have w2 := same_new nx1 (.dK [])
  try dsimp only [tNil]
  refine all_of (L := [(q1, pd, u)]) (w2 _ _ upd_same) (by show 1 ≤ 10; decide) (fun e he => (P1 e he).mono w2.tups) (.inr ⟨x1, rfl, upd_same⟩) bnil (Nat.zero_le _) fun vd J12 z12 RD => ?_
  have w3 := w1.trans (w2.trans z12)
  have F16 := FS F15 w3
  have gp := gp.mono w3.tups
  have gu := gu.mono w3.tups
  refine ⟨_, rfl, _, rfl, ?_⟩
  try dsimp only [tNil]
  refine mat_of (kv := .non) gp gu sz (.inl ⟨rfl, rfl⟩) bnil (Nat.zero_le _) fun v J13 z13 R1 => ⟨_, rfl, ?_⟩
  try dsimp only [tNil]
  refine right_of (R1 q1) (RD.same z13) fun J14 z14 => ⟨_, rfl, iteF ?_⟩
  have w4 := z13.trans z14
  have F17 := FS F16 w4
  have gp := gp.mono w4.tups
  have gu := gu.mono w4.tups
  obtain ⟨f1, f2, f3, f4, f5, f6, f7, f8, f9⟩ := id F17
  refine ⟨_, rfl, _, rfl, _, rfl, rfl, rfl, mat_of gp gu sz (.inr ⟨k, rfl, f4⟩) f5 lB fun v J15 z15 R1 => ?_⟩
  have F18 := FS F17 z15
  have gp := gp.mono z15.tups
  have gu := gu.mono z15.tups
  refine ⟨_, rfl, _, rfl, by show 2 ≤ sizeLine; decide, fun q2 nq2 => ⟨by show 1 ≤ sizeLine; decide, fun l2 nl2 => ⟨_, rfl, ?_⟩⟩⟩
  obtain ⟨w5, P2⟩ := one nq2 nl2 gp gu sz
  have F19 := FS F18 w5
  obtain ⟨f1, f2, f3, f4, f5, f6, f7, f8, f9⟩ := id F19
  try dsimp only [tNil]
  refine all_of (L := [(q2, pd, u)]) upd_same (by show 1 ≤ 10; decide) P2 (.inr ⟨t, rfl, f3⟩) f5 lB fun v2 J16 z16 R2 => ?_
  try dsimp only [tNil]
  refine right_of (((R1 q2).same w5).same z16) R2 fun J17 z17 => ⟨_, rfl, iteF ?_⟩
  have w6 := w5.trans (z16.trans z17)
  have F20 := FS (FS F19 z16) z17
  have gp := gp.mono w6.tups
  refine ⟨_, rfl, _, rfl, rfl, rfl, mat_of (kv := .non) gp gp sz (.inl ⟨rfl, rfl⟩) bnil (Nat.zero_le _) fun v J18 z18 R1 => ?_⟩
  have F21 := FS F20 z18
  have gp := gp.mono z18.tups
  refine ⟨_, rfl, _, rfl, _, rfl, by show 2 ≤ sizeLine; decide, fun q3 nq3 => ⟨by show 1 ≤ sizeLine; decide, fun l3 nl3 => fun x3 nx3 => ?_⟩⟩
  obtain ⟨w7, P3⟩ := one nq3 nl3 gp gp sz
  have w8 := same_new nx3 (.dK [])
  try dsimp only [tNil]
  refine all_of (L := [(q3, pd, pd)]) (w8 _ _ upd_same) (by show 1 ≤ 10; decide) (fun e he => (P3 e he).mono w8.tups) (.inr ⟨x3, rfl, upd_same⟩) bnil (Nat.zero_le _) fun v2 J19 z19 R2 => ?_
  try dsimp only [tNil]
  refine right_of ((((R1 q3).same w7).same w8).same z19) R2 fun J20 z20 => ⟨_, rfl, iteF ?_⟩
  obtain ⟨f1, f2, f3, f4, f5, f6, f7, f8, f9⟩ := FS (FS (FS (FS F21 w7) w8) z19) z20
  have pe : ∀ L : List (Addr × DTer × DTer), Paired (EqV K J20 1) (prs L) (prs L) := fun L => by
    induction L with
    | nil => exact .nil
    | cons e r ih => exact .cons (.inr (.inl ⟨e.1, rfl, rfl⟩)) ih
  refine ⟨_, rfl, _, rfl, 1, by decide, .inl ⟨g, p, prs L, prs L, rfl, rfl, .inl (.inl f2), .inl (.inl f1), pe L⟩, _, rfl, iteT ?_⟩
  exact ⟨_, rfl, _, rfl, 1, by decide, kvs_eq f4 f3 f5, q _⟩
end

end K07
namespace K07
open PySem PySem.Spec PyProof.Rows L2 Own HT
theorem all_mk {l : PySem.W.OpenLaw} {w : World} {K : PySem.W.Frag} {h : Heap} {mg : Str → Option Value} {fa f_is_variable f_match f_match_all f_matches f__law_state f__law_draw f__law_term f__law_is_integer f__law_is_term f__law_is_substitution f__law_replaced f__law_matches f__law_substitution f__law_due f__law_right f__law_pairs f_law : Addr} (X : K.In h) (G : h.Ns mainGlobals mg) (hfa : mg "law" = some (.ref fa))
    {od_is_variable an_is_variable od_match an_match od_match_all an_match_all od_matches an_matches od__law_state an__law_state od__law_draw an__law_draw od__law_term an__law_term od__law_is_integer an__law_is_integer od__law_is_term an__law_is_term od__law_is_substitution an__law_is_substitution od__law_replaced an__law_replaced od__law_matches an__law_matches od__law_substitution an__law_substitution od__law_due an__law_due od__law_right an__law_right od__law_pairs an__law_pairs od_law an_law : Option Addr} {sl_is_variable sl_match sl_match_all sl_matches sl__law_state sl__law_draw sl__law_term sl__law_is_integer sl__law_is_term sl__law_is_substitution sl__law_replaced sl__law_matches sl__law_substitution sl__law_due sl__law_right sl__law_pairs sl_law : Array (Option Value)} {oc_is_variable kV_is_variable dc_is_variable pm_is_variable cd_is_variable ct_is_variable oc_match dc_match pm_match cd_match ct_match oc_match_all dc_match_all pm_match_all cd_match_all ct_match_all oc_matches kV_matches dc_matches pm_matches cd_matches ct_matches oc__law_state kV__law_state dc__law_state pm__law_state cd__law_state ct__law_state oc__law_draw kV__law_draw dc__law_draw pm__law_draw cd__law_draw ct__law_draw oc__law_term kV__law_term dc__law_term pm__law_term cd__law_term ct__law_term oc__law_is_integer kV__law_is_integer dc__law_is_integer pm__law_is_integer cd__law_is_integer ct__law_is_integer oc__law_is_term kV__law_is_term dc__law_is_term pm__law_is_term cd__law_is_term ct__law_is_term oc__law_is_substitution kV__law_is_substitution dc__law_is_substitution pm__law_is_substitution cd__law_is_substitution ct__law_is_substitution oc__law_replaced kV__law_replaced dc__law_replaced pm__law_replaced cd__law_replaced ct__law_replaced oc__law_matches kV__law_matches dc__law_matches pm__law_matches cd__law_matches ct__law_matches oc__law_substitution kV__law_substitution dc__law_substitution pm__law_substitution cd__law_substitution ct__law_substitution oc__law_due kV__law_due dc__law_due pm__law_due cd__law_due ct__law_due oc__law_right kV__law_right dc__law_right pm__law_right cd__law_right ct__law_right oc__law_pairs kV__law_pairs dc__law_pairs pm__law_pairs cd__law_pairs ct__law_pairs oc_law kV_law dc_law pm_law cd_law ct_law : Value}
    (a_is_variable : PySem.W.nsIn K mainGlobals "is_variable" = some (some (.ref f_is_variable))) (l_is_variable : K.lookup f_is_variable = some ⟨oc_is_variable, od_is_variable, .func (PySem.W.fnOf "is_variable" "is_variable" (defArgs s_is_variable) (defBody s_is_variable) (defScope s_is_variable) .none kV_is_variable dc_is_variable pm_is_variable an_is_variable cd_is_variable ct_is_variable), sl_is_variable⟩) (c_is_variable : PySem.W.codeIn K cd_is_variable "is_variable" = true) (k_is_variable : PySem.W.keepIn K (.ref f_is_variable) = true)
    (d_match : PySem.W.nsIn K kd_match "known" = some (some Value.none))
    (a_match : PySem.W.nsIn K mainGlobals "match" = some (some (.ref f_match))) (l_match : K.lookup f_match = some ⟨oc_match, od_match, .func (PySem.W.fnOf "match" "match" (defArgs s_match) (defBody s_match) (defScope s_match) .none (.ref kd_match) dc_match pm_match an_match cd_match ct_match), sl_match⟩) (c_match : PySem.W.codeIn K cd_match "match" = true) (k_match : PySem.W.keepIn K (.ref f_match) = true)
    (d_match_all : PySem.W.nsIn K kd_match_all "known" = some (some Value.none))
    (a_match_all : PySem.W.nsIn K mainGlobals "match_all" = some (some (.ref f_match_all))) (l_match_all : K.lookup f_match_all = some ⟨oc_match_all, od_match_all, .func (PySem.W.fnOf "match_all" "match_all" (defArgs s_match_all) (defBody s_match_all) (defScope s_match_all) .none (.ref kd_match_all) dc_match_all pm_match_all an_match_all cd_match_all ct_match_all), sl_match_all⟩) (c_match_all : PySem.W.codeIn K cd_match_all "match_all" = true) (k_match_all : PySem.W.keepIn K (.ref f_match_all) = true)
    (a_matches : PySem.W.nsIn K mainGlobals "matches" = some (some (.ref f_matches))) (l_matches : K.lookup f_matches = some ⟨oc_matches, od_matches, .func (PySem.W.fnOf "matches" "matches" (defArgs s_matches) (defBody s_matches) (defScope s_matches) .none kV_matches dc_matches pm_matches an_matches cd_matches ct_matches), sl_matches⟩) (c_matches : PySem.W.codeIn K cd_matches "matches" = true) (k_matches : PySem.W.keepIn K (.ref f_matches) = true)
    (a__law_state : PySem.W.nsIn K mainGlobals "_law_state" = some (some (.ref f__law_state))) (l__law_state : K.lookup f__law_state = some ⟨oc__law_state, od__law_state, .func (PySem.W.fnOf "_law_state" "_law_state" (defArgs s__law_state) (defBody s__law_state) (defScope s__law_state) .none kV__law_state dc__law_state pm__law_state an__law_state cd__law_state ct__law_state), sl__law_state⟩) (c__law_state : PySem.W.codeIn K cd__law_state "_law_state" = true) (k__law_state : PySem.W.keepIn K (.ref f__law_state) = true)
    (a__law_draw : PySem.W.nsIn K mainGlobals "_law_draw" = some (some (.ref f__law_draw))) (l__law_draw : K.lookup f__law_draw = some ⟨oc__law_draw, od__law_draw, .func (PySem.W.fnOf "_law_draw" "_law_draw" (defArgs s__law_draw) (defBody s__law_draw) (defScope s__law_draw) .none kV__law_draw dc__law_draw pm__law_draw an__law_draw cd__law_draw ct__law_draw), sl__law_draw⟩) (c__law_draw : PySem.W.codeIn K cd__law_draw "_law_draw" = true) (k__law_draw : PySem.W.keepIn K (.ref f__law_draw) = true)
    (a__law_term : PySem.W.nsIn K mainGlobals "_law_term" = some (some (.ref f__law_term))) (l__law_term : K.lookup f__law_term = some ⟨oc__law_term, od__law_term, .func (PySem.W.fnOf "_law_term" "_law_term" (defArgs s__law_term) (defBody s__law_term) (defScope s__law_term) .none kV__law_term dc__law_term pm__law_term an__law_term cd__law_term ct__law_term), sl__law_term⟩) (c__law_term : PySem.W.codeIn K cd__law_term "_law_term" = true) (k__law_term : PySem.W.keepIn K (.ref f__law_term) = true)
    (a__law_is_integer : PySem.W.nsIn K mainGlobals "_law_is_integer" = some (some (.ref f__law_is_integer))) (l__law_is_integer : K.lookup f__law_is_integer = some ⟨oc__law_is_integer, od__law_is_integer, .func (PySem.W.fnOf "_law_is_integer" "_law_is_integer" (defArgs s__law_is_integer) (defBody s__law_is_integer) (defScope s__law_is_integer) .none kV__law_is_integer dc__law_is_integer pm__law_is_integer an__law_is_integer cd__law_is_integer ct__law_is_integer), sl__law_is_integer⟩) (c__law_is_integer : PySem.W.codeIn K cd__law_is_integer "_law_is_integer" = true) (k__law_is_integer : PySem.W.keepIn K (.ref f__law_is_integer) = true)
    (a__law_is_term : PySem.W.nsIn K mainGlobals "_law_is_term" = some (some (.ref f__law_is_term))) (l__law_is_term : K.lookup f__law_is_term = some ⟨oc__law_is_term, od__law_is_term, .func (PySem.W.fnOf "_law_is_term" "_law_is_term" (defArgs s__law_is_term) (defBody s__law_is_term) (defScope s__law_is_term) .none kV__law_is_term dc__law_is_term pm__law_is_term an__law_is_term cd__law_is_term ct__law_is_term), sl__law_is_term⟩) (c__law_is_term : PySem.W.codeIn K cd__law_is_term "_law_is_term" = true) (k__law_is_term : PySem.W.keepIn K (.ref f__law_is_term) = true)
    (a__law_is_substitution : PySem.W.nsIn K mainGlobals "_law_is_substitution" = some (some (.ref f__law_is_substitution))) (l__law_is_substitution : K.lookup f__law_is_substitution = some ⟨oc__law_is_substitution, od__law_is_substitution, .func (PySem.W.fnOf "_law_is_substitution" "_law_is_substitution" (defArgs s__law_is_substitution) (defBody s__law_is_substitution) (defScope s__law_is_substitution) .none kV__law_is_substitution dc__law_is_substitution pm__law_is_substitution an__law_is_substitution cd__law_is_substitution ct__law_is_substitution), sl__law_is_substitution⟩) (c__law_is_substitution : PySem.W.codeIn K cd__law_is_substitution "_law_is_substitution" = true) (k__law_is_substitution : PySem.W.keepIn K (.ref f__law_is_substitution) = true)
    (a__law_replaced : PySem.W.nsIn K mainGlobals "_law_replaced" = some (some (.ref f__law_replaced))) (l__law_replaced : K.lookup f__law_replaced = some ⟨oc__law_replaced, od__law_replaced, .func (PySem.W.fnOf "_law_replaced" "_law_replaced" (defArgs s__law_replaced) (defBody s__law_replaced) (defScope s__law_replaced) .none kV__law_replaced dc__law_replaced pm__law_replaced an__law_replaced cd__law_replaced ct__law_replaced), sl__law_replaced⟩) (c__law_replaced : PySem.W.codeIn K cd__law_replaced "_law_replaced" = true) (k__law_replaced : PySem.W.keepIn K (.ref f__law_replaced) = true)
    (a__law_matches : PySem.W.nsIn K mainGlobals "_law_matches" = some (some (.ref f__law_matches))) (l__law_matches : K.lookup f__law_matches = some ⟨oc__law_matches, od__law_matches, .func (PySem.W.fnOf "_law_matches" "_law_matches" (defArgs s__law_matches) (defBody s__law_matches) (defScope s__law_matches) .none kV__law_matches dc__law_matches pm__law_matches an__law_matches cd__law_matches ct__law_matches), sl__law_matches⟩) (c__law_matches : PySem.W.codeIn K cd__law_matches "_law_matches" = true) (k__law_matches : PySem.W.keepIn K (.ref f__law_matches) = true)
    (a__law_substitution : PySem.W.nsIn K mainGlobals "_law_substitution" = some (some (.ref f__law_substitution))) (l__law_substitution : K.lookup f__law_substitution = some ⟨oc__law_substitution, od__law_substitution, .func (PySem.W.fnOf "_law_substitution" "_law_substitution" (defArgs s__law_substitution) (defBody s__law_substitution) (defScope s__law_substitution) .none kV__law_substitution dc__law_substitution pm__law_substitution an__law_substitution cd__law_substitution ct__law_substitution), sl__law_substitution⟩) (c__law_substitution : PySem.W.codeIn K cd__law_substitution "_law_substitution" = true) (k__law_substitution : PySem.W.keepIn K (.ref f__law_substitution) = true)
    (a__law_due : PySem.W.nsIn K mainGlobals "_law_due" = some (some (.ref f__law_due))) (l__law_due : K.lookup f__law_due = some ⟨oc__law_due, od__law_due, .func (PySem.W.fnOf "_law_due" "_law_due" (defArgs s__law_due) (defBody s__law_due) (defScope s__law_due) .none kV__law_due dc__law_due pm__law_due an__law_due cd__law_due ct__law_due), sl__law_due⟩) (c__law_due : PySem.W.codeIn K cd__law_due "_law_due" = true) (k__law_due : PySem.W.keepIn K (.ref f__law_due) = true)
    (a__law_right : PySem.W.nsIn K mainGlobals "_law_right" = some (some (.ref f__law_right))) (l__law_right : K.lookup f__law_right = some ⟨oc__law_right, od__law_right, .func (PySem.W.fnOf "_law_right" "_law_right" (defArgs s__law_right) (defBody s__law_right) (defScope s__law_right) .none kV__law_right dc__law_right pm__law_right an__law_right cd__law_right ct__law_right), sl__law_right⟩) (c__law_right : PySem.W.codeIn K cd__law_right "_law_right" = true) (k__law_right : PySem.W.keepIn K (.ref f__law_right) = true)
    (a__law_pairs : PySem.W.nsIn K mainGlobals "_law_pairs" = some (some (.ref f__law_pairs))) (l__law_pairs : K.lookup f__law_pairs = some ⟨oc__law_pairs, od__law_pairs, .func (PySem.W.fnOf "_law_pairs" "_law_pairs" (defArgs s__law_pairs) (defBody s__law_pairs) (defScope s__law_pairs) .none kV__law_pairs dc__law_pairs pm__law_pairs an__law_pairs cd__law_pairs ct__law_pairs), sl__law_pairs⟩) (c__law_pairs : PySem.W.codeIn K cd__law_pairs "_law_pairs" = true) (k__law_pairs : PySem.W.keepIn K (.ref f__law_pairs) = true)
    (a_law : PySem.W.nsIn K mainGlobals "law" = some (some (.ref f_law))) (l_law : K.lookup f_law = some ⟨oc_law, od_law, .func (PySem.W.fnOf "law" "law" (defArgs s_law) (defBody s_law) (defScope s_law) .none kV_law dc_law pm_law an_law cd_law ct_law), sl_law⟩) (c_law : PySem.W.codeIn K cd_law "law" = true) (k_law : PySem.W.keepIn K (.ref f_law) = true)
    (z_len : PySem.W.nsIn K mainGlobals "len" = some none)
    (z_int : PySem.W.nsIn K mainGlobals "int" = some none)
    (z_range : PySem.W.nsIn K mainGlobals "range" = some none)
    (z_list : PySem.W.nsIn K mainGlobals "list" = some none)
    (z_tuple : PySem.W.nsIn K mainGlobals "tuple" = some none)
    (z_isinstance : PySem.W.nsIn K mainGlobals "isinstance" = some none)
    (z_bool : PySem.W.nsIn K mainGlobals "bool" = some none)
    (z_str : PySem.W.nsIn K mainGlobals "str" = some none)
    (z_dict : PySem.W.nsIn K mainGlobals "dict" = some none)
    (z_zip : PySem.W.nsIn K mainGlobals "zip" = some none)
    : ∃ fd : FuncData, (∀ (s : Shared) (v : Value), BindsTo s fd ⟨[v], []⟩ [("script", v)]) ∧ ∀ base : Heap, K.In base → base.Ns mainGlobals mg → FnOk l.prog w K mg base CX0 65 fa fd ["script"] (spLaw K) := by
  have e := hfa.symm.trans (PySem.W.mg_of X G a_law); cases e
  have F_is_variable := fun_mk (st := s_is_variable) l_is_variable c_is_variable k_is_variable
  have D_is_variable : Df K mg "is_variable" s_is_variable ["term"] _ _ := ⟨F_is_variable, F_is_variable.binds (ps := ["term"]) (fun _ _ _ _ _ _ us hl => match us, hl with | [_], _ => rfl), PySem.W.mg_of X G a_is_variable⟩
  have F_match := fun_mk (st := s_match) l_match c_match k_match
  have FD_match : FunD K "match" "match" (defArgs s_match) (defBody s_match) (defScope s_match) [] [("known", V.non)] f_match _ := ⟨⟨_, _, _, _, _, _, _, _, _, _, rfl, l_match, c_match, .inl ⟨rfl, rfl⟩, .inr ⟨_, rfl, fun q hq => by cases List.mem_singleton.mp hq; exact ⟨_, d_match, rfl⟩⟩⟩, k_match⟩
  have D_match : Dk K mg "match" s_match ["pattern", "term", "known"] 2 _ _ := ⟨F_match, FD_match.binds0 2 (by decide) rfl (fun D doc pm an cdv ct us ks h1 h2 => match us, ks, h1, h2 with | [_, _], [_], _, _ => ⟨_, _, _, _, _, _, rfl, rfl, rfl⟩), ⟨fun s us ws X h1 h2 => match us, ws, h1, h2 with | [_, _], [_], _, _ => .of_eq rfl, fun r1 r2 => r1.append r2⟩, PySem.W.mg_of X G a_match⟩
  have F_match_all := fun_mk (st := s_match_all) l_match_all c_match_all k_match_all
  have FD_match_all : FunD K "match_all" "match_all" (defArgs s_match_all) (defBody s_match_all) (defScope s_match_all) [] [("known", V.non)] f_match_all _ := ⟨⟨_, _, _, _, _, _, _, _, _, _, rfl, l_match_all, c_match_all, .inl ⟨rfl, rfl⟩, .inr ⟨_, rfl, fun q hq => by cases List.mem_singleton.mp hq; exact ⟨_, d_match_all, rfl⟩⟩⟩, k_match_all⟩
  have D_match_all : Dk K mg "match_all" s_match_all ["pairs", "known"] 1 _ _ := ⟨F_match_all, FD_match_all.binds0 1 (by decide) rfl (fun D doc pm an cdv ct us ks h1 h2 => match us, ks, h1, h2 with | [_], [_], _, _ => ⟨_, _, _, _, _, _, rfl, rfl, rfl⟩), ⟨fun s us ws X h1 h2 => match us, ws, h1, h2 with | [_], [_], _, _ => .of_eq rfl, fun r1 r2 => r1.append r2⟩, PySem.W.mg_of X G a_match_all⟩
  have F_matches := fun_mk (st := s_matches) l_matches c_matches k_matches
  have D_matches : Df K mg "matches" s_matches ["pattern", "term", "bound"] _ _ := ⟨F_matches, F_matches.binds (ps := ["pattern", "term", "bound"]) (fun _ _ _ _ _ _ us hl => match us, hl with | [_, _, _], _ => rfl), PySem.W.mg_of X G a_matches⟩
  have F__law_state := fun_mk (st := s__law_state) l__law_state c__law_state k__law_state
  have D__law_state : Df K mg "_law_state" s__law_state ["script"] _ _ := ⟨F__law_state, F__law_state.binds (ps := ["script"]) (fun _ _ _ _ _ _ us hl => match us, hl with | [_], _ => rfl), PySem.W.mg_of X G a__law_state⟩
  have F__law_draw := fun_mk (st := s__law_draw) l__law_draw c__law_draw k__law_draw
  have D__law_draw : Df K mg "_law_draw" s__law_draw ["state", "many"] _ _ := ⟨F__law_draw, F__law_draw.binds (ps := ["state", "many"]) (fun _ _ _ _ _ _ us hl => match us, hl with | [_, _], _ => rfl), PySem.W.mg_of X G a__law_draw⟩
  have F__law_term := fun_mk (st := s__law_term) l__law_term c__law_term k__law_term
  have D__law_term : Df K mg "_law_term" s__law_term ["state", "depth", "names"] _ _ := ⟨F__law_term, F__law_term.binds (ps := ["state", "depth", "names"]) (fun _ _ _ _ _ _ us hl => match us, hl with | [_, _, _], _ => rfl), PySem.W.mg_of X G a__law_term⟩
  have F__law_is_integer := fun_mk (st := s__law_is_integer) l__law_is_integer c__law_is_integer k__law_is_integer
  have D__law_is_integer : Df K mg "_law_is_integer" s__law_is_integer ["value"] _ _ := ⟨F__law_is_integer, F__law_is_integer.binds (ps := ["value"]) (fun _ _ _ _ _ _ us hl => match us, hl with | [_], _ => rfl), PySem.W.mg_of X G a__law_is_integer⟩
  have F__law_is_term := fun_mk (st := s__law_is_term) l__law_is_term c__law_is_term k__law_is_term
  have D__law_is_term : Df K mg "_law_is_term" s__law_is_term ["value"] _ _ := ⟨F__law_is_term, F__law_is_term.binds (ps := ["value"]) (fun _ _ _ _ _ _ us hl => match us, hl with | [_], _ => rfl), PySem.W.mg_of X G a__law_is_term⟩
  have F__law_is_substitution := fun_mk (st := s__law_is_substitution) l__law_is_substitution c__law_is_substitution k__law_is_substitution
  have D__law_is_substitution : Df K mg "_law_is_substitution" s__law_is_substitution ["value"] _ _ := ⟨F__law_is_substitution, F__law_is_substitution.binds (ps := ["value"]) (fun _ _ _ _ _ _ us hl => match us, hl with | [_], _ => rfl), PySem.W.mg_of X G a__law_is_substitution⟩
  have F__law_replaced := fun_mk (st := s__law_replaced) l__law_replaced c__law_replaced k__law_replaced
  have D__law_replaced : Df K mg "_law_replaced" s__law_replaced ["substitution", "term"] _ _ := ⟨F__law_replaced, F__law_replaced.binds (ps := ["substitution", "term"]) (fun _ _ _ _ _ _ us hl => match us, hl with | [_, _], _ => rfl), PySem.W.mg_of X G a__law_replaced⟩
  have F__law_matches := fun_mk (st := s__law_matches) l__law_matches c__law_matches k__law_matches
  have D__law_matches : Df K mg "_law_matches" s__law_matches ["pattern", "term", "found"] _ _ := ⟨F__law_matches, F__law_matches.binds (ps := ["pattern", "term", "found"]) (fun _ _ _ _ _ _ us hl => match us, hl with | [_, _, _], _ => rfl), PySem.W.mg_of X G a__law_matches⟩
  have F__law_substitution := fun_mk (st := s__law_substitution) l__law_substitution c__law_substitution k__law_substitution
  have D__law_substitution : Df K mg "_law_substitution" s__law_substitution ["state", "names", "depth"] _ _ := ⟨F__law_substitution, F__law_substitution.binds (ps := ["state", "names", "depth"]) (fun _ _ _ _ _ _ us hl => match us, hl with | [_, _, _], _ => rfl), PySem.W.mg_of X G a__law_substitution⟩
  have F__law_due := fun_mk (st := s__law_due) l__law_due c__law_due k__law_due
  have D__law_due : Df K mg "_law_due" s__law_due ["pairs", "start"] _ _ := ⟨F__law_due, F__law_due.binds (ps := ["pairs", "start"]) (fun _ _ _ _ _ _ us hl => match us, hl with | [_, _], _ => rfl), PySem.W.mg_of X G a__law_due⟩
  have F__law_right := fun_mk (st := s__law_right) l__law_right c__law_right k__law_right
  have D__law_right : Df K mg "_law_right" s__law_right ["actual", "due"] _ _ := ⟨F__law_right, F__law_right.binds (ps := ["actual", "due"]) (fun _ _ _ _ _ _ us hl => match us, hl with | [_, _], _ => rfl), PySem.W.mg_of X G a__law_right⟩
  have F__law_pairs := fun_mk (st := s__law_pairs) l__law_pairs c__law_pairs k__law_pairs
  have D__law_pairs : Df K mg "_law_pairs" s__law_pairs ["state", "substitution"] _ _ := ⟨F__law_pairs, F__law_pairs.binds (ps := ["state", "substitution"]) (fun _ _ _ _ _ _ us hl => match us, hl with | [_, _], _ => rfl), PySem.W.mg_of X G a__law_pairs⟩
  have F_law := fun_mk (st := s_law) l_law c_law k_law
  have D_law : Df K mg "law" s_law ["script"] _ _ := ⟨F_law, F_law.binds (ps := ["script"]) (fun _ _ _ _ _ _ us hl => match us, hl with | [_], _ => rfl), PySem.W.mg_of X G a_law⟩
  have m_len := PySem.W.mg_none_of X G z_len
  have m_int := PySem.W.mg_none_of X G z_int
  have m_range := PySem.W.mg_none_of X G z_range
  have m_list := PySem.W.mg_none_of X G z_list
  have m_tuple := PySem.W.mg_none_of X G z_tuple
  have m_isinstance := PySem.W.mg_none_of X G z_isinstance
  have m_bool := PySem.W.mg_none_of X G z_bool
  have m_str := PySem.W.mg_none_of X G z_str
  have m_dict := PySem.W.mg_none_of X G z_dict
  have m_zip := PySem.W.mg_none_of X G z_zip
  refine ⟨PySem.W.fnOf "law" "law" (defArgs s_law) (defBody s_law) (defScope s_law) .none kV_law dc_law pm_law an_law cd_law ct_law, fun s v => .of_eq rfl, fun base _ _ => ?_⟩
  have G_state := ok_law_state (P := l.prog) (w := w) (base := base) D__law_state m_list
  have G_draw := ok_law_draw (P := l.prog) (w := w) (base := base) D__law_draw m_len m_int
  have G_term := ok_law_term (P := l.prog) (w := w) (base := base) D__law_term D__law_draw G_draw 4
  have G_isi := ok_law_is_integer (P := l.prog) (w := w) (base := base) D__law_is_integer m_isinstance m_int m_bool
  have G_ist := ok_law_is_term (P := l.prog) (w := w) (base := base) D__law_is_term D__law_is_integer G_isi m_isinstance m_tuple m_str m_len 61
  have G_iss := ok_law_is_substitution (P := l.prog) (w := w) (base := base) D__law_is_substitution D__law_is_integer G_isi D__law_is_term G_ist m_isinstance m_dict m_list
  have G_repl := ok_law_replaced (P := l.prog) (w := w) (base := base) D__law_replaced m_isinstance m_tuple 3 5
  have G_subst := ok_law_substitution (P := l.prog) (w := w) (base := base) D__law_substitution D__law_draw G_draw D__law_term G_term m_range
  have G_isv := ok_is_variable (P := l.prog) (w := w) (base := base) D_is_variable m_isinstance m_tuple
  have G_mat := ok_matches (P := l.prog) (w := w) (base := base) D_matches D_is_variable G_isv m_len m_zip 41
  have G_lmat := ok_law_matches (P := l.prog) (w := w) (base := base) D__law_matches m_isinstance m_tuple m_len m_range 42
  have G_due := ok_law_due (P := l.prog) (w := w) (base := base) D__law_due D__law_matches G_lmat m_dict
  have G_all := ok_match_all (P := l.prog) (w := w) (base := base) D_match_all D_matches G_mat m_dict
  have G_match := ok_match (P := l.prog) (w := w) (base := base) D_match D_match_all G_all
  have G_right := ok_law_right (P := l.prog) (w := w) (base := base) D__law_right D__law_is_substitution G_iss
  have G_pairs := ok_law_pairs (P := l.prog) (w := w) (base := base) D__law_pairs D__law_draw G_draw D__law_term G_term D__law_replaced G_repl m_range
  exact ok_law D_law D__law_state G_state D__law_draw G_draw D__law_term G_term D__law_replaced G_repl D__law_substitution G_subst D__law_pairs G_pairs D__law_due G_due D__law_right G_right D_match_all G_all D_match G_match m_range m_list m_dict
end K07
open PySem PySem.W PyProof.Rows
set_option maxRecDepth 100000 in
set_option maxHeartbeats 0 in
theorem PySem.Challenge.cw_elenchus_k07_match_holds : PySem.Challenge.rw_elenchus_k07_match.Holds := by
  w_on; o_law; k_head; (case hw => w_witness2)
  k_fill
  refine L2.walk_of (l := PySem.Challenge.rw_elenchus_k07_match) (n := 63) (k := 65) (x := "script") (CX := fun _ => L2.CX0) (sp := fun w => K07.spLaw _) rfl (by decide) rfl ⟨rfl, by decide, by decide⟩ (fun w h Y => PySem.W.kIn_of Y) ?F (fun _ _ a ns hl _ hS => ⟨a, ns, rfl, hS, hl, fun _ => rfl⟩) (fun _ _ _ _ _ h => h)
  case F =>
    intro w mg fa h KX G hmg
    refine' K07.all_mk KX G hmg ?a_is_variable ?l_is_variable ?c_is_variable ?k_is_variable ?d_match ?a_match ?l_match ?c_match ?k_match ?d_match_all ?a_match_all ?l_match_all ?c_match_all ?k_match_all ?a_matches ?l_matches ?c_matches ?k_matches ?a__law_state ?l__law_state ?c__law_state ?k__law_state ?a__law_draw ?l__law_draw ?c__law_draw ?k__law_draw ?a__law_term ?l__law_term ?c__law_term ?k__law_term ?a__law_is_integer ?l__law_is_integer ?c__law_is_integer ?k__law_is_integer ?a__law_is_term ?l__law_is_term ?c__law_is_term ?k__law_is_term ?a__law_is_substitution ?l__law_is_substitution ?c__law_is_substitution ?k__law_is_substitution ?a__law_replaced ?l__law_replaced ?c__law_replaced ?k__law_replaced ?a__law_matches ?l__law_matches ?c__law_matches ?k__law_matches ?a__law_substitution ?l__law_substitution ?c__law_substitution ?k__law_substitution ?a__law_due ?l__law_due ?c__law_due ?k__law_due ?a__law_right ?l__law_right ?c__law_right ?k__law_right ?a__law_pairs ?l__law_pairs ?c__law_pairs ?k__law_pairs ?a_law ?l_law ?c_law ?k_law ?z_len ?z_int ?z_range ?z_list ?z_tuple ?z_isinstance ?z_bool ?z_str ?z_dict ?z_zip
    (case a_is_variable => k_is)
    (case l_is_variable => k_is)
    (case c_is_variable => k_is)
    (case k_is_variable => k_is)
    (case a_match => k_is)
    (case l_match => k_is)
    (case c_match => k_is)
    (case k_match => k_is)
    (case a_match_all => k_is)
    (case l_match_all => k_is)
    (case c_match_all => k_is)
    (case k_match_all => k_is)
    (case a_matches => k_is)
    (case l_matches => k_is)
    (case c_matches => k_is)
    (case k_matches => k_is)
    (case a__law_state => k_is)
    (case l__law_state => k_is)
    (case c__law_state => k_is)
    (case k__law_state => k_is)
    (case a__law_draw => k_is)
    (case l__law_draw => k_is)
    (case c__law_draw => k_is)
    (case k__law_draw => k_is)
    (case a__law_term => k_is)
    (case l__law_term => k_is)
    (case c__law_term => k_is)
    (case k__law_term => k_is)
    (case a__law_is_integer => k_is)
    (case l__law_is_integer => k_is)
    (case c__law_is_integer => k_is)
    (case k__law_is_integer => k_is)
    (case a__law_is_term => k_is)
    (case l__law_is_term => k_is)
    (case c__law_is_term => k_is)
    (case k__law_is_term => k_is)
    (case a__law_is_substitution => k_is)
    (case l__law_is_substitution => k_is)
    (case c__law_is_substitution => k_is)
    (case k__law_is_substitution => k_is)
    (case a__law_replaced => k_is)
    (case l__law_replaced => k_is)
    (case c__law_replaced => k_is)
    (case k__law_replaced => k_is)
    (case a__law_matches => k_is)
    (case l__law_matches => k_is)
    (case c__law_matches => k_is)
    (case k__law_matches => k_is)
    (case a__law_substitution => k_is)
    (case l__law_substitution => k_is)
    (case c__law_substitution => k_is)
    (case k__law_substitution => k_is)
    (case a__law_due => k_is)
    (case l__law_due => k_is)
    (case c__law_due => k_is)
    (case k__law_due => k_is)
    (case a__law_right => k_is)
    (case l__law_right => k_is)
    (case c__law_right => k_is)
    (case k__law_right => k_is)
    (case a__law_pairs => k_is)
    (case l__law_pairs => k_is)
    (case c__law_pairs => k_is)
    (case k__law_pairs => k_is)
    (case a_law => k_is)
    (case l_law => k_is)
    (case c_law => k_is)
    (case k_law => k_is)
    (case z_len => k_is)
    (case z_int => k_is)
    (case z_range => k_is)
    (case z_list => k_is)
    (case z_tuple => k_is)
    (case z_isinstance => k_is)
    (case z_bool => k_is)
    (case z_str => k_is)
    (case z_dict => k_is)
    (case z_zip => k_is)
    (case d_match => k_is)
    (case d_match_all => k_is)
