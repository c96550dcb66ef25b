import PyProof.Rows.All
import Wide.All
import OpenK.AllK
import Wide.FinOn
import HandS.ForMost
import HandS.Rev
import HandS.RevTup
import HandS.IsInst
import HandS.Style
import HandS.Conv
import HandS.Wide
import HandS.Flow
import HandS.ListEq
import HandS.More
import HandS.Codes
import HandS.FStr
import PySem.Challenge.RW_elenchus_k05_written_forms
set_option Elab.async false
set_option linter.all false
set_option maxRecDepth 100000
namespace Own
open PySem PySem.Spec PyProof.Rows L2 RT

/-! ### xs.extend(t), t a tuple -/
theorem ext_meets (l b : Addr) (xs ys : Array Value) (n m : Nat) (dd : Option Addr) (sl : Array (Option Value)) (long : ¬(!xs.isEmpty && Builtin.List.listTooLong (xs.size + ys.size)) = true) (hx : xs.size ≤ sizeLine) (hxy : xs.size + ys.size ≤ sizeLine + 1) :
    Meets (Builtin.«list.extend» ⟨[.ref l, .ref b], []⟩) (fun _ R s => s.heap.get? l = some { cls := .type "list", dict := none, data := .seq xs n, slots := #[] } ∧
      s.heap.get? b = some { cls := .type "tuple", dict := dd, data := .seq ys m, slots := sl } ∧ R (.ok (.ret Value.none)) { s with heap := s.heap.update l (Obj.mapSeq fun x => x ++ ys), toks := s.toks }) :=
  .of_wp fun prog w A R s h => by
    obtain ⟨hp, g, d, tk, os⟩ := s
    obtain ⟨h1, h2, h3⟩ := h
    have g1 := AutoSeq1.idx_int; have g2 := AutoSeq1.sub_tuple_tuple; have g3 := AutoSeq1.sub_list_list; have g4 := AutoSeq1.sub_tuple_list; have g5 := AutoSeq1.sub_list_tuple
    have fit : (xs ++ ys).size ≤ sizeLine + 1 := Array.size_append ▸ hxy
    wp_walk using (wpAny_updateSeq h1 rfl (hz := hx) (_hz' := fit)), AutoSeq1.wpAny_loadPart' h1, AutoSeq1.wpAny_loadPart' h2
    exact ⟨_, rfl, h3⟩
def rExtendT (K : PySem.W.Frag) : V → List V → Hp → VK → Prop := fun x vs H Q => ∃ l b xs zs, x = .ref l ∧ vs = [.ref b] ∧ H l = some (.lst xs) ∧ SqT K H b zs ∧ xs.length + zs.length ≤ sizeLine ∧ Q .non (upd H l (.lst (xs ++ zs)))
theorem mt_extendT {X : Cx} : MtR X "list.extend" (rExtendT X.K) := by
  intro pins s σ H x vs v us Q I rx rv h
  obtain ⟨l, b, xs, zs, rfl, rfl, hl, hb, fit, q⟩ := h
  cases rx
  obtain ⟨u, rfl, ru⟩ := rv.one
  cases ru
  obtain ⟨z, its, n, r, hlen, e⟩ := I.lstM hl
  obtain ⟨its2, r2, p2, z2⟩ := I.tuple hb
  obtain ⟨⟨c2, d2, dt2, sl2⟩, ho2, hc2, m2, hd2⟩ := id p2
  simp only at hc2 hd2
  subst hc2 hd2
  have e2 := r2.length
  have tot : its.toArray.size + its2.toArray.size ≤ sizeLine := by rw [List.size_toArray, List.size_toArray]; omega
  have notlong : ¬ (!its.toArray.isEmpty && Builtin.List.listTooLong (its.toArray.size + its2.toArray.size)) = true := by rw [notLongL tot, Bool.and_false]; exact Bool.false_ne_true
  refine call_meets PySem.F.slot_list_extend ⟨_, e, rfl⟩ PySem.F.entry_list_extend (PySem.F.args_list_extend_2 _ _) (ext_meets l b its.toArray its2.toArray n m2 d2 sl2 notlong (by rw [List.size_toArray]; omega) (by omega)) ⟨e, ho2, ?_⟩
  exact ⟨.non, _, I.lset (its' := its ++ its2) hl e (by simp) (r.append r2) (by rw [List.length_append]; omega), rfl, q⟩

/-! ### list(reversed(xs)) -/
section
variable {prog : Program} {w : World} {A : Around} {E : Value → Shared → Prop} {s : Shared}
theorem extend_rev {R : Result → Shared → Prop} {it l S : Addr} {items : Array Value} {res : Value} {c0 : Nat} (hh : A.handled = none) (hit : s.heap.IsRevIter it l ((items.size : Int) - 1)) (hl : s.heap.IsList l items) (hne : l ≠ it) (hn : items.size ≤ sizeLine)
    (hS : s.heap.get? S = some { cls := .type "list", data := .seq #[] c0 }) (hSi : S ≠ it) (hSl : S ≠ l)
    (hR : ∀ h' tk acc c', (∀ b o, b ≠ S → b ≠ it → s.heap.get? b = some o → h'.get? b = some o) → h'.get? S = some { cls := .type "list", dict := none, data := .seq acc c', slots := #[] } →
      ItemsOf (fun i v => items[items.size - 1 - i]? = some v) acc items.size → R (.ok (.ret res)) { s with heap := h', toks := tk }) :
    wpAny (model prog w) A.in1 (Builtin.List.listExtendWith (.ref S) (.ref it) res)
      (fun fin s' => match fin with | .done f => R (.ok f) s' | .again c' => c'.quiet = true ∧ codeAny (model prog w) A c' R s') (fun e s' => R (.error e) s') s := by
  have W := (Walks.listRev (prog := prog) (w := w) (A := A.in1) hh it l hne items).toS
  have hSf : S ∉ [it, l] := by simp only [List.mem_cons, List.not_mem_nil, or_false, not_or]; exact ⟨hSi, hSl⟩
  have hT : s.TypeIs (.ref it) "list_reverseiterator" := Heap.IsRevIter.typeIs hit
  have h1 : Builtin.List.listSameRef (.ref S) (.ref it) = false := by simp [Builtin.List.listSameRef, hSi]
  unfold Builtin.List.listExtendWith
  refine wpAny_bind (wpAny_typeOf hT ?_); rw [if_neg (by rw [h1]; decide)]
  refine wpAny_bind (wpAny_pyIter_revIter hit ?_); refine wpAny_bind (wpAny_holding ?_)
  unfold Builtin.List.listLengthHint
  refine wpAny_bind (wpAny_specialOf hT nolen_lri ?_); show wpAny _ A.in1 (specialOf (Value.ref it) (Str.ofString "__length_hint__") >>= _) _ _ s
  refine wpAny_bind (wpAny_specialOf hT hint_lri ?_); generalize hid : ("list_reverseiterator.__length_hint__" : String) = id0
  wp_delta
  rw [show splitId id0 = some ("list_reverseiterator", "__length_hint__") from by subst hid; decide +kernel]; subst hid
  refine wpAny_bind (wpAny_isInstance (b := true) hT (by rw [isSubtype_type]; kernel_rfl) ?_); refine wpAny_pure ?_; rw [if_neg (by decide)]
  have e0 : ((items.size : Nat) : Int) - 1 - ((0 : Nat) : Int) = (items.size : Int) - 1 := by omega
  refine wpAny_pure ⟨plainId_quiet F.plain_extend_loop _, codeAny_extend_loopS W hn S hSf res items.size 0 _ _ _ rfl (Nat.zero_le _) ⟨Nat.zero_le _, by rw [e0]; exact hit, hl⟩ hS (ItemsOf.nil _) fun s' acc' c' hm hS' hacc => ?_⟩
  rw [Moved.eq_with hm]
  refine hR s'.heap s'.toks acc' c' (fun b o hbS hbi e => hm.heap b o (fun hmem => ?_) e) hS' hacc
  rcases List.mem_cons.mp hmem with e' | hmem
  · exact hbS e'
  · exact hbi (List.mem_singleton.mp hmem)
theorem call_list_rev {it l : Addr} {items : Array Value} {Q : Value → Shared → Prop} (hh : A.handled = none) (hit : s.heap.IsRevIter it l ((items.size : Int) - 1)) (hl : s.heap.IsList l items) (hne : l ≠ it) (hn : items.size ≤ sizeLine)
    (hQ : ∀ h' tk acc c', (∀ b o, b ≠ it → s.heap.get? b = some o → h'.get? b = some o) → h'.get? s.heap.objs.size = some { cls := .type "list", dict := none, data := .seq acc c', slots := #[] } →
      ItemsOf (fun i v => items[items.size - 1 - i]? = some v) acc items.size → Q (.ref s.heap.objs.size) { s with heap := h', toks := tk }) :
    wpAny (model prog w) A (call (.type "list") [.ref it]) Q E s := by
  refine callType_codes (Q₁ := fun obj s₁ => obj = .ref s.heap.objs.size ∧ s₁ = { s with heap := s.heap.push { cls := .type "list", data := .seq #[] } }) PySem.F.called_list (PySem.F.typeCall_list_1 _) PySem.F.entry_list_init (code_list_new _ ⟨rfl, rfl⟩) fun obj s₁ h₁ => ?_
  obtain ⟨rfl, rfl⟩ := h₁
  have hS : (s.heap.push { cls := .type "list", data := .seq #[] }).get? s.heap.objs.size = some { cls := .type "list", data := .seq #[] } := Heap.get?_push_size _ rfl
  refine ⟨⟨_, hS, rfl⟩, PySem.F.args_list_init_2 _ _, ?_⟩
  obtain ⟨oi, hoi, _⟩ := id hit
  obtain ⟨ol, hol, _⟩ := id hl
  have nSi : s.heap.objs.size ≠ it := Nat.ne_of_gt (Heap.lt_size hoi)
  have nSl : s.heap.objs.size ≠ l := Nat.ne_of_gt (Heap.lt_size hol)
  have k0 : ∀ b o, s.heap.get? b = some o → ((s.heap.push { cls := .type "list", data := .seq #[] }).update s.heap.objs.size (Obj.mapSeq (fun _ => (#[] : Array Value)))).get? b = some o :=
    fun b o e => (Heap.get?_update_other _ _ (Nat.ne_of_gt (Heap.lt_size e))).trans (Heap.get?_push_of_some _ e)
  show wpAny _ _ (do let old ← Builtin.List.listItems (.ref s.heap.objs.size); Builtin.List.listUpdate (.ref s.heap.objs.size) (fun _ => #[]); letGo old.toList.reverse; Builtin.List.listExtendWith (.ref s.heap.objs.size) (.ref it) .none) _ _ _
  refine wpAny_bind ?_; unfold Builtin.List.listItems
  refine wpAny_bind (wpAny_seqItems hS rfl (wpAny_pure ?_))
  show wpAny _ _ (updateSeq s.heap.objs.size (fun _ => #[]) >>= fun _ => letGo (#[] : Array Value).toList.reverse >>= fun _ => Builtin.List.listExtendWith (.ref s.heap.objs.size) (.ref it) .none) _ _ _
  refine wpAny_bind (wpAny_updateSeq hS rfl ?_)
  refine wpAny_bind (wpAny_letGo ?_)
  refine extend_rev (A := A.in1) (l := l) (items := items) hh (hit.at fun o e => k0 _ _ e) ?_ hne hn (Heap.get?_update_self (Obj.mapSeq (fun _ => (#[] : Array Value))) hS rfl) nSi nSl fun h' tk acc c' hk hS' hacc => ?_
  · obtain ⟨o, ho, hc⟩ := id hl
    exact ⟨o, k0 _ _ ho, hc⟩
  · exact ⟨rfl, hQ h' tk acc c' (fun b o hb e => hk b o (Nat.ne_of_lt (Heap.lt_size e)) hb (k0 _ _ e)) hS' hacc⟩
end
def tListRev (K : PySem.W.Frag) (te : TE) : TE := fun σ H Q => te σ H fun v H1 => ∃ (a : Addr) (xs : List V), v = .ref a ∧ SqL K H1 a xs ∧ ∀ q, H1 q = none → Q (.ref q) (upd H1 q (.lst xs.reverse))
theorem pe_listRev {X : Cx} {e : Expr} {te : TE} {p p2 pos pos2 : Pos} (hc : X.calm = true) (hg : Gl X "list") (hm : X.mg "list" = none) (hg2 : Gl X "reversed") (hm2 : X.mg "reversed" = none) (he : PE X e te)
    (hs : starEach [e] X.env = (false, eval e X.env) :: starEach [] X.env := by rfl)
    (hs2 : starEach [.Call (.Name "reversed" p2) [e] [] pos2] X.env = (false, eval (.Call (.Name "reversed" p2) [e] [] pos2) X.env) :: starEach [] X.env := by rfl) :
    PE X (.Call (.Name "list" p) [.Call (.Name "reversed" p2) [e] [] pos2] [] pos) (tListRev X.K te) := by
  refine ⟨fun pins s σ H Q I h => ?_⟩
  refine Call_ (ld_blt I hg hm boot_list (callWith_type1 (args_cons (Call_ (ld_blt I hg2 hm2 boot_reversed (callWith_type1 (args_cons (thn (he.run pins s σ H _ I h) fun u s1 ⟨v, H1, I1, r1, q1⟩ => args_nil ?_) hs) hs rfl))) hs2) hs2 rfl))
  obtain ⟨a, xs, ev, hq, q⟩ := q1
  subst ev
  obtain rfl : u = Value.ref a := r1
  obtain ⟨its, rv, p', hz⟩ := I1.list hq
  refine call_reversed_list p'.isList (args_nil ?_)
  have k0 : ∀ b o, s1.heap.get? b = some o → (s1.heap.push (revObj a ((its.toArray.size : Int) - 1))).get? b = some o := fun b o e => Heap.get?_push_of_some _ e
  have I2 : Inv X pins σ H1 { s1 with heap := s1.heap.push (revObj a ((its.toArray.size : Int) - 1)) } := I1.kept (t' := s1.toks) k0
  obtain ⟨f0, f1, f2, f3, f4, f5⟩ := I1.fpOk (H' := H1) (b := s1.heap.objs.size) (Nat.le_refl _) (I1.hok.fresh (Nat.le_refl _))
  obtain ⟨ol, hol, _⟩ := id p'.isList
  have hne : a ≠ s1.heap.objs.size := Nat.ne_of_lt (Heap.lt_size hol)
  have hn : its.toArray.size ≤ sizeLine := by rw [List.size_toArray, ← rv.length]; exact hz
  refine call_list_rev (s := { s1 with heap := s1.heap.push (revObj a ((its.toArray.size : Int) - 1)) }) (I1.ok.hd hc) ⟨_, Heap.get?_push_size _ rfl, rfl, rfl⟩ (p'.isList.push _) hne hn fun h' tk acc c' hk hS' hi => ?_
  have kk : ∀ b o, s1.heap.get? b = some o → h'.get? b = some o := fun b o e => hk b o (Nat.ne_of_lt (Heap.lt_size e)) (k0 b o e)
  have hsz : (s1.heap.push (revObj a ((its.toArray.size : Int) - 1))).objs.size = s1.heap.objs.size + 1 := Heap.size_push ..
  have fresh : s1.heap.objs.size ≤ (s1.heap.push (revObj a ((its.toArray.size : Int) - 1))).objs.size := by rw [hsz]; exact Nat.le_succ _
  refine ⟨.ref _, upd H1 _ (.lst xs.reverse), I1.laid (t' := tk) kk fresh (show ObjOk X.prog X.w _ _ _ (.lst xs.reverse) from ⟨by rw [List.length_reverse]; exact hz, acc.toList, c', vals_rev rv hi, ?_⟩), rfl, q _ (I1.hok.fresh fresh)⟩
  rw [Array.toArray_toList]
  exact hS'
end Own
namespace Own
open PySem PySem.Spec PyProof.Rows L2 RT HT

/-! ### t[:0:-1], t a tuple: all but the first item, backwards -/
theorem adjust_back (n : Nat) (h : 0 < n) : Builtin.Slice.sliceAdjust none (some 0) (-1) (n : Int) = ((n : Int) - 1, 0) := by
  unfold Builtin.Slice.sliceAdjust
  have h1 : (-1 : Int) < 0 := by decide
  have h2 : ¬ ((0 : Int) < 0) := by decide
  simp only [h1, h2, if_true, if_false]
  refine Prod.ext rfl ?_
  show min (0 : Int) ((n : Int) - 1) = 0
  omega
theorem places_back (n : Nat) (h : 0 < n) : Builtin.Slice.slicePlaces ((n : Int) - 1) 0 (-1) = n - 1 := by
  unfold Builtin.Slice.slicePlaces
  have h1 : ¬ ((-1 : Int) > 0) := by decide
  simp only [h1, if_false]
  have e : (- -1 : Int) = 1 := by decide
  rw [e, Int.ediv_one]
  split <;> omega
theorem fm_congr {α β : Type} {f g : α → Option β} : ∀ l : List α, (∀ a ∈ l, f a = g a) → l.filterMap f = l.filterMap g
  | [], _ => rfl
  | a :: r, h => by
    rw [List.filterMap_cons, List.filterMap_cons, h a List.mem_cons_self, fm_congr r fun b hb => h b (List.mem_cons_of_mem _ hb)]
theorem pick_back (xs : Array Value) : ((List.range (xs.size - 1)).filterMap fun (m : Nat) => xs[(((xs.size : Int) - 1) + (m : Int) * (-1)).toNat]?).toArray = xs.toList.tail.reverse.toArray := by
  have e1 : (fun (m : Nat) => xs[(((xs.size : Int) - 1) + (m : Int) * (-1)).toNat]?) = fun m => xs[xs.size - 1 - m]? := by
    funext m
    have : (((xs.size : Int) - 1) + (m : Int) * (-1)).toNat = xs.size - 1 - m := by omega
    rw [this]
  rw [e1]
  congr 1
  have e2 : (List.range (xs.size - 1)).filterMap (fun m => xs[xs.size - 1 - m]?) = (List.range (xs.size - 1)).filterMap (fun m => xs.toList.tail.reverse[m]?) := by
    apply fm_congr
    intro m hm
    have hm := List.mem_range.mp hm
    have hl : xs.toList.tail.length = xs.size - 1 := by rw [List.length_tail, Array.length_toList]
    rw [List.getElem?_reverse (by omega), hl, List.getElem?_tail, Array.getElem?_toList]
    try (congr 1; omega)
  rw [e2]
  have hl : xs.toList.tail.reverse.length = xs.size - 1 := by rw [List.length_reverse, List.length_tail, Array.length_toList]
  rw [← hl]
  generalize xs.toList.tail.reverse = ys
  have q := PySem.W.krv_all ys.toArray
  simpa using q
section
variable {prog : Program} {w : World} {A : Around} {E : Value → Shared → Prop} {s : Shared}
theorem sliceApplied_back {sl : Addr} {vl vu vs : Value} {n : Nat} {Q : Int × Int × Nat → Shared → Prop} (hn : 0 < n) (hs : s.heap.IsSliceOf sl vl vu vs) (pl : IsPart vl none) (pu : IsPart vu (some 0)) (ps : IsPart vs (some (-1)))
    (h : Q ((n : Int) - 1, -1, n - 1) s) : wpAny (model prog w) A (Builtin.Slice.sliceApplied (.ref sl) (pure (n : Int))) Q E s := by
  obtain ⟨os, hos, hcs, hds⟩ := id hs
  unfold Builtin.Slice.sliceApplied Builtin.Slice.sliceFields
  refine wpAny_bind (wpAny_bind (wpAny_field hos hds (x := vl) rfl (wpAny_bind (wpAny_field hos hds (x := vu) rfl (wpAny_bind (wpAny_field hos hds (x := vs) rfl (wpAny_pure ?_)))))))
  refine wpAny_bind (slicePart_ ps ?_); show wpAny _ _ (if ((-1 : Int) == 0) = true then _ else _) _ _ s; rw [if_neg (by decide)]
  refine wpAny_bind (slicePart_ pl (wpAny_bind (slicePart_ pu (wpAny_bind (wpAny_pure ?_)))))
  show wpAny _ _ (match Builtin.Slice.sliceAdjust none (some 0) (-1) (n : Int) with | (lo, hi) => pure (lo, (-1 : Int), Builtin.Slice.slicePlaces lo hi (-1))) _ _ s
  rw [adjust_back n hn]
  show wpAny _ _ (pure ((n : Int) - 1, (-1 : Int), Builtin.Slice.slicePlaces ((n : Int) - 1) 0 (-1))) _ _ s
  rw [places_back n hn]
  exact wpAny_pure h
theorem getItem_tuple_back {t sl : Addr} {items : Array Value} {vl vu vs : Value} {Q : Value → Shared → Prop} (ht : IsTup s.heap t items) (hs : s.heap.IsSliceOf sl vl vu vs) (pl : IsPart vl none) (pu : IsPart vu (some 0)) (ps : IsPart vs (some (-1)))
    (hn : 0 < items.size) (h : Q (.ref s.heap.objs.size) { s with heap := s.heap.push { cls := .type "tuple", data := .seq items.toList.tail.reverse.toArray } })
    (hsz : items.size ≤ sizeLine) : wpAny (model prog w) A (getItem (.ref t) (.ref sl)) Q E s := by
  have fit : sizeOk (.seq items.toList.tail.reverse.toArray) := by
    show items.toList.tail.reverse.toArray.size ≤ sizeLine
    rw [List.size_toArray, List.length_reverse, List.length_tail, Array.length_toList]; omega
  obtain ⟨os, hos, hcs, hds⟩ := id hs
  have hTs : s.TypeIs (.ref sl) "slice" := ⟨os, hos, hcs⟩
  unfold getItem
  try with_reducible refine wpAny_holding ?_
  first | refine wpAny_bind (wpAny_pure ?_) | skip
  refine wpAny_bind (wpAny_sequenceKey ht.typeIs (by decide) ?_)
  refine wpAny_bind (wpAny_callSpecial?_slot (name := Str.ofString "__getitem__") ht.typeIs slot_tuple_getitem (wpAny_call_entry slot_tuple_getitem ht.typeIs entry_tuple_getitem ?_ (args_tuple_getitem _ _)))
  show wpAny _ _ (Builtin.Tuple.tupleItemsOf (.ref t) >>= _) _ _ s; refine wpAny_bind (tupleItemsOf_ ht ?_)
  refine wpAny_bind (wpAny_typeOf hTs ?_); rw [if_pos (by decide)]
  refine wpAny_bind (sliceApplied_back hn hs pl pu ps ?_)
  show wpAny _ _ (if (((items.size : Int) - 1) == 0 && (-1 : Int) == 1 && (items.size - 1) == items.size) = true then _ else _) _ _ s
  rw [if_neg (by simp), pick_back]
  first
    | exact wpAny_bind (m := Builtin.Tuple.tupleExact _) (wpAny_newObj_type (wpAny_pure ⟨_, rfl, wpAny_pure h⟩) fit)
    | exact wpAny_bind (m := Builtin.Tuple.tupleExact _) (wpAny_newObj_type (wpAny_bind (wpAny_pure (wpAny_pure ⟨_, rfl, wpAny_pure h⟩))) fit)
    | exact wpAny_bind (wpAny_bind (m := Builtin.Tuple.tupleExact _) (wpAny_newObj_type (wpAny_pure (wpAny_pure ⟨_, rfl, wpAny_pure h⟩)) fit))
    | exact wpAny_bind (wpAny_bind (m := Builtin.Tuple.tupleExact _) (wpAny_newObj_type (wpAny_pure ⟨_, rfl, wpAny_pure h⟩) fit))
end
def tSlBack (K : PySem.W.Frag) (te : TE) : TE := fun σ H Q => te σ H fun x H1 => ∃ a y xs, x = .ref a ∧ SqT K H1 a (y :: xs) ∧ ∀ p, H1 p = none → Q (.ref p) (upd H1 p (.tup xs.reverse))
theorem pe_slBack {X : Cx} {e : Expr} {te : TE} {k0 k1 : Nat} {p0 p1 p2 p3 pos : Pos} (he : PE X e te) :
    PE X (.Subscript e (.Slice none (some (.Constant (.int 0) k0 p0)) (some (.UnaryOp .USub (.Constant (.int 1) k1 p1) p2)) p3) pos) (tSlBack X.K te) := by
  refine ⟨fun pins s σ H Q I h => ?_⟩
  refine Subscript_ (thn (he.run pins s σ H _ I h) fun v s1 ⟨x, H1, I1, r1, q1⟩ => ?_)
  obtain ⟨a, y, xs, ex, hx, q⟩ := q1
  subst ex
  cases r1
  have hhi : PO X (some (.Constant (.int 0) k0 p0)) (tPart (tC (.int 0))) := po_some pe_int
  have hst : PO X (some (.UnaryOp .USub (.Constant (.int 1) k1 p1) p2)) (tPart (tUn (rU fun i => .int (-i)) (tC (.int 1)))) := po_some (pe_un un_neg pe_int)
  refine wpAny_Slice (thn (po_none.run pins s1 σ H1 (fun o H2 => o = none ∧ H2 = H1) I1 ⟨rfl, rfl⟩) fun vl s2 ⟨l, H2, I2, pl, el, e2⟩ => ?_)
  subst el e2
  refine thn (hhi.run pins s2 σ H2 (fun o H3 => o = some 0 ∧ H3 = H2) I2 ⟨0, rfl, rfl, rfl⟩) fun vu s3 ⟨u, H3, I3, pu, eu, e3⟩ => ?_
  subst eu e3
  refine thn (hst.run pins s3 σ H3 (fun o H4 => o = some (-1) ∧ H4 = H3) I3 ⟨1, rfl, -1, rfl, rfl, rfl⟩) fun vs s4 ⟨o, H4, I4, ps, eo, e4⟩ => ?_
  subst eo e4
  have I5 : Inv X pins σ H4 { s4 with heap := s4.heap.push { cls := .type "slice", data := .fields #[vl, vu, vs] } } := I4.kept (t' := s4.toks) fun b ob q => Heap.get?_push_of_some _ q
  obtain ⟨its, r, ht, hz⟩ := I5.tuple hx
  have hlen := r.length
  rw [List.length_cons] at hlen hz
  show wpAny (model X.prog X.w) X.A (subscriptTail e (.Slice none (some (.Constant (.int 0) k0 p0)) (some (.UnaryOp .USub (.Constant (.int 1) k1 p1) p2)) p3) (.ref a) (.ref s4.heap.objs.size)) (EP X pins σ Q) X.xe { s4 with heap := s4.heap.push { cls := .type "slice", data := .fields #[vl, vu, vs] } }
  refine tail_any (ops := [.ref a, .ref s4.heap.objs.size]) ht.typeIs slot_tuple_getitem.lookup ?_ (by with_unfolding_all rfl)
  refine getItem_tuple_back ht (Heap.IsSliceOf.new _ vl vu vs) pl pu ps (by rw [List.size_toArray]; omega) ?_ (by rw [List.size_toArray]; omega)
  have rt : Vals xs its.tail := by
    cases r with
    | cons _ t => exact t
  refine ⟨.ref _, _, I5.laid (t' := s4.toks) (o := .tup xs.reverse) (fun b ob q => Heap.get?_push_of_some _ q) (Nat.le_refl _) ?_, rfl, q _ (I5.hok.fresh (Nat.le_refl _))⟩
  exact ⟨by rw [List.length_reverse]; omega, _, rt.reverse, IsTup.new _ _⟩
end Own
namespace Own
open PySem PySem.Spec PyProof.Rows L2 RT HT

/-! ### heaps: all but one object stays; tuples stay -/
def But (d : Addr) (H H' : Hp) : Prop := ∀ b o, b ≠ d → H b = some o → H' b = some o
theorem But.refl (d : Addr) (H : Hp) : But d H H := fun _ _ _ e => e
theorem But.trans {d : Addr} {H H1 H2 : Hp} (a : But d H H1) (b : But d H1 H2) : But d H H2 := fun c o n e => b c o n (a c o n e)
theorem But.upd {d : Addr} {H : Hp} {o : HO} : But d H (upd H d o) := fun b u n e => by rw [upd_ne n]; exact e
theorem same_new {H : Hp} {p : Addr} (h : H p = none) (o : HO) : Same H (upd H p o) := fun b u e => by rw [upd_ne (ne_of_none e h)]; exact e
theorem _root_.L2.Same.but {d : Addr} {H H' : Hp} (a : Same H H') : But d H H' := fun b o _ e => a b o e
/-- a change of what is new is no change -/
theorem But.same {d : Addr} {H H1 H2 : Hp} (n : H d = none) (a : Same H H1) (b : But d H1 H2) : Same H H2 := fun c o e => b c o (ne_of_none e n) (a c o e)
theorem But.free {d : Addr} {H H' : Hp} (a : But d H H') {p : Addr} (n : p ≠ d) (h : H' p = none) : H p = none := by
  cases e : H p with
  | none => rfl
  | some o => rw [a p o n e] at h; cases h
def Tups (H H' : Hp) : Prop := ∀ b xs, H b = some (.tup xs) → H' b = some (.tup xs)
theorem Tups.trans {H H1 H2 : Hp} (a : Tups H H1) (b : Tups H1 H2) : Tups H H2 := fun c xs e => b c xs (a c xs e)
theorem Tups.refl (H : Hp) : Tups H H := fun _ _ e => e
theorem _root_.L2.Same.tups {H H' : Hp} (a : Same H H') : Tups H H' := fun b xs e => a b _ e
theorem But.tups {d : Addr} {H H' : Hp} {ys : List V} (a : But d H H') (h : H d = some (.lst ys)) : Tups H H' := fun b xs e => a b _ (ne_of e h (by intro z; cases z)) e
theorem tups_upd {H : Hp} {d : Addr} {ys : List V} {o : HO} (h : H d = some (.lst ys)) : Tups H (upd H d o) := But.upd.tups h
theorem tups_updD {H : Hp} {d : Addr} {ys : List (Key × V)} {o : HO} (h : H d = some (.dK ys)) : Tups H (upd H d o) := fun b xs e => by rw [upd_ne (ne_of e h (by intro z; cases z))]; exact e

/-! ### terms -/
inductive Ter where
  | var (k : Key)
  | ap (f : Str) (as : List Ter)
mutual
def Ter.size : Ter → Nat
  | .var _ => 1
  | .ap _ as => Ter.sizes as + 1
def Ter.sizes : List Ter → Nat
  | [] => 0
  | a :: r => a.size + Ter.sizes r
end
mutual
def Ter.nest : Ter → Nat
  | .var _ => 1
  | .ap _ as => Ter.nests as + 1
def Ter.nests : List Ter → Nat
  | [] => 0
  | a :: r => max a.nest (Ter.nests r)
end
mutual
def Ter.ground : Ter → Bool
  | .var _ => false
  | .ap _ as => Ter.grounds as
def Ter.grounds : List Ter → Bool
  | [] => true
  | a :: r => a.ground && Ter.grounds r
end
def Ter.isVar : Ter → Bool
  | .var _ => true
  | .ap _ _ => false
theorem Ter.size_pos : ∀ t : Ter, 1 ≤ t.size
  | .var _ => Nat.le_refl _
  | .ap _ _ => Nat.le_add_left _ _
theorem Ter.sizes_len : ∀ ts : List Ter, ts.length ≤ Ter.sizes ts
  | [] => Nat.zero_le _
  | a :: r => by
    have h1 := a.size_pos
    have h2 := Ter.sizes_len r
    show r.length + 1 ≤ a.size + Ter.sizes r
    omega
theorem Ter.sizes_app : ∀ (as bs : List Ter), Ter.sizes (as ++ bs) = Ter.sizes as + Ter.sizes bs
  | [], bs => by show Ter.sizes bs = 0 + Ter.sizes bs; omega
  | a :: r, bs => by
    show a.size + Ter.sizes (r ++ bs) = a.size + Ter.sizes r + Ter.sizes bs
    rw [Ter.sizes_app r bs]
    omega
mutual
inductive TmAt (H : Hp) : V → Ter → Prop
  | int (i : Int) : TmAt H (.int i) (.var (.inl i))
  | str (x : Str) : TmAt H (.str x) (.var (.inr x))
  | ap {p : Addr} {f : Str} {xs : List V} {as : List Ter} : H p = some (.tup (.str f :: xs)) → TmAll H xs as → TmAt H (.ref p) (.ap f as)
inductive TmAll (H : Hp) : List V → List Ter → Prop
  | nil : TmAll H [] []
  | cons {v : V} {vs : List V} {t : Ter} {ts : List Ter} : TmAt H v t → TmAll H vs ts → TmAll H (v :: vs) (t :: ts)
end
mutual
theorem TmAt.mono {H H' : Hp} (m : Tups H H') : ∀ (t : Ter) (v : V), TmAt H v t → TmAt H' v t
  | .var _, _, h => by
    cases h with
    | int i => exact .int i
    | str x => exact .str x
  | .ap f as, _, h => by
    cases h with
    | ap e hs => exact .ap (m _ _ e) (TmAll.mono m as _ hs)
theorem TmAll.mono {H H' : Hp} (m : Tups H H') : ∀ (ts : List Ter) (vs : List V), TmAll H vs ts → TmAll H' vs ts
  | [], _, h => by cases h; exact .nil
  | t :: ts, _, h => by
    cases h with
    | cons h1 h2 => exact .cons (TmAt.mono m t _ h1) (TmAll.mono m ts _ h2)
end
theorem TmAll.len {H : Hp} : ∀ {vs : List V} {ts : List Ter}, TmAll H vs ts → vs.length = ts.length
  | _, _, .nil => rfl
  | _, _, .cons _ t => congrArg (· + 1) t.len
theorem TmAll.app {H : Hp} : ∀ {vs ws : List V} {ts us : List Ter}, TmAll H vs ts → TmAll H ws us → TmAll H (vs ++ ws) (ts ++ us)
  | _, _, _, _, .nil, h => h
  | _, _, _, _, .cons a r, h => .cons a (r.app h)
theorem TmAll.rev {H : Hp} : ∀ {vs : List V} {ts : List Ter}, TmAll H vs ts → TmAll H vs.reverse ts.reverse
  | _, _, .nil => .nil
  | _, _, .cons a r => by
    rw [List.reverse_cons, List.reverse_cons]
    exact r.rev.app (.cons a .nil)
theorem TmAll.get {H : Hp} : ∀ {vs : List V} {ts : List Ter} {i : Nat} {v : V}, TmAll H vs ts → vs[i]? = some v → ∃ t, ts[i]? = some t ∧ TmAt H v t
  | _, _, _, _, .nil, e => by simp at e
  | _, _, 0, _, .cons a r, e => by
    simp at e
    subst e
    exact ⟨_, rfl, a⟩
  | _, _, i + 1, v, .cons a r, e => by
    obtain ⟨t, h1, h2⟩ := TmAll.get (i := i) (v := v) r (by simpa using e)
    exact ⟨t, by simpa using h1, h2⟩
/-- the last one -/
theorem TmAll.last {H : Hp} {vs : List V} {ts : List Ter} (h : TmAll H vs ts) (hv : vs ≠ []) : ∃ vs' v ts' t, vs = vs' ++ [v] ∧ ts = ts' ++ [t] ∧ TmAll H vs' ts' ∧ TmAt H v t := by
  have r := h.rev
  cases e1 : vs.reverse with
  | nil => exact absurd (List.reverse_eq_nil_iff.mp e1) hv
  | cons v vr =>
    cases e2 : ts.reverse with
    | nil => rw [e1, e2] at r; cases r
    | cons t tr =>
      rw [e1, e2] at r
      cases r with
      | cons a q =>
        refine ⟨vr.reverse, v, tr.reverse, t, ?_, ?_, q.rev, a⟩
        · rw [← List.reverse_reverse (as := vs), e1, List.reverse_cons]
        · rw [← List.reverse_reverse (as := ts), e2, List.reverse_cons]

/-! ### readings that come often -/
/-- isinstance(v, tuple), v a term -/
def rIsiTer : List V → Hp → VK → Prop := fun xs H Q => ∃ (v : V) (t : Ter), xs = [v, .ty "tuple"] ∧ TmAt H v t ∧ Q (.bl (!t.isVar)) H
theorem call_isiTer {X : Cx} : CallR X (.builtin "isinstance") rIsiTer := by
  intro pins s σ H xs us Q I r h
  obtain ⟨v, t, rfl, h, q⟩ := h
  refine call_isi pins s σ H _ us Q I r ?_
  cases h with
  | int i => exact ⟨_, _, _, _, false, rfl, .ty _, .base (.int i), kit_ty (by decide +kernel), q⟩
  | str x => exact ⟨_, _, _, _, false, rfl, .ty _, .base (.str x), kit_ty (by decide +kernel), q⟩
  | ap e _ => exact ⟨_, _, _, _, true, rfl, .ty _, .base (.tup e), kit_ty (by decide +kernel), q⟩
theorem cut_1 (y : V) (ys : List V) : cutV (y :: ys) (some 1) none = ys := by
  unfold cutV
  rw [show HT.sIx (y :: ys).length 0 (some 1) = min 1 (y :: ys).length from HT.sIx_nat (y :: ys).length 0 1, HT.sIx_none, List.length_cons, show min 1 (ys.length + 1) = 1 by omega]
  show List.take (ys.length + 1 - 1) ys = ys
  rw [Nat.add_sub_cancel]
  exact List.take_length
/-- t[1:] of a tuple that is not empty -/
def rSl1 (K : PySem.W.Frag) : V → Option Int → Option Int → Hp → VK → Prop := fun x lo hi H Q => ∃ a y ys, x = .ref a ∧ lo = some 1 ∧ hi = none ∧ SqT K H a (y :: ys) ∧ ∀ p, H p = none → Q (.ref p) (upd H p (.tup ys))
theorem sl_1 {X : Cx} : SlR X (rSl1 X.K) := by
  intro pins s σ H x v vl vu lo hi sl Q I rx hs pl pu h
  obtain ⟨a, y, ys, rfl, rfl, rfl, e, q⟩ := h
  refine sl_tup pins s σ H _ v vl vu _ _ sl Q I rx hs pl pu ⟨a, _, rfl, e, fun ⟨z, _⟩ => ?_, fun p hp => ?_⟩
  · rw [show HT.sIx (y :: ys).length 0 (some 1) = min 1 (y :: ys).length from HT.sIx_nat (y :: ys).length 0 1, List.length_cons] at z
    omega
  · rw [cut_1]
    exact q p hp
/-- xs.pop(), the last item told -/
def rPopL : V → List V → Hp → VK → Prop := fun x xs H Q => ∃ (l : Addr) (vs : List V) (v : V), x = .ref l ∧ xs = [] ∧ H l = some (.lst (vs ++ [v])) ∧ Q v (upd H l (.lst vs))
theorem mt_popL {X : Cx} : MtR X "list.pop" rPopL := by
  intro pins s σ H x xs v us Q I rx rxs h
  obtain ⟨l, vs, y, rfl, rfl, e, q⟩ := h
  refine mt_pop pins s σ H _ _ v us Q I rx rxs ⟨l, _, y, rfl, rfl, e, ?_, ?_⟩
  · rw [List.length_append, List.length_singleton, Nat.add_sub_cancel]
    exact List.getElem?_concat_length
  · rw [List.dropLast_concat]
    exact q
theorem tyl {K : PySem.W.Frag} {H : Hp} {l : Addr} {vs : List V} (h : H l = some (.lst vs)) : tyV K "list" (.ref l) H := .inl ⟨rfl, _, .inl (.inl h)⟩
theorem tru_l {K : PySem.W.Frag} {H : Hp} {l : Addr} {vs : List V} (h : H l = some (.lst vs)) : TruV K (.ref l) H (!vs.isEmpty) := .inl ⟨vs, .inl (.inl h), rfl⟩
theorem small6 {n : Nat} (h : n ≤ 1000000) : n ≤ sizeLine := Nat.le_trans h (by decide)
theorem small6' {n : Nat} (h : n ≤ 1000000) : n < sizeLine := Nat.lt_of_le_of_lt h (by decide)
end Own
namespace Own
open PySem PySem.Spec PyProof.Rows L2 RT HT

/-! ### walks within a comprehension, the turn's body any -/
theorem walk_l {K : PySem.W.Frag} {a : Addr} {xs : List V} {H0 : Hp} {Qd : Hp → Prop} {body : (Hp → Prop) → V → Hp → Prop} (Pv : Nat → Hp → Prop) (h0 : Pv 0 H0) (hl : ∀ i H, i ≤ xs.length → Pv i H → SqL K H a xs)
    (hs : ∀ i x H, xs[i]? = some x → Pv i H → body (Pv (i + 1)) x H) (hd : ∀ H, Pv xs.length H → Qd H) :
    ∃ W : Nat → Nat → Hp → Prop, (∃ m, W 0 m H0) ∧ ∀ i m H, W i m H → ((Itl K a).stop i H ∧ Qd H) ∨ ((Itl K a).go i H ∧ ∃ Nx : Hp → Prop, (∀ H', Nx H' → ∃ m', m' < m ∧ W (i + 1) m' H') ∧ ∀ x H', (Itl K a).yld i H x H' → body Nx x H') := by
  refine ⟨fun i m H => m = xs.length - i ∧ i ≤ xs.length ∧ Pv i H, ⟨xs.length, by simp, Nat.zero_le _, h0⟩, ?_⟩
  rintro i m H ⟨rfl, hi, p⟩
  have q := hl i H hi p
  by_cases hlt : i < xs.length
  · refine .inr ⟨⟨xs, xs[i], q, by simp [hlt]⟩, Pv (i + 1), fun H' p' => ⟨xs.length - (i + 1), by omega, rfl, hlt, p'⟩, fun x H' y => ?_⟩
    obtain ⟨e, y⟩ := y
    subst e
    exact hs i x _ (y xs q) p
  · have e : i = xs.length := by omega
    subst e
    exact .inl ⟨⟨xs, q, Nat.le_refl _⟩, hd H p⟩
theorem walk_t {K : PySem.W.Frag} {a : Addr} {xs : List V} {H0 : Hp} {Qd : Hp → Prop} {body : (Hp → Prop) → V → Hp → Prop} (Pv : Nat → Hp → Prop) (h0 : Pv 0 H0) (hl : ∀ i H, i ≤ xs.length → Pv i H → SqT K H a xs)
    (hs : ∀ i x H, xs[i]? = some x → Pv i H → body (Pv (i + 1)) x H) (hd : ∀ H, Pv xs.length H → Qd H) :
    ∃ W : Nat → Nat → Hp → Prop, (∃ m, W 0 m H0) ∧ ∀ i m H, W i m H → ((Itt K a).stop i H ∧ Qd H) ∨ ((Itt K a).go i H ∧ ∃ Nx : Hp → Prop, (∀ H', Nx H' → ∃ m', m' < m ∧ W (i + 1) m' H') ∧ ∀ x H', (Itt K a).yld i H x H' → body Nx x H') := by
  refine ⟨fun i m H => m = xs.length - i ∧ i ≤ xs.length ∧ Pv i H, ⟨xs.length, by simp, Nat.zero_le _, h0⟩, ?_⟩
  rintro i m H ⟨rfl, hi, p⟩
  have q := hl i H hi p
  by_cases hlt : i < xs.length
  · refine .inr ⟨⟨xs, xs[i], q, by simp [hlt]⟩, Pv (i + 1), fun H' p' => ⟨xs.length - (i + 1), by omega, rfl, hlt, p'⟩, fun x H' y => ?_⟩
    obtain ⟨e, y⟩ := y
    subst e
    exact hs i x _ (y xs q) p
  · have e : i = xs.length := by omega
    subst e
    exact .inl ⟨⟨xs, q, Nat.le_refl _⟩, hd H p⟩

/-! ### what the functions of terms compute -/
def Ter.args : Ter → List Ter
  | .var _ => []
  | .ap _ as => as
def argsOf (ts : List Ter) : List Ter := ts.flatMap Ter.args
theorem argsOf_app (as bs : List Ter) : argsOf (as ++ bs) = argsOf as ++ argsOf bs := List.flatMap_append
theorem argsOf_take {ts : List Ter} {i : Nat} {t : Ter} (h : ts[i]? = some t) : argsOf (ts.take (i + 1)) = argsOf (ts.take i) ++ t.args := by
  rw [List.take_add_one, h, argsOf_app]
  show _ ++ ([t].flatMap Ter.args) = _
  rw [List.flatMap_cons, List.flatMap_nil, List.append_nil]
theorem sizes_argsOf : ∀ ts : List Ter, Ter.sizes (argsOf ts) + ts.length = Ter.sizes ts
  | [] => rfl
  | .var k :: r => by
    have ih := sizes_argsOf r
    show Ter.sizes (argsOf r) + (r.length + 1) = 1 + Ter.sizes r
    omega
  | .ap f as :: r => by
    have ih := sizes_argsOf r
    show Ter.sizes (as ++ argsOf r) + (r.length + 1) = Ter.sizes as + 1 + Ter.sizes r
    rw [Ter.sizes_app]
    omega
theorem nests_app : ∀ (as bs : List Ter), Ter.nests (as ++ bs) = max (Ter.nests as) (Ter.nests bs)
  | [], bs => by show Ter.nests bs = max 0 _; omega
  | a :: r, bs => by
    show max a.nest (Ter.nests (r ++ bs)) = max (max a.nest (Ter.nests r)) (Ter.nests bs)
    rw [nests_app r bs]
    omega
theorem Ter.nest_pos : ∀ t : Ter, 1 ≤ t.nest
  | .var _ => Nat.le_refl _
  | .ap _ _ => Nat.le_add_left _ _
theorem nests_argsOf : ∀ ts : List Ter, ts ≠ [] → Ter.nests (argsOf ts) + 1 = Ter.nests ts
  | [], h => absurd rfl h
  | [.var k], _ => rfl
  | [.ap f as], _ => by
    show Ter.nests (as ++ []) + 1 = max (Ter.nests as + 1) 0
    rw [List.append_nil]
    omega
  | .var k :: b :: r, _ => by
    have ih := nests_argsOf (b :: r) (by simp)
    have p := b.nest_pos
    have e : Ter.nests (b :: r) = max b.nest (Ter.nests r) := rfl
    show Ter.nests (argsOf (b :: r)) + 1 = max 1 (Ter.nests (b :: r))
    omega
  | .ap f as :: b :: r, _ => by
    have ih := nests_argsOf (b :: r) (by simp)
    show Ter.nests (as ++ argsOf (b :: r)) + 1 = max (Ter.nests as + 1) (Ter.nests (b :: r))
    rw [nests_app]
    omega
def hasK (acc : List Key) (k : Key) : Bool := acc.any fun x => decide (x = k)
theorem hasK_iff {acc : List Key} {k : Key} : hasK acc k = true ↔ k ∈ acc := by
  unfold hasK
  rw [List.any_eq_true]
  constructor
  · rintro ⟨x, hx, h⟩
    have h : x = k := of_decide_eq_true h
    exact h ▸ hx
  · intro h
    exact ⟨k, h, decide_eq_true rfl⟩
def addK (acc : List Key) (k : Key) : List Key := if hasK acc k = true then acc else acc ++ [k]
mutual
def Ter.into (acc : List Key) : Ter → List Key
  | .var k => addK acc k
  | .ap _ as => Ter.intos acc as
def Ter.intos (acc : List Key) : List Ter → List Key
  | [] => acc
  | a :: r => Ter.intos (Ter.into acc a) r
end
theorem intos_app : ∀ (as bs : List Ter) (acc : List Key), Ter.intos acc (as ++ bs) = Ter.intos (Ter.intos acc as) bs
  | [], _, _ => rfl
  | a :: r, bs, acc => intos_app r bs (Ter.into acc a)
def Ter.vars (t : Ter) : List Key := Ter.into [] t
def yes (k : Key) : Key × V := (k, .bl true)
theorem put_yes (acc : List Key) (k : Key) : putK (acc.map yes) k (.bl true) = (addK acc k).map yes := by
  unfold putK addK
  have e : ((acc.map yes).any fun kv => decide (kv.1 = k)) = hasK acc k := by
    rw [List.any_map]
    rfl
  rw [e]
  by_cases hk : hasK acc k = true
  · rw [if_pos hk, if_pos hk, List.map_map]
    apply List.map_congr_left
    intro x _
    show (if x = k then (x, V.bl true) else (x, V.bl true)) = (x, V.bl true)
    split <;> rfl
  · rw [if_neg hk, if_neg hk, List.map_append]
    rfl
theorem addK_len (acc : List Key) (k : Key) : (addK acc k).length ≤ acc.length + 1 := by
  unfold addK
  split
  · omega
  · rw [List.length_append, List.length_singleton]; omega
theorem yes_keys (acc : List Key) : (acc.map yes).map (fun kv => kV kv.1) = acc.map kV := by
  rw [List.map_map]
  rfl
theorem addK_ne (acc : List Key) (k : Key) : addK acc k ≠ [] := by
  unfold addK
  split
  · rename_i h
    intro z
    rw [z] at h
    exact absurd (show false = true from h) Bool.false_ne_true
  · simp
mutual
theorem into_ne : ∀ (t : Ter) (acc : List Key), acc ≠ [] ∨ t.ground = false → Ter.into acc t ≠ []
  | .var k, acc, _ => addK_ne acc k
  | .ap f as, acc, h => intos_ne as acc h
theorem intos_ne : ∀ (ts : List Ter) (acc : List Key), acc ≠ [] ∨ Ter.grounds ts = false → Ter.intos acc ts ≠ []
  | [], acc, h => h.resolve_right (by intro z; cases z)
  | a :: r, acc, h => by
    refine intos_ne r _ ?_
    rcases h with h | h
    · exact .inl (into_ne a acc (.inl h))
    · have h : (a.ground && Ter.grounds r) = false := h
      cases ha : a.ground with
      | false => exact .inl (into_ne a acc (.inr ha))
      | true =>
        rw [ha] at h
        exact .inr h
end
mutual
theorem into_ground : ∀ (t : Ter) (acc : List Key), t.ground = true → Ter.into acc t = acc
  | .var k, _, h => by cases h
  | .ap f as, acc, h => intos_ground as acc h
theorem intos_ground : ∀ (ts : List Ter) (acc : List Key), Ter.grounds ts = true → Ter.intos acc ts = acc
  | [], _, _ => rfl
  | a :: r, acc, h => by
    have h : (a.ground && Ter.grounds r) = true := h
    rw [Bool.and_eq_true] at h
    show Ter.intos (Ter.into acc a) r = acc
    rw [into_ground a acc h.1, intos_ground r acc h.2]
end
theorem vars_nil (t : Ter) : decide (t.vars = []) = t.ground := by
  cases h : t.ground with
  | true => exact decide_eq_true (into_ground t [] h)
  | false => exact decide_eq_false (into_ne t [] (.inr h))
end Own
namespace Own
open PySem PySem.Spec PyProof.Rows L2 RT HT

/-! ### a list of ints at d, whatever they are -/
def Ints (H : Hp) (d : Addr) : Prop := ∃ ms : List Int, ms.length ≤ 100000 ∧ H d = some (.lst (ms.map V.int))
theorem Ints.lst {H : Hp} {d : Addr} (h : Ints H d) : ∃ vs, H d = some (.lst vs) := by
  obtain ⟨ms, _, e⟩ := h
  exact ⟨_, e⟩
theorem But.tupsI {d : Addr} {H H' : Hp} (a : But d H H') (h : Ints H d) : Tups H H' := by
  obtain ⟨ms, _, e⟩ := h
  exact a.tups e
theorem Ints.ne {H : Hp} {d p : Addr} (h : Ints H d) (n : H p = none) : p ≠ d := by
  obtain ⟨ms, _, e⟩ := h
  exact (ne_of_none e n).symm
theorem Ints.of_but {H H' : Hp} {d p : Addr} (h : Ints H d) (b : But p H H') (n : d ≠ p) : Ints H' d := by
  obtain ⟨ms, l, e⟩ := h
  exact ⟨ms, l, b d _ n e⟩
theorem Ints.same {H H' : Hp} {d : Addr} (h : Ints H d) (b : Same H H') : Ints H' d := by
  obtain ⟨ms, l, e⟩ := h
  exact ⟨ms, l, b d _ e⟩

/-! ### words -/
abbrev LET : Str := "abcdefghijklmnopqrstuvwxyz"
abbrev SGN : Str := LET ++ ("ABCDEFGHIJKLMNOPQRSTUVWXYZ0123456789_" : Str)
abbrev RES : List Str := ["true", "false", "all", "some", "goal", "axiom"]
def chOk (c : Nat) : Bool := (decide (97 ≤ c) && decide (c ≤ 122)) || (decide (65 ≤ c) && decide (c ≤ 90)) || (decide (48 ≤ c) && decide (c ≤ 57)) || decide (c = 95)
def isLow (c : Nat) : Bool := decide (97 ≤ c) && decide (c ≤ 122)
/-- a word: a small letter, then signs -/
structure WordOk (x : Str) : Prop where
  head : ∃ c r, x.cps.toList = c :: r ∧ isLow c = true
  all : x.cps.toList.all chOk = true
  len : x.length ≤ 40
theorem let_len : LET.length = 26 := by decide +kernel
theorem sgn_len : SGN.length = 63 := by decide +kernel
theorem let_at {i : Nat} (h : i < 26) : ∃ c, LET.cps[i]? = some c ∧ isLow c = true ∧ chOk c = true := by
  have a : LET.cps.toList.all (fun c => isLow c && chOk c) = true := by decide +kernel
  have l : LET.cps.toList.length = 26 := by decide +kernel
  have hi : i < LET.cps.toList.length := by omega
  have b := List.all_eq_true.mp a _ (List.getElem_mem hi)
  rw [Bool.and_eq_true] at b
  exact ⟨_, by rw [← Array.getElem?_toList, List.getElem?_eq_getElem hi], b.1, b.2⟩
theorem sgn_at {i : Nat} (h : i < 63) : ∃ c, SGN.cps[i]? = some c ∧ chOk c = true := by
  have a : SGN.cps.toList.all chOk = true := by decide +kernel
  have l : SGN.cps.toList.length = 63 := by decide +kernel
  have hi : i < SGN.cps.toList.length := by omega
  exact ⟨_, by rw [← Array.getElem?_toList, List.getElem?_eq_getElem hi], List.all_eq_true.mp a _ (List.getElem_mem hi)⟩
theorem app_cps (x y : Str) : (x ++ y).cps.toList = x.cps.toList ++ y.cps.toList := by
  show (x.cps ++ y.cps).toList = _
  rw [Array.toList_append]
theorem app_len (x y : Str) : (x ++ y).length = x.length + y.length := by
  show (x.cps ++ y.cps).size = x.cps.size + y.cps.size
  rw [Array.size_append]
/-- part of a word: all but the length -/
structure WordIn (x : Str) (n : Nat) : Prop where
  head : ∃ c r, x.cps.toList = c :: r ∧ isLow c = true
  all : x.cps.toList.all chOk = true
  len : x.length ≤ n
theorem word1 {c : Nat} (h1 : isLow c = true) (h2 : chOk c = true) : WordIn ⟨#[c]⟩ 1 := ⟨⟨c, [], rfl, h1⟩, by show (chOk c && true) = true; rw [h2]; rfl, Nat.le_refl _⟩
theorem WordIn.add {x y : Str} {n m : Nat} (h : WordIn x n) (a : y.cps.toList.all chOk = true) (l : y.length ≤ m) : WordIn (x ++ y) (n + m) := by
  obtain ⟨c, r, e, hc⟩ := h.head
  refine ⟨⟨c, r ++ y.cps.toList, by rw [app_cps, e]; rfl, hc⟩, by rw [app_cps, List.all_append, h.all, a]; rfl, by rw [app_len]; have := h.len; omega⟩
theorem WordIn.ok {x : Str} {n : Nat} (h : WordIn x n) (l : n ≤ 40) : WordOk x := ⟨h.head, h.all, Nat.le_trans h.len l⟩
/-- words of a law: all right, no two alike, none reserved -/
structure Words (ws : List Str) : Prop where
  ok : ∀ x ∈ ws, WordOk x
  nd : ws.Nodup
  res : ∀ x ∈ ws, x ∉ RES
/-- how many of the blocked ones are as long as n or longer -/
def longer (B : List Str) (n : Nat) : Nat := (B.filter fun y => decide (n ≤ y.length)).length
theorem longer_le (B : List Str) (n : Nat) : longer B n ≤ B.length := List.length_filter_le _ _
theorem longer_lt : ∀ {B : List Str} {x : Str}, x ∈ B → longer B (x.length + 1) < longer B x.length := by
  intro B
  have mono : ∀ (B : List Str) (n : Nat), longer B (n + 1) ≤ longer B n := fun B n => by
    induction B with
    | nil => exact Nat.le_refl _
    | cons y r ih =>
      unfold longer at ih ⊢
      rw [List.filter_cons, List.filter_cons]
      by_cases h1 : n + 1 ≤ y.length
      · rw [if_pos (decide_eq_true h1), if_pos (decide_eq_true (by omega)), List.length_cons, List.length_cons]; omega
      · rw [if_neg (by rw [decide_eq_false h1]; decide)]
        split
        · rw [List.length_cons]; omega
        · exact ih
  induction B with
  | nil => intro x h; cases h
  | cons y r ih =>
    intro x h
    unfold longer at ih ⊢
    rw [List.filter_cons, List.filter_cons]
    rcases List.mem_cons.mp h with e | h
    · subst e
      rw [if_neg (by rw [decide_eq_false (by omega)]; decide), if_pos (decide_eq_true (Nat.le_refl _)), List.length_cons]
      have := mono r x.length
      unfold longer at this
      omega
    · have q := ih h
      by_cases h1 : x.length + 1 ≤ y.length
      · rw [if_pos (decide_eq_true h1), if_pos (decide_eq_true (by omega)), List.length_cons, List.length_cons]; omega
      · rw [if_neg (by rw [decide_eq_false h1]; decide)]
        split
        · rw [List.length_cons]; omega
        · exact q
theorem inV_str (x : Str) (ws : List Str) : inV (.str x) (ws.map V.str) = true ↔ x ∈ ws := by
  unfold inV
  rw [List.any_map, List.any_eq_true]
  constructor
  · rintro ⟨y, hy, h⟩
    have h : (y == x) = true := h
    exact eq_of_beq h ▸ hy
  · intro h
    exact ⟨x, h, show (x == x) = true from beq_self_eq_true x⟩
theorem flat_strs (ws : List Str) : (ws.map V.str).all flatV = true := by
  rw [List.all_map, List.all_eq_true]
  intro x _
  rfl
end Own
namespace Own
open PySem PySem.Spec PyProof.Rows L2 RT HT

/-! ### terms over words -/
mutual
def Ter.wf (W : Str → Nat → Prop) (U : Key → Prop) : Ter → Prop
  | .var k => U k
  | .ap f as => W f as.length ∧ Ter.wfs W U as
def Ter.wfs (W : Str → Nat → Prop) (U : Key → Prop) : List Ter → Prop
  | [] => True
  | a :: r => a.wf W U ∧ Ter.wfs W U r
end
theorem wfs_app {W : Str → Nat → Prop} {U : Key → Prop} : ∀ {as bs : List Ter}, Ter.wfs W U as → Ter.wfs W U bs → Ter.wfs W U (as ++ bs)
  | [], _, _, h => h
  | _ :: _, _, h, h2 => ⟨h.1, wfs_app h.2 h2⟩
theorem wfs_get {W : Str → Nat → Prop} {U : Key → Prop} : ∀ {as : List Ter} {i : Nat} {t : Ter}, Ter.wfs W U as → as[i]? = some t → t.wf W U
  | [], _, _, _, e => by simp at e
  | a :: r, 0, t, h, e => by
    simp at e
    exact e ▸ h.1
  | a :: r, i + 1, t, h, e => wfs_get (as := r) (i := i) h.2 (by simpa using e)
/-- the i-th word has i - 2 arguments -/
def symOf (ws : List Str) (f : Str) (n : Nat) : Prop := ∃ i : Nat, i < 6 ∧ ws[i]? = some f ∧ n = i - 2
def numVar (k : Key) : Prop := ∃ r : Int, k = .inl r ∧ 0 ≤ r ∧ r < 900
theorem sizes_snoc (as : List Ter) (t : Ter) : Ter.sizes (as ++ [t]) = Ter.sizes as + t.size := by
  rw [Ter.sizes_app]
  show _ + (t.size + 0) = _
  omega
theorem nests_snoc (as : List Ter) (t : Ter) : Ter.nests (as ++ [t]) = max (Ter.nests as) t.nest := by
  rw [nests_app]
  show max _ (max t.nest 0) = _
  omega
theorem grounds_app : ∀ (as bs : List Ter), Ter.grounds (as ++ bs) = (Ter.grounds as && Ter.grounds bs)
  | [], _ => rfl
  | a :: r, bs => by
    show (a.ground && Ter.grounds (r ++ bs)) = _
    rw [grounds_app r bs, ← Bool.and_assoc]
    rfl
theorem grounds_snoc (as : List Ter) (t : Ter) : Ter.grounds (as ++ [t]) = (Ter.grounds as && t.ground) := by
  rw [grounds_app]
  show (_ && (t.ground && true)) = _
  rw [Bool.and_true]
theorem pow4 (n : Nat) : 1 ≤ 4 ^ n := Nat.one_le_pow _ _ (by decide)
mutual
theorem nest_size : ∀ t : Ter, t.nest ≤ t.size
  | .var _ => Nat.le_refl _
  | .ap _ as => Nat.succ_le_succ (nests_sizes as)
theorem nests_sizes : ∀ ts : List Ter, Ter.nests ts ≤ Ter.sizes ts
  | [] => Nat.le_refl _
  | a :: r => by
    have h1 := nest_size a
    have h2 := nests_sizes r
    show max a.nest (Ter.nests r) ≤ a.size + Ter.sizes r
    omega
end
theorem nest_le_of : ∀ {ts : List Ter} {i : Nat} {t : Ter}, ts[i]? = some t → t.nest ≤ Ter.nests ts
  | [], _, _, e => by simp at e
  | a :: r, 0, t, e => by
    simp at e
    subst e
    exact Nat.le_max_left _ _
  | a :: r, i + 1, t, e => Nat.le_trans (nest_le_of (ts := r) (i := i) (by simpa using e)) (Nat.le_max_right _ _)
theorem size_le_of : ∀ {ts : List Ter} {i : Nat} {t : Ter}, ts[i]? = some t → t.size ≤ Ter.sizes ts
  | [], _, _, e => by simp at e
  | a :: r, 0, t, e => by
    simp at e
    subst e
    exact Nat.le_add_right _ _
  | a :: r, i + 1, t, e => Nat.le_trans (size_le_of (ts := r) (i := i) (by simpa using e)) (Nat.le_add_left _ _)

/-! ### data: the kind of a value -/
def kindOf : PyData → String
  | .none => "NoneType"
  | .bool _ => "bool"
  | .int _ => "int"
  | .str _ => "str"
  | .list _ => "list"
  | .tuple _ => "tuple"
  | .dict _ => "dict"
theorem tyx_dp {K : PySem.W.Frag} {H : Hp} {v : V} {x : PyData} (h : Dp K H v x) : TyX K H v (.type (kindOf x)) := by
  cases h with
  | non => exact .base .non
  | bl b => exact .base (.bl b)
  | int i => exact .base (.int i)
  | str y => exact .base (.str y)
  | lst h _ =>
    rcases h with (h | ⟨o, h⟩) | ⟨o, its, n, h, c, _⟩
    · exact .base (.lst h)
    · exact .base (.frz h)
    · exact .kList h c
  | tup h _ =>
    rcases h with (h | ⟨o, h⟩) | ⟨o, its, n, h, c, _⟩
    · exact .base (.tup h)
    · exact .fTuple h
    · exact .kTuple h c
def rIsiDat (K : PySem.W.Frag) : List V → Hp → VK → Prop := fun xs H Q => ∃ (v : V) (x : PyData) (c : String) (b : Bool), xs = [v, .ty c] ∧ Dp K H v x ∧ kitB (kindOf x) c = some b ∧ Q (.bl b) H
theorem call_isiDat {X : Cx} : CallR X (.builtin "isinstance") (rIsiDat X.K) := by
  intro pins s σ H xs us Q I r h
  obtain ⟨v, x, c, b, rfl, h, e, q⟩ := h
  exact call_isi pins s σ H _ us Q I r ⟨v, .ty c, _, _, b, rfl, .ty c, tyx_dp h, kit_ty e, q⟩
theorem Dp.len {K : PySem.W.Frag} {H : Hp} : ∀ {vs : List V} {xs : List PyData}, DpAll K H vs xs → vs.length = xs.length
  | _, _, .nil => rfl
  | _, _, .cons _ t => congrArg (· + 1) (Dp.len t)
theorem Dp.get {K : PySem.W.Frag} {H : Hp} : ∀ {vs : List V} {xs : List PyData} {i : Nat} {v : V}, DpAll K H vs xs → vs[i]? = some v → ∃ x, xs[i]? = some x ∧ Dp K H v x
  | _, _, _, _, .nil, e => by simp at e
  | _, _, 0, _, .cons a r, e => by
    simp at e
    subst e
    exact ⟨_, rfl, a⟩
  | _, _, i + 1, v, .cons a r, e => by
    obtain ⟨t, h1, h2⟩ := Dp.get (i := i) (v := v) r (by simpa using e)
    exact ⟨t, by simpa using h1, h2⟩
theorem depth_le_of : ∀ {xs : List PyData} {i : Nat} {x : PyData}, xs[i]? = some x → x.depth ≤ PyData.depthAll xs
  | [], _, _, e => by simp at e
  | a :: r, 0, t, e => by
    simp at e
    subst e
    exact Nat.le_max_left _ _
  | a :: r, i + 1, t, e => Nat.le_trans (depth_le_of (xs := r) (i := i) (by simpa using e)) (Nat.le_max_right _ _)
mutual
theorem Dp.same {K : PySem.W.Frag} {H H' : Hp} (m : Same H H') : ∀ (x : PyData) (v : V), Dp K H v x → Dp K H' v x
  | .none, _, h => by cases h; exact .non
  | .bool b, _, h => by cases h; exact .bl b
  | .int i, _, h => by cases h; exact .int i
  | .str x, _, h => by cases h; exact .str x
  | .list ds, _, h => by
    cases h with
    | lst e hs => exact .lst (m.seq e) (Dp.sameA m ds _ hs)
  | .tuple ds, _, h => by
    cases h with
    | tup e hs =>
      refine .tup ?_ (Dp.sameA m ds _ hs)
      rcases e with (e | ⟨o, e⟩) | e
      · exact .inl (.inl (m _ _ e))
      · exact .inl (.inr ⟨o, m _ _ e⟩)
      · exact .inr e
  | .dict _, _, h => by cases h
theorem Dp.sameA {K : PySem.W.Frag} {H H' : Hp} (m : Same H H') : ∀ (xs : List PyData) (vs : List V), DpAll K H vs xs → DpAll K H' vs xs
  | [], _, h => by cases h; exact .nil
  | x :: xs, _, h => by
    cases h with
    | cons a r => exact .cons (Dp.same m x _ a) (Dp.sameA m xs _ r)
end
def isTupD : PyData → Bool
  | .tuple _ => true
  | _ => false
def isListD : PyData → Bool
  | .list _ => true
  | _ => false
def isBoolD : PyData → Bool
  | .bool _ => true
  | _ => false
def isIntD : PyData → Bool
  | .bool _ => true
  | .int _ => true
  | _ => false
def isStrD : PyData → Bool
  | .str _ => true
  | _ => false
theorem k_tup (x : PyData) : kitB (kindOf x) "tuple" = some (isTupD x) := by
  cases x <;> (unfold kindOf isTupD; dsimp only; decide +kernel)
theorem k_list (x : PyData) : kitB (kindOf x) "list" = some (isListD x) := by
  cases x <;> (unfold kindOf isListD; dsimp only; decide +kernel)
theorem k_bool (x : PyData) : kitB (kindOf x) "bool" = some (isBoolD x) := by
  cases x <;> (unfold kindOf isBoolD; dsimp only; decide +kernel)
theorem k_int (x : PyData) : kitB (kindOf x) "int" = some (isIntD x) := by
  cases x <;> (unfold kindOf isIntD; dsimp only; decide +kernel)
theorem k_str (x : PyData) : kitB (kindOf x) "str" = some (isStrD x) := by
  cases x <;> (unfold kindOf isStrD; dsimp only; decide +kernel)
/-- nested less than n deep, no dict, no item too long -/
def fitsD : Nat → PyData → Prop
  | 0, _ => False
  | n + 1, .list ds => ds.length ≤ 1000000 ∧ ∀ d ∈ ds, fitsD n d
  | n + 1, .tuple ds => ds.length ≤ 1000000 ∧ ∀ d ∈ ds, fitsD n d
  | _ + 1, .dict _ => False
  | _ + 1, _ => True
/-- a[i], a a list or a tuple -/
def rIxLT (K : PySem.W.Frag) : R2 := fun x y H Q => ∃ (p : Addr) (xs : List V) (i : Int) (v : V), x = .ref p ∧ y = .int i ∧ (SqL K H p xs ∨ SqT K H p xs) ∧ atI xs i = some v ∧ Q v H
theorem ix_lt {X : Cx} : IxR X (rIxLT X.K) := by
  intro value slice pins s σ H x y v u Q I rx ry h hs
  obtain ⟨p, xs, i, z, ex, ey, h, e, q⟩ := h
  rcases h with h | h
  · exact ix_list value slice pins s σ H x y v u Q I rx ry ⟨p, xs, i, z, ex, ey, h, e, q⟩ hs
  · exact ix_tup value slice pins s σ H x y v u Q I rx ry ⟨p, xs, i, z, ex, ey, h, e, q⟩ hs
theorem dp_ints {K : PySem.W.Frag} {H : Hp} : ∀ ns : List Int, DpAll K H (ns.map V.int) (ns.map PyData.int)
  | [] => .nil
  | n :: r => .cons (.int n) (dp_ints r)
end Own
namespace Own
open PySem PySem.Spec PyProof.Rows L2 RT HT

def isNum : Key → Prop
  | .inl _ => True
  | .inr _ => False
theorem addK_all {R : Key → Prop} {acc : List Key} {k : Key} (h : ∀ x ∈ acc, R x) (hk : R k) : ∀ x ∈ addK acc k, R x := by
  unfold addK
  split
  · exact h
  · intro x hx
    rcases List.mem_append.mp hx with hx | hx
    · exact h x hx
    · rw [List.mem_singleton.mp hx]; exact hk
mutual
theorem into_all {W : Str → Nat → Prop} {U R : Key → Prop} (ur : ∀ k, U k → R k) : ∀ (t : Ter) (acc : List Key), t.wf W U → (∀ x ∈ acc, R x) → ∀ x ∈ Ter.into acc t, R x
  | .var k, acc, h, a => addK_all a (ur k h)
  | .ap f as, acc, h, a => intos_all ur as acc h.2 a
theorem intos_all {W : Str → Nat → Prop} {U R : Key → Prop} (ur : ∀ k, U k → R k) : ∀ (ts : List Ter) (acc : List Key), Ter.wfs W U ts → (∀ x ∈ acc, R x) → ∀ x ∈ Ter.intos acc ts, R x
  | [], _, _, a => a
  | t :: r, acc, h, a => intos_all ur r _ h.2 (into_all ur t acc h.1 a)
end
/-- a key as data -/
def kD : Key → PyData
  | .inl i => .int i
  | .inr x => .str x
def keyFine : Key → Prop
  | .inl _ => True
  | .inr x => PyData.strOk x = true
theorem dp_keys {K : PySem.W.Frag} {H : Hp} : ∀ ks : List Key, DpAll K H (ks.map kV) (ks.map kD)
  | [] => .nil
  | .inl i :: r => .cons (.int i) (dp_keys r)
  | .inr x :: r => .cons (.str x) (dp_keys r)
theorem lay_keys : ∀ ks : List Key, (∀ k ∈ ks, keyFine k) → PyData.canLayAll0 (ks.map kD) = true ∧ PyData.depthAll (ks.map kD) = 0
  | [], _ => ⟨rfl, rfl⟩
  | .inl i :: r, h => by
    obtain ⟨h1, h2⟩ := lay_keys r fun k hk => h k (List.mem_cons_of_mem _ hk)
    exact ⟨by show (true && PyData.canLayAll0 (r.map kD)) = true; rw [h1]; rfl, by show max 0 (PyData.depthAll (r.map kD)) = 0; rw [h2]; rfl⟩
  | .inr x :: r, h => by
    obtain ⟨h1, h2⟩ := lay_keys r fun k hk => h k (List.mem_cons_of_mem _ hk)
    have hx : PyData.strOk x = true := h (.inr x) List.mem_cons_self
    exact ⟨by show (PyData.strOk x && PyData.canLayAll0 (r.map kD)) = true; rw [h1, hx]; rfl, by show max 0 (PyData.depthAll (r.map kD)) = 0; rw [h2]; rfl⟩
theorem shaped_keys {ks : List Key} (h : ∀ k ∈ ks, keyFine k) : SeqAt.shaped (.list (ks.map kD)) = true := by
  obtain ⟨h1, h2⟩ := lay_keys ks h
  show (PyData.canLayAll0 (ks.map kD) && decide (PyData.depthAll (ks.map kD) + 1 ≤ 64)) = true
  rw [h1, h2]
  rfl
theorem eqv_nil (ks : List Key) : PyData.eqv (.list (ks.map kD)) (.list []) = decide (ks = []) := by
  cases ks with
  | nil => rfl
  | cons a r => exact (decide_eq_false (by simp)).symm
theorem num_fine (k : Key) (h : numVar k) : keyFine k := by
  obtain ⟨r, rfl, _⟩ := h
  exact trivial
end Own
namespace Own
open PySem PySem.Spec PyProof.Rows L2 RT HT

theorem kV_inj {a b : Key} (h : kV a = kV b) : a = b := by
  cases a <;> cases b <;> simp [kV] at h <;> simp [h]
theorem flat_keys (ks : List Key) : (ks.map kV).all flatV = true := by
  rw [List.all_map, List.all_eq_true]
  intro k _
  cases k <;> rfl
theorem eqV_key (a b : Key) : eqV (kV a) (kV b) = decide (a = b) := by
  cases a with
  | inl i =>
    cases b with
    | inl j =>
      rw [key_ll]
      rfl
    | inr y => rw [key_lr]; rfl
  | inr x =>
    cases b with
    | inl j => rw [key_rl]; rfl
    | inr y =>
      rw [key_rr]
      show (x == y) = decide (x = y)
      rfl
theorem inV_key (k : Key) (ks : List Key) : inV (kV k) (ks.map kV) = hasK ks k := by
  unfold inV hasK
  rw [List.any_map]
  congr 1
  funext x
  exact eqV_key x k
theorem flat_key (k : Key) : flatV (kV k) = true := by cases k <;> rfl
/-- keys put in one by one -/
def addKs (acc : List Key) (ks : List Key) : List Key := ks.foldl addK acc
theorem hasK_addK (acc : List Key) (k x : Key) : hasK (addK acc k) x = (hasK acc x || decide (k = x)) := by
  unfold addK
  by_cases h : hasK acc k = true
  · rw [if_pos h]
    by_cases e : k = x
    · subst e
      rw [h, Bool.true_or]
    · rw [decide_eq_false e, Bool.or_false]
  · rw [if_neg h]
    unfold hasK
    rw [List.any_append]
    simp
theorem hasK_addKs : ∀ (ks acc : List Key) (x : Key), hasK (addKs acc ks) x = (hasK acc x || hasK ks x)
  | [], acc, x => by show hasK acc x = (hasK acc x || false); rw [Bool.or_false]
  | k :: r, acc, x => by
    show hasK (addKs (addK acc k) r) x = _
    rw [hasK_addKs r, hasK_addK, Bool.or_assoc]
    rfl
theorem addKs_addK (acc b : List Key) (k : Key) : addKs acc (addK b k) = addK (addKs acc b) k := by
  by_cases h : hasK b k = true
  · have e : addK b k = b := by unfold addK; rw [if_pos h]
    have h2 : hasK (addKs acc b) k = true := by rw [hasK_addKs, h, Bool.or_true]
    rw [e]
    unfold addK
    rw [if_pos h2]
  · have e : addK b k = b ++ [k] := by unfold addK; rw [if_neg h]
    rw [e]
    unfold addKs
    rw [List.foldl_append]
    rfl
mutual
theorem addKs_into (acc : List Key) : ∀ (t : Ter) (b : List Key), addKs acc (Ter.into b t) = Ter.into (addKs acc b) t
  | .var k, b => addKs_addK acc b k
  | .ap _ as, b => addKs_intos acc as b
theorem addKs_intos (acc : List Key) : ∀ (ts : List Ter) (b : List Key), addKs acc (Ter.intos b ts) = Ter.intos (addKs acc b) ts
  | [], _ => rfl
  | t :: r, b => by
    show addKs acc (Ter.intos (Ter.into b t) r) = _
    rw [addKs_intos acc r, addKs_into acc t]
    rfl
end
theorem into_met (acc : List Key) (t : Ter) : addKs acc t.vars = Ter.into acc t := addKs_into acc t []
theorem intos_snoc (acc : List Key) (as : List Ter) (t : Ter) : Ter.intos acc (as ++ [t]) = Ter.into (Ter.intos acc as) t := by
  rw [intos_app]
  rfl
mutual
theorem into_len : ∀ (t : Ter) (acc : List Key), (Ter.into acc t).length ≤ acc.length + t.size
  | .var k, acc => addK_len acc k
  | .ap _ as, acc => Nat.le_trans (intos_len as acc) (by show _ ≤ acc.length + (Ter.sizes as + 1); omega)
theorem intos_len : ∀ (ts : List Ter) (acc : List Key), (Ter.intos acc ts).length ≤ acc.length + Ter.sizes ts
  | [], acc => by show acc.length ≤ acc.length + 0; omega
  | t :: r, acc => by
    have h1 := into_len t acc
    have h2 := intos_len r (Ter.into acc t)
    show (Ter.intos (Ter.into acc t) r).length ≤ acc.length + (t.size + Ter.sizes r)
    omega
end
theorem fits_keys {ks : List Key} (n : Nat) (h : ks.length ≤ 1000000) : fitsD (n + 2) (.list (ks.map kD)) := by
  refine ⟨by rw [List.length_map]; exact h, fun d hd => ?_⟩
  obtain ⟨k, _, rfl⟩ := List.mem_map.mp hd
  cases k <;> exact trivial
/-- xs.pop(i) etc. read the list at its place; t[0] of an application -/
theorem head_at {f : V} {xs : List V} : atI (f :: xs) 0 = some f := atI_nat (j := 0) rfl
end Own
namespace Own
open PySem PySem.Spec PyProof.Rows L2 RT HT

/-! ### texts -/
theorem strE {a b : Str} (h : a.cps.toList = b.cps.toList) : a = b := by
  cases a with
  | mk x =>
    cases b with
    | mk y => exact congrArg Str.mk (Array.toList_inj.mp h)
theorem sApp (a b c : Str) : (a ++ b) ++ c = a ++ (b ++ c) := strE (by simp only [app_cps, List.append_assoc])
theorem sEmp (a : Str) : Str.empty ++ a = a := strE (by rw [app_cps]; rfl)
theorem eqS {a b : Str} {A B : Prop} (h : (a == b) = true) (k : A) : if decide (V.str a = V.str b) = true then A else B := by
  rw [dec_str, h]
  exact iteT k
theorem neS {a b : Str} {A B : Prop} (h : (a == b) = false) (k : B) : if decide (V.str a = V.str b) = true then A else B := by
  rw [dec_str, h]
  exact iteF k

/-! ### terms as data -/
mutual
def Ter.dat : Ter → PyData
  | .var k => kD k
  | .ap f as => .tuple (.str f :: Ter.dats as)
def Ter.dats : List Ter → List PyData
  | [] => []
  | a :: r => a.dat :: Ter.dats r
end
mutual
theorem dp_ter {K : PySem.W.Frag} {H : Hp} : ∀ (t : Ter) (v : V), TmAt H v t → Dp K H v t.dat
  | .var k, _, h => by
    cases h with
    | int i => exact .int i
    | str x => exact .str x
  | .ap f as, _, h => by
    cases h with
    | ap e hs => exact .tup (.inl (.inl e)) (.cons (.str f) (dp_ters as _ hs))
theorem dp_ters {K : PySem.W.Frag} {H : Hp} : ∀ (ts : List Ter) (vs : List V), TmAll H vs ts → DpAll K H vs (Ter.dats ts)
  | [], _, h => by cases h; exact .nil
  | t :: r, _, h => by
    cases h with
    | cons a b => exact .cons (dp_ter t _ a) (dp_ters r _ b)
end
def symFine (f : Str) (_ : Nat) : Prop := PyData.strOk f = true
mutual
theorem lay_ter : ∀ t : Ter, t.wf symFine keyFine → PyData.canLay0 t.dat = true ∧ PyData.depth t.dat ≤ t.nest
  | .var (.inl _), _ => ⟨rfl, Nat.zero_le _⟩
  | .var (.inr x), h => ⟨h, Nat.zero_le _⟩
  | .ap f as, h => by
    obtain ⟨h1, h2⟩ := lay_ters as h.2
    refine ⟨?_, ?_⟩
    · show (PyData.strOk f && PyData.canLayAll0 (Ter.dats as)) = true
      rw [show PyData.strOk f = true from h.1, h1]
      rfl
    · show max 0 (PyData.depthAll (Ter.dats as)) + 1 ≤ Ter.nests as + 1
      omega
theorem lay_ters : ∀ ts : List Ter, Ter.wfs symFine keyFine ts → PyData.canLayAll0 (Ter.dats ts) = true ∧ PyData.depthAll (Ter.dats ts) ≤ Ter.nests ts
  | [], _ => ⟨rfl, Nat.le_refl _⟩
  | t :: r, h => by
    obtain ⟨h1, h2⟩ := lay_ter t h.1
    obtain ⟨h3, h4⟩ := lay_ters r h.2
    refine ⟨?_, ?_⟩
    · show (PyData.canLay0 t.dat && PyData.canLayAll0 (Ter.dats r)) = true
      rw [h1, h3]
      rfl
    · show max t.dat.depth (PyData.depthAll (Ter.dats r)) ≤ max t.nest (Ter.nests r)
      omega
end
theorem shaped_ter {t : Ter} (h : t.wf symFine keyFine) (n : t.nest ≤ 64) : SeqAt.shaped t.dat = true := by
  obtain ⟨h1, h2⟩ := lay_ter t h
  unfold SeqAt.shaped
  rw [h1, decide_eq_true (Nat.le_trans h2 n)]
  rfl
mutual
theorem wf_mono {W W' : Str → Nat → Prop} {U U' : Key → Prop} (w : ∀ f n, W f n → W' f n) (u : ∀ k, U k → U' k) : ∀ t : Ter, t.wf W U → t.wf W' U'
  | .var k, h => u k h
  | .ap f as, h => ⟨w f _ h.1, wfs_mono w u as h.2⟩
theorem wfs_mono {W W' : Str → Nat → Prop} {U U' : Key → Prop} (w : ∀ f n, W f n → W' f n) (u : ∀ k, U k → U' k) : ∀ ts : List Ter, Ter.wfs W U ts → Ter.wfs W' U' ts
  | [], _ => trivial
  | t :: r, h => ⟨wf_mono w u t h.1, wfs_mono w u r h.2⟩
end
theorem wordok_str {x : Str} (h : WordOk x) : PyData.strOk x = true := by
  have a := h.all
  unfold PyData.strOk
  rw [← Array.all_toList, List.all_eq_true]
  intro c hc
  have q := List.all_eq_true.mp a c hc
  unfold chOk at q
  simp only [Bool.or_eq_true, Bool.and_eq_true, decide_eq_true_eq] at q
  exact decide_eq_true (by omega)
def trueT : Ter := .ap "true" []
def isTrueT (t : Ter) : Bool := PyData.eqv t.dat trueT.dat

/-! ### the written form of terms -/
/-- what may be written: short words, small numbers -/
def shSym (f : Str) (_ : Nat) : Prop := f.length ≤ 40 ∧ PyData.strOk f = true
def shKey : Key → Prop
  | .inl r => 0 ≤ r ∧ r < 900
  | .inr x => x.length ≤ 40 ∧ PyData.strOk x = true
theorem sh_fine : ∀ t : Ter, t.wf shSym shKey → t.wf symFine keyFine := wf_mono (fun _ _ h => h.2) (fun k h => by
  cases k with
  | inl r => trivial
  | inr x => exact h.2)
mutual
def showT : Ter → Str
  | .var (.inl i) => ("X" : Str) ++ (toString i : String)
  | .var (.inr x) => x
  | .ap f [] => f
  | .ap f (a :: r) => f ++ (("(" : Str) ++ (Txt.join "," (showTs (a :: r)) ++ (")" : Str)))
def showTs : List Ter → List Str
  | [] => []
  | a :: r => showT a :: showTs r
end
theorem showTs_len : ∀ ts : List Ter, (showTs ts).length = ts.length
  | [] => rfl
  | _ :: r => congrArg (· + 1) (showTs_len r)
theorem showTs_app : ∀ as bs : List Ter, showTs (as ++ bs) = showTs as ++ showTs bs
  | [], _ => rfl
  | a :: r, bs => congrArg (showT a :: ·) (showTs_app r bs)
theorem num_len (r : Int) (h0 : 0 ≤ r) (h1 : r < 900) : ((toString r : String) : Str).length ≤ 4 := by
  have a : ∀ r : Fin 900, (((toString ((r.val : Nat) : Int)) : String) : Str).length ≤ 4 := by decide +kernel
  have e : r = ((r.toNat : Nat) : Int) := by omega
  rw [e]
  exact a ⟨r.toNat, by omega⟩
end Own
namespace Own
open PySem PySem.Spec PyProof.Rows L2 RT HT

def tlen (ys : List Str) : Nat := (ys.map (·.length)).sum
theorem tlen_cons (y : Str) (ys : List Str) : tlen (y :: ys) = y.length + tlen ys := by
  unfold tlen
  rw [List.map_cons, List.sum_cons]
theorem join_len (sep : Str) : ∀ ys : List Str, (Txt.join sep ys).length ≤ tlen ys + ys.length * sep.length
  | [] => by rw [TL.join_eq]; exact Nat.zero_le _
  | [x] => by
    rw [TL.join_eq, tlen_cons]
    show x.length ≤ _
    omega
  | x :: y :: r => by
    have ih := join_len sep (y :: r)
    rw [TL.join_eq] at ih ⊢
    show (x ++ sep ++ Str.join sep (y :: r)).length ≤ _
    rw [app_len, app_len, tlen_cons, List.length_cons, Nat.succ_mul]
    omega
theorem len1 : ("X" : Str).length = 1 ∧ ("(" : Str).length = 1 ∧ (")" : Str).length = 1 ∧ ("," : Str).length = 1 := by decide +kernel
mutual
theorem showT_len : ∀ t : Ter, t.wf shSym shKey → (showT t).length + 1 ≤ 60 * t.size
  | .var (.inl i), h => by
    have q := num_len i h.1 h.2
    show (("X" : Str) ++ (toString i : String)).length + 1 ≤ 60
    rw [app_len, len1.1]
    omega
  | .var (.inr x), h => by
    have q : x.length ≤ 40 := h.1
    show x.length + 1 ≤ 60
    omega
  | .ap f [], h => by
    have q : f.length ≤ 40 := h.1.1
    show f.length + 1 ≤ 60
    omega
  | .ap f (a :: r), h => by
    have q : f.length ≤ 40 := h.1.1
    have q2 := showTs_len2 (a :: r) h.2
    have q3 := join_len "," (showTs (a :: r))
    rw [showTs_len, len1.2.2.2] at q3
    show (f ++ (("(" : Str) ++ (Txt.join "," (showTs (a :: r)) ++ (")" : Str)))).length + 1 ≤ 60 * (Ter.sizes (a :: r) + 1)
    rw [app_len, app_len, app_len, len1.2.1, len1.2.2.1]
    omega
theorem showTs_len2 : ∀ ts : List Ter, Ter.wfs shSym shKey ts → tlen (showTs ts) + ts.length ≤ 60 * Ter.sizes ts
  | [], _ => Nat.le_refl _
  | t :: r, h => by
    have q1 := showT_len t h.1
    have q2 := showTs_len2 r h.2
    show tlen (showT t :: showTs r) + (r.length + 1) ≤ 60 * (t.size + Ter.sizes r)
    rw [tlen_cons]
    omega
end
/-! ### literals -/
def showL (b : Bool) (l r : Ter) : Str :=
  if isTrueT r = true then (if b = true then showT l else ("~" : Str) ++ showT l) else showT l ++ ((if b = true then (" = " : Str) else (" != " : Str)) ++ showT r)
def Lit := Bool × Ter × Ter
def Lit.ok (x : Lit) : Prop := x.2.1.wf shSym shKey ∧ x.2.2.wf shSym shKey ∧ x.2.1.nest ≤ 60 ∧ x.2.2.nest ≤ 60 ∧ x.2.1.size ≤ 1000 ∧ x.2.2.size ≤ 1000
inductive LitAt (H : Hp) : V → Lit → Prop
  | mk {p : Addr} {b : Bool} {x y : V} {l r : Ter} : H p = some (.tup [.bl b, x, y]) → TmAt H x l → TmAt H y r → LitAt H (.ref p) (b, l, r)
theorem LitAt.mono {H H' : Hp} (m : Tups H H') {v : V} {x : Lit} (h : LitAt H v x) : LitAt H' v x := by
  cases h with
  | mk e a b => exact .mk (m _ _ e) (TmAt.mono m _ _ a) (TmAt.mono m _ _ b)
inductive LitAll (H : Hp) : List V → List Lit → Prop
  | nil : LitAll H [] []
  | cons {v : V} {vs : List V} {x : Lit} {xs : List Lit} : LitAt H v x → LitAll H vs xs → LitAll H (v :: vs) (x :: xs)
theorem LitAll.mono {H H' : Hp} (m : Tups H H') : ∀ {vs : List V} {xs : List Lit}, LitAll H vs xs → LitAll H' vs xs
  | _, _, .nil => .nil
  | _, _, .cons a r => .cons (a.mono m) (r.mono m)
theorem LitAll.app {H : Hp} : ∀ {vs ws : List V} {xs ys : List Lit}, LitAll H vs xs → LitAll H ws ys → LitAll H (vs ++ ws) (xs ++ ys)
  | _, _, _, _, .nil, h => h
  | _, _, _, _, .cons a r, h => .cons a (r.app h)
theorem LitAll.len {H : Hp} : ∀ {vs : List V} {xs : List Lit}, LitAll H vs xs → vs.length = xs.length
  | _, _, .nil => rfl
  | _, _, .cons _ t => congrArg (· + 1) t.len
theorem LitAll.get {H : Hp} : ∀ {vs : List V} {xs : List Lit} {i : Nat} {v : V}, LitAll H vs xs → vs[i]? = some v → ∃ x, xs[i]? = some x ∧ LitAt H v x
  | _, _, _, _, .nil, e => by simp at e
  | _, _, 0, _, .cons a r, e => by
    simp at e
    subst e
    exact ⟨_, rfl, a⟩
  | _, _, i + 1, v, .cons a r, e => by
    obtain ⟨t, h1, h2⟩ := LitAll.get (i := i) (v := v) r (by simpa using e)
    exact ⟨t, by simpa using h1, h2⟩
def showC (c : List Lit) : List Str := c.map fun x => showL x.1 x.2.1 x.2.2
theorem showL_len {b : Bool} {l r : Ter} (h1 : l.wf shSym shKey) (h2 : r.wf shSym shKey) (s1 : l.size ≤ 1000) (s2 : r.size ≤ 1000) : (showL b l r).length ≤ 200000 := by
  have q1 := showT_len l h1
  have q2 := showT_len r h2
  have z1 : ("~" : Str).length = 1 := by decide +kernel
  have z2 : (" = " : Str).length = 3 := by decide +kernel
  have z3 : (" != " : Str).length = 4 := by decide +kernel
  unfold showL
  split
  · split
    · omega
    · rw [app_len, z1]; omega
  · rw [app_len, app_len]
    split
    · rw [z2]; omega
    · rw [z3]; omega
/-! ### formulas -/
inductive Op | and | or | imp | iff
def Op.word : Op → Str
  | .and => "and"
  | .or => "or"
  | .imp => "implies"
  | .iff => "iff"
def Op.sign : Op → Str
  | .and => "&"
  | .or => "|"
  | .imp => "->"
  | .iff => "<->"
def qWord (a : Bool) : Str := if a = true then "all" else "some"
inductive Fm where
  | tt (b : Bool)
  | eq (l r : Ter)
  | neg (f : Fm)
  | bin (o : Op) (f g : Fm)
  | qu (a : Bool) (x : Str) (f : Fm)
def Fm.ter : Fm → Ter
  | .tt b => .ap (if b = true then "true" else "false") []
  | .eq l r => .ap "equal" [l, r]
  | .neg f => .ap "not" [f.ter]
  | .bin o f g => .ap o.word [f.ter, g.ter]
  | .qu a x f => .ap (qWord a) [.var (.inr x), f.ter]
def Fm.high : Fm → Nat
  | .tt _ => 1
  | .eq _ _ => 1
  | .neg f => f.high + 1
  | .bin _ f g => max f.high g.high + 1
  | .qu _ _ f => f.high + 1
def Fm.all (R : Ter → Prop) (S : Str → Prop) : Fm → Prop
  | .tt _ => True
  | .eq l r => R l ∧ R r
  | .neg f => f.all R S
  | .bin _ f g => f.all R S ∧ g.all R S
  | .qu _ x f => S x ∧ f.all R S
def showF : Fm → Str
  | .tt b => if b = true then "true" else "false"
  | .eq l r => showL true l r
  | .neg (.eq l r) => showL false l r
  | .neg f => ("~" : Str) ++ showF f
  | .bin o f g => ("(" : Str) ++ (showF f ++ ((" " : Str) ++ (o.sign ++ ((" " : Str) ++ (showF g ++ (")" : Str))))))
  | .qu a x f => ("(" : Str) ++ (qWord a ++ ((" " : Str) ++ (x ++ ((": " : Str) ++ (showF f ++ (")" : Str))))))
end Own
namespace Own
open PySem PySem.Spec PyProof.Rows L2 RT HT

def fmTer (t : Ter) : Prop := t.wf shSym shKey ∧ t.nest ≤ 60 ∧ t.size ≤ 200
def fmStr (x : Str) : Prop := x.length ≤ 40
theorem showL_len2 {b : Bool} {l r : Ter} (h1 : l.wf shSym shKey) (h2 : r.wf shSym shKey) (s1 : l.size ≤ 200) (s2 : r.size ≤ 200) : (showL b l r).length ≤ 25000 := by
  have q1 := showT_len l h1
  have q2 := showT_len r h2
  have z1 : ("~" : Str).length = 1 := by decide +kernel
  have z2 : (" = " : Str).length = 3 := by decide +kernel
  have z3 : (" != " : Str).length = 4 := by decide +kernel
  unfold showL
  split
  · split
    · omega
    · rw [app_len, z1]; omega
  · rw [app_len, app_len]
    split
    · rw [z2]; omega
    · rw [z3]; omega
theorem lens : ("(" : Str).length = 1 ∧ (")" : Str).length = 1 ∧ (" " : Str).length = 1 ∧ (": " : Str).length = 2 ∧ ("~" : Str).length = 1 := by decide +kernel
theorem sign_len (o : Op) : o.sign.length ≤ 3 := by cases o <;> decide +kernel
theorem q_len (a : Bool) : (qWord a).length ≤ 4 := by cases a <;> decide +kernel
theorem two_max (a b : Nat) : 2 ^ a ≤ 2 ^ max a b ∧ 2 ^ b ≤ 2 ^ max a b := ⟨Nat.pow_le_pow_right (by decide) (Nat.le_max_left _ _), Nat.pow_le_pow_right (by decide) (Nat.le_max_right _ _)⟩
theorem showF_len : ∀ f : Fm, f.all fmTer fmStr → (showF f).length + 60 ≤ 25100 * 2 ^ f.high
  | .tt b, _ => by
    show (if b = true then ("true" : Str) else "false").length + 60 ≤ 25100 * 2 ^ 1
    have z1 : ("true" : Str).length = 4 := by decide +kernel
    have z2 : ("false" : Str).length = 5 := by decide +kernel
    split <;> omega
  | .eq l r, h => by
    have q := showL_len2 (b := true) h.1.1 h.2.1 h.1.2.2 h.2.2.2
    show (showL true l r).length + 60 ≤ 25100 * 2 ^ 1
    omega
  | .neg (.eq l r), h => by
    have q := showL_len2 (b := false) h.1.1 h.2.1 h.1.2.2 h.2.2.2
    show (showL false l r).length + 60 ≤ 25100 * 2 ^ 2
    omega
  | .neg (.tt b), h => neg_len (.tt b) (showF_len (.tt b) h)
  | .neg (.neg f), h => neg_len (.neg f) (showF_len (.neg f) h)
  | .neg (.bin o f g), h => neg_len (.bin o f g) (showF_len (.bin o f g) h)
  | .neg (.qu a x f), h => neg_len (.qu a x f) (showF_len (.qu a x f) h)
  | .bin o f g, h => by
    have q1 := showF_len f h.1
    have q2 := showF_len g h.2
    obtain ⟨z1, z2, z3, z4, z5⟩ := lens
    have z6 := sign_len o
    obtain ⟨m1, m2⟩ := two_max f.high g.high
    show (("(" : Str) ++ (showF f ++ ((" " : Str) ++ (o.sign ++ ((" " : Str) ++ (showF g ++ (")" : Str))))))).length + 60 ≤ 25100 * 2 ^ (max f.high g.high + 1)
    rw [app_len, app_len, app_len, app_len, app_len, app_len, Nat.pow_succ]
    omega
  | .qu a x f, h => by
    have q1 := showF_len f h.2
    have q2 : x.length ≤ 40 := h.1
    obtain ⟨z1, z2, z3, z4, z5⟩ := lens
    have z6 := q_len a
    have p : 1 ≤ 2 ^ f.high := Nat.one_le_two_pow
    show (("(" : Str) ++ (qWord a ++ ((" " : Str) ++ (x ++ ((": " : Str) ++ (showF f ++ (")" : Str))))))).length + 60 ≤ 25100 * 2 ^ (f.high + 1)
    rw [app_len, app_len, app_len, app_len, app_len, app_len, Nat.pow_succ]
    omega
where
  neg_len (f : Fm) (h : (showF f).length + 60 ≤ 25100 * 2 ^ f.high) : (("~" : Str) ++ showF f).length + 60 ≤ 25100 * 2 ^ (f.high + 1) := by
    obtain ⟨z1, z2, z3, z4, z5⟩ := lens
    have p : 1 ≤ 2 ^ f.high := Nat.one_le_two_pow
    rw [app_len, Nat.pow_succ]
    omega
def Fm.isEq : Fm → Bool
  | .eq _ _ => true
  | _ => false
theorem showF_neg {f : Fm} (h : f.isEq = false) : showF (.neg f) = ("~" : Str) ++ showF f := by
  cases f with
  | eq l r => cases h
  | _ => rfl
theorem zB {n : Nat} (h : n ≤ 16000000) : n ≤ sizeLine := Nat.le_trans h (by decide)
def Fm.head : Fm → Str
  | .tt b => if b = true then "true" else "false"
  | .eq _ _ => "equal"
  | .neg _ => "not"
  | .bin o _ _ => o.word
  | .qu a _ _ => qWord a
def Fm.tail : Fm → List Ter
  | .tt _ => []
  | .eq l r => [l, r]
  | .neg f => [f.ter]
  | .bin _ f g => [f.ter, g.ter]
  | .qu _ x f => [.var (.inr x), f.ter]
theorem fm_ter (f : Fm) : f.ter = .ap f.head f.tail := by cases f <;> rfl
theorem fm_at {H : Hp} {v : V} {f : Fm} (h : TmAt H v f.ter) : ∃ a xs, v = .ref a ∧ H a = some (.tup (.str f.head :: xs)) ∧ TmAll H xs f.tail := by
  rw [fm_ter] at h
  cases h with
  | ap e hs => exact ⟨_, _, rfl, e, hs⟩
theorem headN {f : Fm} {s : Str} {b : Bool} (w : Str) (h : f.head = w) (d : (w == s) = b) : (f.head == s) = b := by
  rw [h]
  exact d
theorem head_eq (f : Fm) : (f.head == ("equal" : Str)) = f.isEq := by
  cases f with
  | tt b => cases b <;> decide +kernel
  | eq l r => exact headN (b := true) "equal" rfl (by decide +kernel)
  | neg f => exact headN (b := false) "not" rfl (by decide +kernel)
  | bin o f g => exact headN (b := false) o.word rfl (by cases o <;> decide +kernel)
  | qu a x f => exact headN (b := false) (qWord a) rfl (by cases a <;> decide +kernel)
theorem all_two {H : Hp} {xs : List V} {a b : Ter} (h : TmAll H xs [a, b]) : ∃ x y, xs = [x, y] ∧ TmAt H x a ∧ TmAt H y b := by
  cases h with
  | cons h1 h2 =>
    cases h2 with
    | cons h3 h4 =>
      cases h4
      exact ⟨_, _, rfl, h1, h3⟩
theorem all_one {H : Hp} {xs : List V} {a : Ter} (h : TmAll H xs [a]) : ∃ x, xs = [x] ∧ TmAt H x a := by
  cases h with
  | cons h1 h2 =>
    cases h2
    exact ⟨_, rfl, h1⟩
theorem all_nil {H : Hp} {xs : List V} (h : TmAll H xs []) : xs = [] := by cases h; rfl
theorem at_1 {x y : V} {zs : List V} : atI (x :: y :: zs) 1 = some y := atI_nat (j := 1) rfl
theorem at_2 {x y z : V} {zs : List V} : atI (x :: y :: z :: zs) 2 = some z := atI_nat (j := 2) rfl
end Own
namespace Own
open PySem PySem.Spec PyProof.Rows L2 RT HT

abbrev NAMES5 : List Str := ["X", "Y", "Zeta", "X1", "W_0"]
def nameVar (k : Key) : Prop := ∃ x, k = .inr x ∧ x ∈ NAMES5
theorem name_sh (k : Key) (h : nameVar k) : shKey k := by
  obtain ⟨x, rfl, hx⟩ := h
  have a : ∀ x ∈ NAMES5, x.length ≤ 40 ∧ PyData.strOk x = true := by decide +kernel
  exact a x hx
theorem num_sh (k : Key) (h : numVar k) : shKey k := by
  obtain ⟨r, rfl, h0, h1⟩ := h
  exact ⟨h0, h1⟩
theorem sym_sh {ws : List Str} (hw : Words ws) (f : Str) (n : Nat) (h : symOf ws f n) : shSym f n := by
  obtain ⟨i, _, e, _⟩ := h
  have o := hw.ok f (List.mem_of_getElem? e)
  exact ⟨o.len, wordok_str o⟩
theorem word_sh {ws : List Str} (hw : Words ws) {f : Str} {n : Nat} (h : f ∈ ws) : shSym f n := ⟨(hw.ok f h).len, wordok_str (hw.ok f h)⟩
theorem true_sh : trueT.wf shSym shKey := ⟨⟨by decide +kernel, by decide +kernel⟩, trivial⟩
/-- the law's own joining of a literal -/
theorem joinC (c : List Lit) : showC c = c.map fun x => showL x.1 x.2.1 x.2.2 := rfl
theorem showC_snoc (c : List Lit) (x : Lit) : showC (c ++ [x]) = showC c ++ [showL x.1 x.2.1 x.2.2] := by
  unfold showC
  rw [List.map_append]
  rfl
end Own
namespace K05
open PySem PySem.Spec PyProof.Rows L2 Own HT
def topS (i : Nat) : Stmt := PySem.Challenge.pw_elenchus_k05_written_forms.main.body.getD i (.Pass ⟨0, 0, 0, 0⟩)
abbrev s_is_variable : Stmt := topS 2
abbrev s_show_term : Stmt := topS 5
abbrev s_show_literal : Stmt := topS 6
abbrev s_show_clause : Stmt := topS 7
abbrev s_show_formula : Stmt := topS 8
abbrev s_show_negation : Stmt := topS 9
abbrev s__law_draws : Stmt := topS 11
abbrev s__law_take : Stmt := topS 12
abbrev s__law_words : Stmt := topS 13
abbrev s__law_variable : Stmt := topS 14
abbrev s__law_term : Stmt := topS 15
abbrev s__law_named : Stmt := topS 16
abbrev s__law_atom : Stmt := topS 17
abbrev s__law_formula : Stmt := topS 18
abbrev s__law_literal : Stmt := topS 19
abbrev s__law_clause : Stmt := topS 20
abbrev s__law_write : Stmt := topS 21
abbrev s__law_write_literal : Stmt := topS 22
abbrev s__law_write_formula : Stmt := topS 23
abbrev s__law_is : Stmt := topS 24
abbrev s_law : Stmt := topS 25
structure Df (K : PySem.W.Frag) (mg : Str → Option Value) (x : Str) (st : Stmt) (ps : List Str) (f : Addr) (fd : FuncData) : Prop where
  F : Fun K x x st f fd
  b : Binds K fd ps []
  m : mg x = some (.ref f)
section
variable {P : Program} {w : World} {K : PySem.W.Frag} {mg : Str → Option Value} {base : Heap}
/-! ### is_variable -/
def spIsVar : Sp := fun vs H Q _ => ∃ v t, vs = [v] ∧ TmAt H v t ∧ Q (.bl t.isVar) H
theorem sc_is_variable : FnScope ["term"] ["term"] (defScope s_is_variable) := ⟨rfl, rfl, rfl, by decide +kernel, rfl, by decide +kernel, by decide +kernel⟩
theorem ok_is_variable {f : Addr} {fd : FuncData} (D : Df K mg "is_variable" s_is_variable ["term"] f fd) (mi : mg "isinstance" = none) (mt : mg "tuple" = none) : FnOk P w K mg base CX0 1 f fd ["term"] spIsVar := by
  refine D.F.ok sc_is_variable (fun vs H Q E h => ?_) (fun cdv A outer s H vs Q E hr h => ?_)
  · obtain ⟨v, t, rfl, _⟩ := h; rfl
  obtain ⟨v, t, rfl, ht, q⟩ := h
  refine ⟨_, pss_one (ps_ret (pe_not (pe_callB call_isiTer (by rfl) mi (by decide +kernel) (pa_cons (pv 0) (pa_cons (pe_bltn (v := .ty "tuple") (by rfl) mt (by decide +kernel) rfl) pa_nil))))), ?_⟩
  refine ⟨v, rfl, v, t, rfl, ht, _, rfl, ?_⟩
  rw [Bool.not_not]
  exact q
end

/-- what the top has at TRUE and SIGNS -/
structure Tops5 (K : PySem.W.Frag) (w : World) (mg : Str → Option Value) : Prop where
  tru : ∃ a, mg "TRUE" = some (.ref a) ∧ ∀ H, SqT K H a [.str "true"]
  sig : ∃ a, mg "SIGNS" = some (.ref a) ∧ ∀ o : Op, KDct K w a o.word (.str o.sign)
section
variable {P : Program} {w : World} {K : PySem.W.Frag} {mg : Str → Option Value} {base : Heap}
/-! ### show_term -/
def spShowT (n : Nat) : Sp := fun vs H Q _ => ∃ v t, vs = [v] ∧ TmAt H v t ∧ t.nest < n ∧ t.wf shSym shKey ∧ t.size ≤ 2000 ∧ ∀ H', Same H H' → Q (.str (showT t)) H'
theorem sc_show_term : FnScope ["term", "inner", "argument"] ["term"] (defScope s_show_term) := ⟨rfl, rfl, rfl, by decide +kernel, rfl, by decide +kernel, by decide +kernel⟩
theorem zL {n : Nat} (h : n ≤ 1000000) : n ≤ sizeLine := Nat.le_trans h (by decide)
theorem ok_show_term1 {f fV : Addr} {fd fdV : FuncData} (D : Df K mg "show_term" s_show_term ["term"] f fd) (DV : Df K mg "is_variable" s_is_variable ["term"] fV fdV) (GV : FnOk P w K mg base CX0 1 fV fdV ["term"] spIsVar) (mi : mg "isinstance" = none) (ms : mg "str" = none) (ml : mg "len" = none) {n : Nat}
    (G : FnOk P w K mg base CX0 (n + 1) f fd ["term"] (spShowT n)) : FnOk P w K mg base CX0 (n + 1 + 1) f fd ["term"] (spShowT (n + 1)) := by
  refine D.F.ok sc_show_term (fun vs H Q E h => ?_) (fun cdv A outer s H vs Q E hr h => ?_)
  · obtain ⟨v, t, rfl, _⟩ := h; rfl
  obtain ⟨v, t, rfl, ht, hn, hw, hz, q⟩ := h
  have nd := sc_show_term.nd
  have r1 : Room 1 _ := hr.mono (by omega)
  refine ⟨_, pss_cons (ps_if (pt_val (pe_callB call_isiDat (by rfl) mi (by decide +kernel) (pa_cons (pv 0) (pa_cons (pe_bltn (v := .ty "str") (by rfl) ms (by decide +kernel) rfl) pa_nil)))) (pss_one (ps_ret (pv 0))) pss_nil)
    (pss_cons (ps_if (pt_val (pe_call GV r1 (by rfl) DV.m DV.F.kp DV.b .nil pass0 (pa_cons (pv 0) pa_nil))) (pss_one (ps_ret (pe_joined (.cons pe_str (.cons (pe_fmt (pv 0)) .nil))))) pss_nil)
    (pss_cons (ps_if (pt_cmpR op_eq (pe_callB call_len_seq (by rfl) ml PySem.boot_len (pa_cons (pv 0) pa_nil)) pe_int (nomark _)) (pss_one (ps_ret (pe_ix ix_tup (pv 0) pe_int (fun _ _ => rfl)))) pss_nil)
    (pss_cons (ps_set (i := 1) nd rfl (.inl rfl) (pe_join pe_str (pe_lc (own := [("argument", 2)]) (g := gName 2) (tt := tYes) (te := tCall (spShowT n) [] E0 (tCons (tVar 2) tNil)) rfl nd (pi_tup (pe_slice sl_1 (pv 0) (po_some pe_int) po_none)) (blkOk_by (N := ["term", "inner", "argument"]) (sc := defScope s_show_term) (by decide +kernel))
        (fun _ _ _ _ _ => pg_name (i := 2) nd rfl (Or.inl rfl)) (fun _ _ _ _ _ => pts_nil) (fun _ _ _ _ _ => pe_call G hr (by rfl) D.m D.F.kp D.b .nil pass0 (pa_cons (pv 2) pa_nil)))))
    (pss_one (ps_ret (pe_joined (.cons (pe_fmt (pe_ix ix_tup (pv 0) pe_int (fun _ _ => rfl))) (.cons pe_str (.cons (pe_fmt (pv 1)) (.cons pe_str .nil)))))))))), ?_⟩
  refine ⟨_, rfl, v, t.dat, "str", _, rfl, dp_ter t v ht, k_str _, _, rfl, ?_⟩
  have hlen := showT_len t hw
  cases ht with
  | str x => exact iteT ⟨_, rfl, q H (Same.refl _)⟩
  | int i =>
    refine iteF ⟨_, rfl, _, _, rfl, .int i, _, rfl, iteT ?_⟩
    have ni := num_len i hw.1 hw.2
    have z1 := len1.1
    refine ⟨"X", rfl, zL (by rw [sEmp]; omega), ?_⟩
    refine ⟨_, rfl, .inr ⟨i, rfl, ?_, _, rfl, zL (by rw [sEmp, app_len]; omega), ?_⟩⟩
    · have h9 : i.natAbs < 2 ^ 10 := by have := hw.1; have := hw.2; omega
      have := (Nat.log2_lt (n := i.natAbs) (k := 10))
      rcases Nat.eq_zero_or_pos i.natAbs with z | z
      · rw [z]; decide
      · exact Nat.lt_trans ((Nat.log2_lt (by omega)).mpr h9) (by decide)
    · rw [sEmp]
      exact q H (Same.refl _)
  | @ap a g xs as e hs =>
    have T : SqT K H a (.str g :: xs) := .inl (.inl e)
    have ls := hs.len
    refine iteF ⟨_, rfl, _, _, rfl, .ap e hs, _, rfl, iteF ?_⟩
    refine ⟨_, rfl, a, _, rfl, .inr T, rfl, _, rfl, ite2 (fun c => ?_) (fun c => ?_)⟩
    · have c : ((xs.length + 1 : Nat) : Int) = 1 := V.int.inj (of_decide_eq_true c)
      have x0 : as = [] := List.eq_nil_of_length_eq_zero (by omega)
      subst x0
      exact ⟨_, rfl, a, _, 0, _, rfl, rfl, T, head_at, q H (Same.refl _)⟩
    · have c : ¬ ((xs.length + 1 : Nat) : Int) = 1 := fun z => c (decide_eq_true (congrArg V.int z))
      obtain ⟨b, r, rfl⟩ : ∃ b r, as = b :: r := by
        cases as with
        | nil => exact absurd (by rw [ls]; rfl) c
        | cons b r => exact ⟨b, r, rfl⟩
      have hn : Ter.nests (b :: r) + 1 < n + 1 := hn
      have hz : Ter.sizes (b :: r) + 1 ≤ 2000 := hz
      have hg : g.length ≤ 40 := hw.1.1
      have hws : Ter.wfs shSym shKey (b :: r) := hw.2
      have hsl := showTs_len2 _ hws
      have la := Ter.sizes_len (b :: r)
      refine ⟨⟨_, rfl⟩, .ref a, rfl, 1, rfl, a, _, xs, rfl, rfl, rfl, T, fun p1 np1 => ?_⟩
      have s1 := same_new np1 (.tup xs)
      refine ⟨p1, rfl, ⟨xs, .inl (.inl upd_same)⟩, fun d nd' => ?_⟩
      have nd0 : H d = none := s1.free nd'
      refine walk_t (xs := xs) (fun i H2 => Same (upd H p1 (.tup xs)) H2 ∧ H2 d = some (.lst ((showTs ((b :: r).take i)).map V.str))) ⟨same_new nd' _, upd_same⟩ (fun i H2 _ h => .inl (.inl (h.1 _ _ upd_same))) (fun i x H2 hx h => ?_) (fun H2 h => ?_)
      · obtain ⟨sm, ed⟩ := h
        obtain ⟨t1, et, hx1⟩ := hs.get hx
        have n1 := nest_le_of et
        have m1 := size_le_of et
        have li := (List.getElem?_eq_some_iff.mp et).1
        refine ⟨rfl, ?_⟩
        refine ⟨_, rfl, x, t1, rfl, TmAt.mono (s1.trans sm).tups _ _ hx1, by omega, wfs_get hws et, by omega, fun H3 s3 => ?_⟩
        have ed3 := s3 _ _ ed
        refine ⟨_, ed3, Nat.lt_of_le_of_lt (show _ ≤ 100000 by rw [List.length_map, showTs_len, List.length_take]; omega) (by decide), But.same nd' (sm.trans s3) But.upd, ?_⟩
        rw [upd_same, List.take_add_one, et, showTs_app, List.map_append]
        rfl
      · obtain ⟨sm, ed⟩ := h
        rw [ls, List.take_length] at ed
        have q3 := join_len "," (showTs (b :: r))
        rw [showTs_len, len1.2.2.2] at q3
        refine ⟨_, d, _, rfl, rfl, .inl (.inl (.inl ed)), ?_, ?_⟩
        · have z4 := len1.2.2.2
          have e3 : ((showTs (b :: r)).map (·.length)).sum = tlen (showTs (b :: r)) := rfl
          rw [e3, showTs_len]
          show tlen (showTs (b :: r)) + (b :: r).length * ("," : Str).length ≤ 16777216
          rw [z4]
          omega
        · have sa := s1.trans sm
          have T2 : SqT K H2 a (.str g :: xs) := .inl (.inl (sa _ _ e))
          have z2 := len1.2.1
          have z3 := len1.2.2.1
          refine ⟨_, rfl, a, _, 0, _, rfl, rfl, T2, head_at, .inl ⟨g, rfl, zL (by omega), _, rfl, zL (by rw [sEmp]; omega), ?_⟩⟩
          refine ⟨_, rfl, zL (by rw [sEmp, app_len]; omega), ?_⟩
          refine ⟨_, rfl, .inl ⟨_, rfl, zL (by omega), _, rfl, zL (by rw [sEmp, app_len, app_len]; omega), ?_⟩⟩
          refine ⟨_, rfl, zL (by rw [sEmp, app_len, app_len, app_len]; omega), ?_⟩
          have e5 : (((Str.empty ++ g) ++ ("(" : Str)) ++ Txt.join "," (showTs (b :: r))) ++ (")" : Str) = showT (.ap g (b :: r)) := by
            rw [sEmp, sApp, sApp]
            rfl
          rw [e5]
          exact q H2 sa
theorem ok_show_term {f fV : Addr} {fd fdV : FuncData} (D : Df K mg "show_term" s_show_term ["term"] f fd) (DV : Df K mg "is_variable" s_is_variable ["term"] fV fdV) (GV : FnOk P w K mg base CX0 1 fV fdV ["term"] spIsVar) (mi : mg "isinstance" = none) (ms : mg "str" = none) (ml : mg "len" = none) : ∀ n : Nat, FnOk P w K mg base CX0 (n + 1) f fd ["term"] (spShowT n)
  | 0 => by
    have no : ∀ vs H Q E, ¬ spShowT 0 vs H Q E := fun vs H Q E h => by
      obtain ⟨v, t, _, _, hn, _⟩ := h
      omega
    exact ⟨fun vs H Q E h => absurd h (no vs H Q E), fun A outer s H args us vs Q E _ _ _ _ h => absurd h (no vs H Q E)⟩
  | n + 1 => ok_show_term1 D DV GV mi ms ml (ok_show_term D DV GV mi ms ml n)
/-! ### show_literal -/
def spShowL : Sp := fun vs H Q _ => ∃ (v : V) (x : Lit), vs = [v] ∧ LitAt H v x ∧ x.ok ∧ ∀ H', Same H H' → Q (.str (showL x.1 x.2.1 x.2.2)) H'
theorem sc_show_literal : FnScope ["literal", "positive", "left", "right", "sign"] ["literal"] (defScope s_show_literal) := ⟨rfl, rfl, rfl, by decide +kernel, rfl, by decide +kernel, by decide +kernel⟩
theorem ok_show_literal {f fT : Addr} {fd fdT : FuncData} (D : Df K mg "show_literal" s_show_literal ["literal"] f fd) (DT : Df K mg "show_term" s_show_term ["term"] fT fdT) (GT : FnOk P w K mg base CX0 62 fT fdT ["term"] (spShowT 61)) (T5 : Tops5 K w mg) : FnOk P w K mg base CX0 63 f fd ["literal"] spShowL := by
  refine D.F.ok sc_show_literal (fun vs H Q E h => ?_) (fun cdv A outer s H vs Q E hr h => ?_)
  · obtain ⟨v, x, rfl, _⟩ := h; rfl
  obtain ⟨v, x, rfl, hx, ok, q⟩ := h
  obtain ⟨aT, mT, tT⟩ := T5.tru
  have nd := sc_show_literal.nd
  refine ⟨_, pss_cons (ps_asg (pv 0) (pg_tup rfl (pgs_cons (pg_name (i := 1) nd rfl (.inl rfl)) (pgs_cons (pg_name (i := 2) nd rfl (.inl rfl)) (pgs_cons (pg_name (i := 3) nd rfl (.inl rfl)) pgs_nil)))))
    (pss_cons (ps_if (pt_cmpR (op_eqD hr.units) (pv 3) (pe_glob (v := .ref aT) (by rfl) mT rfl) (nomark _)) (pss_one (ps_ret (pe_ifExp (pt_val (pv 1)) (pe_call GT hr (by rfl) DT.m DT.F.kp DT.b .nil pass0 (pa_cons (pv 2) pa_nil)) (pe_joined (.cons pe_str (.cons (pe_fmt (pe_call GT hr (by rfl) DT.m DT.F.kp DT.b .nil pass0 (pa_cons (pv 2) pa_nil))) .nil)))))) pss_nil)
    (pss_cons (ps_set (i := 4) nd rfl (.inl rfl) (pe_ifExp (pt_val (pv 1)) pe_str pe_str))
    (pss_one (ps_ret (pe_joined (.cons (pe_fmt (pe_call GT hr (by rfl) DT.m DT.F.kp DT.b .nil pass0 (pa_cons (pv 2) pa_nil))) (.cons pe_str (.cons (pe_fmt (pv 4)) (.cons pe_str (.cons (pe_fmt (pe_call GT hr (by rfl) DT.m DT.F.kp DT.b .nil pass0 (pa_cons (pv 3) pa_nil))) .nil)))))))))), ?_⟩
  cases hx with
  | @mk p b x y l r e hl hrr =>
  obtain ⟨wl, wr, nl, nr, sl, sr⟩ := ok
  have wl : l.wf shSym shKey := wl
  have wr : r.wf shSym shKey := wr
  have nl : l.nest ≤ 60 := nl
  have nr : r.nest ≤ 60 := nr
  have sl : l.size ≤ 1000 := sl
  have sr : r.size ≤ 1000 := sr
  have ql := showT_len l wl
  have qr := showT_len r wr
  have z1 : ("~" : Str).length = 1 := by decide +kernel
  have z2 : (" " : Str).length = 1 := by decide +kernel
  refine ⟨.ref p, rfl, p, _, rfl, .inl (.inl e), rfl, _, _, rfl, _, _, rfl, _, _, rfl, rfl, ?_⟩
  refine ⟨_, rfl, r.dat, trueT.dat, dp_ter r y hrr, .tup (tT H) (.cons (.str "true") .nil), shaped_ter (sh_fine r wr) (by omega), by decide +kernel, _, rfl, ?_⟩
  have fin : Q (.str (showL b l r)) H → Q (.str (showL b l r)) H := id
  unfold showL at q
  cases hT : isTrueT r with
  | true =>
    have hT' : PyData.eqv r.dat trueT.dat = true := hT
    rw [hT']
    refine iteT ?_
    refine ⟨_, rfl, b, rfl, ?_⟩
    have q : ∀ H', Same H H' → Q (.str (if isTrueT r = true then (if b = true then showT l else ("~" : Str) ++ showT l) else showT l ++ ((if b = true then (" = " : Str) else (" != " : Str)) ++ showT r))) H' := q
    rw [hT] at q
    cases b with
    | true => exact iteT ⟨_, rfl, x, l, rfl, hl, by omega, wl, by omega, fun H1 s1 => q H1 s1⟩
    | false =>
      refine iteF ⟨_, rfl, zL (by rw [sEmp]; omega), _, rfl, x, l, rfl, hl, by omega, wl, by omega, fun H1 s1 => .inl ⟨_, rfl, zL (by omega), _, rfl, zL (by rw [sEmp, app_len]; omega), ?_⟩⟩
      have q1 := q H1 s1
      rw [sEmp]
      exact q1
  | false =>
    have hT' : PyData.eqv r.dat trueT.dat = false := hT
    rw [hT']
    refine iteF ?_
    refine ⟨_, rfl, b, rfl, ?_⟩
    have q : ∀ H', Same H H' → Q (.str (if isTrueT r = true then (if b = true then showT l else ("~" : Str) ++ showT l) else showT l ++ ((if b = true then (" = " : Str) else (" != " : Str)) ++ showT r))) H' := q
    rw [hT] at q
    have e3 : (" " : Str) ++ (("=" : Str) ++ (" " : Str)) = (" = " : Str) := by decide +kernel
    have e4 : (" " : Str) ++ (("!=" : Str) ++ (" " : Str)) = (" != " : Str) := by decide +kernel
    have z3 : ("=" : Str).length = 1 := by decide +kernel
    have z4 : ("!=" : Str).length = 2 := by decide +kernel
    cases b with
    | true =>
      refine iteT ?_
      refine ⟨_, rfl, x, l, rfl, hl, by omega, wl, by omega, fun H1 s1 => .inl ⟨_, rfl, zL (by omega), _, rfl, zL (by rw [sEmp]; omega), _, rfl, zL (by rw [sEmp, app_len]; omega), _, rfl, .inl ⟨_, rfl, zL (by omega), _, rfl, zL (by rw [sEmp, app_len, app_len]; omega), _, rfl, zL (by rw [sEmp, app_len, app_len, app_len]; omega), ?_⟩⟩⟩
      refine ⟨_, rfl, y, r, rfl, TmAt.mono s1.tups _ _ hrr, by omega, wr, by omega, fun H2 s2 => .inl ⟨_, rfl, zL (by omega), _, rfl, zL (by rw [sEmp, app_len, app_len, app_len, app_len]; omega), ?_⟩⟩
      have q1 := q H2 (s1.trans s2)
      rw [sEmp, sApp, sApp, sApp, ← sApp ("=" : Str), ← sApp (" " : Str), e3]
      exact q1
    | false =>
      refine iteF ?_
      refine ⟨_, rfl, x, l, rfl, hl, by omega, wl, by omega, fun H1 s1 => .inl ⟨_, rfl, zL (by omega), _, rfl, zL (by rw [sEmp]; omega), _, rfl, zL (by rw [sEmp, app_len]; omega), _, rfl, .inl ⟨_, rfl, zL (by omega), _, rfl, zL (by rw [sEmp, app_len, app_len]; omega), _, rfl, zL (by rw [sEmp, app_len, app_len, app_len]; omega), ?_⟩⟩⟩
      refine ⟨_, rfl, y, r, rfl, TmAt.mono s1.tups _ _ hrr, by omega, wr, by omega, fun H2 s2 => .inl ⟨_, rfl, zL (by omega), _, rfl, zL (by rw [sEmp, app_len, app_len, app_len, app_len]; omega), ?_⟩⟩
      have q1 := q H2 (s1.trans s2)
      rw [sEmp, sApp, sApp, sApp, ← sApp ("!=" : Str), ← sApp (" " : Str), e4]
      exact q1
end

section
variable {P : Program} {w : World} {K : PySem.W.Frag} {mg : Str → Option Value} {base : Heap}
/-! ### show_clause -/
def spShowC : Sp := fun vs H Q _ => ∃ (a : Addr) (xs : List V) (c : List Lit), vs = [.ref a] ∧ H a = some (.tup xs) ∧ LitAll H xs c ∧ c.length ≤ 10 ∧ (∀ x ∈ c, x.ok) ∧ ∀ H', Same H H' → Q (.str (if c.isEmpty = true then "false" else Txt.join " | " (showC c))) H'
theorem showC_len (c : List Lit) (h : ∀ x ∈ c, x.ok) : tlen (showC c) ≤ 200000 * c.length := by
  induction c with
  | nil => exact Nat.le_refl _
  | cons x r ih =>
    have q := ih fun y hy => h y (List.mem_cons_of_mem _ hy)
    obtain ⟨wl, wr, nl, nr, sl, sr⟩ := h x List.mem_cons_self
    have z := showL_len (b := x.1) wl wr sl sr
    show tlen (showL x.1 x.2.1 x.2.2 :: showC r) ≤ 200000 * (r.length + 1)
    rw [tlen_cons]
    omega
theorem sc_show_clause : FnScope ["clause", "literal"] ["clause"] (defScope s_show_clause) := ⟨rfl, rfl, rfl, by decide +kernel, rfl, by decide +kernel, by decide +kernel⟩
theorem ok_show_clause {f fL : Addr} {fd fdL : FuncData} (D : Df K mg "show_clause" s_show_clause ["clause"] f fd) (DL : Df K mg "show_literal" s_show_literal ["literal"] fL fdL) (GL : FnOk P w K mg base CX0 63 fL fdL ["literal"] spShowL) : FnOk P w K mg base CX0 64 f fd ["clause"] spShowC := by
  refine D.F.ok sc_show_clause (fun vs H Q E h => ?_) (fun cdv A outer s H vs Q E hr h => ?_)
  · obtain ⟨a, xs, c, rfl, _⟩ := h; rfl
  obtain ⟨a, xs, c, rfl, ea, hc, lc, ok, q⟩ := h
  have nd := sc_show_clause.nd
  refine ⟨_, pss_cons (ps_if (pt_not (pt_truth (pv 0) (by intro _; rfl))) (pss_one (ps_ret pe_str)) pss_nil)
    (pss_one (ps_ret (pe_join pe_str (pe_lc (own := [("literal", 1)]) (g := gName 1) (tt := tYes) (te := tCall spShowL [] E0 (tCons (tVar 1) tNil)) rfl nd (pi_tup (pv 0)) (blkOk_by (N := ["clause", "literal"]) (sc := defScope s_show_clause) (by decide +kernel))
        (fun _ _ _ _ _ => pg_name (i := 1) nd rfl (Or.inl rfl)) (fun _ _ _ _ _ => pts_nil) (fun _ _ _ _ _ => pe_call GL hr (by rfl) DL.m DL.F.kp DL.b .nil pass0 (pa_cons (pv 1) pa_nil)))))), ?_⟩
  have ll := hc.len
  refine ⟨_, rfl, _, .inr (.inl ⟨xs, .inl (.inl ea), rfl⟩), ?_⟩
  cases c with
  | nil =>
    cases hc
    exact iteT (q H (Same.refl _))
  | cons x0 c0 =>
    cases xs with
    | nil => cases hc
    | cons y0 ys =>
    refine iteF ?_
    refine ⟨⟨_, rfl⟩, .ref a, rfl, a, rfl, ⟨_, .inl (.inl ea)⟩, fun d nd' => ?_⟩
    refine walk_t (xs := y0 :: ys) (fun i H2 => Same H H2 ∧ H2 d = some (.lst ((showC ((x0 :: c0).take i)).map V.str))) ⟨same_new nd' _, upd_same⟩ (fun i H2 _ h => .inl (.inl (h.1 _ _ ea))) (fun i x H2 hx h => ?_) (fun H2 h => ?_)
    · obtain ⟨sm, ed⟩ := h
      obtain ⟨t1, et, hx1⟩ := hc.get hx
      refine ⟨rfl, ?_⟩
      refine ⟨_, rfl, x, t1, rfl, hx1.mono sm.tups, ok t1 (List.mem_of_getElem? et), fun H3 s3 => ?_⟩
      have ed3 := s3 _ _ ed
      refine ⟨_, ed3, Nat.lt_of_le_of_lt (show _ ≤ 100000 by rw [List.length_map]; unfold showC; rw [List.length_map, List.length_take]; omega) (by decide), But.same nd' (sm.trans s3) But.upd, ?_⟩
      rw [upd_same, List.take_add_one, et]
      unfold showC
      rw [List.map_append, List.map_append]
      rfl
    · obtain ⟨sm, ed⟩ := h
      rw [ll, List.take_length] at ed
      have q3 := showC_len _ ok
      have z3 : (" | " : Str).length = 3 := by decide +kernel
      have z5 : (showC (x0 :: c0)).length = (x0 :: c0).length := List.length_map _
      refine ⟨_, d, _, rfl, rfl, .inl (.inl (.inl ed)), ?_, q H2 sm⟩
      show tlen (showC (x0 :: c0)) + (showC (x0 :: c0)).length * (" | " : Str).length ≤ 16777216
      rw [z3, z5]
      omega
/-! ### show_formula, show_negation -/
def spShowF (n : Nat) : Sp := fun vs H Q _ => ∃ (v : V) (f : Fm), vs = [v] ∧ TmAt H v f.ter ∧ f.all fmTer fmStr ∧ f.high < n ∧ n ≤ 9 ∧ ∀ H', Same H H' → Q (.str (showF f)) H'
def spShowN (n : Nat) : Sp := fun vs H Q _ => ∃ (v : V) (f : Fm), vs = [v] ∧ TmAt H v f.ter ∧ f.all fmTer fmStr ∧ f.high < n ∧ n ≤ 9 ∧ ∀ H', Same H H' → Q (.str (showF (.neg f))) H'
theorem pow9 {n : Nat} (h : n < 9) : 2 ^ n ≤ 256 := by
  have : 2 ^ n ≤ 2 ^ 8 := Nat.pow_le_pow_right (by decide) (by omega)
  omega
theorem sc_show_negation : FnScope ["formula"] ["formula"] (defScope s_show_negation) := ⟨rfl, rfl, rfl, by decide +kernel, rfl, by decide +kernel, by decide +kernel⟩
theorem ok_show_negation {f fF fL : Addr} {fd fdF fdL : FuncData} (D : Df K mg "show_negation" s_show_negation ["formula"] f fd) (DF : Df K mg "show_formula" s_show_formula ["formula"] fF fdF) (DL : Df K mg "show_literal" s_show_literal ["literal"] fL fdL) (GL : FnOk P w K mg base CX0 63 fL fdL ["literal"] spShowL) {n k : Nat} (hk : 63 ≤ k)
    (GF : FnOk P w K mg base CX0 k fF fdF ["formula"] (spShowF n)) : FnOk P w K mg base CX0 (k + 1) f fd ["formula"] (spShowN n) := by
  refine D.F.ok sc_show_negation (fun vs H Q E h => ?_) (fun cdv A outer s H vs Q E hr h => ?_)
  · obtain ⟨v, f, rfl, _⟩ := h; rfl
  obtain ⟨v, f, rfl, hf, ok, hn, h9, q⟩ := h
  have r63 : Room 63 _ := hr.mono hk
  refine ⟨_, pss_cons (ps_if (pt_cmpR op_eq (pe_ix ix_tup (pv 0) pe_int (fun _ _ => rfl)) pe_str (nomark _)) (pss_one (ps_ret (pe_call GL r63 (by rfl) DL.m DL.F.kp DL.b .nil pass0 (pa_cons (pe_tup (pa_cons pe_bl (pa_cons (pe_ix ix_tup (pv 0) pe_int (fun _ _ => rfl)) (pa_cons (pe_ix ix_tup (pv 0) pe_int (fun _ _ => rfl)) pa_nil)))) pa_nil)))) pss_nil)
    (pss_one (ps_ret (pe_joined (.cons pe_str (.cons (pe_fmt (pe_call GF hr (by rfl) DF.m DF.F.kp DF.b .nil pass0 (pa_cons (pv 0) pa_nil))) .nil))))), ?_⟩
  have hlen := showF_len f ok
  obtain ⟨z1, z2, z3, z4, z5⟩ := lens
  have hp := pow9 (show f.high < 9 by omega)
  obtain ⟨a, xs, rfl, e, hs⟩ := fm_at hf
  have T : SqT K H a (.str f.head :: xs) := .inl (.inl e)
  refine ⟨_, rfl, a, _, 0, _, rfl, rfl, T, head_at, rfl, _, rfl, ?_⟩
  cases f with
  | eq l r =>
    obtain ⟨x, y, rfl, hx, hy⟩ := all_two hs
    refine eqS (headN "equal" rfl (by decide +kernel)) ?_
    refine ⟨_, rfl, a, _, 1, _, rfl, rfl, T, at_1, _, rfl, a, _, 2, _, rfl, rfl, T, at_2, by show 3 ≤ sizeLine; decide, fun p np => ?_⟩
    have s1 := same_new np (.tup [.bl false, x, y])
    exact ⟨.ref p, (false, l, r), rfl, .mk upd_same (TmAt.mono s1.tups _ _ hx) (TmAt.mono s1.tups _ _ hy), ⟨ok.1.1, ok.2.1, ok.1.2.1, ok.2.2.1, Nat.le_trans ok.1.2.2 (by decide), Nat.le_trans ok.2.2.2 (by decide)⟩, fun H' s' => q H' (s1.trans s')⟩
  | tt b =>
    refine neS (by rw [head_eq]; rfl) ?_
    refine ⟨_, rfl, zB (by rw [sEmp]; omega), _, rfl, .ref a, .tt b, rfl, hf, ok, hn, h9, fun H1 s1 => .inl ⟨_, rfl, zB (by omega), _, rfl, zB (by rw [sEmp, app_len]; omega), ?_⟩⟩
    rw [sEmp, ← showF_neg rfl]
    exact q H1 s1
  | neg g =>
    refine neS (by rw [head_eq]; rfl) ?_
    refine ⟨_, rfl, zB (by rw [sEmp]; omega), _, rfl, .ref a, .neg g, rfl, hf, ok, hn, h9, fun H1 s1 => .inl ⟨_, rfl, zB (by omega), _, rfl, zB (by rw [sEmp, app_len]; omega), ?_⟩⟩
    rw [sEmp, ← showF_neg rfl]
    exact q H1 s1
  | bin o g k =>
    refine neS (by rw [head_eq]; rfl) ?_
    refine ⟨_, rfl, zB (by rw [sEmp]; omega), _, rfl, .ref a, .bin o g k, rfl, hf, ok, hn, h9, fun H1 s1 => .inl ⟨_, rfl, zB (by omega), _, rfl, zB (by rw [sEmp, app_len]; omega), ?_⟩⟩
    rw [sEmp, ← showF_neg rfl]
    exact q H1 s1
  | qu b x g =>
    refine neS (by rw [head_eq]; rfl) ?_
    refine ⟨_, rfl, zB (by rw [sEmp]; omega), _, rfl, .ref a, .qu b x g, rfl, hf, ok, hn, h9, fun H1 s1 => .inl ⟨_, rfl, zB (by omega), _, rfl, zB (by rw [sEmp, app_len]; omega), ?_⟩⟩
    rw [sEmp, ← showF_neg rfl]
    exact q H1 s1
theorem sc_show_formula : FnScope ["formula", "kind"] ["formula"] (defScope s_show_formula) := ⟨rfl, rfl, rfl, by decide +kernel, rfl, by decide +kernel, by decide +kernel⟩
theorem ok_show_formula1 {f fN fL : Addr} {fd fdN fdL : FuncData} (D : Df K mg "show_formula" s_show_formula ["formula"] f fd) (DN : Df K mg "show_negation" s_show_negation ["formula"] fN fdN) (DL : Df K mg "show_literal" s_show_literal ["literal"] fL fdL) (GL : FnOk P w K mg base CX0 63 fL fdL ["literal"] spShowL) (T5 : Tops5 K w mg) {n k : Nat} (hk : 63 ≤ k)
    (G : FnOk P w K mg base CX0 k f fd ["formula"] (spShowF n)) (GN : FnOk P w K mg base CX0 (k + 1) fN fdN ["formula"] (spShowN n)) : FnOk P w K mg base CX0 (k + 1 + 1) f fd ["formula"] (spShowF (n + 1)) := by
  refine D.F.ok sc_show_formula (fun vs H Q E h => ?_) (fun cdv A outer s H vs Q E hr h => ?_)
  · obtain ⟨v, f, rfl, _⟩ := h; rfl
  obtain ⟨v, f, rfl, hf, ok, hn, h9, q⟩ := h
  obtain ⟨aS, mS, tS⟩ := T5.sig
  have nd := sc_show_formula.nd
  have r63 : Room 63 _ := hr.mono (by omega)
  have rk : Room k _ := hr.mono (by omega)
  refine ⟨_, pss_cons (ps_set (i := 1) nd rfl (.inl rfl) (pe_ix ix_tup (pv 0) pe_int (fun _ _ => rfl)))
    (pss_cons (ps_if (PW.pt (pw_or (pt_cmpR op_eq (pv 1) pe_str (nomark _)) (pw_or1 (pt_cmpR op_eq (pv 1) pe_str (nomark _))))) (pss_one (ps_ret (pv 1))) pss_nil)
    (pss_cons (ps_if (pt_cmpR op_eq (pv 1) pe_str (nomark _)) (pss_one (ps_ret (pe_call GL r63 (by rfl) DL.m DL.F.kp DL.b .nil pass0 (pa_cons (pe_tup (pa_cons pe_bl (pa_cons (pe_ix ix_tup (pv 0) pe_int (fun _ _ => rfl)) (pa_cons (pe_ix ix_tup (pv 0) pe_int (fun _ _ => rfl)) pa_nil)))) pa_nil)))) pss_nil)
    (pss_cons (ps_if (pt_cmpR op_eq (pv 1) pe_str (nomark _)) (pss_one (ps_ret (pe_call GN hr (by rfl) DN.m DN.F.kp DN.b .nil pass0 (pa_cons (pe_ix ix_tup (pv 0) pe_int (fun _ _ => rfl)) pa_nil)))) pss_nil)
    (pss_cons (ps_if (PW.pt (pw_or (pt_cmpR op_eq (pv 1) pe_str (nomark _)) (pw_or1 (pt_cmpR op_eq (pv 1) pe_str (nomark _)))))
      (pss_one (ps_ret (pe_joined (.cons pe_str (.cons (pe_fmt (pv 1)) (.cons pe_str (.cons (pe_fmt (pe_ix ix_tup (pv 0) pe_int (fun _ _ => rfl))) (.cons pe_str (.cons (pe_fmt (pe_call G rk (by rfl) D.m D.F.kp D.b .nil pass0 (pa_cons (pe_ix ix_tup (pv 0) pe_int (fun _ _ => rfl)) pa_nil))) (.cons pe_str .nil)))))))))) pss_nil)
    (pss_one (ps_ret (pe_joined (.cons pe_str (.cons (pe_fmt (pe_call G rk (by rfl) D.m D.F.kp D.b .nil pass0 (pa_cons (pe_ix ix_tup (pv 0) pe_int (fun _ _ => rfl)) pa_nil))) (.cons pe_str (.cons (pe_fmt (pe_ix ix_kdict (pe_glob (v := .ref aS) (by rfl) mS rfl) (pv 1) (fun _ _ => rfl))) (.cons pe_str (.cons (pe_fmt (pe_call G rk (by rfl) D.m D.F.kp D.b .nil pass0 (pa_cons (pe_ix ix_tup (pv 0) pe_int (fun _ _ => rfl)) pa_nil))) (.cons pe_str .nil)))))))))))))), ?_⟩
  have hlen := showF_len f ok
  obtain ⟨z1, z2, z3, z4, z5⟩ := lens
  have hp := pow9 (show f.high < 9 by omega)
  obtain ⟨a, xs, rfl, e, hs⟩ := fm_at hf
  have T : SqT K H a (.str f.head :: xs) := .inl (.inl e)
  refine ⟨_, rfl, a, _, 0, _, rfl, rfl, T, head_at, ?_⟩
  cases f with
  | tt b =>
    cases b with
    | true => exact ⟨_, rfl, rfl, _, rfl, eqS (by decide +kernel) (iteT ⟨_, rfl, q H (Same.refl _)⟩)⟩
    | false => exact ⟨_, rfl, rfl, _, rfl, neS (by decide +kernel) ⟨_, rfl, rfl, _, rfl, eqS (by decide +kernel) ⟨_, rfl, q H (Same.refl _)⟩⟩⟩
  | eq l r =>
    obtain ⟨x, y, rfl, hx, hy⟩ := all_two hs
    refine ⟨_, rfl, rfl, _, rfl, neS (headN "equal" rfl (by decide +kernel)) ⟨_, rfl, rfl, _, rfl, neS (headN "equal" rfl (by decide +kernel)) ?_⟩⟩
    refine ⟨_, rfl, rfl, _, rfl, eqS (headN "equal" rfl (by decide +kernel)) ?_⟩
    refine ⟨_, rfl, a, _, 1, _, rfl, rfl, T, at_1, _, rfl, a, _, 2, _, rfl, rfl, T, at_2, by show 3 ≤ sizeLine; decide, fun p np => ?_⟩
    have s1 := same_new np (.tup [.bl true, x, y])
    exact ⟨.ref p, (true, l, r), rfl, .mk upd_same (TmAt.mono s1.tups _ _ hx) (TmAt.mono s1.tups _ _ hy), ⟨ok.1.1, ok.2.1, ok.1.2.1, ok.2.2.1, Nat.le_trans ok.1.2.2 (by decide), Nat.le_trans ok.2.2.2 (by decide)⟩, fun H' s' => q H' (s1.trans s')⟩
  | neg g =>
    obtain ⟨x, rfl, hx⟩ := all_one hs
    refine ⟨_, rfl, rfl, _, rfl, neS (headN "not" rfl (by decide +kernel)) ⟨_, rfl, rfl, _, rfl, neS (headN "not" rfl (by decide +kernel)) ?_⟩⟩
    refine ⟨_, rfl, rfl, _, rfl, neS (headN "not" rfl (by decide +kernel)) ⟨_, rfl, rfl, _, rfl, eqS (headN "not" rfl (by decide +kernel)) ?_⟩⟩
    have hn : g.high + 1 < n + 1 := hn
    exact ⟨_, rfl, a, _, 1, _, rfl, rfl, T, at_1, x, g, rfl, hx, ok, by omega, by omega, q⟩
  | qu b y g =>
    obtain ⟨x, u, rfl, hx, hu⟩ := all_two hs
    cases hx
    have hn : g.high + 1 < n + 1 := hn
    have hy : y.length ≤ 40 := ok.1
    have hg := showF_len g ok.2
    have hpg := pow9 (show g.high < 9 by omega)
    have qb := q_len b
    refine ⟨_, rfl, rfl, _, rfl, neS (headN (qWord b) rfl (by cases b <;> decide +kernel)) ⟨_, rfl, rfl, _, rfl, neS (headN (qWord b) rfl (by cases b <;> decide +kernel)) ?_⟩⟩
    refine ⟨_, rfl, rfl, _, rfl, neS (headN (qWord b) rfl (by cases b <;> decide +kernel)) ⟨_, rfl, rfl, _, rfl, neS (headN (qWord b) rfl (by cases b <;> decide +kernel)) ?_⟩⟩
    have rest : tJs [tC (.str "("), tFmt (tVar 1), tC (.str " "), tFmt (tOp (rIxT K) (tVar 0) (tC (.int 1))), tC (.str ": "), tFmt (tCall (spShowF n) [] E0 (tCons (tOp (rIxT K) (tVar 0) (tC (.int 2))) tNil)), tC (.str ")")] Str.empty [some (.ref a), some (.str (qWord b))] H fun out H1 => Q (.str out) H1 := by
      refine ⟨_, rfl, zB (by rw [sEmp]; omega), _, rfl, .inl ⟨_, rfl, zB (by omega), _, rfl, zB (by rw [sEmp, app_len]; omega), _, rfl, zB (by rw [sEmp, app_len, app_len]; omega), ?_⟩⟩
      refine ⟨_, rfl, a, _, 1, _, rfl, rfl, T, at_1, .inl ⟨_, rfl, zB (by omega), _, rfl, zB (by rw [sEmp, app_len, app_len, app_len]; omega), _, rfl, zB (by rw [sEmp, app_len, app_len, app_len, app_len]; omega), ?_⟩⟩
      refine ⟨_, rfl, a, _, 2, _, rfl, rfl, T, at_2, u, g, rfl, hu, ok.2, by omega, by omega, fun H1 s1 => .inl ⟨_, rfl, zB (by omega), _, rfl, zB (by rw [sEmp, app_len, app_len, app_len, app_len, app_len]; omega), _, rfl, zB (by rw [sEmp, app_len, app_len, app_len, app_len, app_len, app_len]; omega), ?_⟩⟩
      rw [sEmp, sApp, sApp, sApp, sApp, sApp]
      exact q H1 s1
    refine ⟨_, rfl, rfl, _, rfl, ?_⟩
    cases b with
    | true => exact eqS (headN "all" rfl (by decide +kernel)) (iteT rest)
    | false => exact neS (headN "some" rfl (by decide +kernel)) ⟨_, rfl, rfl, _, rfl, eqS (headN "some" rfl (by decide +kernel)) rest⟩
  | bin o g k =>
    obtain ⟨x, u, rfl, hx, hu⟩ := all_two hs
    have hn : max g.high k.high + 1 < n + 1 := hn
    have hg := showF_len g ok.1
    have hk2 := showF_len k ok.2
    have hpg := pow9 (show g.high < 9 by omega)
    have hpk := pow9 (show k.high < 9 by omega)
    have qo := sign_len o
    refine ⟨_, rfl, rfl, _, rfl, neS (headN o.word rfl (by cases o <;> decide +kernel)) ⟨_, rfl, rfl, _, rfl, neS (headN o.word rfl (by cases o <;> decide +kernel)) ?_⟩⟩
    refine ⟨_, rfl, rfl, _, rfl, neS (headN o.word rfl (by cases o <;> decide +kernel)) ⟨_, rfl, rfl, _, rfl, neS (headN o.word rfl (by cases o <;> decide +kernel)) ?_⟩⟩
    refine ⟨_, rfl, rfl, _, rfl, neS (headN o.word rfl (by cases o <;> decide +kernel)) ⟨_, rfl, rfl, _, rfl, neS (headN o.word rfl (by cases o <;> decide +kernel)) ?_⟩⟩
    refine ⟨_, rfl, zB (by rw [sEmp]; omega), ?_⟩
    refine ⟨_, rfl, a, _, 1, _, rfl, rfl, T, at_1, x, g, rfl, hx, ok.1, by omega, by omega, fun H1 s1 => .inl ⟨_, rfl, zB (by omega), _, rfl, zB (by rw [sEmp, app_len]; omega), _, rfl, zB (by rw [sEmp, app_len, app_len]; omega), ?_⟩⟩
    refine ⟨_, rfl, aS, _, _, rfl, rfl, tS o, .inl ⟨_, rfl, zB (by omega), _, rfl, zB (by rw [sEmp, app_len, app_len, app_len]; omega), _, rfl, zB (by rw [sEmp, app_len, app_len, app_len, app_len]; omega), ?_⟩⟩
    have T1 : SqT K H1 a (.str (Fm.bin o g k).head :: [x, u]) := .inl (.inl (s1 _ _ e))
    refine ⟨_, rfl, a, _, 2, _, rfl, rfl, T1, at_2, u, k, rfl, TmAt.mono s1.tups _ _ hu, ok.2, by omega, by omega, fun H2 s2 => .inl ⟨_, rfl, zB (by omega), _, rfl, zB (by rw [sEmp, app_len, app_len, app_len, app_len, app_len]; omega), _, rfl, zB (by rw [sEmp, app_len, app_len, app_len, app_len, app_len, app_len]; omega), ?_⟩⟩
    rw [sEmp, sApp, sApp, sApp, sApp, sApp]
    exact q H2 (s1.trans s2)
theorem ok_show_formula {f fN fL : Addr} {fd fdN fdL : FuncData} (D : Df K mg "show_formula" s_show_formula ["formula"] f fd) (DN : Df K mg "show_negation" s_show_negation ["formula"] fN fdN) (DL : Df K mg "show_literal" s_show_literal ["literal"] fL fdL) (GL : FnOk P w K mg base CX0 63 fL fdL ["literal"] spShowL) (T5 : Tops5 K w mg) : ∀ n : Nat, FnOk P w K mg base CX0 (63 + 2 * n) f fd ["formula"] (spShowF n)
  | 0 => by
    have no : ∀ vs H Q E, ¬ spShowF 0 vs H Q E := fun vs H Q E h => by
      obtain ⟨v, f, _, _, _, hn, _⟩ := h
      omega
    exact ⟨fun vs H Q E h => absurd h (no vs H Q E), fun A outer s H args us vs Q E _ _ _ _ h => absurd h (no vs H Q E)⟩
  | n + 1 => by
    have G := ok_show_formula D DN DL GL T5 n
    exact ok_show_formula1 D DN DL GL T5 (Nat.le_add_right 63 _) G (ok_show_negation DN D DL GL (Nat.le_add_right 63 _) G)
end

section
variable {P : Program} {w : World} {K : PySem.W.Frag} {mg : Str → Option Value} {base : Heap}
/-! ### _law_draws -/
def spDraws (K : PySem.W.Frag) : Sp := fun vs H Q _ => ∃ (a : Addr) (ns : List Int), vs = [.ref a] ∧ SqL K H a (ns.map V.int) ∧ ns.length ≤ 63 ∧ ∀ (p : Addr) (H' : Hp), Same H H' → H p = none → Ints H' p → Q (.ref p) H'
theorem sc_law_draws : FnScope ["script", "draws", "cell", "number", "first", "k", "seed"] ["script"] (defScope s__law_draws) := ⟨rfl, rfl, rfl, by decide +kernel, rfl, by decide +kernel, by decide +kernel⟩
theorem ok_law_draws {f : Addr} {fd : FuncData} (D : Df K mg "_law_draws" s__law_draws ["script"] f fd) (mabs : mg "abs" = none) (mint : mg "int" = none) (mr : mg "range" = none) (ml : mg "len" = none) (mli : mg "list" = none) (mrev : mg "reversed" = none) : FnOk P w K mg base CX0 1 f fd ["script"] (spDraws K) := by
  refine D.F.ok sc_law_draws (fun vs H Q E h => ?_) (fun cdv A outer s H vs Q E hr h => ?_)
  · obtain ⟨a, ns, rfl, _⟩ := h; rfl
  obtain ⟨a, ns, rfl, hS, hn, q⟩ := h
  have nd := sc_law_draws.nd
  refine ⟨_, pss_cons (ps_set (i := 1) nd rfl (.inl rfl) (pe_lst pa_nil))
    (pss_cons (ps_for PassesOwn.never rfl (pi_list (pv 0)) (pg_name (i := 2) nd rfl (.inl rfl))
      (pss_cons (ps_set (i := 3) nd rfl (.inl rfl) (pe_callB call_abs (by rfl) mabs (by decide +kernel) (pa_cons (pv 2) pa_nil)))
      (C8.pss_cut (ps_if (pt_cmpR op_lt (pv 3) (pe_op op_pow pe_int pe_int) (nomark _))
        (pss_cons (ps_set (i := 4) nd rfl (.inl rfl) (pe_op op_mod (pe_callTy call_int1 (by rfl) mint (by decide +kernel) (pa_cons (pe_op op_add (pe_op op_mul (pv 3) pe_int) pe_int) pa_nil)) pe_int))
        (pss_cons (ps_expr (pe_bm PySem.F.plainAttrs_list PySem.F.slot_list_append PySem.F.type_list_append mt_append (pv 1) (pa_cons (pe_op op_mod (pe_callTy call_int1 (by rfl) mint (by decide +kernel) (pa_cons (pe_op op_add (pe_op op_mul (pv 4) pe_int) (pv 3)) pa_nil)) pe_int) pa_nil)))
        (pss_cons (ps_expr (pe_bm PySem.F.plainAttrs_list PySem.F.slot_list_append PySem.F.type_list_append mt_append (pv 1) (pa_cons (pe_op op_mod (pe_callTy call_int1 (by rfl) mint (by decide +kernel) (pa_cons (pe_op op_add (pv 4) (pe_op op_fdiv (pv 3) pe_int)) pa_nil)) pe_int) pa_nil)))
        (pss_one (ps_set (i := 3) nd rfl (.inl rfl) pe_int))))) pss_nil)
      (pss_one (ps_for PassesOwn.never rfl (pi_range1 (by rfl) mr (pa_cons pe_int pa_nil)) (pg_name (i := 5) nd rfl (.inl rfl))
        (pss_one (ps_if (pt_cmpR op_gt (pv 3) pe_int (nomark _))
          (pss_cons (ps_expr (pe_bm PySem.F.plainAttrs_list PySem.F.slot_list_append PySem.F.type_list_append mt_append (pv 1) (pa_cons (pe_op op_mod (pe_callTy call_int1 (by rfl) mint (by decide +kernel) (pa_cons (pv 3) pa_nil)) pe_int) pa_nil)))
          (pss_one (ps_set (i := 3) nd rfl (.inl rfl) (pe_op op_fdiv (pv 3) pe_int)))) pss_nil)))))))
    (pss_cons (ps_set (i := 6) nd rfl (.inl rfl) pe_int)
    (C8.pss_cut (ps_if (pt_cmpR op_gt (pe_callB call_len_seq (by rfl) ml PySem.boot_len (pa_cons (pv 0) pa_nil)) pe_int (nomark _))
      (pss_one (ps_set (i := 6) nd rfl (.inl rfl) (pe_op op_add pe_int (pe_callB call_abs (by rfl) mabs (by decide +kernel) (pa_cons (pe_ix ix_list (pv 0) pe_int (fun _ _ => rfl)) pa_nil))))) pss_nil)
    (pss_cons (ps_for PassesOwn.never rfl (pi_range1 (by rfl) mr (pa_cons pe_int pa_nil)) (pg_name (i := 5) nd rfl (.inl rfl))
      (pss_cons (ps_set (i := 6) nd rfl (.inl rfl) (pe_op op_mod (pe_callTy call_int1 (by rfl) mint (by decide +kernel) (pa_cons (pe_op op_add (pe_op op_mul (pv 6) pe_int) pe_int) pa_nil)) pe_int))
      (pss_one (ps_expr (pe_bm PySem.F.plainAttrs_list PySem.F.slot_list_append PySem.F.type_list_append mt_append (pv 1) (pa_cons (pe_op op_fdiv (pv 6) pe_int) pa_nil))))))
    (pss_one (ps_ret (pe_listRev rfl (by rfl) mli (by rfl) mrev (pv 1)))))))), ?_⟩
  refine ⟨Nat.zero_le _, fun d nd' => ?_⟩
  have hz : ∀ {n : Nat}, n ≤ 100000 → n < sizeLine := fun h => Nat.lt_of_le_of_lt h (by decide)
  -- one more int at d
  have app : ∀ {H2 : Hp} {ms : List Int} {m : Int}, Same H H2 → H2 d = some (.lst (ms.map V.int)) → Same H (upd H2 d (.lst ((ms ++ [m]).map V.int))) ∧ (upd H2 d (.lst ((ms ++ [m]).map V.int))) d = some (.lst ((ms ++ [m]).map V.int)) := fun sm e => ⟨But.same nd' sm But.upd, upd_same⟩
  have e1 : ∀ (ms : List Int) (m : Int), (ms.map V.int) ++ [V.int m] = (ms ++ [m]).map V.int := fun ms m => by rw [List.map_append]; rfl
  refine ⟨.ref a, rfl, a, rfl, ⟨_, (same_new nd' _).seq hS⟩, for_list (xs := ns.map V.int) (fun i σ H2 => ∃ (ms : List Int) (y2 y3 y4 y5 : Option V), σ = [some (.ref a), some (.ref d), y2, y3, y4, y5, none] ∧ Same H H2 ∧ H2 d = some (.lst (ms.map V.int)) ∧ ms.length ≤ 62 * i)
    ⟨[], none, none, none, none, rfl, same_new nd' _, upd_same, Nat.zero_le _⟩ (fun i σ H2 _ h => ?_) (fun i x σ H2 hx h => ?_) (fun σ H2 h => ?_)⟩
  · obtain ⟨_, _, _, _, _, _, sm, _⟩ := h
    exact sm.seq hS
  · -- one cell
    obtain ⟨ms, y2, y3, y4, y5, rfl, sm, ed, lm⟩ := h
    have hi : i < 63 := by
      have := (List.getElem?_eq_some_iff.mp hx).1
      rw [List.length_map] at this
      omega
    obtain ⟨n, rfl⟩ : ∃ n, x = V.int n := by
      rw [List.getElem?_map] at hx
      cases e : ns[i]? with
      | none => rw [e] at hx; cases hx
      | some n => rw [e] at hx; exact ⟨n, (Option.some.inj hx).symm⟩
    refine ⟨_, rfl, n, rfl, ?_⟩
    generalize (if n < 0 then -n else n) = m
    refine ⟨fun σ H3 => ∃ (ms : List Int) (m : Int) (y4 : Option V), σ = [some (.ref a), some (.ref d), some (.int n), some (.int m), y4, y5, none] ∧ Same H H3 ∧ H3 d = some (.lst (ms.map V.int)) ∧ ms.length ≤ 62 * i + 2, ?_, fun σ H3 h => ?_⟩
    · refine ⟨_, rfl, _, _, rfl, rfl, ⟨by decide, by decide, by decide⟩, _, _, rfl, rfl, _, rfl, ite2 (fun _ => ?_) (fun _ => ?_)⟩
      · refine ⟨_, rfl, _, _, rfl, rfl, .inr ⟨by decide, by decide⟩, _, _, rfl, rfl, .inl ⟨_, rfl, _, _, rfl, rfl, (by show (0 : Int) < 2147483647; decide), ?_⟩⟩
        refine ⟨.ref d, rfl, tyl ed, _, rfl, _, _, rfl, rfl, .inr ⟨by decide, by decide⟩, _, rfl, _, _, rfl, rfl, .inl ⟨_, rfl, _, _, rfl, rfl, (by show (0 : Int) < 2147483629; decide), ?_⟩⟩
        refine ⟨d, _, _, rfl, rfl, ed, hz (by rw [List.length_map]; omega), ?_⟩
        rw [e1]
        obtain ⟨sm2, ed2⟩ := app (m := ((m * 48271 + 11) % 2147483647 * 69621 + m) % 2147483629) sm ed
        refine ⟨.ref d, rfl, tyl ed2, _, rfl, _, rfl, _, _, rfl, rfl, ⟨by decide, by decide⟩, _, _, rfl, rfl, .inl ⟨_, rfl, _, _, rfl, rfl, (by show (0 : Int) < 1000003; decide), ?_⟩⟩
        refine ⟨d, _, _, rfl, rfl, ed2, hz (by rw [List.length_map, List.length_append, List.length_singleton]; omega), ?_⟩
        rw [e1]
        obtain ⟨sm3, ed3⟩ := app (m := ((m * 48271 + 11) % 2147483647 + m / 7) % 1000003) sm2 ed2
        exact ⟨_, 0, _, rfl, sm3, ed3, by rw [List.length_append, List.length_append, List.length_singleton, List.length_singleton]; omega⟩
      · exact ⟨ms, m, y4, rfl, sm, ed, by omega⟩
    · obtain ⟨ms, m, y4, rfl, sm, ed, lm2⟩ := h
      refine ⟨60, rfl, by decide, by decide, for_range (n := 60) (fun j σ H3 => ∃ (ms : List Int) (m : Int) (y5 : Option V), σ = [some (.ref a), some (.ref d), some (.int n), some (.int m), y4, y5, none] ∧ Same H H3 ∧ H3 d = some (.lst (ms.map V.int)) ∧ ms.length ≤ 62 * i + 2 + j)
        ⟨ms, m, y5, rfl, sm, ed, lm2⟩ (fun j σ H3 hj h => ?_) (fun σ H3 h => ?_)⟩
      · obtain ⟨ms, m, y5, rfl, sm, ed, lm3⟩ := h
        refine ⟨_, rfl, _, _, rfl, rfl, _, rfl, ite2 (fun _ => ?_) (fun _ => ?_)⟩
        · refine ⟨.ref d, rfl, tyl ed, _, rfl, .inl ⟨_, rfl, _, _, rfl, rfl, (by show (0 : Int) < 997; decide), ?_⟩⟩
          refine ⟨d, _, _, rfl, rfl, ed, hz (by rw [List.length_map]; omega), ?_⟩
          rw [e1]
          obtain ⟨sm2, ed2⟩ := app (m := m % 997) sm ed
          refine ⟨_, rfl, _, _, rfl, rfl, ⟨by decide, by decide⟩, ?_⟩
          exact ⟨_, _, _, rfl, sm2, ed2, by rw [List.length_append, List.length_singleton]; omega⟩
        · exact ⟨ms, m, _, rfl, sm, ed, by omega⟩
      · obtain ⟨ms, m, y5, rfl, sm, ed, lm3⟩ := h
        exact ⟨ms, _, _, _, _, rfl, sm, ed, by omega⟩
  · -- behind the cells
    obtain ⟨ms, y2, y3, y4, y5, rfl, sm, ed, lm⟩ := h
    rw [List.length_map] at lm
    refine ⟨fun σ H3 => ∃ (z : Int), σ = [some (.ref a), some (.ref d), y2, y3, y4, y5, some (.int z)] ∧ H3 = H2, ?_, fun σ H3 h => ?_⟩
    · refine ⟨.ref a, rfl, a, _, rfl, .inl (sm.seq hS), _, _, rfl, rfl, _, rfl, ite2 (fun c => ?_) (fun _ => ⟨_, rfl, rfl⟩)⟩
      have c := of_decide_eq_true c
      rw [List.length_map] at c
      obtain ⟨x, r, rfl⟩ : ∃ x r, ns = x :: r := by
        cases ns with
        | nil => exact absurd c (by decide)
        | cons x r => exact ⟨x, r, rfl⟩
      exact ⟨.ref a, rfl, a, _, 0, .int x, rfl, rfl, sm.seq hS, atI_nat (j := 0) rfl, x, rfl, _, _, rfl, rfl, _, rfl, rfl⟩
    · obtain ⟨z, rfl, rfl⟩ := h
      refine ⟨60, rfl, by decide, by decide, for_range (n := 60) (fun j σ H3 => ∃ (ms : List Int) (z : Int) (y5 : Option V), σ = [some (.ref a), some (.ref d), y2, y3, y4, y5, some (.int z)] ∧ Same H H3 ∧ H3 d = some (.lst (ms.map V.int)) ∧ ms.length ≤ 3906 + j)
        ⟨ms, z, y5, rfl, sm, ed, by omega⟩ (fun j σ H3 hj h => ?_) (fun σ H3 h => ?_)⟩
      · obtain ⟨ms, z, y5, rfl, sm, ed, lm3⟩ := h
        refine ⟨_, rfl, _, _, rfl, rfl, .inr ⟨by decide, by decide⟩, _, _, rfl, rfl, .inl ⟨_, rfl, _, _, rfl, rfl, (by show (0 : Int) < 2147483647; decide), ?_⟩⟩
        refine ⟨.ref d, rfl, tyl ed, _, rfl, _, _, rfl, rfl, ⟨by decide, by decide⟩, ?_⟩
        refine ⟨d, _, _, rfl, rfl, ed, hz (by rw [List.length_map]; omega), ?_⟩
        rw [e1]
        obtain ⟨sm2, ed2⟩ := app (m := (z * 48271 + 69621) % 2147483647 / 5) sm ed
        exact ⟨_, _, _, rfl, sm2, ed2, by rw [List.length_append, List.length_singleton]; omega⟩
      · obtain ⟨ms, z, y5, rfl, sm, ed, lm3⟩ := h
        refine ⟨.ref d, rfl, d, _, rfl, .inl (.inl ed), fun p np => ?_⟩
        have s3 := same_new np (.lst (ms.map V.int).reverse)
        exact q p _ (sm.trans s3) (sm.free np) ⟨ms.reverse, by rw [List.length_reverse]; omega, by rw [upd_same, List.map_reverse]⟩
/-! ### _law_take -/
def spTake : Sp := fun vs H Q _ => ∃ (d : Addr) (b : Int), vs = [.ref d, .int b] ∧ Ints H d ∧ 0 < b ∧ ∀ (r : Int) (H' : Hp), 0 ≤ r → r < b → But d H H' → Ints H' d → Q (.int r) H'
theorem sc_law_take : FnScope ["draws", "bound"] ["draws", "bound"] (defScope s__law_take) := ⟨rfl, rfl, rfl, by decide +kernel, rfl, by decide +kernel, by decide +kernel⟩
theorem ok_law_take {f : Addr} {fd : FuncData} (D : Df K mg "_law_take" s__law_take ["draws", "bound"] f fd) (ml : mg "len" = none) (mint : mg "int" = none) : FnOk P w K mg base CX0 1 f fd ["draws", "bound"] spTake := by
  refine D.F.ok sc_law_take (fun vs H Q E h => ?_) (fun cdv A outer s H vs Q E hr h => ?_)
  · obtain ⟨d, b, rfl, _⟩ := h; rfl
  obtain ⟨d, b, rfl, ⟨ms, lm, ed⟩, hb, q⟩ := h
  refine ⟨_, pss_cons (ps_if (pt_cmpR op_eq (pe_callB call_len_seq (by rfl) ml PySem.boot_len (pa_cons (pv 0) pa_nil)) pe_int (nomark _)) (pss_one (ps_ret pe_int)) pss_nil)
    (pss_one (ps_ret (pe_op op_mod (pe_callTy call_int1 (by rfl) mint (by decide +kernel) (pa_cons (pe_bm0 PySem.F.plainAttrs_list PySem.F.slot_list_pop PySem.F.type_list_pop mt_popL (pv 0)) pa_nil)) (pv 1)))), ?_⟩
  refine ⟨.ref d, rfl, d, _, rfl, .inl (.inl (.inl ed)), rfl, _, rfl, ite2 (fun c => ?_) (fun c => ?_)⟩
  · exact q 0 H (Int.le_refl 0) hb (But.refl d H) ⟨ms, lm, ed⟩
  · have hm : ms ≠ [] := fun z => by
      subst z
      exact c (decide_eq_true rfl)
    obtain ⟨ms', m, rfl⟩ : ∃ ms' m, ms = ms' ++ [m] := ⟨_, _, (List.dropLast_concat_getLast hm).symm⟩
    rw [List.map_append] at ed
    refine ⟨.ref d, rfl, tyl ed, d, ms'.map V.int, .int m, rfl, rfl, ed, .inl ⟨m, rfl, .int b, rfl, _, _, rfl, rfl, hb, ?_⟩⟩
    exact q _ _ (Int.emod_nonneg _ (by omega)) (Int.emod_lt_of_pos _ hb) But.upd ⟨ms', by rw [List.length_append] at lm; omega, upd_same⟩
/-! ### _law_words -/
def spWords : Sp := fun vs H Q _ => ∃ (d : Addr) (n : Nat), vs = [.ref d, .int n] ∧ Ints H d ∧ n ≤ 9 ∧ ∀ (p : Addr) (ws : List Str) (H' : Hp), But d H H' → H p = none → Ints H' d → H' p = some (.lst (ws.map V.str)) → ws.length = n → Words ws → Q (.ref p) H'
theorem sc_law_words : FnScope ["draws", "many", "letters", "signs", "words", "k", "word", "j"] ["draws", "many"] (defScope s__law_words) := ⟨rfl, rfl, rfl, by decide +kernel, rfl, by decide +kernel, by decide +kernel⟩
theorem ok_law_words {f fT : Addr} {fd fdT : FuncData} (D : Df K mg "_law_words" s__law_words ["draws", "many"] f fd) (DT : Df K mg "_law_take" s__law_take ["draws", "bound"] fT fdT) (G : FnOk P w K mg base CX0 1 fT fdT ["draws", "bound"] spTake) (mr : mg "range" = none) : FnOk P w K mg base CX0 2 f fd ["draws", "many"] spWords := by
  refine D.F.ok sc_law_words (fun vs H Q E h => ?_) (fun cdv A outer s H vs Q E hr h => ?_)
  · obtain ⟨d, n, rfl, _⟩ := h; rfl
  obtain ⟨d, n, rfl, hI, hn, q⟩ := h
  have nd := sc_law_words.nd
  refine ⟨_, pss_cons (ps_set (i := 2) nd rfl (.inl rfl) pe_str) (pss_cons (ps_set (i := 3) nd rfl (.inl rfl) (pe_op op_add_str (pv 2) pe_str)) (pss_cons (ps_set (i := 4) nd rfl (.inl rfl) (pe_lst pa_nil))
    (pss_cons (ps_for PassesOwn.never rfl (pi_range1 (by rfl) mr (pa_cons (pv 1) pa_nil)) (pg_name (i := 5) nd rfl (.inl rfl))
      (pss_cons (ps_set (i := 6) nd rfl (.inl rfl) (pe_item_str (pv 2) (pe_call G hr (by rfl) DT.m DT.F.kp DT.b .nil pass0 (pa_cons (pv 0) (pa_cons pe_int pa_nil))) (fun _ _ => rfl)))
      (pss_cons (ps_for PassesOwn.never rfl (pi_range1 (by rfl) mr (pa_cons (pe_call G hr (by rfl) DT.m DT.F.kp DT.b .nil pass0 (pa_cons (pv 0) (pa_cons pe_int pa_nil))) pa_nil)) (pg_name (i := 7) nd rfl (.inl rfl))
        (pss_one (ps_set (i := 6) nd rfl (.inl rfl) (pe_op op_add_str (pv 6) (pe_item_str (pv 3) (pe_call G hr (by rfl) DT.m DT.F.kp DT.b .nil pass0 (pa_cons (pv 0) (pa_cons pe_int pa_nil))) (fun _ _ => rfl))))))
      (pss_cons (ps_for PassesOwn.never rfl (pi_range1 (by rfl) mr (pa_cons pe_int pa_nil)) (pg_name (i := 7) nd rfl (.inl rfl))
        (pss_one (ps_if (PW.pt (pw_or (pt_cmpR op_in_seq (pv 6) (pv 4) (by rfl)) (pw_or1 (pt_cmpR op_in_seq (pv 6) (pe_lst (pa_cons pe_str (pa_cons pe_str (pa_cons pe_str (pa_cons pe_str (pa_cons pe_str (pa_cons pe_str pa_nil))))))) (by rfl)))))
          (pss_one (ps_set (i := 6) nd rfl (.inl rfl) (pe_op op_add_str (pv 6) pe_str))) pss_nil)))
      (pss_one (ps_expr (pe_bm PySem.F.plainAttrs_list PySem.F.slot_list_append PySem.F.type_list_append mt_append (pv 4) (pa_cons (pv 6) pa_nil))))))))
    (pss_one (ps_ret (pv 4)))))), ?_⟩
  have hz : ∀ {n : Nat}, n ≤ 100000 → n ≤ sizeLine := fun h => Nat.le_trans h (by decide)
  refine ⟨_, rfl, _, _, rfl, rfl, hz (by decide +kernel), ?_⟩
  refine ⟨Nat.zero_le _, fun p np => ?_⟩
  have hpd : p ≠ d := hI.ne np
  refine ⟨.int n, rfl, (n : Int), rfl, by omega, by omega, for_range (n := (n : Int).toNat) (fun i σ H2 => ∃ (ws : List Str) (y5 y6 y7 : Option V), σ = [some (.ref d), some (.int n), some (.str LET), some (.str SGN), some (.ref p), y5, y6, y7] ∧ But d H H2 ∧ Ints H2 d ∧ H2 p = some (.lst (ws.map V.str)) ∧ ws.length = i ∧ Words ws)
    ⟨[], none, none, none, rfl, (same_new np _).but, hI.same (same_new np _), upd_same, rfl, ⟨(fun _ h => by cases h), List.nodup_nil, (fun _ h => by cases h)⟩⟩ (fun i σ H2 hi h => ?_) (fun σ H2 h => ?_)⟩
  · obtain ⟨ws, y5, y6, y7, rfl, b2, hI2, ep, lw, hw⟩ := h
    have hi9 : i < 9 := by omega
    refine ⟨_, rfl, _, rfl, d, 26, rfl, hI2, by decide, fun r H3 r0 r1 b3 hI3 => ?_⟩
    obtain ⟨c, hc, c1, c2⟩ := let_at (i := r.toNat) (by omega)
    refine ⟨LET, r, c, rfl, rfl, r0, by omega, by rw [let_len]; omega, hc, ?_⟩
    have ep3 := b3 p _ hpd ep
    -- the further signs
    refine ⟨_, rfl, d, 4, rfl, hI3, by decide, fun m H4 m0 m1 b4 hI4 => ?_⟩
    refine ⟨m, rfl, by omega, by omega, for_range (n := m.toNat) (fun j σ H5 => ∃ (x : Str) (y7 : Option V), σ = [some (.ref d), some (.int n), some (.str LET), some (.str SGN), some (.ref p), some (.int (0 + (i : Int))), some (.str x), y7] ∧ But d H2 H5 ∧ Ints H5 d ∧ WordIn x (1 + j))
      ⟨_, y7, rfl, b3.trans b4, hI4, word1 c1 c2⟩ (fun j σ H5 hj h => ?_) (fun σ H5 h => ?_)⟩
    · obtain ⟨x, y7, rfl, b5, hI5, wx⟩ := h
      refine ⟨_, rfl, _, rfl, _, rfl, d, 63, rfl, hI5, by decide, fun r H6 r0 r1 b6 hI6 => ?_⟩
      obtain ⟨c, hc, c1⟩ := sgn_at (i := r.toNat) (by omega)
      refine ⟨SGN, r, c, rfl, rfl, r0, by omega, by rw [sgn_len]; omega, hc, ?_⟩
      have l1 := wx.len
      refine ⟨_, _, rfl, rfl, hz (by show x.length + 1 ≤ 100000; omega), ?_⟩
      exact ⟨_, _, rfl, b5.trans b6, hI6, by rw [← Nat.add_assoc]; exact wx.add (by show (chOk c && true) = true; rw [c1]; rfl) (Nat.le_refl 1)⟩
    · obtain ⟨x, y7, rfl, b5, hI5, wx⟩ := h
      have ep5 := b5 p _ hpd ep
      -- made longer where it is taken
      refine ⟨30, rfl, by decide, by decide, for_range (n := 30) (fun j σ H6 => ∃ (x : Str) (y7 : Option V), σ = [some (.ref d), some (.int n), some (.str LET), some (.str SGN), some (.ref p), some (.int (0 + (i : Int))), some (.str x), y7] ∧ But d H2 H6 ∧ Ints H6 d ∧ WordIn x (4 + j) ∧ ((x ∉ ws ∧ x ∉ RES) ∨ longer (ws ++ RES) x.length + j ≤ (ws ++ RES).length))
        ⟨x, y7, rfl, b5, hI5, ⟨wx.head, wx.all, by have := wx.len; omega⟩, .inr (longer_le _ _)⟩ (fun j σ H6 hj h => ?_) (fun σ H6 h => ?_)⟩
      · obtain ⟨x, y7, rfl, b6, hI6, wx, hx⟩ := h
        have ep6 := b6 p _ hpd ep
        have longerx : ∀ (y : Str) H7 y7, But d H2 H7 → Ints H7 d → y ∈ ws ++ RES → y = x → ∃ (x' : Str) (y7' : Option V), ([some (.ref d), some (.int n), some (.str LET), some (.str SGN), some (.ref p), some (.int (0 + (i : Int))), some (.str (x ++ ("x" : Str))), y7] : L2.St) = [some (.ref d), some (.int n), some (.str LET), some (.str SGN), some (.ref p), some (.int (0 + (i : Int))), some (.str x'), y7'] ∧ But d H2 H7 ∧ Ints H7 d ∧ WordIn x' (4 + (j + 1)) ∧ ((x' ∉ ws ∧ x' ∉ RES) ∨ longer (ws ++ RES) x'.length + (j + 1) ≤ (ws ++ RES).length) := fun y H7 y7 b7 hI7 hy e => by
          subst e
          refine ⟨_, _, rfl, b7, hI7, ?_, .inr ?_⟩
          · rw [← Nat.add_assoc]
            exact wx.add (by decide +kernel) (by decide +kernel)
          · have l1 : (y ++ ("x" : Str)).length = y.length + 1 := by
              rw [app_len]
              have : ("x" : Str).length = 1 := by decide +kernel
              omega
            have l2 := longer_lt hy
            rw [l1]
            rcases hx with ⟨z1, z2⟩ | hx
            · exact absurd hy (fun z => (List.mem_append.mp z).elim z1 z2)
            · omega
        refine ⟨_, rfl, _, rfl, p, _, rfl, .inl (.inl (.inl ep6)), rfl, flat_strs ws, _, rfl, ?_⟩
        refine ite2 (fun c => ?_) (fun c => ?_)
        · have lx := wx.len
          refine iteT ?_
          refine ⟨_, rfl, _, _, rfl, rfl, hz (by have : ("x" : Str).length = 1 := by decide +kernel
                                                 omega), ?_⟩
          exact longerx x H6 _ b6 hI6 (List.mem_append_left _ ((inV_str x ws).mp c)) rfl
        · refine ⟨_, rfl, by show 6 ≤ sizeLine; decide, fun t nt => ?_⟩
          refine ⟨t, RES.map V.str, rfl, .inl (.inl (.inl upd_same)), rfl, flat_strs RES, _, rfl, ?_⟩
          have htd : t ≠ d := hI6.ne nt
          have b7 : But d H2 (upd H6 t (.lst (RES.map V.str))) := b6.trans (same_new nt _).but
          have hI7 := hI6.same (same_new nt (.lst (RES.map V.str)))
          refine ite2 (fun c2 => ?_) (fun c2 => ?_)
          · have lx := wx.len
            refine ⟨_, rfl, _, _, rfl, rfl, hz (by have : ("x" : Str).length = 1 := by decide +kernel
                                                   omega), ?_⟩
            exact longerx x _ _ b7 hI7 (List.mem_append_right _ ((inV_str x RES).mp c2)) rfl
          · refine ⟨x, _, rfl, b7, hI7, ⟨wx.head, wx.all, by have := wx.len; omega⟩, .inl ⟨fun z => c ((inV_str x ws).mpr z), fun z => c2 ((inV_str x RES).mpr z)⟩⟩
      · obtain ⟨x, y7, rfl, b6, hI6, wx, hx⟩ := h
        have ep6 := b6 p _ hpd ep
        have free : x ∉ ws ∧ x ∉ RES := by
          rcases hx with hx | hx
          · exact hx
          · rw [List.length_append] at hx
            have : RES.length = 6 := rfl
            omega
        refine ⟨.ref p, rfl, tyl ep6, _, rfl, p, _, _, rfl, rfl, ep6, Nat.lt_of_le_of_lt (show (ws.map V.str).length ≤ 1000 by rw [List.length_map]; omega) (by decide), ?_⟩
        rw [show ws.map V.str ++ [V.str x] = (ws ++ [x]).map V.str by rw [List.map_append]; rfl]
        refine ⟨ws ++ [x], _, _, _, rfl, ?_, ?_, upd_same, by rw [List.length_append, List.length_singleton, lw], ?_⟩
        · exact fun b o nb e => by
            have hbp : b ≠ p := ne_of_none e np
            rw [upd_ne hbp]
            exact b6 b o nb (b2 b o nb e)
        · exact hI6.of_but But.upd hpd.symm
        · refine ⟨fun y hy => ?_, ?_, fun y hy => ?_⟩
          · rcases List.mem_append.mp hy with hy | hy
            · exact hw.ok y hy
            · rw [List.mem_singleton.mp hy]; exact wx.ok (by omega)
          · exact nd_snoc hw.nd free.1
          · rcases List.mem_append.mp hy with hy | hy
            · exact hw.res y hy
            · rw [List.mem_singleton.mp hy]; exact free.2
  · obtain ⟨ws, y5, y6, y7, rfl, b2, hI2, ep, lw, hw⟩ := h
    exact ⟨.ref p, rfl, q p ws H2 b2 np hI2 ep (by omega) hw⟩
end

section
variable {P : Program} {w : World} {K : PySem.W.Frag} {mg : Str → Option Value} {base : Heap}
/-! ### _law_variable -/
def spLVar : Sp := fun vs H Q _ => ∃ (d : Addr), vs = [.ref d] ∧ Ints H d ∧ ∀ (r : Int) (H' : Hp), 0 ≤ r → r < 900 → But d H H' → Ints H' d → Q (.int r) H'
theorem sc_law_variable : FnScope ["draws"] ["draws"] (defScope s__law_variable) := ⟨rfl, rfl, rfl, by decide +kernel, rfl, by decide +kernel, by decide +kernel⟩
theorem ok_law_variable {f fT : Addr} {fd fdT : FuncData} (D : Df K mg "_law_variable" s__law_variable ["draws"] f fd) (DT : Df K mg "_law_take" s__law_take ["draws", "bound"] fT fdT) (G : FnOk P w K mg base CX0 1 fT fdT ["draws", "bound"] spTake) : FnOk P w K mg base CX0 2 f fd ["draws"] spLVar := by
  refine D.F.ok sc_law_variable (fun vs H Q E h => ?_) (fun cdv A outer s H vs Q E hr h => ?_)
  · obtain ⟨d, rfl, _⟩ := h; rfl
  obtain ⟨d, rfl, hI, q⟩ := h
  refine ⟨_, pss_cons (ps_if (pt_cmpR op_eq (pe_call G hr (by rfl) DT.m DT.F.kp DT.b .nil pass0 (pa_cons (pv 0) (pa_cons pe_int pa_nil))) pe_int (nomark _)) (pss_one (ps_ret (pe_call G hr (by rfl) DT.m DT.F.kp DT.b .nil pass0 (pa_cons (pv 0) (pa_cons pe_int pa_nil))))) pss_nil)
    (pss_one (ps_ret (pe_call G hr (by rfl) DT.m DT.F.kp DT.b .nil pass0 (pa_cons (pv 0) (pa_cons pe_int pa_nil))))), ?_⟩
  refine ⟨_, rfl, d, 8, rfl, hI, by decide, fun r H1 _ _ b1 hI1 => ?_⟩
  refine ⟨rfl, _, rfl, ite2 (fun _ => ?_) (fun _ => ?_)⟩
  · exact ⟨_, rfl, d, 900, rfl, hI1, by decide, fun r H2 h0 h1 b2 hI2 => q r H2 h0 h1 (b1.trans b2) hI2⟩
  · exact ⟨_, rfl, d, 4, rfl, hI1, by decide, fun r H2 h0 h1 b2 hI2 => q r H2 h0 (by omega) (b1.trans b2) hI2⟩
/-! ### _law_term -/
def spTerm (n : Nat) : Sp := fun vs H Q _ => ∃ (d l : Addr) (ws : List Str) (k : Nat), vs = [.ref d, .ref l, .int k] ∧ Ints H d ∧ H l = some (.lst (ws.map V.str)) ∧ l ≠ d ∧ 6 ≤ ws.length ∧ k < n ∧
  ∀ (v : V) (t : Ter) (H' : Hp), But d H H' → Ints H' d → TmAt H' v t → t.wf (symOf ws) numVar → t.size ≤ 4 ^ (k + 1) → t.nest ≤ k + 1 → Q v H'
theorem sc_law_term : FnScope ["draws", "words", "depth", "kind", "arguments", "k"] ["draws", "words", "depth"] (defScope s__law_term) := ⟨rfl, rfl, rfl, by decide +kernel, rfl, by decide +kernel, by decide +kernel⟩
theorem ok_law_term1 {f fT fV : Addr} {fd fdT fdV : FuncData} (D : Df K mg "_law_term" s__law_term ["draws", "words", "depth"] f fd) (DT : Df K mg "_law_take" s__law_take ["draws", "bound"] fT fdT) (GT : FnOk P w K mg base CX0 1 fT fdT ["draws", "bound"] spTake)
    (DV : Df K mg "_law_variable" s__law_variable ["draws"] fV fdV) (GV : FnOk P w K mg base CX0 2 fV fdV ["draws"] spLVar) (mr : mg "range" = none) (mt : mg "tuple" = none) {n : Nat} (G : FnOk P w K mg base CX0 (n + 2) f fd ["draws", "words", "depth"] (spTerm n)) : FnOk P w K mg base CX0 (n + 2 + 1) f fd ["draws", "words", "depth"] (spTerm (n + 1)) := by
  refine D.F.ok sc_law_term (fun vs H Q E h => ?_) (fun cdv A outer s H vs Q E hr h => ?_)
  · obtain ⟨d, l, ws, k, rfl, _⟩ := h; rfl
  obtain ⟨d, l, ws, k, rfl, hI, hW, nl, lw, hk, q⟩ := h
  have nd := sc_law_term.nd
  have hr1 : Room 1 _ := hr.mono (by omega)
  have hr2 : Room 2 _ := hr.mono (by omega)
  refine ⟨_, pss_cons (ps_set (i := 3) nd rfl (.inl rfl) (pe_call GT hr1 (by rfl) DT.m DT.F.kp DT.b .nil pass0 (pa_cons (pv 0) (pa_cons pe_int pa_nil))))
    (C8.pss_cut (ps_if (PW.pt (pw_and (pt_cmpR op_eq (pv 2) pe_int (nomark _)) (pw_and1 (pt_cmpR op_gt (pv 3) pe_int (nomark _))))) (pss_one (ps_set (i := 3) nd rfl (.inl rfl) (pe_op op_sub (pv 3) pe_int))) pss_nil)
    (pss_cons (ps_if (pt_cmpR op_eq (pv 3) pe_int (nomark _)) (pss_one (ps_ret (pe_call GV hr2 (by rfl) DV.m DV.F.kp DV.b .nil pass0 (pa_cons (pv 0) pa_nil)))) pss_nil)
    (pss_cons (ps_if (pt_cmpR op_lt (pv 3) pe_int (nomark _)) (pss_one (ps_ret (pe_tup (pa_cons (pe_ix ix_list (pv 1) (pe_op op_sub (pv 3) pe_int) (fun _ _ => rfl)) pa_nil)))) pss_nil)
    (pss_cons (ps_setLc (i := 4) (own := [("k", 5)]) (g := gName 5) (tt := tYes) (te := tCall (spTerm n) [] E0 (tCons (tVar 0) (tCons (tVar 1) (tCons (tOp (rI0 fun i j => .int (i - j)) (tVar 2) (tC (.int 1))) tNil)))) rfl nd rfl rfl (sw_true rfl rfl rfl (by decide +kernel)) (pi_range1 (by rfl) mr (pa_cons (pe_op op_sub (pv 3) pe_int) pa_nil))
        (blkOk_by (N := ["draws", "words", "depth", "kind", "arguments", "k"]) (sc := defScope s__law_term) (by decide +kernel)) (fun _ _ _ _ _ => pg_name (i := 5) nd rfl (Or.inl rfl)) (fun _ _ _ _ _ => pts_nil)
        (fun _ _ _ _ _ => pe_call G hr (by rfl) D.m D.F.kp D.b .nil pass0 (pa_cons (pv 0) (pa_cons (pv 1) (pa_cons (pe_op op_sub (pv 2) pe_int) pa_nil)))))
    (pss_one (ps_ret (pe_op op_catT (pe_tup (pa_cons (pe_ix ix_list (pv 1) (pe_op op_sub (pv 3) pe_int) (fun _ _ => rfl)) pa_nil)) (pe_callTy call_tuple_of (by rfl) mt (by decide +kernel) (pa_cons (pv 4) pa_nil))))))))), ?_⟩
  refine ⟨_, rfl, d, 7, rfl, hI, by decide, fun r H1 r0 r1 b1 hI1 => ?_⟩
  have hW1 := b1 l _ nl hW
  have p4 := pow4 k
  have p5 : 4 ^ (k + 1) = 4 ^ k * 4 := Nat.pow_succ 4 k
  -- the word at a kind
  have word : ∀ (c : Int), 1 ≤ c → c < 7 → ∃ x, atI (ws.map V.str) (c - 1) = some (.str x) ∧ ws[(c - 1).toNat]? = some x := fun c c1 c7 => by
    have h : (c - 1).toNat < ws.length := by omega
    have g := List.getElem?_eq_getElem h
    generalize ws[(c - 1).toNat] = x at g
    exact ⟨x, at_of (j := (c - 1).toNat) (by omega) (by rw [List.getElem?_map, g]; rfl), g⟩
  refine ⟨fun σ H2 => H2 = H1 ∧ ∃ c : Int, σ = [some (.ref d), some (.ref l), some (.int k), some (.int c), none, none] ∧ 0 ≤ c ∧ c < 7 ∧ (k = 0 → c ≤ 3), ?_, fun σ H2 h => ?_⟩
  · refine ⟨_, rfl, rfl, _, rfl, ?_⟩
    refine ite2 (fun c => ?_) (fun c => ?_)
    · have ck : (k : Int) = 0 := V.int.inj (of_decide_eq_true c)
      refine ⟨_, rfl, _, _, rfl, rfl, _, rfl, ite2 (fun c2 => ?_) (fun c2 => ?_)⟩
      · have c2 := of_decide_eq_true c2
        exact ⟨_, rfl, _, _, rfl, rfl, rfl, r - 4, rfl, by omega, by omega, fun _ => by omega⟩
      · have c2 : ¬ ((3 : Int) < r) := fun z => c2 (decide_eq_true z)
        exact ⟨rfl, r, rfl, r0, r1, fun _ => by omega⟩
    · have ck : ¬ (k : Int) = 0 := fun z => c (decide_eq_true (congrArg V.int z))
      exact ⟨rfl, r, rfl, r0, r1, fun z => absurd (by omega) ck⟩
  obtain ⟨rfl, c, rfl, c0, c7, ck⟩ := h
  refine ⟨_, rfl, rfl, _, rfl, ite2 (fun z => ?_) (fun z => ?_)⟩
  · exact ⟨_, rfl, d, rfl, hI1, fun r H3 h0 h9 b3 hI3 => q (.int r) (.var (.inl r)) H3 (b1.trans b3) hI3 (.int r) ⟨r, rfl, h0, h9⟩ (by show 1 ≤ _; omega) (by show 1 ≤ _; omega)⟩
  have z : ¬ c = 0 := fun y => z (decide_eq_true (congrArg V.int y))
  refine ⟨_, rfl, _, _, rfl, rfl, _, rfl, ite2 (fun y => ?_) (fun y => ?_)⟩
  · have y := of_decide_eq_true y
    obtain ⟨x, hx, hx2⟩ := word c (by omega) (by omega)
    refine ⟨_, rfl, _, rfl, _, _, rfl, rfl, l, _, _, _, rfl, rfl, .inl (.inl hW1), hx, by show 1 ≤ sizeLine; decide, fun p np => ?_⟩
    have s2 := same_new np (.tup [.str x])
    exact q (.ref p) (.ap x []) _ (b1.trans s2.but) (hI1.same s2) (.ap upd_same .nil) ⟨⟨(c - 1).toNat, by omega, hx2, by show 0 = _; omega⟩, trivial⟩ (by show 0 + 1 ≤ _; omega) (by show 0 + 1 ≤ _; omega)
  have y : ¬ c < 4 := fun x => y (decide_eq_true x)
  obtain ⟨m, em⟩ : ∃ m : Nat, c = (m : Int) + 3 := ⟨(c - 3).toNat, by omega⟩
  have hk1 : 1 ≤ k := by
    rcases Nat.eq_zero_or_pos k with e | e
    · exact absurd (ck e) (by omega)
    · exact e
  have p6 : 4 ^ k = 4 ^ (k - 1) * 4 := by rw [← Nat.pow_succ]; congr 1; omega
  refine ⟨_, rfl, _, _, rfl, rfl, c - 3, rfl, by omega, by omega, fun a na => ?_⟩
  have ka : a ≠ d := hI1.ne na
  have etn : (c - 3).toNat = m := by omega
  rw [etn]
  refine lc_range (lo := 0) (n := m) (fun i H3 => ∃ acc ts, But d H2 H3 ∧ Ints H3 d ∧ H3 a = some (.lst acc) ∧ TmAll H3 acc ts ∧ ts.length = i ∧ Ter.wfs (symOf ws) numVar ts ∧ Ter.sizes ts ≤ i * 4 ^ k ∧ Ter.nests ts ≤ k) ⟨[], [], (same_new na _).but, hI1.same (same_new na _), upd_same, .nil, rfl, trivial, Nat.zero_le _, Nat.zero_le _⟩ (fun i H3 hi h => ?_) (fun H3 h => ?_)
  · obtain ⟨acc, ts, b3, hI3, ea, ha, lt, hw, hs, hn⟩ := h
    refine ⟨rfl, ?_⟩
    refine ⟨_, rfl, _, rfl, _, rfl, _, _, rfl, rfl, ?_⟩
    refine ⟨d, l, ws, k - 1, by show [V.ref d, V.ref l, V.int ((k : Int) - 1)] = _; rw [show (k : Int) - 1 = ((k - 1 : Nat) : Int) by omega], hI3, b3 l _ nl hW1, nl, lw, by omega, fun v t H4 b4 hI4 hv hwf hsz hne => ?_⟩
    have ek : k - 1 + 1 = k := by omega
    rw [ek] at hsz hne
    have m4 := b4.tupsI hI3
    have ea4 := b4 a _ ka ea
    have la := ha.len
    have b5 : But a H4 (upd H4 a (.lst (acc ++ [v]))) := But.upd
    have m5 := b5.tups ea4
    refine ⟨acc, ea4, Nat.lt_of_le_of_lt (show acc.length ≤ 100 by omega) (by decide), acc ++ [v], ts ++ [t], ?_, hI4.of_but b5 ka.symm, upd_same, (TmAll.mono (m4.trans m5) _ _ ha).app (.cons (TmAt.mono m5 _ _ hv) .nil), by rw [List.length_append, List.length_singleton, lt], wfs_app hw ⟨hwf, trivial⟩, ?_, ?_⟩
    · exact fun b o nb e => by
        rw [upd_ne (ne_of_none e na)]
        exact b4 b o nb (b3 b o nb e)
    · rw [sizes_snoc, Nat.succ_mul]
      omega
    · rw [nests_snoc]
      omega
  · obtain ⟨acc, ts, b3, hI3, ea, ha, lt, hw, hs, hn⟩ := h
    obtain ⟨x, hx, hx2⟩ := word c (by omega) (by omega)
    have la := ha.len
    have hW3 := b3 l _ nl hW1
    refine ⟨_, rfl, _, rfl, _, _, rfl, rfl, l, _, _, _, rfl, rfl, .inl (.inl hW3), hx, by show 1 ≤ sizeLine; decide, fun p np => ?_⟩
    have s4 := same_new np (.tup [.str x])
    refine ⟨_, rfl, a, acc, rfl, .inl ⟨.inl (.inl (s4 _ _ ea)), fun r nr => ?_⟩⟩
    have s5 := same_new nr (.tup acc)
    refine ⟨p, r, [.str x], acc, rfl, rfl, .inl (.inl (s5 _ _ upd_same)), .inl (.inl upd_same), by simp, Nat.le_trans (show 1 + acc.length ≤ 100 by omega) (by decide), fun z => ?_, fun _ u nu => ?_⟩
    · subst z
      rw [List.length_nil] at la
      omega
    have s6 := same_new nu (.tup ([.str x] ++ acc))
    have sa := (s4.trans s5).trans s6
    have m3 := sa.tups
    refine q (.ref u) (.ap x ts) _ (b1.trans (b3.trans sa.but)) (hI3.same sa) (.ap upd_same (TmAll.mono m3 _ _ ha)) ⟨⟨(c - 1).toNat, by omega, hx2, by omega⟩, hw⟩ ?_ ?_
    · show Ter.sizes ts + 1 ≤ _
      have : m * 4 ^ k ≤ 3 * 4 ^ k := Nat.mul_le_mul_right _ (by omega)
      omega
    · show Ter.nests ts + 1 ≤ _
      omega
theorem ok_law_term {f fT fV : Addr} {fd fdT fdV : FuncData} (D : Df K mg "_law_term" s__law_term ["draws", "words", "depth"] f fd) (DT : Df K mg "_law_take" s__law_take ["draws", "bound"] fT fdT) (GT : FnOk P w K mg base CX0 1 fT fdT ["draws", "bound"] spTake)
    (DV : Df K mg "_law_variable" s__law_variable ["draws"] fV fdV) (GV : FnOk P w K mg base CX0 2 fV fdV ["draws"] spLVar) (mr : mg "range" = none) (mt : mg "tuple" = none) : ∀ n : Nat, FnOk P w K mg base CX0 (n + 2) f fd ["draws", "words", "depth"] (spTerm n)
  | 0 => by
    have no : ∀ vs H Q E, ¬ spTerm 0 vs H Q E := fun vs H Q E h => by
      obtain ⟨d, l, ws, k, _, _, _, _, _, hk, _⟩ := h
      omega
    exact ⟨fun vs H Q E h => absurd h (no vs H Q E), fun A outer s H args us vs Q E _ _ _ _ h => absurd h (no vs H Q E)⟩
  | n + 1 => ok_law_term1 D DT GT DV GV mr mt (ok_law_term D DT GT DV GV mr mt n)
end

section
variable {P : Program} {w : World} {K : PySem.W.Frag} {mg : Str → Option Value} {base : Heap}
/-! ### _law_named -/
def spNamed (n : Nat) : Sp := fun vs H Q _ => ∃ (v : V) (t : Ter) (W : Str → Nat → Prop), vs = [v] ∧ TmAt H v t ∧ t.wf W numVar ∧ t.size ≤ 100000 ∧ t.nest < n ∧
  ∀ v' t' H', Same H H' → TmAt H' v' t' → t'.wf W nameVar → t'.size = t.size → t'.nest = t.nest → Q v' H'
theorem sc_law_named : FnScope ["term", "argument"] ["term"] (defScope s__law_named) := ⟨rfl, rfl, rfl, by decide +kernel, rfl, by decide +kernel, by decide +kernel⟩
theorem ok_law_named1 {f : Addr} {fd : FuncData} (D : Df K mg "_law_named" s__law_named ["term"] f fd) (mi : mg "isinstance" = none) (mt : mg "tuple" = none) (mint : mg "int" = none) {n : Nat} (G : FnOk P w K mg base CX0 n f fd ["term"] (spNamed n)) : FnOk P w K mg base CX0 (n + 1) f fd ["term"] (spNamed (n + 1)) := by
  refine D.F.ok sc_law_named (fun vs H Q E h => ?_) (fun cdv A outer s H vs Q E hr h => ?_)
  · obtain ⟨v, t, W, rfl, _⟩ := h; rfl
  obtain ⟨v, t, W, rfl, ht, hw, hz, hn, q⟩ := h
  have nd := sc_law_named.nd
  refine ⟨_, pss_cons (ps_if (pt_not (pt_val (pe_callB call_isiTer (by rfl) mi (by decide +kernel) (pa_cons (pv 0) (pa_cons (pe_bltn (v := .ty "tuple") (by rfl) mt (by decide +kernel) rfl) pa_nil)))))
      (pss_one (ps_ret (pe_ix ix_list (pe_lst (pa_cons pe_str (pa_cons pe_str (pa_cons pe_str (pa_cons pe_str (pa_cons pe_str pa_nil)))))) (pe_op op_mod (pe_callTy call_int1 (by rfl) mint (by decide +kernel) (pa_cons (pv 0) pa_nil)) pe_int) (fun _ _ => rfl)))) pss_nil)
    (pss_one (ps_ret (pe_op op_catT (pe_tup (pa_cons (pe_ix ix_tup (pv 0) pe_int (fun _ _ => rfl)) pa_nil)) (pe_callTy call_tuple_of (by rfl) mt (by decide +kernel) (pa_cons
      (pe_lc (own := [("argument", 1)]) (g := gName 1) (tt := tYes) (te := tCall (spNamed n) [] E0 (tCons (tVar 1) tNil)) rfl nd (pi_tup (pe_slice sl_1 (pv 0) (po_some pe_int) po_none)) (blkOk_by (N := ["term", "argument"]) (sc := defScope s__law_named) (by decide +kernel))
        (fun _ _ _ _ _ => pg_name (i := 1) nd rfl (Or.inl rfl)) (fun _ _ _ _ _ => pts_nil) (fun _ _ _ _ _ => pe_call G hr (by rfl) D.m D.F.kp D.b .nil pass0 (pa_cons (pv 1) pa_nil))) pa_nil))))), ?_⟩
  refine ⟨v, rfl, v, t, rfl, ht, _, rfl, ?_⟩
  have var : ∀ (i : Int), ∃ x, atI (NAMES5.map V.str) (i % 5) = some (.str x) ∧ x ∈ NAMES5 := fun i => by
    have h1 := Int.emod_nonneg i (show (5 : Int) ≠ 0 by decide)
    have h2 := Int.emod_lt_of_pos i (show (0 : Int) < 5 by decide)
    have h3 : (i % 5).toNat < NAMES5.length := by show _ < 5; omega
    have g := List.getElem?_eq_getElem h3
    generalize NAMES5[(i % 5).toNat] = x at g
    exact ⟨x, at_of (j := (i % 5).toNat) (by omega) (by rw [List.getElem?_map, g]; rfl), List.mem_of_getElem? g⟩
  cases ht with
  | int i =>
    refine iteT ?_
    obtain ⟨x, hx, hm⟩ := var i
    refine ⟨by show 5 ≤ sizeLine; decide, fun l nl => ?_⟩
    have s1 := same_new nl (.lst [.str "X", .str "Y", .str "Zeta", .str "X1", .str "W_0"])
    refine ⟨_, rfl, .inl ⟨i, rfl, _, _, rfl, rfl, (by show (0 : Int) < 5; decide), ?_⟩⟩
    exact ⟨l, _, _, _, rfl, rfl, .inl (.inl upd_same), hx, q (.str x) (.var (.inr x)) _ s1 (.str x) ⟨x, rfl, hm⟩ rfl rfl⟩
  | str x =>
    obtain ⟨r, hr, _⟩ := hw
    cases hr
  | @ap a g xs as e hs =>
    refine iteF ?_
    have ls := hs.len
    have hn : Ter.nests as + 1 < n + 1 := hn
    have hz : Ter.sizes as + 1 ≤ 100000 := hz
    have la := Ter.sizes_len as
    refine ⟨_, rfl, a, _, 0, .str g, rfl, rfl, .inl (.inl e), head_at, by show 1 ≤ sizeLine; decide, fun p1 np1 => ?_⟩
    have s1 := same_new np1 (.tup [.str g])
    refine ⟨.ref a, rfl, 1, rfl, a, .str g, xs, rfl, rfl, rfl, .inl (.inl (s1 _ _ e)), fun p2 np2 => ?_⟩
    have s2 := same_new np2 (.tup xs)
    refine ⟨p2, rfl, ⟨xs, .inl (.inl upd_same)⟩, fun d nd' => ?_⟩
    have s12 := s1.trans s2
    refine walk_t (xs := xs) (fun i H2 => ∃ acc ts, Same (upd (upd H p1 (.tup [.str g])) p2 (.tup xs)) H2 ∧ H2 d = some (.lst acc) ∧ TmAll H2 acc ts ∧ ts.length = i ∧ Ter.sizes ts = Ter.sizes (as.take i) ∧ Ter.nests ts = Ter.nests (as.take i) ∧ Ter.wfs W nameVar ts) ⟨[], [], same_new nd' _, upd_same, .nil, rfl, rfl, rfl, trivial⟩ (fun i H2 _ h => ?_) (fun i x H2 hx h => ?_) (fun H2 h => ?_)
    · obtain ⟨acc, ts, sm, _⟩ := h
      exact .inl (.inl (sm _ _ upd_same))
    · obtain ⟨acc, ts, sm, ed, ha, lt, z1, z2, z3⟩ := h
      obtain ⟨t1, et, hx1⟩ := hs.get hx
      have hx2 := TmAt.mono (s12.trans sm).tups _ _ hx1
      have n1 := nest_le_of et
      have m1 := size_le_of et
      refine ⟨rfl, ?_⟩
      refine ⟨_, rfl, x, t1, W, rfl, hx2, wfs_get hw.2 et, by omega, by omega, fun v' t' H3 s3 hv' w' e1 e2 => ?_⟩
      have ed3 := s3 _ _ ed
      have b4 : But d H3 (upd H3 d (.lst (acc ++ [v']))) := But.upd
      have m4 := b4.tups ed3
      have la2 := ha.len
      have li : i < as.length := (List.getElem?_eq_some_iff.mp et).1
      have etk : as.take (i + 1) = as.take i ++ [t1] := by rw [List.take_add_one, et]; rfl
      refine ⟨acc, ed3, small6' (by omega), acc ++ [v'], ts ++ [t'], But.same nd' (sm.trans s3) b4, upd_same, (TmAll.mono (s3.tups.trans m4) _ _ ha).app (.cons (TmAt.mono m4 _ _ hv') .nil), by rw [List.length_append, List.length_singleton, lt], ?_, ?_, wfs_app z3 ⟨w', trivial⟩⟩
      · rw [sizes_snoc, etk, sizes_snoc, z1, e1]
      · rw [nests_snoc, etk, nests_snoc, z2, e2]
    · obtain ⟨acc, ts, sm, ed, ha, lt, z1, z2, z3⟩ := h
      rw [ls, List.take_length] at z1 z2
      have la2 := ha.len
      refine ⟨d, acc, rfl, .inl ⟨.inl (.inl ed), fun p3 np3 => ?_⟩⟩
      have s3 := same_new np3 (.tup acc)
      have sa := s12.trans (sm.trans s3)
      have wW : W g ts.length := by
        have : ts.length = as.length := by omega
        rw [this]
        exact hw.1
      refine ⟨p1, p3, [.str g], acc, rfl, rfl, .inl (.inl (s3 _ _ (sm _ _ (s2 _ _ upd_same)))), .inl (.inl upd_same), by simp, small6 (by show 1 + acc.length ≤ _; omega), fun z => ?_, fun _ p4 np4 => ?_⟩
      · subst z
        have t0 : ts = [] := by cases ha; rfl
        subst t0
        exact q (.ref p1) (.ap g []) _ sa (.ap (s3 _ _ (sm _ _ (s2 _ _ upd_same))) .nil) ⟨wW, trivial⟩ (by show Ter.sizes [] + 1 = Ter.sizes as + 1; rw [z1]) (by show Ter.nests [] + 1 = Ter.nests as + 1; rw [z2])
      · have s4 := same_new np4 (.tup ([.str g] ++ acc))
        exact q (.ref p4) (.ap g ts) _ (sa.trans s4) (.ap upd_same (TmAll.mono (s3.trans s4).tups _ _ ha)) ⟨wW, z3⟩ (by show Ter.sizes ts + 1 = Ter.sizes as + 1; rw [z1]) (by show Ter.nests ts + 1 = Ter.nests as + 1; rw [z2])
theorem ok_law_named {f : Addr} {fd : FuncData} (D : Df K mg "_law_named" s__law_named ["term"] f fd) (mi : mg "isinstance" = none) (mt : mg "tuple" = none) (mint : mg "int" = none) : ∀ n : Nat, FnOk P w K mg base CX0 n f fd ["term"] (spNamed n)
  | 0 => by
    have no : ∀ vs H Q E, ¬ spNamed 0 vs H Q E := fun vs H Q E h => by
      obtain ⟨v, t, W, _, _, _, _, hn, _⟩ := h
      omega
    exact ⟨fun vs H Q E h => absurd h (no vs H Q E), fun A outer s H args us vs Q E _ _ _ _ h => absurd h (no vs H Q E)⟩
  | n + 1 => ok_law_named1 D mi mt mint (ok_law_named D mi mt mint n)
/-! ### what the draws give -/
/-- words at l, ints at d -/
structure Drw (H : Hp) (d l : Addr) (ws : List Str) : Prop where
  hi : Ints H d
  hl : H l = some (.lst (ws.map V.str))
  ne : l ≠ d
  nine : ws.length = 9
  ok : Words ws
theorem Drw.go {H H' : Hp} {d l : Addr} {ws : List Str} (h : Drw H d l ws) (b : But d H H') (i : Ints H' d) : Drw H' d l ws := ⟨i, b l _ h.ne h.hl, h.ne, h.nine, h.ok⟩
theorem Drw.same {H H' : Hp} {d l : Addr} {ws : List Str} (h : Drw H d l ws) (b : Same H H') : Drw H' d l ws := ⟨h.hi.same b, b l _ h.hl, h.ne, h.nine, h.ok⟩
theorem Drw.word {H : Hp} {d l : Addr} {ws : List Str} (h : Drw H d l ws) {c : Int} (h0 : 0 ≤ c) (h9 : c < 9) : ∃ x, atI (ws.map V.str) c = some (.str x) ∧ x ∈ ws := by
  have h3 : c.toNat < ws.length := by rw [h.nine]; omega
  have g := List.getElem?_eq_getElem h3
  generalize ws[c.toNat] = x at g
  exact ⟨x, at_of (j := c.toNat) (by omega) (by rw [List.getElem?_map, g]; rfl), List.mem_of_getElem? g⟩
theorem z64 : (4 : Nat) ^ (2 + 1) = 64 := by decide
end

end K05
namespace K05
open PySem PySem.Spec PyProof.Rows L2 Own HT
section
variable {P : Program} {w : World} {K : PySem.W.Frag} {mg : Str → Option Value} {base : Heap}
/-! ### _law_atom -/
def spAtom : Sp := fun vs H Q _ => ∃ (d l : Addr) (ws : List Str), vs = [.ref d, .ref l] ∧ Drw H d l ws ∧ ∀ v t H', But d H H' → Drw H' d l ws → TmAt H' v t → fmTer t → Q v H'
theorem sc_law_atom : FnScope ["draws", "words", "kind", "k"] ["draws", "words"] (defScope s__law_atom) := ⟨rfl, rfl, rfl, by decide +kernel, rfl, by decide +kernel, by decide +kernel⟩
theorem ok_law_atom {f fT fM fN : Addr} {fd dT dM dN : FuncData} (D : Df K mg "_law_atom" s__law_atom ["draws", "words"] f fd) (DT : Df K mg "_law_take" s__law_take ["draws", "bound"] fT dT) (GT : FnOk P w K mg base CX0 1 fT dT ["draws", "bound"] spTake)
    (DM : Df K mg "_law_term" s__law_term ["draws", "words", "depth"] fM dM) (GM : FnOk P w K mg base CX0 7 fM dM ["draws", "words", "depth"] (spTerm 5)) (DN : Df K mg "_law_named" s__law_named ["term"] fN dN) (GN : FnOk P w K mg base CX0 7 fN dN ["term"] (spNamed 7))
    (mr : mg "range" = none) (mt : mg "tuple" = none) : FnOk P w K mg base CX0 8 f fd ["draws", "words"] spAtom := by
  refine D.F.ok sc_law_atom (fun vs H Q E h => ?_) (fun cdv A outer s H vs Q E hr h => ?_)
  · obtain ⟨d, l, ws, rfl, _⟩ := h; rfl
  obtain ⟨d, l, ws, rfl, hD, q⟩ := h
  have nd := sc_law_atom.nd
  have r1 : Room 1 _ := hr.mono (by decide)
  refine ⟨_, pss_cons (ps_set (i := 2) nd rfl (.inl rfl) (pe_call GT r1 (by rfl) DT.m DT.F.kp DT.b .nil pass0 (pa_cons (pv 0) (pa_cons pe_int pa_nil))))
    (pss_one (ps_ret (pe_op op_catT (pe_tup (pa_cons (pe_ix ix_list (pv 1) (pe_op op_add pe_int (pv 2)) (fun _ _ => rfl)) pa_nil)) (pe_callTy call_tuple_of (by rfl) mt (by decide +kernel) (pa_cons
      (pe_lc (own := [("k", 3)]) (g := gName 3) (tt := tYes) (te := tCall (spNamed 7) [] E0 (tCons (tCall (spTerm 5) [] E0 (tCons (tVar 0) (tCons (tVar 1) (tCons (tC (.int 2)) tNil)))) tNil)) rfl nd (pi_range1 (by rfl) mr (pa_cons (pv 2) pa_nil)) (blkOk_by (N := ["draws", "words", "kind", "k"]) (sc := defScope s__law_atom) (by decide +kernel))
        (fun _ _ _ _ _ => pg_name (i := 3) nd rfl (Or.inl rfl)) (fun _ _ _ _ _ => pts_nil) (fun _ _ _ _ _ => pe_call GN hr (by rfl) DN.m DN.F.kp DN.b .nil pass0 (pa_cons (pe_call GM hr (by rfl) DM.m DM.F.kp DM.b .nil pass0 (pa_cons (pv 0) (pa_cons (pv 1) (pa_cons pe_int pa_nil)))) pa_nil))) pa_nil))))), ?_⟩
  refine ⟨_, rfl, d, 3, rfl, hD.hi, by decide, fun r H1 r0 r3 b1 hI1 => ?_⟩
  have hD1 := hD.go b1 hI1
  obtain ⟨x, hx, hm⟩ := hD1.word (c := 6 + r) (by omega) (by omega)
  refine ⟨_, rfl, _, rfl, _, _, rfl, rfl, l, _, _, _, rfl, rfl, .inl (.inl hD1.hl), hx, by show 1 ≤ sizeLine; decide, fun p1 np1 => ?_⟩
  have s1 := same_new np1 (.tup [.str x])
  have hD2 := hD1.same s1
  refine ⟨_, rfl, r, rfl, by omega, by omega, fun c nc => ?_⟩
  have cd : c ≠ d := hD2.hi.ne nc
  have np1d : p1 ≠ d := hD1.hi.ne np1
  refine lc_range (lo := 0) (n := r.toNat) (fun i H3 => ∃ acc ts, But d (upd H1 p1 (.tup [.str x])) H3 ∧ Drw H3 d l ws ∧ H3 c = some (.lst acc) ∧ TmAll H3 acc ts ∧ ts.length = i ∧ Ter.wfs (symOf ws) nameVar ts ∧ Ter.sizes ts ≤ i * 64 ∧ Ter.nests ts ≤ 3) ⟨[], [], (same_new nc _).but, hD2.same (same_new nc _), upd_same, .nil, rfl, trivial, Nat.zero_le _, Nat.zero_le _⟩ (fun i H3 hi h => ?_) (fun H3 h => ?_)
  · obtain ⟨acc, ts, b3, hD3, ec, ha, lt, hw, hs, hn⟩ := h
    refine ⟨rfl, ?_⟩
    refine ⟨_, rfl, _, rfl, d, l, ws, 2, rfl, hD3.hi, hD3.hl, hD3.ne, by rw [hD3.nine]; decide, by decide, fun v t H4 b4 hI4 hv hwf hsz hne => ?_⟩
    have hD4 := hD3.go b4 hI4
    rw [z64] at hsz
    refine ⟨v, t, _, rfl, hv, hwf, by omega, by omega, fun v' t' H5 s5 hv' hw' e1 e2 => ?_⟩
    have ec5 := s5 _ _ (b4 c _ cd ec)
    have la := ha.len
    have b6 : But c H5 (upd H5 c (.lst (acc ++ [v']))) := But.upd
    have m6 := b6.tups ec5
    have m4 := b4.tupsI hD3.hi
    refine ⟨acc, ec5, Nat.lt_of_le_of_lt (show acc.length ≤ 100 by omega) (by decide), acc ++ [v'], ts ++ [t'], fun b o nb e => ?_, ?_, upd_same, (TmAll.mono ((m4.trans s5.tups).trans m6) _ _ ha).app (.cons (TmAt.mono m6 _ _ hv') .nil), by rw [List.length_append, List.length_singleton, lt], wfs_app hw ⟨hw', trivial⟩, ?_, ?_⟩
    · rw [upd_ne (ne_of_none e nc)]
      exact s5 _ _ (b4 b o nb (b3 b o nb e))
    · have hD5 := hD4.same s5
      exact ⟨hD5.hi.of_but b6 cd.symm, b6 l _ (fun z => by rw [z] at hD2; rw [hD2.hl] at nc; cases nc) hD5.hl, hD5.ne, hD5.nine, hD5.ok⟩
    · rw [sizes_snoc, Nat.succ_mul]; omega
    · rw [nests_snoc]; omega
  · obtain ⟨acc, ts, b3, hD3, ec, ha, lt, hw, hs, hn⟩ := h
    have la := ha.len
    have e1 : H3 p1 = some (.tup [.str x]) := b3 p1 _ np1d upd_same
    have bb : But d H H3 := b1.trans (s1.but.trans b3)
    refine ⟨c, acc, rfl, .inl ⟨.inl (.inl ec), fun p2 np2 => ?_⟩⟩
    have s2 := same_new np2 (.tup acc)
    have z : Ter.sizes ts ≤ 128 := Nat.le_trans hs (by have : r.toNat * 64 ≤ 2 * 64 := Nat.mul_le_mul_right _ (by omega); omega)
    have fm : ∀ us, Ter.wfs (symOf ws) nameVar us → Ter.sizes us ≤ 128 → Ter.nests us ≤ 3 → fmTer (.ap x us) := fun us h1 h2 h3 =>
      ⟨⟨word_sh (n := us.length) hD3.ok hm, wfs_mono (sym_sh hD3.ok) name_sh _ h1⟩, by show Ter.nests us + 1 ≤ 60; omega, by show Ter.sizes us + 1 ≤ 200; omega⟩
    refine ⟨p1, p2, [.str x], acc, rfl, rfl, .inl (.inl (s2 _ _ e1)), .inl (.inl upd_same), by simp, small6 (by show 1 + acc.length ≤ _; omega), fun y => ?_, fun _ p3 np3 => ?_⟩
    · subst y
      exact q (.ref p1) (.ap x []) _ (bb.trans s2.but) (hD3.same s2) (.ap (s2 _ _ e1) .nil) (fm [] trivial (Nat.zero_le _) (Nat.zero_le _))
    · have s3 := same_new np3 (.tup ([.str x] ++ acc))
      exact q (.ref p3) (.ap x ts) _ (bb.trans (s2.trans s3).but) (hD3.same (s2.trans s3)) (.ap upd_same (TmAll.mono (s2.trans s3).tups _ _ ha)) (fm ts hw z hn)
/-! ### _law_literal -/
def spLit : Sp := fun vs H Q _ => ∃ (d l : Addr) (ws : List Str), vs = [.ref d, .ref l] ∧ Drw H d l ws ∧ ∀ (v : V) (x : Lit) (H' : Hp), But d H H' → Drw H' d l ws → LitAt H' v x → x.ok → Q v H'
theorem sc_law_literal : FnScope ["draws", "words", "positive", "kind", "arguments", "left", "k"] ["draws", "words"] (defScope s__law_literal) := ⟨rfl, rfl, rfl, by decide +kernel, rfl, by decide +kernel, by decide +kernel⟩
theorem ok_law_literal {f fT fM : Addr} {fd dT dM : FuncData} (D : Df K mg "_law_literal" s__law_literal ["draws", "words"] f fd) (DT : Df K mg "_law_take" s__law_take ["draws", "bound"] fT dT) (GT : FnOk P w K mg base CX0 1 fT dT ["draws", "bound"] spTake)
    (DM : Df K mg "_law_term" s__law_term ["draws", "words", "depth"] fM dM) (GM : FnOk P w K mg base CX0 7 fM dM ["draws", "words", "depth"] (spTerm 5)) (mr : mg "range" = none) (mt : mg "tuple" = none) : FnOk P w K mg base CX0 8 f fd ["draws", "words"] spLit := by
  refine D.F.ok sc_law_literal (fun vs H Q E h => ?_) (fun cdv A outer s H vs Q E hr h => ?_)
  · obtain ⟨d, l, ws, rfl, _⟩ := h; rfl
  obtain ⟨d, l, ws, rfl, hD, q⟩ := h
  have nd := sc_law_literal.nd
  have r1 : Room 1 _ := hr.mono (by decide)
  refine ⟨_, pss_cons (ps_set (i := 2) nd rfl (.inl rfl) (pe_cmpR op_eq (pe_call GT r1 (by rfl) DT.m DT.F.kp DT.b .nil pass0 (pa_cons (pv 0) (pa_cons pe_int pa_nil))) pe_int (nomark _)))
    (pss_cons (ps_set (i := 3) nd rfl (.inl rfl) (pe_call GT r1 (by rfl) DT.m DT.F.kp DT.b .nil pass0 (pa_cons (pv 0) (pa_cons pe_int pa_nil))))
    (pss_cons (ps_if (pt_cmpR op_lt (pv 3) pe_int (nomark _))
      (pss_cons (ps_setLc (i := 4) (own := [("k", 6)]) (g := gName 6) (tt := tYes) (te := tCall (spTerm 5) [] E0 (tCons (tVar 0) (tCons (tVar 1) (tCons (tC (.int 2)) tNil)))) rfl nd rfl rfl (sw_true rfl rfl rfl (by decide +kernel)) (pi_range1 (by rfl) mr (pa_cons (pv 3) pa_nil)) (blkOk_by (N := ["draws", "words", "positive", "kind", "arguments", "left", "k"]) (sc := defScope s__law_literal) (by decide +kernel))
        (fun _ _ _ _ _ => pg_name (i := 6) nd rfl (Or.inl rfl)) (fun _ _ _ _ _ => pts_nil) (fun _ _ _ _ _ => pe_call GM hr (by rfl) DM.m DM.F.kp DM.b .nil pass0 (pa_cons (pv 0) (pa_cons (pv 1) (pa_cons pe_int pa_nil)))))
      (pss_one (ps_ret (pe_tup (pa_cons (pv 2) (pa_cons (pe_op op_catT (pe_tup (pa_cons (pe_ix ix_list (pv 1) (pe_op op_add pe_int (pv 3)) (fun _ _ => rfl)) pa_nil)) (pe_callTy call_tuple_of (by rfl) mt (by decide +kernel) (pa_cons (pv 4) pa_nil))) (pa_cons (pe_tup (pa_cons pe_str pa_nil)) pa_nil))))))) pss_nil)
    (pss_cons (ps_if (PW.pt (pw_and (pt_cmpR op_eq (pv 3) pe_int (nomark _)) (pw_and1 (pt_cmpR op_eq (pe_call GT r1 (by rfl) DT.m DT.F.kp DT.b .nil pass0 (pa_cons (pv 0) (pa_cons pe_int pa_nil))) pe_int (nomark _)))))
      (pss_one (ps_ret (pe_tup (pa_cons (pv 2) (pa_cons (pe_tup (pa_cons pe_str pa_nil)) (pa_cons (pe_tup (pa_cons pe_str pa_nil)) pa_nil)))))) pss_nil)
    (pss_cons (ps_set (i := 5) nd rfl (.inl rfl) (pe_call GM hr (by rfl) DM.m DM.F.kp DM.b .nil pass0 (pa_cons (pv 0) (pa_cons (pv 1) (pa_cons pe_int pa_nil)))))
    (pss_one (ps_ret (pe_tup (pa_cons (pv 2) (pa_cons (pv 5) (pa_cons (pe_call GM hr (by rfl) DM.m DM.F.kp DM.b .nil pass0 (pa_cons (pv 0) (pa_cons (pv 1) (pa_cons pe_int pa_nil)))) pa_nil)))))))))), ?_⟩
  refine ⟨_, rfl, d, 2, rfl, hD.hi, by decide, fun r H1 _ _ b1 hI1 => ⟨rfl, ?_⟩⟩
  have hD1 := hD.go b1 hI1
  generalize hb : decide (V.int r = V.int 1) = b
  refine ⟨_, rfl, d, 8, rfl, hD1.hi, by decide, fun c H2 c0 c8 b2 hI2 => ?_⟩
  have hD2 := hD1.go b2 hI2
  have bH := b1.trans b2
  have tru : ∀ {H : Hp} {p : Addr}, H p = some (.tup [.str "true"]) → TmAt H (.ref p) trueT := fun e => .ap e .nil
  have fine : ∀ {t : Ter}, t.wf (symOf ws) numVar → t.wf shSym shKey := fun h => wf_mono (sym_sh hD.ok) num_sh _ h
  refine ⟨_, rfl, _, _, rfl, rfl, _, rfl, ite2 (fun y => ?_) (fun y => ?_)⟩
  · have y := of_decide_eq_true y
    obtain ⟨x, hx, hm⟩ := hD2.word (c := 6 + c) (by omega) (by omega)
    refine ⟨_, rfl, c, rfl, by omega, by omega, fun k nk => ?_⟩
    have kd : k ≠ d := hD2.hi.ne nk
    refine lc_range (lo := 0) (n := c.toNat) (fun i H3 => ∃ acc ts, But d H2 H3 ∧ Drw H3 d l ws ∧ H3 k = some (.lst acc) ∧ TmAll H3 acc ts ∧ ts.length = i ∧ Ter.wfs (symOf ws) numVar ts ∧ Ter.sizes ts ≤ i * 64 ∧ Ter.nests ts ≤ 3) ⟨[], [], (same_new nk _).but, hD2.same (same_new nk _), upd_same, .nil, rfl, trivial, Nat.zero_le _, Nat.zero_le _⟩ (fun i H3 hi h => ?_) (fun H3 h => ?_)
    · obtain ⟨acc, ts, b3, hD3, ec, ha, lt, hw, hs, hn⟩ := h
      refine ⟨rfl, ?_⟩
      refine ⟨_, rfl, _, rfl, d, l, ws, 2, rfl, hD3.hi, hD3.hl, hD3.ne, by rw [hD3.nine]; decide, by decide, fun v t H4 b4 hI4 hv hwf hsz hne => ?_⟩
      have hD4 := hD3.go b4 hI4
      rw [z64] at hsz
      have ec4 := b4 k _ kd ec
      have la := ha.len
      have b6 : But k H4 (upd H4 k (.lst (acc ++ [v]))) := But.upd
      have m6 := b6.tups ec4
      have m4 := b4.tupsI hD3.hi
      refine ⟨acc, ec4, Nat.lt_of_le_of_lt (show acc.length ≤ 100 by omega) (by decide), acc ++ [v], ts ++ [t], fun b o nb e => ?_, ?_, upd_same, (TmAll.mono (m4.trans m6) _ _ ha).app (.cons (TmAt.mono m6 _ _ hv) .nil), by rw [List.length_append, List.length_singleton, lt], wfs_app hw ⟨hwf, trivial⟩, ?_, ?_⟩
      · rw [upd_ne (ne_of_none e nk)]
        exact b4 b o nb (b3 b o nb e)
      · exact ⟨hD4.hi.of_but b6 kd.symm, b6 l _ (fun z => by rw [z] at hD2; rw [hD2.hl] at nk; cases nk) hD4.hl, hD4.ne, hD4.nine, hD4.ok⟩
      · rw [sizes_snoc, Nat.succ_mul]; omega
      · rw [nests_snoc]; omega
    · obtain ⟨acc, ts, b3, hD3, ec, ha, lt, hw, hs, hn⟩ := h
      have la := ha.len
      have z : Ter.sizes ts ≤ 128 := Nat.le_trans hs (by have : c.toNat * 64 ≤ 2 * 64 := Nat.mul_le_mul_right _ (by omega); omega)
      refine ⟨_, rfl, _, rfl, _, rfl, _, _, rfl, rfl, l, _, _, _, rfl, rfl, .inl (.inl hD3.hl), hx, by show 1 ≤ sizeLine; decide, fun p1 np1 => ?_⟩
      have s1 := same_new np1 (.tup [.str x])
      refine ⟨_, rfl, k, acc, rfl, .inl ⟨.inl (.inl (s1 _ _ ec)), fun p2 np2 => ?_⟩⟩
      have s2 := same_new np2 (.tup acc)
      have ok3 : ∀ us, Ter.wfs (symOf ws) numVar us → Ter.sizes us ≤ 128 → Ter.nests us ≤ 3 → Lit.ok (b, Ter.ap x us, trueT) := fun us h1 h2 h3 =>
        ⟨⟨word_sh (n := us.length) hD3.ok hm, wfs_mono (sym_sh hD3.ok) num_sh _ h1⟩, true_sh, by show Ter.nests us + 1 ≤ 60; omega, by show 0 + 1 ≤ 60; decide, by show Ter.sizes us + 1 ≤ 1000; omega, by show 0 + 1 ≤ 1000; decide⟩
      refine ⟨p1, p2, [.str x], acc, rfl, rfl, .inl (.inl (s2 _ _ upd_same)), .inl (.inl upd_same), by simp, small6 (by show 1 + acc.length ≤ _; omega), fun y => ?_, fun _ p3 np3 => ?_⟩
      · refine ⟨by show 1 ≤ sizeLine; decide, fun p4 np4 => ⟨by show 3 ≤ sizeLine; decide, fun p5 np5 => ?_⟩⟩
        have s4 := same_new np4 (.tup [.str "true"])
        have s5 := same_new np5 (.tup [.bl b, .ref p1, .ref p4])
        subst y
        have sa := (s1.trans s2).trans (s4.trans s5)
        exact q (.ref p5) (b, .ap x [], trueT) _ (bH.trans (b3.trans sa.but)) (hD3.same sa) (.mk upd_same (.ap (s5 _ _ (s4 _ _ (s2 _ _ upd_same))) .nil) (tru (s5 _ _ upd_same))) (ok3 [] trivial (Nat.zero_le _) (Nat.zero_le _))
      · refine ⟨by show 1 ≤ sizeLine; decide, fun p4 np4 => ⟨by show 3 ≤ sizeLine; decide, fun p5 np5 => ?_⟩⟩
        have s3 := same_new np3 (.tup ([.str x] ++ acc))
        have s4 := same_new np4 (.tup [.str "true"])
        have s5 := same_new np5 (.tup [.bl b, .ref p3, .ref p4])
        have sb := (s1.trans s2).trans (s3.trans (s4.trans s5))
        exact q (.ref p5) (b, .ap x ts, trueT) _ (bH.trans (b3.trans sb.but)) (hD3.same sb) (.mk upd_same (.ap (s5 _ _ (s4 _ _ upd_same)) (TmAll.mono sb.tups _ _ ha)) (tru (s5 _ _ upd_same))) (ok3 ts hw z hn)
  · have last : ∀ H3, But d H2 H3 → Drw H3 d l ws → tSeq (tAsg (tCall (spTerm 5) [] E0 (tCons (tVar 0) (tCons (tVar 1) (tCons (tC (.int 2)) tNil)))) (gName 5))
        (tRet (tTup (tCons (tVar 2) (tCons (tVar 5) (tCons (tCall (spTerm 5) [] E0 (tCons (tVar 0) (tCons (tVar 1) (tCons (tC (.int 2)) tNil)))) tNil))))) { nx := fun _ H' => Q .non H', rt := Q } [some (.ref d), some (.ref l), some (.bl b), some (.int c), none, none, none] H3 := fun H3 b3 hD3 => by
      refine ⟨_, rfl, _, rfl, d, l, ws, 2, rfl, hD3.hi, hD3.hl, hD3.ne, by rw [hD3.nine]; decide, by decide, fun v t H4 b4 hI4 hv hwf hsz hne => ?_⟩
      have hD4 := hD3.go b4 hI4
      refine ⟨_, rfl, _, rfl, _, rfl, _, rfl, d, l, ws, 2, rfl, hD4.hi, hD4.hl, hD4.ne, by rw [hD4.nine]; decide, by decide, fun v2 t2 H5 b5 hI5 hv2 hwf2 hsz2 hne2 => ?_⟩
      have hD5 := hD4.go b5 hI5
      rw [z64] at hsz hsz2
      refine ⟨by show 3 ≤ sizeLine; decide, fun p np => ?_⟩
      have s6 := same_new np (.tup [.bl b, v, v2])
      exact q (.ref p) (b, t, t2) _ (bH.trans (b3.trans (b4.trans (b5.trans s6.but)))) (hD5.same s6) (.mk upd_same (TmAt.mono ((b5.tupsI hD4.hi).trans s6.tups) _ _ hv) (TmAt.mono s6.tups _ _ hv2)) ⟨fine hwf, fine hwf2, by show t.nest ≤ 60; omega, by show t2.nest ≤ 60; omega, by show t.size ≤ 1000; omega, by show t2.size ≤ 1000; omega⟩
    refine ⟨_, rfl, rfl, _, rfl, ite2 (fun _ => ?_) (fun _ => last H2 (But.refl d H2) hD2)⟩
    refine ⟨_, rfl, d, 4, rfl, hD2.hi, by decide, fun g H3 _ _ b3 hI3 => ?_⟩
    have hD3 := hD2.go b3 hI3
    refine ⟨rfl, _, rfl, ite2 (fun _ => ?_) (fun _ => last H3 b3 hD3)⟩
    refine ⟨_, rfl, by show 1 ≤ sizeLine; decide, fun p1 np1 => ⟨by show 1 ≤ sizeLine; decide, fun p2 np2 => ⟨by show 3 ≤ sizeLine; decide, fun p3 np3 => ?_⟩⟩⟩
    have s1 := same_new np1 (.tup [.str "true"])
    have s2 := same_new np2 (.tup [.str "true"])
    have s3 := same_new np3 (.tup [.bl b, .ref p1, .ref p2])
    have sa := s1.trans (s2.trans s3)
    exact q (.ref p3) (b, trueT, trueT) _ (bH.trans (b3.trans sa.but)) (hD3.same sa) (.mk upd_same (tru (s3 _ _ (s2 _ _ upd_same))) (tru (s3 _ _ upd_same))) ⟨true_sh, true_sh, by show 0 + 1 ≤ 60; decide, by show 0 + 1 ≤ 60; decide, by show 0 + 1 ≤ 1000; decide, by show 0 + 1 ≤ 1000; decide⟩
/-! ### _law_clause -/
def spClause : Sp := fun vs H Q _ => ∃ (d l : Addr) (ws : List Str), vs = [.ref d, .ref l, .int 5] ∧ Drw H d l ws ∧ ∀ (p : Addr) (xs : List V) (c : List Lit) (H' : Hp), But d H H' → Drw H' d l ws → H' p = some (.tup xs) → LitAll H' xs c → c.length ≤ 5 → (∀ x ∈ c, x.ok) → Q (.ref p) H'
theorem sc_law_clause : FnScope ["draws", "words", "most", "k"] ["draws", "words", "most"] (defScope s__law_clause) := ⟨rfl, rfl, rfl, by decide +kernel, rfl, by decide +kernel, by decide +kernel⟩
theorem ok_law_clause {f fT fL : Addr} {fd dT dL : FuncData} (D : Df K mg "_law_clause" s__law_clause ["draws", "words", "most"] f fd) (DT : Df K mg "_law_take" s__law_take ["draws", "bound"] fT dT) (GT : FnOk P w K mg base CX0 1 fT dT ["draws", "bound"] spTake)
    (DL : Df K mg "_law_literal" s__law_literal ["draws", "words"] fL dL) (GL : FnOk P w K mg base CX0 8 fL dL ["draws", "words"] spLit) (mr : mg "range" = none) (mt : mg "tuple" = none) : FnOk P w K mg base CX0 9 f fd ["draws", "words", "most"] spClause := by
  refine D.F.ok sc_law_clause (fun vs H Q E h => ?_) (fun cdv A outer s H vs Q E hr h => ?_)
  · obtain ⟨d, l, ws, rfl, _⟩ := h; rfl
  obtain ⟨d, l, ws, rfl, hD, q⟩ := h
  have nd := sc_law_clause.nd
  have r1 : Room 1 _ := hr.mono (by decide)
  refine ⟨_, pss_one (ps_ret (pe_callTy call_tuple_of (by rfl) mt (by decide +kernel) (pa_cons
      (pe_lc (own := [("k", 3)]) (g := gName 3) (tt := tYes) (te := tCall spLit [] E0 (tCons (tVar 0) (tCons (tVar 1) tNil))) rfl nd (pi_range1 (by rfl) mr (pa_cons (pe_call GT r1 (by rfl) DT.m DT.F.kp DT.b .nil pass0 (pa_cons (pv 0) (pa_cons (pe_op op_add (pv 2) pe_int) pa_nil))) pa_nil)) (blkOk_by (N := ["draws", "words", "most", "k"]) (sc := defScope s__law_clause) (by decide +kernel))
        (fun _ _ _ _ _ => pg_name (i := 3) nd rfl (Or.inl rfl)) (fun _ _ _ _ _ => pts_nil) (fun _ _ _ _ _ => pe_call GL hr (by rfl) DL.m DL.F.kp DL.b .nil pass0 (pa_cons (pv 0) (pa_cons (pv 1) pa_nil)))) pa_nil))), ?_⟩
  refine ⟨_, rfl, _, rfl, _, _, rfl, rfl, d, 6, rfl, hD.hi, by decide, fun r H1 r0 r6 b1 hI1 => ?_⟩
  have hD1 := hD.go b1 hI1
  refine ⟨r, rfl, by omega, by omega, fun k nk => ?_⟩
  have kd : k ≠ d := hD1.hi.ne nk
  refine lc_range (lo := 0) (n := r.toNat) (fun i H3 => ∃ acc c, But d H1 H3 ∧ Drw H3 d l ws ∧ H3 k = some (.lst acc) ∧ LitAll H3 acc c ∧ c.length = i ∧ (∀ x ∈ c, x.ok)) ⟨[], [], (same_new nk _).but, hD1.same (same_new nk _), upd_same, .nil, rfl, fun _ h => by cases h⟩ (fun i H3 hi h => ?_) (fun H3 h => ?_)
  · obtain ⟨acc, c, b3, hD3, ec, ha, lc, ok⟩ := h
    refine ⟨rfl, ?_⟩
    refine ⟨_, rfl, _, rfl, d, l, ws, rfl, hD3, fun v x H4 b4 hD4 hv hx => ?_⟩
    have ec4 := b4 k _ kd ec
    have la := ha.len
    have b6 : But k H4 (upd H4 k (.lst (acc ++ [v]))) := But.upd
    have m6 := b6.tups ec4
    have m4 := b4.tupsI hD3.hi
    refine ⟨acc, ec4, Nat.lt_of_le_of_lt (show acc.length ≤ 100 by omega) (by decide), acc ++ [v], c ++ [x], fun b o nb e => ?_, ?_, upd_same, (ha.mono (m4.trans m6)).app (.cons (hv.mono m6) .nil), by rw [List.length_append, List.length_singleton, lc], fun y hy => ?_⟩
    · rw [upd_ne (ne_of_none e nk)]
      exact b4 b o nb (b3 b o nb e)
    · exact ⟨hD4.hi.of_but b6 kd.symm, b6 l _ (fun z => by rw [z] at hD1; rw [hD1.hl] at nk; cases nk) hD4.hl, hD4.ne, hD4.nine, hD4.ok⟩
    · rcases List.mem_append.mp hy with hy | hy
      · exact ok y hy
      · rw [List.mem_singleton.mp hy]; exact hx
  · obtain ⟨acc, c, b3, hD3, ec, ha, lc, ok⟩ := h
    refine ⟨k, acc, rfl, .inl ⟨.inl (.inl ec), fun p np => ?_⟩⟩
    have s2 := same_new np (.tup acc)
    exact q p acc c _ (b1.trans (b3.trans s2.but)) (hD3.same s2) upd_same (ha.mono s2.tups) (by omega) ok
end

end K05
namespace K05
open PySem PySem.Spec PyProof.Rows L2 Own HT
section
variable {P : Program} {w : World} {K : PySem.W.Frag} {mg : Str → Option Value} {base : Heap}
/-! ### _law_formula -/
def spForm (n : Nat) : Sp := fun vs H Q _ => ∃ (d l : Addr) (ws : List Str) (k : Nat), vs = [.ref d, .ref l, .int k] ∧ Drw H d l ws ∧ k < n ∧ ∀ (v : V) (f : Fm) (H' : Hp), But d H H' → Drw H' d l ws → TmAt H' v f.ter → f.all fmTer fmStr → f.high ≤ k + 1 → Q v H'
theorem sc_law_formula : FnScope ["draws", "words", "depth", "kind", "left", "name", "first"] ["draws", "words", "depth"] (defScope s__law_formula) := ⟨rfl, rfl, rfl, by decide +kernel, rfl, by decide +kernel, by decide +kernel⟩
theorem op_at {c : Int} (h8 : 8 ≤ c) (h12 : c < 12) : ∃ o : Op, atI [V.str "and", V.str "or", V.str "implies", V.str "iff"] (c - 8) = some (.str o.word) := by
  have h : c = 8 ∨ c = 9 ∨ c = 10 ∨ c = 11 := by omega
  rcases h with rfl | rfl | rfl | rfl
  · exact ⟨.and, atI_nat (j := 0) rfl⟩
  · exact ⟨.or, atI_nat (j := 1) rfl⟩
  · exact ⟨.imp, atI_nat (j := 2) rfl⟩
  · exact ⟨.iff, atI_nat (j := 3) rfl⟩
theorem qu_at {c : Int} (h6 : 6 ≤ c) (h8 : c < 8) : ∃ b : Bool, atI [V.str "all", V.str "some"] (c - 6) = some (.str (qWord b)) := by
  have h : c = 6 ∨ c = 7 := by omega
  rcases h with rfl | rfl
  · exact ⟨true, atI_nat (j := 0) rfl⟩
  · exact ⟨false, atI_nat (j := 1) rfl⟩
theorem tt_at {c : Int} (h6 : 0 ≤ c) (h8 : c < 2) : ∃ b : Bool, atI [V.str "true", V.str "false"] c = some (.str (if b = true then "true" else "false")) := by
  have h : c = 0 ∨ c = 1 := by omega
  rcases h with rfl | rfl
  · exact ⟨true, atI_nat (j := 0) rfl⟩
  · exact ⟨false, atI_nat (j := 1) rfl⟩
theorem name_at {c : Int} (h6 : 0 ≤ c) (h8 : c < 5) : ∃ x, atI (NAMES5.map V.str) c = some (.str x) ∧ x.length ≤ 40 := by
  have h3 : c.toNat < NAMES5.length := by show _ < 5; omega
  have g := List.getElem?_eq_getElem h3
  generalize NAMES5[c.toNat] = x at g
  have a : ∀ x ∈ NAMES5, x.length ≤ 40 := by decide +kernel
  exact ⟨x, at_of (j := c.toNat) (by omega) (by rw [List.getElem?_map, g]; rfl), a x (List.mem_of_getElem? g)⟩
theorem ok_law_formula1 {f fT fM fN fA : Addr} {fd dT dM dN dA : FuncData} (D : Df K mg "_law_formula" s__law_formula ["draws", "words", "depth"] f fd) (DT : Df K mg "_law_take" s__law_take ["draws", "bound"] fT dT) (GT : FnOk P w K mg base CX0 1 fT dT ["draws", "bound"] spTake)
    (DM : Df K mg "_law_term" s__law_term ["draws", "words", "depth"] fM dM) (GM : FnOk P w K mg base CX0 7 fM dM ["draws", "words", "depth"] (spTerm 5)) (DN : Df K mg "_law_named" s__law_named ["term"] fN dN) (GN : FnOk P w K mg base CX0 7 fN dN ["term"] (spNamed 7)) (DA : Df K mg "_law_atom" s__law_atom ["draws", "words"] fA dA) (GA : FnOk P w K mg base CX0 8 fA dA ["draws", "words"] spAtom)
    (mint : mg "int" = none) {n : Nat} (G : FnOk P w K mg base CX0 (n + 8) f fd ["draws", "words", "depth"] (spForm n)) : FnOk P w K mg base CX0 (n + 8 + 1) f fd ["draws", "words", "depth"] (spForm (n + 1)) := by
  refine D.F.ok sc_law_formula (fun vs H Q E h => ?_) (fun cdv A outer s H vs Q E hr h => ?_)
  · obtain ⟨d, l, ws, k, rfl, _⟩ := h; rfl
  obtain ⟨d, l, ws, k, rfl, hD, hk, q⟩ := h
  have nd := sc_law_formula.nd
  have r1 : Room 1 _ := hr.mono (by omega)
  have r7 : Room 7 _ := hr.mono (by omega)
  have r8 : Room 8 _ := hr.mono (by omega)
  refine ⟨_, pss_cons (ps_set (i := 3) nd rfl (.inl rfl) (pe_call GT r1 (by rfl) DT.m DT.F.kp DT.b .nil pass0 (pa_cons (pv 0) (pa_cons pe_int pa_nil))))
    (C8.pss_cut (ps_if (pt_cmpR op_eq (pv 2) pe_int (nomark _)) (pss_one (ps_set (i := 3) nd rfl (.inl rfl) (pe_op op_mod (pe_callTy call_int1 (by rfl) mint (by decide +kernel) (pa_cons (pv 3) pa_nil)) pe_int))) pss_nil)
    (pss_cons (ps_if (pt_cmpR op_eq (pv 3) pe_int (nomark _)) (pss_one (ps_ret (pe_tup (pa_cons (pe_ix ix_list (pe_lst (pa_cons pe_str (pa_cons pe_str pa_nil))) (pe_call GT r1 (by rfl) DT.m DT.F.kp DT.b .nil pass0 (pa_cons (pv 0) (pa_cons pe_int pa_nil))) (fun _ _ => rfl)) pa_nil)))) pss_nil)
    (pss_cons (ps_if (pt_cmpR op_lt (pv 3) pe_int (nomark _))
      (pss_cons (ps_set (i := 4) nd rfl (.inl rfl) (pe_call GN r7 (by rfl) DN.m DN.F.kp DN.b .nil pass0 (pa_cons (pe_call GM r7 (by rfl) DM.m DM.F.kp DM.b .nil pass0 (pa_cons (pv 0) (pa_cons (pv 1) (pa_cons pe_int pa_nil)))) pa_nil)))
      (pss_one (ps_ret (pe_tup (pa_cons pe_str (pa_cons (pv 4) (pa_cons (pe_call GN r7 (by rfl) DN.m DN.F.kp DN.b .nil pass0 (pa_cons (pe_call GM r7 (by rfl) DM.m DM.F.kp DM.b .nil pass0 (pa_cons (pv 0) (pa_cons (pv 1) (pa_cons pe_int pa_nil)))) pa_nil)) pa_nil))))))) pss_nil)
    (pss_cons (ps_if (pt_cmpR op_eq (pv 3) pe_int (nomark _)) (pss_one (ps_ret (pe_tup (pa_cons pe_str (pa_cons (pe_call GA r8 (by rfl) DA.m DA.F.kp DA.b .nil pass0 (pa_cons (pv 0) (pa_cons (pv 1) pa_nil))) (pa_cons (pe_tup (pa_cons pe_str pa_nil)) pa_nil)))))) pss_nil)
    (pss_cons (ps_if (pt_cmpR op_lt (pv 3) pe_int (nomark _)) (pss_one (ps_ret (pe_tup (pa_cons pe_str (pa_cons (pe_call G hr (by rfl) D.m D.F.kp D.b .nil pass0 (pa_cons (pv 0) (pa_cons (pv 1) (pa_cons (pe_op op_sub (pv 2) pe_int) pa_nil)))) pa_nil))))) pss_nil)
    (pss_cons (ps_if (pt_cmpR op_lt (pv 3) pe_int (nomark _))
      (pss_cons (ps_set (i := 5) nd rfl (.inl rfl) (pe_ix ix_list (pe_lst (pa_cons pe_str (pa_cons pe_str (pa_cons pe_str (pa_cons pe_str (pa_cons pe_str pa_nil)))))) (pe_call GT r1 (by rfl) DT.m DT.F.kp DT.b .nil pass0 (pa_cons (pv 0) (pa_cons pe_int pa_nil))) (fun _ _ => rfl)))
      (pss_one (ps_ret (pe_tup (pa_cons (pe_ix ix_list (pe_lst (pa_cons pe_str (pa_cons pe_str pa_nil))) (pe_op op_sub (pv 3) pe_int) (fun _ _ => rfl)) (pa_cons (pv 5) (pa_cons (pe_call G hr (by rfl) D.m D.F.kp D.b .nil pass0 (pa_cons (pv 0) (pa_cons (pv 1) (pa_cons (pe_op op_sub (pv 2) pe_int) pa_nil)))) pa_nil))))))) pss_nil)
    (pss_cons (ps_set (i := 6) nd rfl (.inl rfl) (pe_call G hr (by rfl) D.m D.F.kp D.b .nil pass0 (pa_cons (pv 0) (pa_cons (pv 1) (pa_cons (pe_op op_sub (pv 2) pe_int) pa_nil)))))
    (pss_one (ps_ret (pe_tup (pa_cons (pe_ix ix_list (pe_lst (pa_cons pe_str (pa_cons pe_str (pa_cons pe_str (pa_cons pe_str pa_nil))))) (pe_op op_sub (pv 3) pe_int) (fun _ _ => rfl)) (pa_cons (pv 6) (pa_cons (pe_call G hr (by rfl) D.m D.F.kp D.b .nil pass0 (pa_cons (pv 0) (pa_cons (pv 1) (pa_cons (pe_op op_sub (pv 2) pe_int) pa_nil)))) pa_nil))))))))))))), ?_⟩
  refine ⟨_, rfl, d, 12, rfl, hD.hi, by decide, fun r H1 r0 r12 b1 hI1 => ?_⟩
  have hD1 := hD.go b1 hI1
  have dep : ∀ {k : Nat}, 1 ≤ k → [V.ref d, V.ref l, V.int ((k : Int) - 1)] = [V.ref d, V.ref l, V.int ((k - 1 : Nat) : Int)] := fun {k} h => by rw [show ((k : Nat) : Int) - 1 = ((k - 1 : Nat) : Int) by omega]
  have nine6 : ∀ {H : Hp}, Drw H d l ws → 6 ≤ ws.length := fun h => by rw [h.nine]; decide
  -- a term with names
  have term : ∀ (Q' : VK) (H2 : Hp), Drw H2 d l ws → (∀ v t H3, But d H2 H3 → Drw H3 d l ws → TmAt H3 v t → fmTer t → Q' v H3) → spTerm 5 [.ref d, .ref l, .int ((2 : Nat) : Int)] H2 (fun v H3 => spNamed 7 [v] H3 Q' E0) E0 := fun Q' H2 hD2 h => by
    refine ⟨d, l, ws, 2, rfl, hD2.hi, hD2.hl, hD2.ne, nine6 hD2, by decide, fun v t H4 b4 hI4 hv hwf hsz hne => ?_⟩
    have hD4 := hD2.go b4 hI4
    rw [z64] at hsz
    refine ⟨v, t, _, rfl, hv, hwf, by omega, by omega, fun v' t' H5 s5 hv' hw' e1 e2 => ?_⟩
    exact h v' t' H5 (b4.trans s5.but) (hD4.same s5) hv' ⟨wf_mono (sym_sh hD4.ok) name_sh _ hw', by omega, by omega⟩
  refine ⟨fun σ H2 => H2 = H1 ∧ ∃ c : Int, σ = [some (.ref d), some (.ref l), some (.int k), some (.int c), none, none, none] ∧ 0 ≤ c ∧ c < 12 ∧ (k = 0 → c ≤ 3), ?_, fun σ H2 h => ?_⟩
  · refine ⟨_, rfl, rfl, _, rfl, ite2 (fun c => ?_) (fun c => ?_)⟩
    · refine ⟨_, rfl, .inl ⟨r, rfl, _, _, rfl, rfl, (by show (0 : Int) < 4; decide), rfl, r % 4, rfl, Int.emod_nonneg _ (by decide), by have := Int.emod_lt_of_pos r (show (0 : Int) < 4 by decide); omega, fun _ => by have := Int.emod_lt_of_pos r (show (0 : Int) < 4 by decide); omega⟩⟩
    · have ck : ¬ (k : Int) = 0 := fun z => c (decide_eq_true (congrArg V.int z))
      exact ⟨rfl, r, rfl, r0, r12, fun z => absurd (by omega) ck⟩
  obtain ⟨rfl, c, rfl, c0, c12, ck⟩ := h
  refine ⟨_, rfl, rfl, _, rfl, ite2 (fun z => ?_) (fun z => ?_)⟩
  · refine ⟨by show 2 ≤ sizeLine; decide, fun a na => ?_⟩
    have s2 := same_new na (.lst [.str "true", .str "false"])
    have hD2 := hD1.same s2
    have ad : a ≠ d := hD1.hi.ne na
    refine ⟨_, rfl, d, 2, rfl, hD2.hi, by decide, fun g H3 g0 g2 b3 hI3 => ?_⟩
    obtain ⟨b, hb⟩ := tt_at g0 g2
    refine ⟨a, _, g, _, rfl, rfl, .inl (.inl (b3 a _ ad upd_same)), hb, by show 1 ≤ sizeLine; decide, fun p np => ?_⟩
    have s4 := same_new np (.tup [.str (if b = true then "true" else "false")])
    exact q (.ref p) (.tt b) _ (b1.trans (s2.but.trans (b3.trans s4.but))) ((hD2.go b3 hI3).same s4) (.ap upd_same .nil) trivial (by show 1 ≤ _; omega)
  have z : ¬ c = 0 := fun y => z (decide_eq_true (congrArg V.int y))
  refine ⟨_, rfl, _, _, rfl, rfl, _, rfl, ite2 (fun y => ?_) (fun y => ?_)⟩
  · refine ⟨_, rfl, _, rfl, term _ _ hD1 fun v t H3 b3 hD3 hv ft => ?_⟩
    refine ⟨_, rfl, _, rfl, _, rfl, term _ _ hD3 fun v2 t2 H4 b4 hD4 hv2 ft2 => ?_⟩
    refine ⟨by show 3 ≤ sizeLine; decide, fun p np => ?_⟩
    have s5 := same_new np (.tup [.str "equal", v, v2])
    exact q (.ref p) (.eq t t2) _ (b1.trans (b3.trans (b4.trans s5.but))) (hD4.same s5) (.ap upd_same (.cons (TmAt.mono ((b4.tupsI hD3.hi).trans s5.tups) _ _ hv) (.cons (TmAt.mono s5.tups _ _ hv2) .nil))) ⟨ft, ft2⟩ (by show 1 ≤ _; omega)
  have y : ¬ c < 3 := fun x => y (decide_eq_true x)
  refine ⟨_, rfl, rfl, _, rfl, ite2 (fun x => ?_) (fun x => ?_)⟩
  · refine ⟨_, rfl, _, rfl, d, l, ws, rfl, hD1, fun v t H3 b3 hD3 hv ft => ?_⟩
    refine ⟨by show 1 ≤ sizeLine; decide, fun p1 np1 => ⟨by show 3 ≤ sizeLine; decide, fun p np => ?_⟩⟩
    have s4 := same_new np1 (.tup [.str "true"])
    have s5 := same_new np (.tup [.str "equal", v, .ref p1])
    exact q (.ref p) (.eq t trueT) _ (b1.trans (b3.trans (s4.trans s5).but)) (hD3.same (s4.trans s5)) (.ap upd_same (.cons (TmAt.mono (s4.trans s5).tups _ _ hv) (.cons (.ap (s5 _ _ upd_same) .nil) .nil))) ⟨ft, true_sh, by show 0 + 1 ≤ 60; decide, by show 0 + 1 ≤ 200; decide⟩ (by show 1 ≤ _; omega)
  have x : ¬ c = 3 := fun u => x (decide_eq_true (congrArg V.int u))
  have k1 : 1 ≤ k := by
    rcases Nat.eq_zero_or_pos k with e | e
    · exact absurd (ck e) (by omega)
    · exact e
  -- the same, one less deep
  have again : ∀ (Q' : VK) (H2' : Hp), Drw H2' d l ws → (∀ (v : V) (g : Fm) (H3 : Hp), But d H2' H3 → Drw H3 d l ws → TmAt H3 v g.ter → g.all fmTer fmStr → g.high ≤ k → Q' v H3) → spForm n ([.ref d, .ref l, .int ((k : Int) - 1)] ++ []) H2' Q' E0 := fun Q' H2' hD2 h => by
    refine ⟨d, l, ws, k - 1, dep k1, hD2, by omega, fun v g H3 b3 hD3 hv ok hh => h v g H3 b3 hD3 hv ok (by omega)⟩
  refine ⟨_, rfl, _, _, rfl, rfl, _, rfl, ite2 (fun u => ?_) (fun u => ?_)⟩
  · refine ⟨_, rfl, _, rfl, _, rfl, _, _, rfl, rfl, again _ _ hD1 fun v g H3 b3 hD3 hv ok hh => ?_⟩
    refine ⟨by show 2 ≤ sizeLine; decide, fun p np => ?_⟩
    have s5 := same_new np (.tup [.str "not", v])
    exact q (.ref p) (.neg g) _ (b1.trans (b3.trans s5.but)) (hD3.same s5) (.ap upd_same (.cons (TmAt.mono s5.tups _ _ hv) .nil)) ok (by show g.high + 1 ≤ _; omega)
  have u : ¬ c < 6 := fun x => u (decide_eq_true x)
  refine ⟨_, rfl, _, _, rfl, rfl, _, rfl, ite2 (fun t => ?_) (fun t => ?_)⟩
  · have t := of_decide_eq_true t
    refine ⟨by show 5 ≤ sizeLine; decide, fun a na => ?_⟩
    have s2 := same_new na (.lst (NAMES5.map V.str))
    have hD2 := hD1.same s2
    have ad : a ≠ d := hD1.hi.ne na
    refine ⟨_, rfl, d, 5, rfl, hD2.hi, by decide, fun g H3 g0 g5 b3 hI3 => ?_⟩
    have hD3 := hD2.go b3 hI3
    obtain ⟨x, hx, lx⟩ := name_at g0 g5
    obtain ⟨b, hb⟩ := qu_at (c := c) (by omega) t
    refine ⟨a, _, g, _, rfl, rfl, .inl (.inl (b3 a _ ad upd_same)), hx, by show 2 ≤ sizeLine; decide, fun a2 na2 => ?_⟩
    have s4 := same_new na2 (.lst [.str "all", .str "some"])
    have hD4 := hD3.same s4
    refine ⟨_, rfl, _, _, rfl, rfl, a2, _, _, _, rfl, rfl, .inl (.inl upd_same), hb, _, rfl, _, rfl, _, rfl, _, rfl, _, _, rfl, rfl, again _ _ hD4 fun v g2 H5 b5 hD5 hv ok hh => ?_⟩
    refine ⟨by show 3 ≤ sizeLine; decide, fun p np => ?_⟩
    have s6 := same_new np (.tup [.str (qWord b), .str x, v])
    exact q (.ref p) (.qu b x g2) _ (b1.trans (s2.but.trans (b3.trans (s4.but.trans (b5.trans s6.but))))) (hD5.same s6) (.ap upd_same (.cons (.str x) (.cons (TmAt.mono s6.tups _ _ hv) .nil))) ⟨lx, ok⟩ (by show g2.high + 1 ≤ _; omega)
  · have t : ¬ c < 8 := fun x => t (decide_eq_true x)
    obtain ⟨o, ho⟩ := op_at (c := c) (by omega) c12
    refine ⟨_, rfl, _, rfl, _, rfl, _, _, rfl, rfl, again _ _ hD1 fun v g H3 b3 hD3 hv ok hh => ?_⟩
    refine ⟨by show 4 ≤ sizeLine; decide, fun a2 na2 => ?_⟩
    have s4 := same_new na2 (.lst [.str "and", .str "or", .str "implies", .str "iff"])
    have hD4 := hD3.same s4
    refine ⟨_, rfl, _, _, rfl, rfl, a2, _, _, _, rfl, rfl, .inl (.inl upd_same), ho, _, rfl, _, rfl, _, rfl, _, rfl, _, _, rfl, rfl, again _ _ hD4 fun v2 g2 H5 b5 hD5 hv2 ok2 hh2 => ?_⟩
    refine ⟨by show 3 ≤ sizeLine; decide, fun p np => ?_⟩
    have s6 := same_new np (.tup [.str o.word, v, v2])
    exact q (.ref p) (.bin o g g2) _ (b1.trans (b3.trans (s4.but.trans (b5.trans s6.but)))) (hD5.same s6) (.ap upd_same (.cons (TmAt.mono (s4.tups.trans ((b5.tupsI hD4.hi).trans s6.tups)) _ _ hv) (.cons (TmAt.mono s6.tups _ _ hv2) .nil))) ⟨ok, ok2⟩ (by show max g.high g2.high + 1 ≤ _; omega)
theorem ok_law_formula {f fT fM fN fA : Addr} {fd dT dM dN dA : FuncData} (D : Df K mg "_law_formula" s__law_formula ["draws", "words", "depth"] f fd) (DT : Df K mg "_law_take" s__law_take ["draws", "bound"] fT dT) (GT : FnOk P w K mg base CX0 1 fT dT ["draws", "bound"] spTake)
    (DM : Df K mg "_law_term" s__law_term ["draws", "words", "depth"] fM dM) (GM : FnOk P w K mg base CX0 7 fM dM ["draws", "words", "depth"] (spTerm 5)) (DN : Df K mg "_law_named" s__law_named ["term"] fN dN) (GN : FnOk P w K mg base CX0 7 fN dN ["term"] (spNamed 7)) (DA : Df K mg "_law_atom" s__law_atom ["draws", "words"] fA dA) (GA : FnOk P w K mg base CX0 8 fA dA ["draws", "words"] spAtom)
    (mint : mg "int" = none) : ∀ n : Nat, FnOk P w K mg base CX0 (n + 8) f fd ["draws", "words", "depth"] (spForm n)
  | 0 => by
    have no : ∀ vs H Q E, ¬ spForm 0 vs H Q E := fun vs H Q E h => by
      obtain ⟨d, l, ws, k, _, _, hk, _⟩ := h
      omega
    exact ⟨fun vs H Q E h => absurd h (no vs H Q E), fun A outer s H args us vs Q E _ _ _ _ h => absurd h (no vs H Q E)⟩
  | n + 1 => ok_law_formula1 D DT GT DM GM DN GN DA GA mint (ok_law_formula D DT GT DM GM DN GN DA GA mint n)
end

end K05
namespace K05
open PySem PySem.Spec PyProof.Rows L2 Own HT
section
variable {P : Program} {w : World} {K : PySem.W.Frag} {mg : Str → Option Value} {base : Heap}
/-! ### _law_write -/
theorem sc_law_write : FnScope ["term", "argument"] ["term"] (defScope s__law_write) := ⟨rfl, rfl, rfl, by decide +kernel, rfl, by decide +kernel, by decide +kernel⟩
theorem ok_law_write1 {f : Addr} {fd : FuncData} (D : Df K mg "_law_write" s__law_write ["term"] f fd) (mi : mg "isinstance" = none) (ms : mg "str" = none) (mt : mg "tuple" = none) (ml : mg "len" = none) {n : Nat}
    (G : FnOk P w K mg base CX0 n f fd ["term"] (spShowT n)) : FnOk P w K mg base CX0 (n + 1) f fd ["term"] (spShowT (n + 1)) := by
  refine D.F.ok sc_law_write (fun vs H Q E h => ?_) (fun cdv A outer s H vs Q E hr h => ?_)
  · obtain ⟨v, t, rfl, _⟩ := h; rfl
  obtain ⟨v, t, rfl, ht, hn, hw, hz, q⟩ := h
  have nd := sc_law_write.nd
  refine ⟨_, pss_cons (ps_if (pt_val (pe_callB call_isiDat (by rfl) mi (by decide +kernel) (pa_cons (pv 0) (pa_cons (pe_bltn (v := .ty "str") (by rfl) ms (by decide +kernel) rfl) pa_nil)))) (pss_one (ps_ret (pv 0))) pss_nil)
    (pss_cons (ps_if (pt_not (pt_val (pe_callB call_isiTer (by rfl) mi (by decide +kernel) (pa_cons (pv 0) (pa_cons (pe_bltn (v := .ty "tuple") (by rfl) mt (by decide +kernel) rfl) pa_nil))))) (pss_one (ps_ret (pe_op op_add_str pe_str (pe_callTy call_str_int (by rfl) ms (by decide +kernel) (pa_cons (pv 0) pa_nil))))) pss_nil)
    (pss_cons (ps_if (pt_cmpR op_eq (pe_callB call_len_seq (by rfl) ml PySem.boot_len (pa_cons (pv 0) pa_nil)) pe_int (nomark _)) (pss_one (ps_ret (pe_ix ix_tup (pv 0) pe_int (fun _ _ => rfl)))) pss_nil)
    (pss_one (ps_ret (pe_op op_add_str (pe_op op_add_str (pe_op op_add_str (pe_ix ix_tup (pv 0) pe_int (fun _ _ => rfl)) pe_str) (pe_join pe_str (pe_lc (own := [("argument", 1)]) (g := gName 1) (tt := tYes) (te := tCall (spShowT n) [] E0 (tCons (tVar 1) tNil)) rfl nd (pi_tup (pe_slice sl_1 (pv 0) (po_some pe_int) po_none)) (blkOk_by (N := ["term", "argument"]) (sc := defScope s__law_write) (by decide +kernel))
        (fun _ _ _ _ _ => pg_name (i := 1) nd rfl (Or.inl rfl)) (fun _ _ _ _ _ => pts_nil) (fun _ _ _ _ _ => pe_call G hr (by rfl) D.m D.F.kp D.b .nil pass0 (pa_cons (pv 1) pa_nil))))) pe_str))))), ?_⟩
  refine ⟨_, rfl, v, t.dat, "str", _, rfl, dp_ter t v ht, k_str _, _, rfl, ?_⟩
  have hlen := showT_len t hw
  cases ht with
  | str x => exact iteT ⟨_, rfl, q H (Same.refl _)⟩
  | int i =>
    refine iteF ⟨_, rfl, _, _, rfl, .int i, _, rfl, iteT ?_⟩
    have ni := num_len i hw.1 hw.2
    have z1 := len1.1
    refine ⟨_, rfl, i, rfl, ?_, _, _, rfl, rfl, zL (by omega), q H (Same.refl _)⟩
    have h9 : i.natAbs < 2 ^ 10 := by have := hw.1; have := hw.2; omega
    rcases Nat.eq_zero_or_pos i.natAbs with z | z
    · rw [z]; decide
    · exact Nat.lt_trans ((Nat.log2_lt (by omega)).mpr h9) (by decide)
  | @ap a g xs as e hs =>
    have T : SqT K H a (.str g :: xs) := .inl (.inl e)
    have ls := hs.len
    refine iteF ⟨_, rfl, _, _, rfl, .ap e hs, _, rfl, iteF ?_⟩
    refine ⟨_, rfl, a, _, rfl, .inr T, rfl, _, rfl, ite2 (fun c => ?_) (fun c => ?_)⟩
    · have c : ((xs.length + 1 : Nat) : Int) = 1 := V.int.inj (of_decide_eq_true c)
      have x0 : as = [] := List.eq_nil_of_length_eq_zero (by omega)
      subst x0
      exact ⟨_, rfl, a, _, 0, _, rfl, rfl, T, head_at, q H (Same.refl _)⟩
    · have c : ¬ ((xs.length + 1 : Nat) : Int) = 1 := fun z => c (decide_eq_true (congrArg V.int z))
      obtain ⟨b, r, rfl⟩ : ∃ b r, as = b :: r := by
        cases as with
        | nil => exact absurd (by rw [ls]; rfl) c
        | cons b r => exact ⟨b, r, rfl⟩
      have hn : Ter.nests (b :: r) + 1 < n + 1 := hn
      have hz : Ter.sizes (b :: r) + 1 ≤ 2000 := hz
      have hg : g.length ≤ 40 := hw.1.1
      have hws : Ter.wfs shSym shKey (b :: r) := hw.2
      have hsl := showTs_len2 _ hws
      have la := Ter.sizes_len (b :: r)
      have z2 := len1.2.1
      have z3 := len1.2.2.1
      refine ⟨_, rfl, a, _, 0, _, rfl, rfl, T, head_at, _, _, rfl, rfl, zL (by omega), ?_⟩
      refine ⟨⟨_, rfl⟩, .ref a, rfl, 1, rfl, a, _, xs, rfl, rfl, rfl, T, fun p1 np1 => ?_⟩
      have s1 := same_new np1 (.tup xs)
      refine ⟨p1, rfl, ⟨xs, .inl (.inl upd_same)⟩, fun d nd' => ?_⟩
      refine walk_t (xs := xs) (fun i H2 => Same (upd H p1 (.tup xs)) H2 ∧ H2 d = some (.lst ((showTs ((b :: r).take i)).map V.str))) ⟨same_new nd' _, upd_same⟩ (fun i H2 _ h => .inl (.inl (h.1 _ _ upd_same))) (fun i x H2 hx h => ?_) (fun H2 h => ?_)
      · obtain ⟨sm, ed⟩ := h
        obtain ⟨t1, et, hx1⟩ := hs.get hx
        have n1 := nest_le_of et
        have m1 := size_le_of et
        have li := (List.getElem?_eq_some_iff.mp et).1
        refine ⟨rfl, ?_⟩
        refine ⟨_, rfl, x, t1, rfl, TmAt.mono (s1.trans sm).tups _ _ hx1, by omega, wfs_get hws et, by omega, fun H3 s3 => ?_⟩
        have ed3 := s3 _ _ ed
        refine ⟨_, ed3, Nat.lt_of_le_of_lt (show _ ≤ 100000 by rw [List.length_map, showTs_len, List.length_take]; omega) (by decide), But.same nd' (sm.trans s3) But.upd, ?_⟩
        rw [upd_same, List.take_add_one, et, showTs_app, List.map_append]
        rfl
      · obtain ⟨sm, ed⟩ := h
        rw [ls, List.take_length] at ed
        have q3 := join_len "," (showTs (b :: r))
        rw [showTs_len, len1.2.2.2] at q3
        refine ⟨_, d, _, rfl, rfl, .inl (.inl (.inl ed)), ?_, ?_⟩
        · have z4 := len1.2.2.2
          have e3 : ((showTs (b :: r)).map (·.length)).sum = tlen (showTs (b :: r)) := rfl
          rw [e3, showTs_len]
          show tlen (showTs (b :: r)) + (b :: r).length * ("," : Str).length ≤ 16777216
          rw [z4]
          omega
        · refine ⟨_, _, rfl, rfl, zL (by rw [app_len]; omega), _, _, rfl, rfl, zL (by rw [app_len, app_len]; omega), ?_⟩
          have e5 : ((g ++ ("(" : Str)) ++ Txt.join "," (showTs (b :: r))) ++ (")" : Str) = showT (.ap g (b :: r)) := by
            rw [sApp, sApp]
            rfl
          rw [e5]
          exact q H2 (s1.trans sm)
theorem ok_law_write {f : Addr} {fd : FuncData} (D : Df K mg "_law_write" s__law_write ["term"] f fd) (mi : mg "isinstance" = none) (ms : mg "str" = none) (mt : mg "tuple" = none) (ml : mg "len" = none) : ∀ n : Nat, FnOk P w K mg base CX0 n f fd ["term"] (spShowT n)
  | 0 => by
    have no : ∀ vs H Q E, ¬ spShowT 0 vs H Q E := fun vs H Q E h => by
      obtain ⟨v, t, _, _, hn, _⟩ := h
      omega
    exact ⟨fun vs H Q E h => absurd h (no vs H Q E), fun A outer s H args us vs Q E _ _ _ _ h => absurd h (no vs H Q E)⟩
  | n + 1 => ok_law_write1 D mi ms mt ml (ok_law_write D mi ms mt ml n)
/-! ### _law_write_literal -/
theorem sc_law_write_literal : FnScope ["literal", "sign"] ["literal"] (defScope s__law_write_literal) := ⟨rfl, rfl, rfl, by decide +kernel, rfl, by decide +kernel, by decide +kernel⟩
theorem ok_law_write_literal {f fT : Addr} {fd fdT : FuncData} (D : Df K mg "_law_write_literal" s__law_write_literal ["literal"] f fd) (DT : Df K mg "_law_write" s__law_write ["term"] fT fdT) (GT : FnOk P w K mg base CX0 61 fT fdT ["term"] (spShowT 61)) : FnOk P w K mg base CX0 62 f fd ["literal"] spShowL := by
  refine D.F.ok sc_law_write_literal (fun vs H Q E h => ?_) (fun cdv A outer s H vs Q E hr h => ?_)
  · obtain ⟨v, x, rfl, _⟩ := h; rfl
  obtain ⟨v, x, rfl, hx, ok, q⟩ := h
  have nd := sc_law_write_literal.nd
  refine ⟨_, pss_cons (ps_if (pt_cmpR (op_eqD hr.units) (pe_ix ix_tup (pv 0) pe_int (fun _ _ => rfl)) (pe_tup (pa_cons pe_str pa_nil)) (nomark _))
      (pss_cons (ps_if (pt_val (pe_ix ix_tup (pv 0) pe_int (fun _ _ => rfl))) (pss_one (ps_ret (pe_call GT hr (by rfl) DT.m DT.F.kp DT.b .nil pass0 (pa_cons (pe_ix ix_tup (pv 0) pe_int (fun _ _ => rfl)) pa_nil)))) pss_nil)
      (pss_one (ps_ret (pe_op op_add_str pe_str (pe_call GT hr (by rfl) DT.m DT.F.kp DT.b .nil pass0 (pa_cons (pe_ix ix_tup (pv 0) pe_int (fun _ _ => rfl)) pa_nil)))))) pss_nil)
    (pss_cons (ps_set (i := 1) nd rfl (.inl rfl) pe_str)
    (pss_cons (ps_if (pt_val (pe_ix ix_tup (pv 0) pe_int (fun _ _ => rfl))) (pss_one (ps_set (i := 1) nd rfl (.inl rfl) pe_str)) pss_nil)
    (pss_one (ps_ret (pe_op op_add_str (pe_op op_add_str (pe_call GT hr (by rfl) DT.m DT.F.kp DT.b .nil pass0 (pa_cons (pe_ix ix_tup (pv 0) pe_int (fun _ _ => rfl)) pa_nil)) (pv 1)) (pe_call GT hr (by rfl) DT.m DT.F.kp DT.b .nil pass0 (pa_cons (pe_ix ix_tup (pv 0) pe_int (fun _ _ => rfl)) pa_nil))))))), ?_⟩
  cases hx with
  | @mk p b x y l r e hl hrr =>
  obtain ⟨wl, wr, nl, nr, sl, sr⟩ := ok
  have wl : l.wf shSym shKey := wl
  have wr : r.wf shSym shKey := wr
  have nl : l.nest ≤ 60 := nl
  have nr : r.nest ≤ 60 := nr
  have sl : l.size ≤ 1000 := sl
  have sr : r.size ≤ 1000 := sr
  have ql := showT_len l wl
  have qr := showT_len r wr
  have T : ∀ {H' : Hp}, Same H H' → SqT K H' p [.bl b, x, y] := fun s => .inl (.inl (s _ _ e))
  refine ⟨_, rfl, p, _, 2, _, rfl, rfl, T (Same.refl _), at_2, by show 1 ≤ sizeLine; decide, fun p1 np1 => ?_⟩
  have s1 := same_new np1 (.tup [.str "true"])
  refine ⟨r.dat, trueT.dat, dp_ter r y (TmAt.mono s1.tups _ _ hrr), .tup (.inl (.inl upd_same)) (.cons (.str "true") .nil), shaped_ter (sh_fine r wr) (by omega), by decide +kernel, _, rfl, ?_⟩
  have q : ∀ H', Same H H' → Q (.str (if isTrueT r = true then (if b = true then showT l else ("~" : Str) ++ showT l) else showT l ++ ((if b = true then (" = " : Str) else (" != " : Str)) ++ showT r))) H' := q
  have z1 : ("~" : Str).length = 1 := by decide +kernel
  have z3 : (" = " : Str).length = 3 := by decide +kernel
  have z4 : (" != " : Str).length = 4 := by decide +kernel
  cases hT : isTrueT r with
  | true =>
    have hT' : PyData.eqv r.dat trueT.dat = true := hT
    rw [hT']
    rw [hT] at q
    refine iteT ⟨_, rfl, p, _, 0, _, rfl, rfl, T s1, head_at, b, rfl, ?_⟩
    cases b with
    | true => exact iteT ⟨_, rfl, p, _, 1, _, rfl, rfl, T s1, at_1, x, l, rfl, TmAt.mono s1.tups _ _ hl, by omega, wl, by omega, fun H1 s2 => q H1 (s1.trans s2)⟩
    | false => exact iteF ⟨_, rfl, p, _, 1, _, rfl, rfl, T s1, at_1, x, l, rfl, TmAt.mono s1.tups _ _ hl, by omega, wl, by omega, fun H1 s2 => ⟨_, _, rfl, rfl, zL (by omega), q H1 (s1.trans s2)⟩⟩
  | false =>
    have hT' : PyData.eqv r.dat trueT.dat = false := hT
    rw [hT']
    rw [hT] at q
    refine iteF ⟨_, rfl, p, _, 0, _, rfl, rfl, T s1, head_at, b, rfl, ?_⟩
    cases b with
    | true =>
      refine iteT ⟨_, rfl, p, _, 1, _, rfl, rfl, T s1, at_1, x, l, rfl, TmAt.mono s1.tups _ _ hl, by omega, wl, by omega, fun H1 s2 => ⟨_, rfl, _, _, rfl, rfl, zL (by omega), ?_⟩⟩
      refine ⟨_, rfl, p, _, 2, _, rfl, rfl, T (s1.trans s2), at_2, y, r, rfl, TmAt.mono (s1.trans s2).tups _ _ hrr, by omega, wr, by omega, fun H2 s3 => ⟨_, _, rfl, rfl, zL (by rw [app_len]; omega), ?_⟩⟩
      rw [sApp]
      exact q H2 ((s1.trans s2).trans s3)
    | false =>
      refine iteF ⟨_, rfl, p, _, 1, _, rfl, rfl, T s1, at_1, x, l, rfl, TmAt.mono s1.tups _ _ hl, by omega, wl, by omega, fun H1 s2 => ⟨_, rfl, _, _, rfl, rfl, zL (by omega), ?_⟩⟩
      refine ⟨_, rfl, p, _, 2, _, rfl, rfl, T (s1.trans s2), at_2, y, r, rfl, TmAt.mono (s1.trans s2).tups _ _ hrr, by omega, wr, by omega, fun H2 s3 => ⟨_, _, rfl, rfl, zL (by rw [app_len]; omega), ?_⟩⟩
      rw [sApp]
      exact q H2 ((s1.trans s2).trans s3)
/-! ### _law_write_formula -/
theorem sc_law_write_formula : FnScope ["formula", "kind", "part", "signs", "sign"] ["formula"] (defScope s__law_write_formula) := ⟨rfl, rfl, rfl, by decide +kernel, rfl, by decide +kernel, by decide +kernel⟩
theorem in_two {f : Fm} : inV (.str f.head) [V.str "all", V.str "some"] = (match f with | .qu _ _ _ => true | _ => false) := by
  have e : ∀ s : Str, inV (.str s) [V.str "all", V.str "some"] = ((("all" : Str) == s) || ((("some" : Str) == s) || false)) := fun s => rfl
  rw [e]
  have k : ∀ (s : Str) (b : Bool), f.head = s → ((("all" : Str) == s) || ((("some" : Str) == s) || false)) = b → ((("all" : Str) == f.head) || ((("some" : Str) == f.head) || false)) = b := fun s b h d => by rw [h]; exact d
  cases f with
  | tt b => exact k (if b = true then "true" else "false") false rfl (by cases b <;> decide +kernel)
  | eq l r => exact k "equal" false rfl (by decide +kernel)
  | neg f => exact k "not" false rfl (by decide +kernel)
  | bin o f g => exact k o.word false rfl (by cases o <;> decide +kernel)
  | qu a x f => exact k (qWord a) true rfl (by cases a <;> decide +kernel)
theorem op_index (o : Op) : ∃ j : Nat, ([V.str "and", V.str "or", V.str "implies", V.str "iff"] : List V)[j]? = some (.str o.word) ∧ (∀ (m : Nat) (z' : V), m < j → ([V.str "and", V.str "or", V.str "implies", V.str "iff"] : List V)[m]? = some z' → eqV z' (.str o.word) = false) ∧ atI [V.str "&", V.str "|", V.str "->", V.str "<->"] (j : Nat) = some (.str o.sign) := by
  have two : ∀ (j : Nat) (ws : List V) (o : Op), (ws.take j).all (fun z => !eqV z (.str o.word)) = true → ∀ (m : Nat) (z' : V), m < j → ws[m]? = some z' → eqV z' (.str o.word) = false := fun j ws o h m z hm hz => by
    have a : z ∈ ws.take j := List.mem_of_getElem? (i := m) (by rw [List.getElem?_take, if_pos hm]; exact hz)
    have b := List.all_eq_true.mp h z a
    cases e : eqV z (.str o.word) with
    | false => rfl
    | true => rw [e] at b; exact absurd b (by decide)
  cases o with
  | and => exact ⟨0, rfl, two 0 _ .and (by decide +kernel), atI_nat (j := 0) rfl⟩
  | or => exact ⟨1, rfl, two 1 _ .or (by decide +kernel), atI_nat (j := 1) rfl⟩
  | imp => exact ⟨2, rfl, two 2 _ .imp (by decide +kernel), atI_nat (j := 2) rfl⟩
  | iff => exact ⟨3, rfl, two 3 _ .iff (by decide +kernel), atI_nat (j := 3) rfl⟩
theorem ok_law_write_formula1 {f fL : Addr} {fd fdL : FuncData} (D : Df K mg "_law_write_formula" s__law_write_formula ["formula"] f fd) (DL : Df K mg "_law_write_literal" s__law_write_literal ["literal"] fL fdL) (GL : FnOk P w K mg base CX0 62 fL fdL ["literal"] spShowL) (ml : mg "len" = none) {n k : Nat} (hk : 62 ≤ k)
    (G : FnOk P w K mg base CX0 k f fd ["formula"] (spShowF n)) : FnOk P w K mg base CX0 (k + 1) f fd ["formula"] (spShowF (n + 1)) := by
  refine D.F.ok sc_law_write_formula (fun vs H Q E h => ?_) (fun cdv A outer s H vs Q E hr h => ?_)
  · obtain ⟨v, f, rfl, _⟩ := h; rfl
  obtain ⟨v, f, rfl, hf, ok, hn, h9, q⟩ := h
  have nd := sc_law_write_formula.nd
  have r62 : Room 62 _ := hr.mono hk
  refine ⟨_, pss_cons (ps_set (i := 1) nd rfl (.inl rfl) (pe_ix ix_tup (pv 0) pe_int (fun _ _ => rfl)))
    (pss_cons (ps_if (pt_cmpR op_eq (pe_callB call_len_seq (by rfl) ml PySem.boot_len (pa_cons (pv 0) pa_nil)) pe_int (nomark _)) (pss_one (ps_ret (pv 1))) pss_nil)
    (pss_cons (ps_if (pt_cmpR op_eq (pv 1) pe_str (nomark _)) (pss_one (ps_ret (pe_call GL r62 (by rfl) DL.m DL.F.kp DL.b .nil pass0 (pa_cons (pe_tup (pa_cons pe_bl (pa_cons (pe_ix ix_tup (pv 0) pe_int (fun _ _ => rfl)) (pa_cons (pe_ix ix_tup (pv 0) pe_int (fun _ _ => rfl)) pa_nil)))) pa_nil)))) pss_nil)
    (pss_cons (ps_if (pt_cmpR op_eq (pv 1) pe_str (nomark _))
      (pss_cons (ps_set (i := 2) nd rfl (.inl rfl) (pe_ix ix_tup (pv 0) pe_int (fun _ _ => rfl)))
      (pss_cons (ps_if (PW.pt (pw_and (pt_cmpR op_eq (pe_ix ix_tup (pv 2) pe_int (fun _ _ => rfl)) pe_str (nomark _)) (pw_and1 (pt_cmpR (op_neD hr.units) (pe_ix ix_tup (pv 2) pe_int (fun _ _ => rfl)) (pe_tup (pa_cons pe_str pa_nil)) (nomark _)))))
        (pss_one (ps_ret (pe_call GL r62 (by rfl) DL.m DL.F.kp DL.b .nil pass0 (pa_cons (pe_tup (pa_cons pe_bl (pa_cons (pe_ix ix_tup (pv 2) pe_int (fun _ _ => rfl)) (pa_cons (pe_ix ix_tup (pv 2) pe_int (fun _ _ => rfl)) pa_nil)))) pa_nil)))) pss_nil)
      (pss_one (ps_ret (pe_op op_add_str pe_str (pe_call G hr (by rfl) D.m D.F.kp D.b .nil pass0 (pa_cons (pv 2) pa_nil))))))) pss_nil)
    (pss_cons (ps_if (pt_cmpR op_in_seq (pv 1) (pe_lst (pa_cons pe_str (pa_cons pe_str pa_nil))) (by rfl))
      (pss_one (ps_ret (pe_op op_add_str (pe_op op_add_str (pe_op op_add_str (pe_op op_add_str (pe_op op_add_str (pe_op op_add_str pe_str (pv 1)) pe_str) (pe_ix ix_tup (pv 0) pe_int (fun _ _ => rfl))) pe_str) (pe_call G hr (by rfl) D.m D.F.kp D.b .nil pass0 (pa_cons (pe_ix ix_tup (pv 0) pe_int (fun _ _ => rfl)) pa_nil))) pe_str))) pss_nil)
    (pss_cons (ps_set (i := 3) nd rfl (.inl rfl) (pe_lst (pa_cons pe_str (pa_cons pe_str (pa_cons pe_str (pa_cons pe_str pa_nil))))))
    (pss_cons (ps_set (i := 4) nd rfl (.inl rfl) (pe_ix ix_list (pv 3) (pe_bm PySem.F.plainAttrs_list PySem.F.slot_list_index PySem.F.type_list_index mt_index (pe_lst (pa_cons pe_str (pa_cons pe_str (pa_cons pe_str (pa_cons pe_str pa_nil))))) (pa_cons (pv 1) pa_nil)) (fun _ _ => rfl)))
    (pss_one (ps_ret (pe_op op_add_str (pe_op op_add_str (pe_op op_add_str (pe_op op_add_str (pe_op op_add_str (pe_op op_add_str pe_str (pe_call G hr (by rfl) D.m D.F.kp D.b .nil pass0 (pa_cons (pe_ix ix_tup (pv 0) pe_int (fun _ _ => rfl)) pa_nil))) pe_str) (pv 4)) pe_str) (pe_call G hr (by rfl) D.m D.F.kp D.b .nil pass0 (pa_cons (pe_ix ix_tup (pv 0) pe_int (fun _ _ => rfl)) pa_nil))) pe_str))))))))), ?_⟩
  have hlen := showF_len f ok
  obtain ⟨z1, z2, z3, z4, z5⟩ := lens
  have hp := pow9 (show f.high < 9 by omega)
  obtain ⟨a, xs, rfl, e, hs⟩ := fm_at hf
  have T : ∀ {H' : Hp}, Same H H' → SqT K H' a (.str f.head :: xs) := fun s => .inl (.inl (s _ _ e))
  have T0 := T (Same.refl _)
  refine ⟨_, rfl, a, _, 0, _, rfl, rfl, T0, head_at, ?_⟩
  have ls := hs.len
  refine ⟨_, rfl, a, _, rfl, .inr T0, rfl, _, rfl, ?_⟩
  have more : ∀ {A B : Prop}, f.tail ≠ [] → B → if decide (V.int (((V.str f.head :: xs).length : Nat) : Int) = V.int 1) = true then A else B := fun hne k => by
    refine ite2 (fun c => ?_) (fun _ => k)
    have c : ((xs.length + 1 : Nat) : Int) = 1 := V.int.inj (of_decide_eq_true c)
    exact absurd (List.eq_nil_of_length_eq_zero (by omega)) hne
  cases f with
  | tt b =>
    have xn := all_nil hs
    subst xn
    exact ite2 (fun _ => ⟨_, rfl, q H (Same.refl _)⟩) (fun c => absurd (decide_eq_true rfl) c)
  | eq l r =>
    refine more (by intro z; cases z) ?_
    obtain ⟨x, y, rfl, hx, hy⟩ := all_two hs
    refine ⟨_, rfl, rfl, _, rfl, eqS (headN "equal" rfl (by decide +kernel)) ?_⟩
    refine ⟨_, rfl, a, _, 1, _, rfl, rfl, T0, at_1, _, rfl, a, _, 2, _, rfl, rfl, T0, at_2, by show 3 ≤ sizeLine; decide, fun p np => ?_⟩
    have s1 := same_new np (.tup [.bl true, x, y])
    exact ⟨.ref p, (true, l, r), rfl, .mk upd_same (TmAt.mono s1.tups _ _ hx) (TmAt.mono s1.tups _ _ hy), ⟨ok.1.1, ok.2.1, ok.1.2.1, ok.2.2.1, Nat.le_trans ok.1.2.2 (by decide), Nat.le_trans ok.2.2.2 (by decide)⟩, fun H' s' => q H' (s1.trans s')⟩
  | neg g =>
    refine more (by intro z; cases z) ?_
    obtain ⟨x, rfl, hx⟩ := all_one hs
    have hn : g.high + 1 < n + 1 := hn
    refine ⟨_, rfl, rfl, _, rfl, neS (headN "not" rfl (by decide +kernel)) ⟨_, rfl, rfl, _, rfl, eqS (headN "not" rfl (by decide +kernel)) ?_⟩⟩
    refine ⟨_, rfl, a, _, 1, _, rfl, rfl, T0, at_1, ?_⟩
    obtain ⟨b, ys, rfl, eb, hb⟩ := fm_at hx
    have TB : ∀ {H' : Hp}, Same H H' → SqT K H' b (.str g.head :: ys) := fun s => .inl (.inl (s _ _ eb))
    refine ⟨_, rfl, b, _, 0, _, rfl, rfl, TB (Same.refl _), head_at, rfl, _, rfl, ?_⟩
    -- what is written where the part is no equation of terms
    have wr : ∀ H', Same H H' → showF (.neg g) = ("~" : Str) ++ showF g → ∀ y3 y4, tRet (tOp (fun x y H Q => ∃ i j, x = .str i ∧ y = .str j ∧ i.length + j.length ≤ sizeLine ∧ Q (.str (i ++ j)) H) (tC (.str "~")) (tCall (spShowF n) [] E0 (tCons (tVar 2) tNil))) { nx := fun _ H' => Q .non H', rt := Q } [some (.ref a), some (.str (Fm.neg g).head), some (.ref b), y3, y4] H' := fun H' s' ew y3 y4 => by
      have hlg := showF_len g ok
      have hpg := pow9 (show g.high < 9 by omega)
      refine ⟨_, rfl, .ref b, g, rfl, TmAt.mono s'.tups _ _ hx, ok, by omega, by omega, fun H2 s2 => ⟨_, _, rfl, rfl, zB (by omega), ?_⟩⟩
      rw [← ew]
      exact q H2 (s'.trans s2)
    cases g with
    | eq l r =>
      obtain ⟨x, y, rfl, hx2, hy2⟩ := all_two hb
      refine eqS (headN "equal" rfl (by decide +kernel)) ?_
      refine ⟨_, rfl, b, _, 2, _, rfl, rfl, TB (Same.refl _), at_2, by show 1 ≤ sizeLine; decide, fun p1 np1 => ?_⟩
      have s1 := same_new np1 (.tup [.str "true"])
      refine ⟨r.dat, trueT.dat, dp_ter r y (TmAt.mono s1.tups _ _ hy2), .tup (.inl (.inl upd_same)) (.cons (.str "true") .nil), shaped_ter (sh_fine r ok.2.1) (by have := ok.2.2.1; omega), by decide +kernel, _, rfl, ?_⟩
      cases hT : isTrueT r with
      | true =>
        have hT' : PyData.eqv r.dat trueT.dat = true := hT
        rw [hT']
        refine iteF (wr _ s1 ?_ _ _)
        show showL false l r = ("~" : Str) ++ showL true l r
        unfold showL
        rw [hT]
        rfl
      | false =>
        have hT' : PyData.eqv r.dat trueT.dat = false := hT
        rw [hT']
        refine iteT ⟨_, rfl, b, _, 1, _, rfl, rfl, TB s1, at_1, _, rfl, b, _, 2, _, rfl, rfl, TB s1, at_2, by show 3 ≤ sizeLine; decide, fun p np => ?_⟩
        have s2 := same_new np (.tup [.bl false, x, y])
        have sa := s1.trans s2
        exact ⟨.ref p, (false, l, r), rfl, .mk upd_same (TmAt.mono sa.tups _ _ hx2) (TmAt.mono sa.tups _ _ hy2), ⟨ok.1.1, ok.2.1, ok.1.2.1, ok.2.2.1, Nat.le_trans ok.1.2.2 (by decide), Nat.le_trans ok.2.2.2 (by decide)⟩, fun H' s' => q H' (sa.trans s')⟩
    | tt c => exact neS (by rw [head_eq]; rfl) (wr H (Same.refl _) (showF_neg rfl) _ _)
    | neg c => exact neS (by rw [head_eq]; rfl) (wr H (Same.refl _) (showF_neg rfl) _ _)
    | bin o c c2 => exact neS (by rw [head_eq]; rfl) (wr H (Same.refl _) (showF_neg rfl) _ _)
    | qu c y c2 => exact neS (by rw [head_eq]; rfl) (wr H (Same.refl _) (showF_neg rfl) _ _)
  | qu b y g =>
    refine more (by intro z; cases z) ?_
    obtain ⟨x, u, rfl, hx, hu⟩ := all_two hs
    cases hx
    have hn : g.high + 1 < n + 1 := hn
    have hy : y.length ≤ 40 := ok.1
    have hg := showF_len g ok.2
    have hpg := pow9 (show g.high < 9 by omega)
    have qb := q_len b
    have qb2 : (Fm.qu b y g).head.length ≤ 4 := qb
    refine ⟨_, rfl, rfl, _, rfl, neS (headN (qWord b) rfl (by cases b <;> decide +kernel)) ⟨_, rfl, rfl, _, rfl, neS (headN (qWord b) rfl (by cases b <;> decide +kernel)) ?_⟩⟩
    refine ⟨_, rfl, by show 2 ≤ sizeLine; decide, fun p np => ?_⟩
    have s1 := same_new np (.lst [.str "all", .str "some"])
    refine ⟨p, _, rfl, .inl (.inl (.inl upd_same)), rfl, rfl, _, rfl, ?_⟩
    rw [if_neg Bool.false_ne_true, in_two]
    refine iteT ?_
    refine ⟨_, rfl, _, _, rfl, rfl, zB (by omega), _, _, rfl, rfl, zB (by rw [app_len]; omega), _, rfl, a, _, 1, _, rfl, rfl, T s1, at_1, _, _, rfl, rfl, zB (by rw [app_len, app_len]; omega), _, _, rfl, rfl, zB (by rw [app_len, app_len, app_len]; omega), ?_⟩
    refine ⟨_, rfl, a, _, 2, _, rfl, rfl, T s1, at_2, u, g, rfl, TmAt.mono s1.tups _ _ hu, ok.2, by omega, by omega, fun H2 s2 => ⟨_, _, rfl, rfl, zB (by rw [app_len, app_len, app_len, app_len]; omega), _, _, rfl, rfl, zB (by rw [app_len, app_len, app_len, app_len, app_len]; omega), ?_⟩⟩
    rw [sApp, sApp, sApp, sApp, sApp]
    exact q H2 (s1.trans s2)
  | bin o g k2 =>
    refine more (by intro z; cases z) ?_
    obtain ⟨x, u, rfl, hx, hu⟩ := all_two hs
    have hn : max g.high k2.high + 1 < n + 1 := hn
    have hg := showF_len g ok.1
    have hk2 := showF_len k2 ok.2
    have hpg := pow9 (show g.high < 9 by omega)
    have hpk := pow9 (show k2.high < 9 by omega)
    have qo := sign_len o
    refine ⟨_, rfl, rfl, _, rfl, neS (headN o.word rfl (by cases o <;> decide +kernel)) ⟨_, rfl, rfl, _, rfl, neS (headN o.word rfl (by cases o <;> decide +kernel)) ?_⟩⟩
    refine ⟨_, rfl, by show 2 ≤ sizeLine; decide, fun p np => ?_⟩
    have s1 := same_new np (.lst [.str "all", .str "some"])
    refine ⟨p, _, rfl, .inl (.inl (.inl upd_same)), rfl, rfl, _, rfl, ?_⟩
    rw [if_neg Bool.false_ne_true, in_two]
    refine iteF ?_
    refine ⟨by show 4 ≤ sizeLine; decide, fun p2 np2 => ?_⟩
    have s2 := same_new np2 (.lst [.str "&", .str "|", .str "->", .str "<->"])
    obtain ⟨j, j1, j2, j3⟩ := op_index o
    refine ⟨_, rfl, by show 4 ≤ sizeLine; decide, fun p3 np3 => ?_⟩
    have s3 := same_new np3 (.lst [.str "and", .str "or", .str "implies", .str "iff"])
    refine ⟨tyl upd_same, _, rfl, p3, _, _, j, _, rfl, rfl, .inl (.inl upd_same), rfl, rfl, j1, by show (o.word == (Fm.bin o g k2).head) = true; exact beq_self_eq_true _, j2, ?_⟩
    refine ⟨p2, _, _, _, rfl, rfl, .inl (.inl (s3 _ _ upd_same)), j3, ?_⟩
    have sa := s1.trans (s2.trans s3)
    refine ⟨_, rfl, a, _, 1, _, rfl, rfl, T sa, at_1, x, g, rfl, TmAt.mono sa.tups _ _ hx, ok.1, by omega, by omega, fun H2 s4 => ⟨_, _, rfl, rfl, zB (by omega), _, _, rfl, rfl, zB (by rw [app_len]; omega), ?_⟩⟩
    refine ⟨_, rfl, _, _, rfl, rfl, zB (by rw [app_len, app_len]; omega), _, _, rfl, rfl, zB (by rw [app_len, app_len, app_len]; omega), ?_⟩
    refine ⟨_, rfl, a, _, 2, _, rfl, rfl, T (sa.trans s4), at_2, u, k2, rfl, TmAt.mono (sa.trans s4).tups _ _ hu, ok.2, by omega, by omega, fun H3 s5 => ⟨_, _, rfl, rfl, zB (by rw [app_len, app_len, app_len, app_len]; omega), _, _, rfl, rfl, zB (by rw [app_len, app_len, app_len, app_len, app_len]; omega), ?_⟩⟩
    rw [sApp, sApp, sApp, sApp, sApp]
    exact q H3 ((sa.trans s4).trans s5)
theorem ok_law_write_formula {f fL : Addr} {fd fdL : FuncData} (D : Df K mg "_law_write_formula" s__law_write_formula ["formula"] f fd) (DL : Df K mg "_law_write_literal" s__law_write_literal ["literal"] fL fdL) (GL : FnOk P w K mg base CX0 62 fL fdL ["literal"] spShowL) (ml : mg "len" = none) : ∀ n : Nat, FnOk P w K mg base CX0 (62 + n) f fd ["formula"] (spShowF n)
  | 0 => by
    have no : ∀ vs H Q E, ¬ spShowF 0 vs H Q E := fun vs H Q E h => by
      obtain ⟨v, f, _, _, _, hn, _⟩ := h
      omega
    exact ⟨fun vs H Q E h => absurd h (no vs H Q E), fun A outer s H args us vs Q E _ _ _ _ h => absurd h (no vs H Q E)⟩
  | n + 1 => ok_law_write_formula1 D DL GL ml (Nat.le_add_right 62 _) (ok_law_write_formula D DL GL ml n)
end

end K05
namespace K05
open PySem PySem.Spec PyProof.Rows L2 Own HT
section
variable {P : Program} {w : World} {K : PySem.W.Frag} {mg : Str → Option Value} {base : Heap}
/-! ### _law_is -/
def spIs : Sp := fun vs H Q _ => ∃ x : Str, vs = [.str x, .str x] ∧ Q (.bl true) H
theorem sc_law_is : FnScope ["value", "due"] ["value", "due"] (defScope s__law_is) := ⟨rfl, rfl, rfl, by decide +kernel, rfl, by decide +kernel, by decide +kernel⟩
theorem ok_law_is {f : Addr} {fd : FuncData} (D : Df K mg "_law_is" s__law_is ["value", "due"] f fd) (mi : mg "isinstance" = none) (ms : mg "str" = none) : FnOk P w K mg base CX0 1 f fd ["value", "due"] spIs := by
  refine D.F.ok sc_law_is (fun vs H Q E h => ?_) (fun cdv A outer s H vs Q E hr h => ?_)
  · obtain ⟨x, rfl, _⟩ := h; rfl
  obtain ⟨x, rfl, q⟩ := h
  have nd := sc_law_is.nd
  refine ⟨_, pss_one (ps_ret (pe_and (pe_callB call_isiDat (by rfl) mi (by decide +kernel) (pa_cons (pv 0) (pa_cons (pe_bltn (v := .ty "str") (by rfl) ms (by decide +kernel) rfl) pa_nil))) (pe_one (pe_cmpR op_eq (pv 0) (pv 1) (nomark _))))), ?_⟩
  refine ⟨.str x, rfl, .str x, .str x, "str", _, rfl, .str x, k_str _, true, rfl, ?_⟩
  refine ⟨_, rfl, _, rfl, ?_⟩
  exact ⟨rfl, by show Q (.bl (decide (V.str x = V.str x))) H; rw [decide_eq_true rfl]; exact q⟩
/-! ### law -/
def spLaw (K : PySem.W.Frag) : Sp := fun vs H Q _ => ∃ (a : Addr) (ns : List Int), vs = [.ref a] ∧ SqL K H a (ns.map V.int) ∧ ns.length ≤ 63 ∧ ∀ H', Q (.bl true) H'
theorem sc_law : FnScope ["script", "draws", "words", "clause", "shown", "literal", "due", "side", "formula"] ["script"] (defScope s_law) := ⟨rfl, rfl, rfl, by decide +kernel, rfl, by decide +kernel, by decide +kernel⟩
theorem ok_law {f : Addr} {fd : FuncData} (D : Df K mg "law" s_law ["script"] f fd)
    {fD fT fW fC fF fI fST fSL fSC fSF fWT fWL fWF : Addr} {dD dT dW dC dF dI dST dSL dSC dSF dWT dWL dWF : FuncData}
    (DD : Df K mg "_law_draws" s__law_draws ["script"] fD dD) (GD : FnOk P w K mg base CX0 1 fD dD ["script"] (spDraws K))
    (DT : Df K mg "_law_take" s__law_take ["draws", "bound"] fT dT) (GT : FnOk P w K mg base CX0 1 fT dT ["draws", "bound"] spTake)
    (DW : Df K mg "_law_words" s__law_words ["draws", "many"] fW dW) (GW : FnOk P w K mg base CX0 2 fW dW ["draws", "many"] spWords)
    (DC : Df K mg "_law_clause" s__law_clause ["draws", "words", "most"] fC dC) (GC : FnOk P w K mg base CX0 9 fC dC ["draws", "words", "most"] spClause)
    (DF : Df K mg "_law_formula" s__law_formula ["draws", "words", "depth"] fF dF) (GF : FnOk P w K mg base CX0 14 fF dF ["draws", "words", "depth"] (spForm 6))
    (DI : Df K mg "_law_is" s__law_is ["value", "due"] fI dI) (GI : FnOk P w K mg base CX0 1 fI dI ["value", "due"] spIs)
    (DST : Df K mg "show_term" s_show_term ["term"] fST dST) (GST : FnOk P w K mg base CX0 62 fST dST ["term"] (spShowT 61))
    (DSL : Df K mg "show_literal" s_show_literal ["literal"] fSL dSL) (GSL : FnOk P w K mg base CX0 63 fSL dSL ["literal"] spShowL)
    (DSC : Df K mg "show_clause" s_show_clause ["clause"] fSC dSC) (GSC : FnOk P w K mg base CX0 64 fSC dSC ["clause"] spShowC)
    (DSF : Df K mg "show_formula" s_show_formula ["formula"] fSF dSF) (GSF : FnOk P w K mg base CX0 79 fSF dSF ["formula"] (spShowF 8))
    (DWT : Df K mg "_law_write" s__law_write ["term"] fWT dWT) (GWT : FnOk P w K mg base CX0 61 fWT dWT ["term"] (spShowT 61))
    (DWL : Df K mg "_law_write_literal" s__law_write_literal ["literal"] fWL dWL) (GWL : FnOk P w K mg base CX0 62 fWL dWL ["literal"] spShowL)
    (DWF : Df K mg "_law_write_formula" s__law_write_formula ["formula"] fWF dWF) (GWF : FnOk P w K mg base CX0 70 fWF dWF ["formula"] (spShowF 8))
    (ml : mg "len" = none) : FnOk P w K mg base CX0 80 f fd ["script"] (spLaw K) := by
  refine D.F.ok sc_law (fun vs H Q E h => ?_) (fun cdv A outer s H vs Q E hr h => ?_)
  · obtain ⟨a, ns, rfl, _⟩ := h; rfl
  obtain ⟨a, ns, rfl, hS, hn, q⟩ := h
  have nd := sc_law.nd
  have r1 : Room 1 _ := hr.mono (by decide)
  have r2 : Room 2 _ := hr.mono (by decide)
  have r9 : Room 9 _ := hr.mono (by decide)
  have r14 : Room 14 _ := hr.mono (by decide)
  have r61 : Room 61 _ := hr.mono (by decide)
  have r62 : Room 62 _ := hr.mono (by decide)
  have r63 : Room 63 _ := hr.mono (by decide)
  have r64 : Room 64 _ := hr.mono (by decide)
  have r70 : Room 70 _ := hr.mono (by decide)
  have r79 : Room 79 _ := hr.mono (by decide)
  refine ⟨_, pss_cons (ps_set (i := 1) nd rfl (.inl rfl) (pe_call GD r1 (by rfl) DD.m DD.F.kp DD.b .nil pass0 (pa_cons (pv 0) pa_nil)))
    (pss_cons (ps_set (i := 2) nd rfl (.inl rfl) (pe_call GW r2 (by rfl) DW.m DW.F.kp DW.b .nil pass0 (pa_cons (pv 1) (pa_cons pe_int pa_nil))))
    (pss_cons (ps_set (i := 3) nd rfl (.inl rfl) (pe_call GC r9 (by rfl) DC.m DC.F.kp DC.b .nil pass0 (pa_cons (pv 1) (pa_cons (pv 2) (pa_cons pe_int pa_nil)))))
    (pss_cons (ps_set (i := 4) nd rfl (.inl rfl) (pe_lst pa_nil))
    (pss_cons (ps_for PassesOwn.never rfl (pi_tup (pv 3)) (pg_name (i := 5) nd rfl (.inl rfl))
      (pss_cons (ps_set (i := 6) nd rfl (.inl rfl) (pe_call GWL r62 (by rfl) DWL.m DWL.F.kp DWL.b .nil pass0 (pa_cons (pv 5) pa_nil)))
      (pss_cons (ps_expr (pe_bm PySem.F.plainAttrs_list PySem.F.slot_list_append PySem.F.type_list_append mt_append (pv 4) (pa_cons (pv 6) pa_nil)))
      (pss_cons (ps_if (pt_not (pt_val (pe_call GI r1 (by rfl) DI.m DI.F.kp DI.b .nil pass0 (pa_cons (pe_call GSL r63 (by rfl) DSL.m DSL.F.kp DSL.b .nil pass0 (pa_cons (pv 5) pa_nil)) (pa_cons (pv 6) pa_nil))))) (pss_one (ps_ret pe_bl)) pss_nil)
      (pss_one (ps_for PassesOwn.never rfl (pi_tup (pe_slice sl_1 (pv 5) (po_some pe_int) po_none)) (pg_name (i := 7) nd rfl (.inl rfl))
        (pss_one (ps_if (pt_not (pt_val (pe_call GI r1 (by rfl) DI.m DI.F.kp DI.b .nil pass0 (pa_cons (pe_call GST r62 (by rfl) DST.m DST.F.kp DST.b .nil pass0 (pa_cons (pv 7) pa_nil)) (pa_cons (pe_call GWT r61 (by rfl) DWT.m DWT.F.kp DWT.b .nil pass0 (pa_cons (pv 7) pa_nil)) pa_nil))))) (pss_one (ps_ret pe_bl)) pss_nil))))))))
    (pss_cons (ps_set (i := 6) nd rfl (.inl rfl) pe_str)
    (C8.pss_cut (ps_if (pt_cmpR op_gt (pe_callB call_len_seq (by rfl) ml PySem.boot_len (pa_cons (pv 3) pa_nil)) pe_int (nomark _)) (pss_one (ps_set (i := 6) nd rfl (.inl rfl) (pe_join pe_str (pv 4)))) pss_nil)
    (pss_cons (ps_if (pt_not (pt_val (pe_call GI r1 (by rfl) DI.m DI.F.kp DI.b .nil pass0 (pa_cons (pe_call GSC r64 (by rfl) DSC.m DSC.F.kp DSC.b .nil pass0 (pa_cons (pv 3) pa_nil)) (pa_cons (pv 6) pa_nil))))) (pss_one (ps_ret pe_bl)) pss_nil)
    (pss_cons (ps_set (i := 8) nd rfl (.inl rfl) (pe_call GF r14 (by rfl) DF.m DF.F.kp DF.b .nil pass0 (pa_cons (pv 1) (pa_cons (pv 2) (pa_cons (pe_call GT r1 (by rfl) DT.m DT.F.kp DT.b .nil pass0 (pa_cons (pv 1) (pa_cons pe_int pa_nil))) pa_nil)))))
    (pss_one (ps_ret (pe_call GI r1 (by rfl) DI.m DI.F.kp DI.b .nil pass0 (pa_cons (pe_call GSF r79 (by rfl) DSF.m DSF.F.kp DSF.b .nil pass0 (pa_cons (pv 8) pa_nil)) (pa_cons (pe_call GWF r70 (by rfl) DWF.m DWF.F.kp DWF.b .nil pass0 (pa_cons (pv 8) pa_nil)) pa_nil))))))))))))), ?_⟩
  refine ⟨_, rfl, a, ns, rfl, hS, hn, fun d H1 s1 nd1 hI1 => ?_⟩
  refine ⟨_, rfl, d, 9, rfl, hI1, by decide, fun l ws H2 b2 nl1 hI2 hW lw okw => ?_⟩
  have hD2 : Drw H2 d l ws := ⟨hI2, hW, hI1.ne nl1, lw, okw⟩
  refine ⟨_, rfl, _, rfl, d, l, ws, rfl, hD2, fun p xs c H3 b3 hD3 ep hc lc ok => ?_⟩
  have ll := hc.len
  have hok : ∀ {i : Nat} {t : Lit}, c[i]? = some t → t.ok := fun e => ok _ (List.mem_of_getElem? e)
  refine ⟨Nat.zero_le _, fun k nk => ?_⟩
  refine ⟨_, rfl, p, rfl, ⟨_, .inl (.inl (same_new nk _ _ _ ep))⟩, for_tup (xs := xs) (fun i σ H4 => ∃ y5 y6 y7, σ = [some (.ref a), some (.ref d), some (.ref l), some (.ref p), some (.ref k), y5, y6, y7, none] ∧ Same H3 H4 ∧ H4 k = some (.lst ((showC (c.take i)).map V.str))) ⟨none, none, none, rfl, same_new nk _, upd_same⟩ (fun i σ H4 _ h => ?_) (fun i x σ H4 hx h => ?_) (fun σ H4 h => ?_)⟩
  · obtain ⟨_, _, _, _, sm, _⟩ := h
    exact .inl (.inl (sm _ _ ep))
  · obtain ⟨y5, y6, y7, rfl, sm, ek⟩ := h
    obtain ⟨t1, et, hx1⟩ := hc.get hx
    have ok1 := hok et
    refine ⟨_, rfl, x, t1, rfl, hx1.mono sm.tups, ok1, fun H5 s5 => ?_⟩
    have ek5 := s5 _ _ ek
    refine ⟨.ref k, rfl, tyl ek5, _, rfl, k, _, _, rfl, rfl, ek5, Nat.lt_of_le_of_lt (show _ ≤ 100000 by rw [List.length_map]; unfold showC; rw [List.length_map, List.length_take]; omega) (by decide), ?_⟩
    have sm6 := But.same nk (sm.trans s5) (But.upd (o := .lst ((showC (c.take i)).map V.str ++ [V.str (showL t1.1 t1.2.1 t1.2.2)])))
    refine ⟨_, rfl, x, t1, rfl, hx1.mono sm6.tups, ok1, fun H7 s7 => ⟨_, rfl, _, rfl, _, rfl, iteF ?_⟩⟩
    have sm7 := sm6.trans s7
    have ek7 : H7 k = some (.lst ((showC (c.take (i + 1))).map V.str)) := by
      rw [s7 _ _ upd_same, List.take_add_one, et]
      unfold showC
      rw [List.map_append, List.map_append]
      rfl
    cases hx1 with
    | @mk p1 b u v tl tr e hl hrr =>
    obtain ⟨wl, wr, nl, nr, sl, sr⟩ := ok1
    have wl : tl.wf shSym shKey := wl
    have wr : tr.wf shSym shKey := wr
    have nl : tl.nest ≤ 60 := nl
    have nr : tr.nest ≤ 60 := nr
    have sl : tl.size ≤ 1000 := sl
    have sr : tr.size ≤ 1000 := sr
    refine ⟨.ref p1, rfl, 1, rfl, p1, _, [u, v], rfl, rfl, rfl, .inl (.inl (sm7 _ _ e)), fun r nr' => ?_⟩
    have s8 := same_new nr' (.tup [u, v])
    refine ⟨r, rfl, ⟨_, .inl (.inl upd_same)⟩, for_tup (xs := [u, v]) (fun i σ H8 => ∃ z7, σ = [some (.ref a), some (.ref d), some (.ref l), some (.ref p), some (.ref k), some (.ref p1), some (.str (showL b tl tr)), z7, none] ∧ Same (upd H7 r (.tup [u, v])) H8) ⟨_, rfl, Same.refl _⟩ (fun i σ H8 _ h => ?_) (fun i x σ H8 hx h => ?_) (fun σ H8 h => ?_)⟩
    · obtain ⟨_, _, sm8⟩ := h
      exact .inl (.inl (sm8 _ _ upd_same))
    · obtain ⟨z7, rfl, sm8⟩ := h
      have hall : TmAll H3 [u, v] [tl, tr] := .cons hl (.cons hrr .nil)
      obtain ⟨t2, et2, hx2⟩ := hall.get hx
      have hm := List.mem_of_getElem? et2
      have g2 : t2.nest < 61 ∧ t2.wf shSym shKey ∧ t2.size ≤ 2000 := by
        rcases List.mem_cons.mp hm with rfl | hm
        · exact ⟨by omega, wl, by omega⟩
        · rcases List.mem_cons.mp hm with rfl | hm
          · exact ⟨by omega, wr, by omega⟩
          · cases hm
      have m8 := (sm7.trans (s8.trans sm8))
      refine ⟨x, rfl, x, t2, rfl, TmAt.mono m8.tups _ _ hx2, g2.1, g2.2.1, g2.2.2, fun H9 s9 => ?_⟩
      refine ⟨x, rfl, x, t2, rfl, TmAt.mono (m8.trans s9).tups _ _ hx2, g2.1, g2.2.1, g2.2.2, fun H10 s10 => ?_⟩
      exact ⟨_, rfl, _, rfl, iteF ⟨_, rfl, sm8.trans (s9.trans s10)⟩⟩
    · obtain ⟨z7, rfl, sm8⟩ := h
      exact ⟨_, _, _, rfl, sm7.trans (s8.trans sm8), (s8.trans sm8) _ _ ek7⟩
  obtain ⟨y5, y6, y7, rfl, sm, ek⟩ := h
  rw [ll, List.take_length] at ek
  have hD4 := hD3.same sm
  refine ⟨fun σ H5 => ∃ z5 z7, σ = [some (.ref a), some (.ref d), some (.ref l), some (.ref p), some (.ref k), z5, some (.str (if c.isEmpty = true then "false" else Txt.join " | " (showC c))), z7, none] ∧ Same H3 H5, ?_, fun σ H5 h => ?_⟩
  · refine ⟨_, rfl, p, _, rfl, .inr (.inl (.inl (sm _ _ ep))), _, _, rfl, rfl, _, rfl, ?_⟩
    cases c with
    | nil =>
      cases hc
      exact iteF ⟨_, _, rfl, sm⟩
    | cons x0 c0 =>
      have q3 : ∀ x ∈ (x0 :: c0), x.ok := ok
      have q3 := showC_len _ q3
      have z3 : (" | " : Str).length = 3 := by decide +kernel
      have z5 : (showC (x0 :: c0)).length = (x0 :: c0).length := List.length_map _
      refine ite2 (fun _ => ⟨⟨_, rfl⟩, _, rfl, _, k, _, rfl, rfl, .inl (.inl (.inl ek)), ?_, _, _, rfl, sm⟩) (fun z => absurd (decide_eq_true (show (0 : Int) < (xs.length : Nat) from by rw [ll]; show (0 : Int) < ((c0.length + 1 : Nat) : Int); omega)) z)
      show tlen (showC (x0 :: c0)) + (showC (x0 :: c0)).length * (" | " : Str).length ≤ 16777216
      rw [z3, z5]
      omega
  obtain ⟨z5, z7, rfl, sm5⟩ := h
  refine ⟨_, rfl, p, xs, c, rfl, sm5 _ _ ep, hc.mono sm5.tups, by omega, ok, fun H6 s6 => ⟨_, rfl, _, rfl, _, rfl, iteF ?_⟩⟩
  have hD6 := (hD3.same sm5).same s6
  refine ⟨_, rfl, _, rfl, _, rfl, d, 6, rfl, hD6.hi, by decide, fun r H7 r0 r6 b7 hI7 => ?_⟩
  refine ⟨d, l, ws, r.toNat, by show [V.ref d, V.ref l, V.int r] = _; rw [show ((r.toNat : Nat) : Int) = r by omega], hD6.go b7 hI7, by omega, fun v fm H8 b8 hD8 hv okf hh => ?_⟩
  refine ⟨_, rfl, v, fm, rfl, hv, okf, by omega, by decide, fun H9 s9 => ?_⟩
  refine ⟨_, rfl, v, fm, rfl, TmAt.mono s9.tups _ _ hv, okf, by omega, by decide, fun H10 s10 => ?_⟩
  exact ⟨_, rfl, q H10⟩
end

end K05
namespace K05
open PySem PySem.Spec PyProof.Rows L2 Own HT
theorem all_mk {l : PySem.W.OpenLaw} {w : World} {K : PySem.W.Frag} {h : Heap} {mg : Str → Option Value} {fa f_is_variable f_show_term f_show_literal f_show_clause f_show_formula f_show_negation f__law_draws f__law_take f__law_words f__law_variable f__law_term f__law_named f__law_atom f__law_formula f__law_literal f__law_clause f__law_write f__law_write_literal f__law_write_formula f__law_is f_law : Addr} (X : K.In h) (G : h.Ns mainGlobals mg) (hfa : mg "law" = some (.ref fa))
    {od_is_variable an_is_variable od_show_term an_show_term od_show_literal an_show_literal od_show_clause an_show_clause od_show_formula an_show_formula od_show_negation an_show_negation od__law_draws an__law_draws od__law_take an__law_take od__law_words an__law_words od__law_variable an__law_variable od__law_term an__law_term od__law_named an__law_named od__law_atom an__law_atom od__law_formula an__law_formula od__law_literal an__law_literal od__law_clause an__law_clause od__law_write an__law_write od__law_write_literal an__law_write_literal od__law_write_formula an__law_write_formula od__law_is an__law_is od_law an_law : Option Addr} {sl_is_variable sl_show_term sl_show_literal sl_show_clause sl_show_formula sl_show_negation sl__law_draws sl__law_take sl__law_words sl__law_variable sl__law_term sl__law_named sl__law_atom sl__law_formula sl__law_literal sl__law_clause sl__law_write sl__law_write_literal sl__law_write_formula sl__law_is sl_law : Array (Option Value)} {oc_is_variable kV_is_variable dc_is_variable pm_is_variable cd_is_variable ct_is_variable oc_show_term kV_show_term dc_show_term pm_show_term cd_show_term ct_show_term oc_show_literal kV_show_literal dc_show_literal pm_show_literal cd_show_literal ct_show_literal oc_show_clause kV_show_clause dc_show_clause pm_show_clause cd_show_clause ct_show_clause oc_show_formula kV_show_formula dc_show_formula pm_show_formula cd_show_formula ct_show_formula oc_show_negation kV_show_negation dc_show_negation pm_show_negation cd_show_negation ct_show_negation oc__law_draws kV__law_draws dc__law_draws pm__law_draws cd__law_draws ct__law_draws oc__law_take kV__law_take dc__law_take pm__law_take cd__law_take ct__law_take oc__law_words kV__law_words dc__law_words pm__law_words cd__law_words ct__law_words oc__law_variable kV__law_variable dc__law_variable pm__law_variable cd__law_variable ct__law_variable oc__law_term kV__law_term dc__law_term pm__law_term cd__law_term ct__law_term oc__law_named kV__law_named dc__law_named pm__law_named cd__law_named ct__law_named oc__law_atom kV__law_atom dc__law_atom pm__law_atom cd__law_atom ct__law_atom oc__law_formula kV__law_formula dc__law_formula pm__law_formula cd__law_formula ct__law_formula oc__law_literal kV__law_literal dc__law_literal pm__law_literal cd__law_literal ct__law_literal oc__law_clause kV__law_clause dc__law_clause pm__law_clause cd__law_clause ct__law_clause oc__law_write kV__law_write dc__law_write pm__law_write cd__law_write ct__law_write oc__law_write_literal kV__law_write_literal dc__law_write_literal pm__law_write_literal cd__law_write_literal ct__law_write_literal oc__law_write_formula kV__law_write_formula dc__law_write_formula pm__law_write_formula cd__law_write_formula ct__law_write_formula oc__law_is kV__law_is dc__law_is pm__law_is cd__law_is ct__law_is oc_law kV_law dc_law pm_law cd_law ct_law : Value}
    (a_is_variable : PySem.W.nsIn K mainGlobals "is_variable" = some (some (.ref f_is_variable))) (l_is_variable : K.lookup f_is_variable = some ⟨oc_is_variable, od_is_variable, .func (PySem.W.fnOf "is_variable" "is_variable" (defArgs s_is_variable) (defBody s_is_variable) (defScope s_is_variable) .none kV_is_variable dc_is_variable pm_is_variable an_is_variable cd_is_variable ct_is_variable), sl_is_variable⟩) (c_is_variable : PySem.W.codeIn K cd_is_variable "is_variable" = true) (k_is_variable : PySem.W.keepIn K (.ref f_is_variable) = true)
    (a_show_term : PySem.W.nsIn K mainGlobals "show_term" = some (some (.ref f_show_term))) (l_show_term : K.lookup f_show_term = some ⟨oc_show_term, od_show_term, .func (PySem.W.fnOf "show_term" "show_term" (defArgs s_show_term) (defBody s_show_term) (defScope s_show_term) .none kV_show_term dc_show_term pm_show_term an_show_term cd_show_term ct_show_term), sl_show_term⟩) (c_show_term : PySem.W.codeIn K cd_show_term "show_term" = true) (k_show_term : PySem.W.keepIn K (.ref f_show_term) = true)
    (a_show_literal : PySem.W.nsIn K mainGlobals "show_literal" = some (some (.ref f_show_literal))) (l_show_literal : K.lookup f_show_literal = some ⟨oc_show_literal, od_show_literal, .func (PySem.W.fnOf "show_literal" "show_literal" (defArgs s_show_literal) (defBody s_show_literal) (defScope s_show_literal) .none kV_show_literal dc_show_literal pm_show_literal an_show_literal cd_show_literal ct_show_literal), sl_show_literal⟩) (c_show_literal : PySem.W.codeIn K cd_show_literal "show_literal" = true) (k_show_literal : PySem.W.keepIn K (.ref f_show_literal) = true)
    (a_show_clause : PySem.W.nsIn K mainGlobals "show_clause" = some (some (.ref f_show_clause))) (l_show_clause : K.lookup f_show_clause = some ⟨oc_show_clause, od_show_clause, .func (PySem.W.fnOf "show_clause" "show_clause" (defArgs s_show_clause) (defBody s_show_clause) (defScope s_show_clause) .none kV_show_clause dc_show_clause pm_show_clause an_show_clause cd_show_clause ct_show_clause), sl_show_clause⟩) (c_show_clause : PySem.W.codeIn K cd_show_clause "show_clause" = true) (k_show_clause : PySem.W.keepIn K (.ref f_show_clause) = true)
    (a_show_formula : PySem.W.nsIn K mainGlobals "show_formula" = some (some (.ref f_show_formula))) (l_show_formula : K.lookup f_show_formula = some ⟨oc_show_formula, od_show_formula, .func (PySem.W.fnOf "show_formula" "show_formula" (defArgs s_show_formula) (defBody s_show_formula) (defScope s_show_formula) .none kV_show_formula dc_show_formula pm_show_formula an_show_formula cd_show_formula ct_show_formula), sl_show_formula⟩) (c_show_formula : PySem.W.codeIn K cd_show_formula "show_formula" = true) (k_show_formula : PySem.W.keepIn K (.ref f_show_formula) = true)
    (a_show_negation : PySem.W.nsIn K mainGlobals "show_negation" = some (some (.ref f_show_negation))) (l_show_negation : K.lookup f_show_negation = some ⟨oc_show_negation, od_show_negation, .func (PySem.W.fnOf "show_negation" "show_negation" (defArgs s_show_negation) (defBody s_show_negation) (defScope s_show_negation) .none kV_show_negation dc_show_negation pm_show_negation an_show_negation cd_show_negation ct_show_negation), sl_show_negation⟩) (c_show_negation : PySem.W.codeIn K cd_show_negation "show_negation" = true) (k_show_negation : PySem.W.keepIn K (.ref f_show_negation) = true)
    (a__law_draws : PySem.W.nsIn K mainGlobals "_law_draws" = some (some (.ref f__law_draws))) (l__law_draws : K.lookup f__law_draws = some ⟨oc__law_draws, od__law_draws, .func (PySem.W.fnOf "_law_draws" "_law_draws" (defArgs s__law_draws) (defBody s__law_draws) (defScope s__law_draws) .none kV__law_draws dc__law_draws pm__law_draws an__law_draws cd__law_draws ct__law_draws), sl__law_draws⟩) (c__law_draws : PySem.W.codeIn K cd__law_draws "_law_draws" = true) (k__law_draws : PySem.W.keepIn K (.ref f__law_draws) = true)
    (a__law_take : PySem.W.nsIn K mainGlobals "_law_take" = some (some (.ref f__law_take))) (l__law_take : K.lookup f__law_take = some ⟨oc__law_take, od__law_take, .func (PySem.W.fnOf "_law_take" "_law_take" (defArgs s__law_take) (defBody s__law_take) (defScope s__law_take) .none kV__law_take dc__law_take pm__law_take an__law_take cd__law_take ct__law_take), sl__law_take⟩) (c__law_take : PySem.W.codeIn K cd__law_take "_law_take" = true) (k__law_take : PySem.W.keepIn K (.ref f__law_take) = true)
    (a__law_words : PySem.W.nsIn K mainGlobals "_law_words" = some (some (.ref f__law_words))) (l__law_words : K.lookup f__law_words = some ⟨oc__law_words, od__law_words, .func (PySem.W.fnOf "_law_words" "_law_words" (defArgs s__law_words) (defBody s__law_words) (defScope s__law_words) .none kV__law_words dc__law_words pm__law_words an__law_words cd__law_words ct__law_words), sl__law_words⟩) (c__law_words : PySem.W.codeIn K cd__law_words "_law_words" = true) (k__law_words : PySem.W.keepIn K (.ref f__law_words) = true)
    (a__law_variable : PySem.W.nsIn K mainGlobals "_law_variable" = some (some (.ref f__law_variable))) (l__law_variable : K.lookup f__law_variable = some ⟨oc__law_variable, od__law_variable, .func (PySem.W.fnOf "_law_variable" "_law_variable" (defArgs s__law_variable) (defBody s__law_variable) (defScope s__law_variable) .none kV__law_variable dc__law_variable pm__law_variable an__law_variable cd__law_variable ct__law_variable), sl__law_variable⟩) (c__law_variable : PySem.W.codeIn K cd__law_variable "_law_variable" = true) (k__law_variable : PySem.W.keepIn K (.ref f__law_variable) = true)
    (a__law_term : PySem.W.nsIn K mainGlobals "_law_term" = some (some (.ref f__law_term))) (l__law_term : K.lookup f__law_term = some ⟨oc__law_term, od__law_term, .func (PySem.W.fnOf "_law_term" "_law_term" (defArgs s__law_term) (defBody s__law_term) (defScope s__law_term) .none kV__law_term dc__law_term pm__law_term an__law_term cd__law_term ct__law_term), sl__law_term⟩) (c__law_term : PySem.W.codeIn K cd__law_term "_law_term" = true) (k__law_term : PySem.W.keepIn K (.ref f__law_term) = true)
    (a__law_named : PySem.W.nsIn K mainGlobals "_law_named" = some (some (.ref f__law_named))) (l__law_named : K.lookup f__law_named = some ⟨oc__law_named, od__law_named, .func (PySem.W.fnOf "_law_named" "_law_named" (defArgs s__law_named) (defBody s__law_named) (defScope s__law_named) .none kV__law_named dc__law_named pm__law_named an__law_named cd__law_named ct__law_named), sl__law_named⟩) (c__law_named : PySem.W.codeIn K cd__law_named "_law_named" = true) (k__law_named : PySem.W.keepIn K (.ref f__law_named) = true)
    (a__law_atom : PySem.W.nsIn K mainGlobals "_law_atom" = some (some (.ref f__law_atom))) (l__law_atom : K.lookup f__law_atom = some ⟨oc__law_atom, od__law_atom, .func (PySem.W.fnOf "_law_atom" "_law_atom" (defArgs s__law_atom) (defBody s__law_atom) (defScope s__law_atom) .none kV__law_atom dc__law_atom pm__law_atom an__law_atom cd__law_atom ct__law_atom), sl__law_atom⟩) (c__law_atom : PySem.W.codeIn K cd__law_atom "_law_atom" = true) (k__law_atom : PySem.W.keepIn K (.ref f__law_atom) = true)
    (a__law_formula : PySem.W.nsIn K mainGlobals "_law_formula" = some (some (.ref f__law_formula))) (l__law_formula : K.lookup f__law_formula = some ⟨oc__law_formula, od__law_formula, .func (PySem.W.fnOf "_law_formula" "_law_formula" (defArgs s__law_formula) (defBody s__law_formula) (defScope s__law_formula) .none kV__law_formula dc__law_formula pm__law_formula an__law_formula cd__law_formula ct__law_formula), sl__law_formula⟩) (c__law_formula : PySem.W.codeIn K cd__law_formula "_law_formula" = true) (k__law_formula : PySem.W.keepIn K (.ref f__law_formula) = true)
    (a__law_literal : PySem.W.nsIn K mainGlobals "_law_literal" = some (some (.ref f__law_literal))) (l__law_literal : K.lookup f__law_literal = some ⟨oc__law_literal, od__law_literal, .func (PySem.W.fnOf "_law_literal" "_law_literal" (defArgs s__law_literal) (defBody s__law_literal) (defScope s__law_literal) .none kV__law_literal dc__law_literal pm__law_literal an__law_literal cd__law_literal ct__law_literal), sl__law_literal⟩) (c__law_literal : PySem.W.codeIn K cd__law_literal "_law_literal" = true) (k__law_literal : PySem.W.keepIn K (.ref f__law_literal) = true)
    (a__law_clause : PySem.W.nsIn K mainGlobals "_law_clause" = some (some (.ref f__law_clause))) (l__law_clause : K.lookup f__law_clause = some ⟨oc__law_clause, od__law_clause, .func (PySem.W.fnOf "_law_clause" "_law_clause" (defArgs s__law_clause) (defBody s__law_clause) (defScope s__law_clause) .none kV__law_clause dc__law_clause pm__law_clause an__law_clause cd__law_clause ct__law_clause), sl__law_clause⟩) (c__law_clause : PySem.W.codeIn K cd__law_clause "_law_clause" = true) (k__law_clause : PySem.W.keepIn K (.ref f__law_clause) = true)
    (a__law_write : PySem.W.nsIn K mainGlobals "_law_write" = some (some (.ref f__law_write))) (l__law_write : K.lookup f__law_write = some ⟨oc__law_write, od__law_write, .func (PySem.W.fnOf "_law_write" "_law_write" (defArgs s__law_write) (defBody s__law_write) (defScope s__law_write) .none kV__law_write dc__law_write pm__law_write an__law_write cd__law_write ct__law_write), sl__law_write⟩) (c__law_write : PySem.W.codeIn K cd__law_write "_law_write" = true) (k__law_write : PySem.W.keepIn K (.ref f__law_write) = true)
    (a__law_write_literal : PySem.W.nsIn K mainGlobals "_law_write_literal" = some (some (.ref f__law_write_literal))) (l__law_write_literal : K.lookup f__law_write_literal = some ⟨oc__law_write_literal, od__law_write_literal, .func (PySem.W.fnOf "_law_write_literal" "_law_write_literal" (defArgs s__law_write_literal) (defBody s__law_write_literal) (defScope s__law_write_literal) .none kV__law_write_literal dc__law_write_literal pm__law_write_literal an__law_write_literal cd__law_write_literal ct__law_write_literal), sl__law_write_literal⟩) (c__law_write_literal : PySem.W.codeIn K cd__law_write_literal "_law_write_literal" = true) (k__law_write_literal : PySem.W.keepIn K (.ref f__law_write_literal) = true)
    (a__law_write_formula : PySem.W.nsIn K mainGlobals "_law_write_formula" = some (some (.ref f__law_write_formula))) (l__law_write_formula : K.lookup f__law_write_formula = some ⟨oc__law_write_formula, od__law_write_formula, .func (PySem.W.fnOf "_law_write_formula" "_law_write_formula" (defArgs s__law_write_formula) (defBody s__law_write_formula) (defScope s__law_write_formula) .none kV__law_write_formula dc__law_write_formula pm__law_write_formula an__law_write_formula cd__law_write_formula ct__law_write_formula), sl__law_write_formula⟩) (c__law_write_formula : PySem.W.codeIn K cd__law_write_formula "_law_write_formula" = true) (k__law_write_formula : PySem.W.keepIn K (.ref f__law_write_formula) = true)
    (a__law_is : PySem.W.nsIn K mainGlobals "_law_is" = some (some (.ref f__law_is))) (l__law_is : K.lookup f__law_is = some ⟨oc__law_is, od__law_is, .func (PySem.W.fnOf "_law_is" "_law_is" (defArgs s__law_is) (defBody s__law_is) (defScope s__law_is) .none kV__law_is dc__law_is pm__law_is an__law_is cd__law_is ct__law_is), sl__law_is⟩) (c__law_is : PySem.W.codeIn K cd__law_is "_law_is" = true) (k__law_is : PySem.W.keepIn K (.ref f__law_is) = true)
    (a_law : PySem.W.nsIn K mainGlobals "law" = some (some (.ref f_law))) (l_law : K.lookup f_law = some ⟨oc_law, od_law, .func (PySem.W.fnOf "law" "law" (defArgs s_law) (defBody s_law) (defScope s_law) .none kV_law dc_law pm_law an_law cd_law ct_law), sl_law⟩) (c_law : PySem.W.codeIn K cd_law "law" = true) (k_law : PySem.W.keepIn K (.ref f_law) = true)
    (a_TRUE : PySem.W.nsIn K mainGlobals "TRUE" = some (some (.ref f_TRUE))) (l_TRUE : K.lookup f_TRUE = some ⟨.type "tuple", od_T, .seq #[.str "true" t_T] n_T, sl_T⟩)
    (a_SIGNS : PySem.W.nsIn K mainGlobals "SIGNS" = some (some (.ref f_SIGNS))) (l_SIGNS : K.lookup f_SIGNS = some ⟨.type "dict", none, .dict es_S n_S, #[]⟩) (k_SIGNS : PySem.W.KeysLit w.params es_S.toList) (s_and : PySem.W.nsIn K f_SIGNS "and" = some (some (.str "&" t_and))) (s_or : PySem.W.nsIn K f_SIGNS "or" = some (some (.str "|" t_or))) (s_imp : PySem.W.nsIn K f_SIGNS "implies" = some (some (.str "->" t_imp))) (s_iff : PySem.W.nsIn K f_SIGNS "iff" = some (some (.str "<->" t_iff)))
    (z_len : PySem.W.nsIn K mainGlobals "len" = some none)
    (z_int : PySem.W.nsIn K mainGlobals "int" = some none)
    (z_abs : PySem.W.nsIn K mainGlobals "abs" = some none)
    (z_range : PySem.W.nsIn K mainGlobals "range" = some none)
    (z_list : PySem.W.nsIn K mainGlobals "list" = some none)
    (z_reversed : PySem.W.nsIn K mainGlobals "reversed" = some none)
    (z_tuple : PySem.W.nsIn K mainGlobals "tuple" = some none)
    (z_isinstance : PySem.W.nsIn K mainGlobals "isinstance" = some none)
    (z_str : PySem.W.nsIn K mainGlobals "str" = some none)
    : ∃ fd : FuncData, (∀ (s : Shared) (v : Value), BindsTo s fd ⟨[v], []⟩ [("script", v)]) ∧ ∀ base : Heap, K.In base → base.Ns mainGlobals mg → FnOk l.prog w K mg base CX0 80 fa fd ["script"] (spLaw K) := by
  have e := hfa.symm.trans (PySem.W.mg_of X G a_law); cases e
  have F_is_variable := fun_mk (st := s_is_variable) l_is_variable c_is_variable k_is_variable
  have D_is_variable : Df K mg "is_variable" s_is_variable ["term"] _ _ := ⟨F_is_variable, F_is_variable.binds (ps := ["term"]) (fun _ _ _ _ _ _ us hl => match us, hl with | [_], _ => rfl), PySem.W.mg_of X G a_is_variable⟩
  have F_show_term := fun_mk (st := s_show_term) l_show_term c_show_term k_show_term
  have D_show_term : Df K mg "show_term" s_show_term ["term"] _ _ := ⟨F_show_term, F_show_term.binds (ps := ["term"]) (fun _ _ _ _ _ _ us hl => match us, hl with | [_], _ => rfl), PySem.W.mg_of X G a_show_term⟩
  have F_show_literal := fun_mk (st := s_show_literal) l_show_literal c_show_literal k_show_literal
  have D_show_literal : Df K mg "show_literal" s_show_literal ["literal"] _ _ := ⟨F_show_literal, F_show_literal.binds (ps := ["literal"]) (fun _ _ _ _ _ _ us hl => match us, hl with | [_], _ => rfl), PySem.W.mg_of X G a_show_literal⟩
  have F_show_clause := fun_mk (st := s_show_clause) l_show_clause c_show_clause k_show_clause
  have D_show_clause : Df K mg "show_clause" s_show_clause ["clause"] _ _ := ⟨F_show_clause, F_show_clause.binds (ps := ["clause"]) (fun _ _ _ _ _ _ us hl => match us, hl with | [_], _ => rfl), PySem.W.mg_of X G a_show_clause⟩
  have F_show_formula := fun_mk (st := s_show_formula) l_show_formula c_show_formula k_show_formula
  have D_show_formula : Df K mg "show_formula" s_show_formula ["formula"] _ _ := ⟨F_show_formula, F_show_formula.binds (ps := ["formula"]) (fun _ _ _ _ _ _ us hl => match us, hl with | [_], _ => rfl), PySem.W.mg_of X G a_show_formula⟩
  have F_show_negation := fun_mk (st := s_show_negation) l_show_negation c_show_negation k_show_negation
  have D_show_negation : Df K mg "show_negation" s_show_negation ["formula"] _ _ := ⟨F_show_negation, F_show_negation.binds (ps := ["formula"]) (fun _ _ _ _ _ _ us hl => match us, hl with | [_], _ => rfl), PySem.W.mg_of X G a_show_negation⟩
  have F__law_draws := fun_mk (st := s__law_draws) l__law_draws c__law_draws k__law_draws
  have D__law_draws : Df K mg "_law_draws" s__law_draws ["script"] _ _ := ⟨F__law_draws, F__law_draws.binds (ps := ["script"]) (fun _ _ _ _ _ _ us hl => match us, hl with | [_], _ => rfl), PySem.W.mg_of X G a__law_draws⟩
  have F__law_take := fun_mk (st := s__law_take) l__law_take c__law_take k__law_take
  have D__law_take : Df K mg "_law_take" s__law_take ["draws", "bound"] _ _ := ⟨F__law_take, F__law_take.binds (ps := ["draws", "bound"]) (fun _ _ _ _ _ _ us hl => match us, hl with | [_, _], _ => rfl), PySem.W.mg_of X G a__law_take⟩
  have F__law_words := fun_mk (st := s__law_words) l__law_words c__law_words k__law_words
  have D__law_words : Df K mg "_law_words" s__law_words ["draws", "many"] _ _ := ⟨F__law_words, F__law_words.binds (ps := ["draws", "many"]) (fun _ _ _ _ _ _ us hl => match us, hl with | [_, _], _ => rfl), PySem.W.mg_of X G a__law_words⟩
  have F__law_variable := fun_mk (st := s__law_variable) l__law_variable c__law_variable k__law_variable
  have D__law_variable : Df K mg "_law_variable" s__law_variable ["draws"] _ _ := ⟨F__law_variable, F__law_variable.binds (ps := ["draws"]) (fun _ _ _ _ _ _ us hl => match us, hl with | [_], _ => rfl), PySem.W.mg_of X G a__law_variable⟩
  have F__law_term := fun_mk (st := s__law_term) l__law_term c__law_term k__law_term
  have D__law_term : Df K mg "_law_term" s__law_term ["draws", "words", "depth"] _ _ := ⟨F__law_term, F__law_term.binds (ps := ["draws", "words", "depth"]) (fun _ _ _ _ _ _ us hl => match us, hl with | [_, _, _], _ => rfl), PySem.W.mg_of X G a__law_term⟩
  have F__law_named := fun_mk (st := s__law_named) l__law_named c__law_named k__law_named
  have D__law_named : Df K mg "_law_named" s__law_named ["term"] _ _ := ⟨F__law_named, F__law_named.binds (ps := ["term"]) (fun _ _ _ _ _ _ us hl => match us, hl with | [_], _ => rfl), PySem.W.mg_of X G a__law_named⟩
  have F__law_atom := fun_mk (st := s__law_atom) l__law_atom c__law_atom k__law_atom
  have D__law_atom : Df K mg "_law_atom" s__law_atom ["draws", "words"] _ _ := ⟨F__law_atom, F__law_atom.binds (ps := ["draws", "words"]) (fun _ _ _ _ _ _ us hl => match us, hl with | [_, _], _ => rfl), PySem.W.mg_of X G a__law_atom⟩
  have F__law_formula := fun_mk (st := s__law_formula) l__law_formula c__law_formula k__law_formula
  have D__law_formula : Df K mg "_law_formula" s__law_formula ["draws", "words", "depth"] _ _ := ⟨F__law_formula, F__law_formula.binds (ps := ["draws", "words", "depth"]) (fun _ _ _ _ _ _ us hl => match us, hl with | [_, _, _], _ => rfl), PySem.W.mg_of X G a__law_formula⟩
  have F__law_literal := fun_mk (st := s__law_literal) l__law_literal c__law_literal k__law_literal
  have D__law_literal : Df K mg "_law_literal" s__law_literal ["draws", "words"] _ _ := ⟨F__law_literal, F__law_literal.binds (ps := ["draws", "words"]) (fun _ _ _ _ _ _ us hl => match us, hl with | [_, _], _ => rfl), PySem.W.mg_of X G a__law_literal⟩
  have F__law_clause := fun_mk (st := s__law_clause) l__law_clause c__law_clause k__law_clause
  have D__law_clause : Df K mg "_law_clause" s__law_clause ["draws", "words", "most"] _ _ := ⟨F__law_clause, F__law_clause.binds (ps := ["draws", "words", "most"]) (fun _ _ _ _ _ _ us hl => match us, hl with | [_, _, _], _ => rfl), PySem.W.mg_of X G a__law_clause⟩
  have F__law_write := fun_mk (st := s__law_write) l__law_write c__law_write k__law_write
  have D__law_write : Df K mg "_law_write" s__law_write ["term"] _ _ := ⟨F__law_write, F__law_write.binds (ps := ["term"]) (fun _ _ _ _ _ _ us hl => match us, hl with | [_], _ => rfl), PySem.W.mg_of X G a__law_write⟩
  have F__law_write_literal := fun_mk (st := s__law_write_literal) l__law_write_literal c__law_write_literal k__law_write_literal
  have D__law_write_literal : Df K mg "_law_write_literal" s__law_write_literal ["literal"] _ _ := ⟨F__law_write_literal, F__law_write_literal.binds (ps := ["literal"]) (fun _ _ _ _ _ _ us hl => match us, hl with | [_], _ => rfl), PySem.W.mg_of X G a__law_write_literal⟩
  have F__law_write_formula := fun_mk (st := s__law_write_formula) l__law_write_formula c__law_write_formula k__law_write_formula
  have D__law_write_formula : Df K mg "_law_write_formula" s__law_write_formula ["formula"] _ _ := ⟨F__law_write_formula, F__law_write_formula.binds (ps := ["formula"]) (fun _ _ _ _ _ _ us hl => match us, hl with | [_], _ => rfl), PySem.W.mg_of X G a__law_write_formula⟩
  have F__law_is := fun_mk (st := s__law_is) l__law_is c__law_is k__law_is
  have D__law_is : Df K mg "_law_is" s__law_is ["value", "due"] _ _ := ⟨F__law_is, F__law_is.binds (ps := ["value", "due"]) (fun _ _ _ _ _ _ us hl => match us, hl with | [_, _], _ => rfl), PySem.W.mg_of X G a__law_is⟩
  have F_law := fun_mk (st := s_law) l_law c_law k_law
  have D_law : Df K mg "law" s_law ["script"] _ _ := ⟨F_law, F_law.binds (ps := ["script"]) (fun _ _ _ _ _ _ us hl => match us, hl with | [_], _ => rfl), PySem.W.mg_of X G a_law⟩
  have m_len := PySem.W.mg_none_of X G z_len
  have m_int := PySem.W.mg_none_of X G z_int
  have m_abs := PySem.W.mg_none_of X G z_abs
  have m_range := PySem.W.mg_none_of X G z_range
  have m_list := PySem.W.mg_none_of X G z_list
  have m_reversed := PySem.W.mg_none_of X G z_reversed
  have m_tuple := PySem.W.mg_none_of X G z_tuple
  have m_isinstance := PySem.W.mg_none_of X G z_isinstance
  have m_str := PySem.W.mg_none_of X G z_str
  refine ⟨PySem.W.fnOf "law" "law" (defArgs s_law) (defBody s_law) (defScope s_law) .none kV_law dc_law pm_law an_law cd_law ct_law, fun s v => .of_eq rfl, fun base _ _ => ?_⟩
  have T5 : Tops5 K w mg := ⟨⟨_, PySem.W.mg_of X G a_TRUE, fun H => .inr ⟨_, _, _, l_TRUE, rfl, rfl, by show 1 ≤ sizeLine; decide, .cons ⟨_, rfl⟩ .nil⟩⟩, ⟨_, PySem.W.mg_of X G a_SIGNS, fun o => match o with | .and => ⟨_, _, _, l_SIGNS, k_SIGNS, s_and, ⟨_, rfl⟩⟩ | .or => ⟨_, _, _, l_SIGNS, k_SIGNS, s_or, ⟨_, rfl⟩⟩ | .imp => ⟨_, _, _, l_SIGNS, k_SIGNS, s_imp, ⟨_, rfl⟩⟩ | .iff => ⟨_, _, _, l_SIGNS, k_SIGNS, s_iff, ⟨_, rfl⟩⟩⟩⟩
  have G_take := ok_law_take (P := l.prog) (w := w) (base := base) D__law_take m_len m_int
  have G_draws := ok_law_draws (P := l.prog) (w := w) (base := base) D__law_draws m_abs m_int m_range m_len m_list m_reversed
  have G_words := ok_law_words (P := l.prog) (w := w) (base := base) D__law_words D__law_take G_take m_range
  have G_var := ok_law_variable (P := l.prog) (w := w) (base := base) D__law_variable D__law_take G_take
  have G_term := ok_law_term (P := l.prog) (w := w) (base := base) D__law_term D__law_take G_take D__law_variable G_var m_range m_tuple 5
  have G_named := ok_law_named (P := l.prog) (w := w) (base := base) D__law_named m_isinstance m_tuple m_int 7
  have G_isv := ok_is_variable (P := l.prog) (w := w) (base := base) D_is_variable m_isinstance m_tuple
  have G_ST := ok_show_term (P := l.prog) (w := w) (base := base) D_show_term D_is_variable G_isv m_isinstance m_str m_len 61
  have G_SL := ok_show_literal (P := l.prog) (w := w) (base := base) D_show_literal D_show_term G_ST T5
  have G_SC := ok_show_clause (P := l.prog) (w := w) (base := base) D_show_clause D_show_literal G_SL
  have G_SF := ok_show_formula (P := l.prog) (w := w) (base := base) D_show_formula D_show_negation D_show_literal G_SL T5 8
  have G_atom := ok_law_atom (P := l.prog) (w := w) (base := base) D__law_atom D__law_take G_take D__law_term G_term D__law_named G_named m_range m_tuple
  have G_lit := ok_law_literal (P := l.prog) (w := w) (base := base) D__law_literal D__law_take G_take D__law_term G_term m_range m_tuple
  have G_clause := ok_law_clause (P := l.prog) (w := w) (base := base) D__law_clause D__law_take G_take D__law_literal G_lit m_range m_tuple
  have G_form := ok_law_formula (P := l.prog) (w := w) (base := base) D__law_formula D__law_take G_take D__law_term G_term D__law_named G_named D__law_atom G_atom m_int 6
  have G_WT := ok_law_write (P := l.prog) (w := w) (base := base) D__law_write m_isinstance m_str m_tuple m_len 61
  have G_WL := ok_law_write_literal (P := l.prog) (w := w) (base := base) D__law_write_literal D__law_write G_WT
  have G_WF := ok_law_write_formula (P := l.prog) (w := w) (base := base) D__law_write_formula D__law_write_literal G_WL m_len 8
  have G_is := ok_law_is (P := l.prog) (w := w) (base := base) D__law_is m_isinstance m_str
  exact ok_law D_law D__law_draws G_draws D__law_take G_take D__law_words G_words D__law_clause G_clause D__law_formula G_form D__law_is G_is D_show_term G_ST D_show_literal G_SL D_show_clause G_SC D_show_formula G_SF D__law_write G_WT D__law_write_literal G_WL D__law_write_formula G_WF m_len
end K05
open PySem PySem.W PyProof.Rows
set_option maxRecDepth 100000 in
set_option maxHeartbeats 0 in
theorem PySem.Challenge.cw_elenchus_k05_written_forms_holds : PySem.Challenge.rw_elenchus_k05_written_forms.Holds := by
  w_on; o_law; k_head; (case hw => w_witness2)
  k_fill
  refine L2.walk_of (l := PySem.Challenge.rw_elenchus_k05_written_forms) (n := 63) (k := 80) (x := "script") (CX := fun _ => L2.CX0) (sp := fun w => K05.spLaw _) rfl (by decide) rfl ⟨rfl, by decide, by decide⟩ (fun w h Y => PySem.W.kIn_of Y) ?F (fun _ _ a ns hl _ hS => ⟨a, ns, rfl, hS, hl, fun _ => rfl⟩) (fun _ _ _ _ _ h => h)
  case F =>
    intro w mg fa h KX G hmg
    refine' K05.all_mk KX G hmg ?a_is_variable ?l_is_variable ?c_is_variable ?k_is_variable ?a_show_term ?l_show_term ?c_show_term ?k_show_term ?a_show_literal ?l_show_literal ?c_show_literal ?k_show_literal ?a_show_clause ?l_show_clause ?c_show_clause ?k_show_clause ?a_show_formula ?l_show_formula ?c_show_formula ?k_show_formula ?a_show_negation ?l_show_negation ?c_show_negation ?k_show_negation ?a__law_draws ?l__law_draws ?c__law_draws ?k__law_draws ?a__law_take ?l__law_take ?c__law_take ?k__law_take ?a__law_words ?l__law_words ?c__law_words ?k__law_words ?a__law_variable ?l__law_variable ?c__law_variable ?k__law_variable ?a__law_term ?l__law_term ?c__law_term ?k__law_term ?a__law_named ?l__law_named ?c__law_named ?k__law_named ?a__law_atom ?l__law_atom ?c__law_atom ?k__law_atom ?a__law_formula ?l__law_formula ?c__law_formula ?k__law_formula ?a__law_literal ?l__law_literal ?c__law_literal ?k__law_literal ?a__law_clause ?l__law_clause ?c__law_clause ?k__law_clause ?a__law_write ?l__law_write ?c__law_write ?k__law_write ?a__law_write_literal ?l__law_write_literal ?c__law_write_literal ?k__law_write_literal ?a__law_write_formula ?l__law_write_formula ?c__law_write_formula ?k__law_write_formula ?a__law_is ?l__law_is ?c__law_is ?k__law_is ?a_law ?l_law ?c_law ?k_law ?a_TRUE ?l_TRUE ?a_SIGNS ?l_SIGNS ?k_SIGNS ?s_and ?s_or ?s_imp ?s_iff ?z_len ?z_int ?z_abs ?z_range ?z_list ?z_reversed ?z_tuple ?z_isinstance ?z_str
    (case a_is_variable => k_is)
    (case l_is_variable => k_is)
    (case c_is_variable => k_is)
    (case k_is_variable => k_is)
    (case a_show_term => k_is)
    (case l_show_term => k_is)
    (case c_show_term => k_is)
    (case k_show_term => k_is)
    (case a_show_literal => k_is)
    (case l_show_literal => k_is)
    (case c_show_literal => k_is)
    (case k_show_literal => k_is)
    (case a_show_clause => k_is)
    (case l_show_clause => k_is)
    (case c_show_clause => k_is)
    (case k_show_clause => k_is)
    (case a_show_formula => k_is)
    (case l_show_formula => k_is)
    (case c_show_formula => k_is)
    (case k_show_formula => k_is)
    (case a_show_negation => k_is)
    (case l_show_negation => k_is)
    (case c_show_negation => k_is)
    (case k_show_negation => k_is)
    (case a__law_draws => k_is)
    (case l__law_draws => k_is)
    (case c__law_draws => k_is)
    (case k__law_draws => k_is)
    (case a__law_take => k_is)
    (case l__law_take => k_is)
    (case c__law_take => k_is)
    (case k__law_take => k_is)
    (case a__law_words => k_is)
    (case l__law_words => k_is)
    (case c__law_words => k_is)
    (case k__law_words => k_is)
    (case a__law_variable => k_is)
    (case l__law_variable => k_is)
    (case c__law_variable => k_is)
    (case k__law_variable => k_is)
    (case a__law_term => k_is)
    (case l__law_term => k_is)
    (case c__law_term => k_is)
    (case k__law_term => k_is)
    (case a__law_named => k_is)
    (case l__law_named => k_is)
    (case c__law_named => k_is)
    (case k__law_named => k_is)
    (case a__law_atom => k_is)
    (case l__law_atom => k_is)
    (case c__law_atom => k_is)
    (case k__law_atom => k_is)
    (case a__law_formula => k_is)
    (case l__law_formula => k_is)
    (case c__law_formula => k_is)
    (case k__law_formula => k_is)
    (case a__law_literal => k_is)
    (case l__law_literal => k_is)
    (case c__law_literal => k_is)
    (case k__law_literal => k_is)
    (case a__law_clause => k_is)
    (case l__law_clause => k_is)
    (case c__law_clause => k_is)
    (case k__law_clause => k_is)
    (case a__law_write => k_is)
    (case l__law_write => k_is)
    (case c__law_write => k_is)
    (case k__law_write => k_is)
    (case a__law_write_literal => k_is)
    (case l__law_write_literal => k_is)
    (case c__law_write_literal => k_is)
    (case k__law_write_literal => k_is)
    (case a__law_write_formula => k_is)
    (case l__law_write_formula => k_is)
    (case c__law_write_formula => k_is)
    (case k__law_write_formula => k_is)
    (case a__law_is => k_is)
    (case l__law_is => k_is)
    (case c__law_is => k_is)
    (case k__law_is => k_is)
    (case a_law => k_is)
    (case l_law => k_is)
    (case c_law => k_is)
    (case k_law => k_is)
    (case a_TRUE => k_is)
    (case l_TRUE => k_is)
    (case a_SIGNS => k_is)
    (case l_SIGNS => k_is)
    (case k_SIGNS => k_keys)
    (case s_and => k_is)
    (case s_or => k_is)
    (case s_imp => k_is)
    (case s_iff => k_is)
    (case z_len => k_is)
    (case z_int => k_is)
    (case z_abs => k_is)
    (case z_range => k_is)
    (case z_list => k_is)
    (case z_reversed => k_is)
    (case z_tuple => k_is)
    (case z_isinstance => k_is)
    (case z_str => k_is)
